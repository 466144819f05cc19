/- For every sea and list spec and program tell the same mean hour. -/
import Derived.Test.YtmkkckhfghomfaaDoorRows
import Derived.Test.YtmkkckhfghomfaaDoorChecked
import Derived.Test.YtmkkckhfghomfaaDoorBase
import Derived.Test.YtmkkckhfghomfaaDoorVeMh
import Derived.Test.YtmkkckhfghomfaaDoorVeE
import Derived.Test.YtmkkckhfghomfaaDoorCards
import Derived.Test.YtmkkckhfghomfaaDoorTie
namespace Go.Proofs.YtmkkckhfghomfaaDoor
open Go.ChangeShapes Go.WideShapes Go.ChangeAt Go.RowKit Ve
set_option linter.unusedVariables false
set_option linter.unusedSimpArgs false
set_option maxRecDepth 100000
noncomputable section
theorem laws_FnExactMeanHour_ans (N : Nat) (a0 : Array Value) (g_e0 : Addr) (g_e1 : Addr) (g_e2 : Addr) (g_e3 : Addr) (g_e4 : Addr) (b_a1 : Option (Option Addr)) (n_a1 : Nat) (a1 : Array Value) : ansV Tryd.prog (mkΓ [(7, con laws_szFindS_con), (9, con laws_toSea_con), (10, con laws_toFindS_con), (12, con laws_eqFindS_con), (15, con spec_MeanHour_con), (16, conG impl_MeanHour_con), (17, con laws_eqShare_con)]) N Tryd.f4 [] [.g a0 28, .l 5] [.gl 0 129 g_e0 36452, .gl 1 129 g_e1 27809, .gl 2 129 g_e2 46794, .gl 3 129 g_e3 59197, .gl 4 129 g_e4 28733, .sl (.came b_a1) n_a1 a1 60] = (bif decide ((laws_szFindS_v0 (1048576 : Int) b_a1 n_a1 a1) < (0 : Int)) then (some (.a (.b (true)), .none, true))
    else (bif decide (n_a1 ≤ 1048576) then (bif decide (n_a1 ≤ 1048576) then (bif (!((laws_eqShare_v0 (bif vf a0 n_a1 a1 then meanW a1 n_a1 else #[.int .i64 (0 : Int), .int .i64 (0 : Int)]) (bif vf a0 n_a1 a1 then meanW a1 n_a1 else #[.int .i64 (0 : Int), .int .i64 (0 : Int)])))) then (some (.a (.b (false)), .none, true))
          else (bif ((bif vf a0 n_a1 a1 then (bif ((n_a1 : Int) == 0) then (6 : Int) else 0) else 1) != (bif vf a0 n_a1 a1 then (bif ((n_a1 : Int) == 0) then (6 : Int) else 0) else 1)) then (some (.a (.b (false)), .none, true))
            else (bif decide (n_a1 ≤ 1048576) then (bif (!((decide (n_a1 = n_a1) && sameB a1 a1))) then (some (.a (.b (false)), .none, true))
                else (some (.a (.b (true)), .none, true)))
              else (none))))
        else (none))
      else (none))) := by kernel_rfl

noncomputable def laws_FnExactMeanHour_v0 (a0 : Array Value) (g_e0 : Addr) (g_e1 : Addr) (g_e2 : Addr) (g_e3 : Addr) (g_e4 : Addr) (b_a1 : Option (Option Addr)) (n_a1 : Nat) (a1 : Array Value) : Bool := (bif decide ((laws_szFindS_v0 (1048576 : Int) b_a1 n_a1 a1) < (0 : Int)) then true else (bif (!((laws_eqShare_v0 (bif vf a0 n_a1 a1 then meanW a1 n_a1 else #[.int .i64 (0 : Int), .int .i64 (0 : Int)]) (bif vf a0 n_a1 a1 then meanW a1 n_a1 else #[.int .i64 (0 : Int), .int .i64 (0 : Int)])))) then false else (bif ((bif vf a0 n_a1 a1 then (bif ((n_a1 : Int) == 0) then (6 : Int) else 0) else 1) != (bif vf a0 n_a1 a1 then (bif ((n_a1 : Int) == 0) then (6 : Int) else 0) else 1)) then false else (bif (!((decide (n_a1 = n_a1) && sameB a1 a1))) then false else true))))
noncomputable def laws_FnExactMeanHour_gd (a0 : Array Value) (g_e0 : Addr) (g_e1 : Addr) (g_e2 : Addr) (g_e3 : Addr) (g_e4 : Addr) (b_a1 : Option (Option Addr)) (n_a1 : Nat) (a1 : Array Value) : Bool := (bif decide ((laws_szFindS_v0 (1048576 : Int) b_a1 n_a1 a1) < (0 : Int)) then true else (bif decide (n_a1 ≤ 1048576) then (bif decide (n_a1 ≤ 1048576) then (bif (!((laws_eqShare_v0 (bif vf a0 n_a1 a1 then meanW a1 n_a1 else #[.int .i64 (0 : Int), .int .i64 (0 : Int)]) (bif vf a0 n_a1 a1 then meanW a1 n_a1 else #[.int .i64 (0 : Int), .int .i64 (0 : Int)])))) then true else (bif ((bif vf a0 n_a1 a1 then (bif ((n_a1 : Int) == 0) then (6 : Int) else 0) else 1) != (bif vf a0 n_a1 a1 then (bif ((n_a1 : Int) == 0) then (6 : Int) else 0) else 1)) then true else decide (n_a1 ≤ 1048576))) else false) else false))

theorem laws_FnExactMeanHour_main (a0 : Array Value) (g_e0 : Addr) (g_e1 : Addr) (g_e2 : Addr) (g_e3 : Addr) (g_e4 : Addr) (b_a1 : Option (Option Addr)) (n_a1 : Nat) (a1 : Array Value) (h_a0 : WT Tryd.prog 28 a0) (h_a1 : a1.size = n_a1 * (lay Tryd.prog 60).length ∧ (∀ k, k < n_a1 → WT Tryd.prog 60 (a1.extract (k * (lay Tryd.prog 60).length) (k * (lay Tryd.prog 60).length + (lay Tryd.prog 60).length))) ∧ n_a1 ≤ 9223372036854775807) (hg : ((laws_FnExactMeanHour_gd a0 g_e0 g_e1 g_e2 g_e3 g_e4 b_a1 n_a1 a1)) = true) : ansV Tryd.prog (mkΓ [(7, con laws_szFindS_con), (9, con laws_toSea_con), (10, con laws_toFindS_con), (12, con laws_eqFindS_con), (15, con spec_MeanHour_con), (16, conG impl_MeanHour_con), (17, con laws_eqShare_con)]) 1000 Tryd.f4 [] [.g a0 28, .l 5] [.gl 0 129 g_e0 36452, .gl 1 129 g_e1 27809, .gl 2 129 g_e2 46794, .gl 3 129 g_e3 59197, .gl 4 129 g_e4 28733, .sl (.came b_a1) n_a1 a1 60] = some (.a (.b ((laws_FnExactMeanHour_v0 a0 g_e0 g_e1 g_e2 g_e3 g_e4 b_a1 n_a1 a1))), .none, true) := by
  refine (laws_FnExactMeanHour_ans 1000 a0 g_e0 g_e1 g_e2 g_e3 g_e4 b_a1 n_a1 a1).trans ?_
  unfold laws_FnExactMeanHour_gd at hg
  unfold laws_FnExactMeanHour_v0
  revert hg
  generalize (decide ((laws_szFindS_v0 (1048576 : Int) b_a1 n_a1 a1) < (0 : Int))) = b2
  intro hg
  cases b2
  · skip
    revert hg
    generalize (decide (n_a1 ≤ 1048576)) = b4
    intro hg
    cases b4
    · skip
      first | exact (nomatch (hg : false = true)) | (simp only [cond_true, cond_false, Bool.and_true, Bool.true_and, Bool.and_false, Bool.false_and]; done) | rfl
    · skip
      revert hg
      generalize ((!((laws_eqShare_v0 (bif vf a0 n_a1 a1 then meanW a1 n_a1 else #[.int .i64 (0 : Int), .int .i64 (0 : Int)]) (bif vf a0 n_a1 a1 then meanW a1 n_a1 else #[.int .i64 (0 : Int), .int .i64 (0 : Int)]))))) = b6
      intro hg
      cases b6
      · skip
        revert hg
        generalize (((bif vf a0 n_a1 a1 then (bif ((n_a1 : Int) == 0) then (6 : Int) else 0) else 1) != (bif vf a0 n_a1 a1 then (bif ((n_a1 : Int) == 0) then (6 : Int) else 0) else 1))) = b8
        intro hg
        cases b8
        · skip
          revert hg
          generalize ((!((decide (n_a1 = n_a1) && sameB a1 a1)))) = b10
          intro hg
          cases b10
          · skip
            first | (simp only [cond_true, cond_false, Bool.and_true, Bool.true_and, Bool.and_false, Bool.false_and]; done) | rfl | exact (nomatch (hg : false = true))
          · skip
            first | (simp only [cond_true, cond_false, Bool.and_true, Bool.true_and, Bool.and_false, Bool.false_and]; done) | rfl | exact (nomatch (hg : false = true))
        · skip
          first | (simp only [cond_true, cond_false, Bool.and_true, Bool.true_and, Bool.and_false, Bool.false_and]; done) | rfl | exact (nomatch (hg : false = true))
      · skip
        first | (simp only [cond_true, cond_false, Bool.and_true, Bool.true_and, Bool.and_false, Bool.false_and]; done) | rfl | exact (nomatch (hg : false = true))
  · skip
    first | (simp only [cond_true, cond_false, Bool.and_true, Bool.true_and, Bool.and_false, Bool.false_and]; done) | rfl | exact (nomatch (hg : false = true))
noncomputable def laws_FnExactMeanHour_con : Con := fun args h => match args, h with
  | [.g a0 28, .l 5], [.gl 0 129 g_e0 36452, .gl 1 129 g_e1 27809, .gl 2 129 g_e2 46794, .gl 3 129 g_e3 59197, .gl 4 129 g_e4 28733, .sl (.came b_a1) n_a1 a1 60] => some (.a (.b ((laws_FnExactMeanHour_v0 a0 g_e0 g_e1 g_e2 g_e3 g_e4 b_a1 n_a1 a1))), .none, (laws_FnExactMeanHour_gd a0 g_e0 g_e1 g_e2 g_e3 g_e4 b_a1 n_a1 a1))
  | _, _ => none
theorem laws_FnExactMeanHour_enter : ∀ args w, (callFunc 4 args).run Tryd.prog w = .ok (.enter 4 args) w := enter_ok (fn := Tryd.f4) (by kernel_rfl) (by kernel_rfl) (by kernel_rfl)
theorem laws_FnExactMeanHour_ok : ConOk Tryd.prog 4 laws_FnExactMeanHour_con := (ans_ok (N := 1000) (by kernel_rfl) (mkΓ_cons (con_ok laws_szFindS_ok) laws_szFindS_enter (mkΓ_cons (con_ok laws_toSea_ok) laws_toSea_enter (mkΓ_cons (con_ok laws_toFindS_ok) laws_toFindS_enter (mkΓ_cons (con_ok laws_eqFindS_ok) laws_eqFindS_enter (mkΓ_cons (con_ok spec_MeanHour_ok) spec_MeanHour_enter (mkΓ_cons (conG_ok impl_MeanHour_ok) impl_MeanHour_enter (mkΓ_cons (con_ok laws_eqShare_ok) laws_eqShare_enter mkΓ_nil))))))) (fn := Tryd.f4) (by kernel_rfl) (by kernel_rfl) []).of (by
  intro ρ h w args vals r e hA hH hr
  unfold laws_FnExactMeanHour_con at hr
  split at hr
  · rename_i a0 g_e0 g_e1 g_e2 g_e3 g_e4 b_a1 n_a1 a1
    obtain ⟨rfl, hg⟩ := Prod.mk.inj (Option.some.inj hr)
    obtain ⟨rfl, hg2⟩ := Prod.mk.inj hg
    exact laws_FnExactMeanHour_main a0 g_e0 g_e1 g_e2 g_e3 g_e4 b_a1 n_a1 a1 (hA.wt 0 rfl) (hH.slw 5 rfl) hg2
  · cases hr)

theorem laws_FnExactMeanHour_true (a0 : Array Value) (g_e0 : Addr) (g_e1 : Addr) (g_e2 : Addr) (g_e3 : Addr) (g_e4 : Addr) (b_a1 : Option (Option Addr)) (n_a1 : Nat) (a1 : Array Value) (h_a0 : WT Tryd.prog 28 a0) (h_a1 : n_a1 ≤ 9223372036854775807) : ((laws_FnExactMeanHour_gd a0 g_e0 g_e1 g_e2 g_e3 g_e4 b_a1 n_a1 a1)) = true ∧ ((laws_FnExactMeanHour_v0 a0 g_e0 g_e1 g_e2 g_e3 g_e4 b_a1 n_a1 a1)) = true := by
  unfold laws_FnExactMeanHour_gd laws_FnExactMeanHour_v0 laws_szFindS_v0
  generalize (bif vf a0 n_a1 a1 then meanW a1 n_a1 else #[.int .i64 (0 : Int), .int .i64 (0 : Int)]) = M
  generalize (bif vf a0 n_a1 a1 then (bif ((n_a1 : Int) == 0) then (6 : Int) else 0) else 1) = c
  have eM : laws_eqShare_v0 M M = true := by
    unfold laws_eqShare_v0
    simp
  rw [IntWalk.i64_in (1048576 - (n_a1 : Int)) (by omega)]
  simp only [eM, sameB_self, bne_self_eq_false, cond_false, cond_true, decide_true, Bool.and_self, Bool.not_true]
  by_cases h : n_a1 ≤ 1048576
  · have e1 : decide ((1048576 : Int) - (n_a1 : Int) < 0) = false := decide_eq_false (by omega)
    simp only [e1, cond_false, decide_eq_true h, cond_true]
    exact ⟨trivial, trivial⟩
  · have e1 : decide ((1048576 : Int) - (n_a1 : Int) < 0) = true := decide_eq_true (by omega)
    have e2 : decide ((-1 : Int) < 0) = true := by decide
    simp only [e1, e2, cond_true]
    exact ⟨trivial, trivial⟩

namespace lawFnExactMeanHour
theorem own : ownKnob Tryd.prog.godebug = none := by kernel_rfl
theorem star : "*" ++ "errors.errorString" = "*errors.errorString" := by decide
theorem row_pe (u : TypeId) (h : Tryd.prog.typeName? 3 u = some "*errors.errorString") : u = 129 :=
  typeName_ptr_named (nm := "errors.errorString") (by rw [star]; kernel_rfl) (by kernel_rfl) (by decide) u (by rw [star]; exact h)
theorem n_e0 : Tryd.prog.globalNamed "loop.example/g01300/impl.errInvalid" = some 0 := by kernel_rfl
theorem t_e0 : (Tryd.prog.globals[0]?).map (·.type) = some 62 := by kernel_rfl
theorem n_e1 : Tryd.prog.globalNamed "loop.example/g01300/impl.errRange" = some 1 := by kernel_rfl
theorem t_e1 : (Tryd.prog.globals[1]?).map (·.type) = some 62 := by kernel_rfl
theorem n_e2 : Tryd.prog.globalNamed "loop.example/g01300/impl.errLimit" = some 2 := by kernel_rfl
theorem t_e2 : (Tryd.prog.globals[2]?).map (·.type) = some 62 := by kernel_rfl
theorem n_e3 : Tryd.prog.globalNamed "loop.example/g01300/impl.errState" = some 3 := by kernel_rfl
theorem t_e3 : (Tryd.prog.globals[3]?).map (·.type) = some 62 := by kernel_rfl
theorem n_e4 : Tryd.prog.globalNamed "loop.example/g01300/impl.errNotFound" = some 4 := by kernel_rfl
theorem t_e4 : (Tryd.prog.globals[4]?).map (·.type) = some 62 := by kernel_rfl

theorem laid_all {W : World} (h : laidMetH Tryd.prog Rows.fnExactMeanHourRow.laid W) : ∃ b0 b1 b2 b3 b4 : Addr, BIs Tryd.prog idA [] W ⟨0, 0⟩ (.gl 0 129 b0 36452) ∧ BIs Tryd.prog idA [] W ⟨0, 0⟩ (.gl 1 129 b1 27809) ∧ BIs Tryd.prog idA [] W ⟨0, 0⟩ (.gl 2 129 b2 46794) ∧ BIs Tryd.prog idA [] W ⟨0, 0⟩ (.gl 3 129 b3 59197) ∧ BIs Tryd.prog idA [] W ⟨0, 0⟩ (.gl 4 129 b4 28733) := by
  have h0 : laidMet Tryd.prog Rows.fnExactMeanHourRow.laid W := h
  obtain ⟨b0, k0⟩ := laid_gl h0 n_e0 t_e0 Tryd.underlying62 row_pe Tryd.underlying129 Tryd.underlying156 rfl rfl Tryd.underlying9 (by kernel_rfl) (by kernel_rfl)
  have h1 := laidMet.tail h0
  obtain ⟨b1, k1⟩ := laid_gl h1 n_e1 t_e1 Tryd.underlying62 row_pe Tryd.underlying129 Tryd.underlying156 rfl rfl Tryd.underlying9 (by kernel_rfl) (by kernel_rfl)
  have h2 := laidMet.tail h1
  obtain ⟨b2, k2⟩ := laid_gl h2 n_e2 t_e2 Tryd.underlying62 row_pe Tryd.underlying129 Tryd.underlying156 rfl rfl Tryd.underlying9 (by kernel_rfl) (by kernel_rfl)
  have h3 := laidMet.tail h2
  obtain ⟨b3, k3⟩ := laid_gl h3 n_e3 t_e3 Tryd.underlying62 row_pe Tryd.underlying129 Tryd.underlying156 rfl rfl Tryd.underlying9 (by kernel_rfl) (by kernel_rfl)
  have h4 := laidMet.tail h3
  obtain ⟨b4, k4⟩ := laid_gl h4 n_e4 t_e4 Tryd.underlying62 row_pe Tryd.underlying129 Tryd.underlying156 rfl rfl Tryd.underlying9 (by kernel_rfl) (by kernel_rfl)
  exact ⟨b0, b1, b2, b3, b4, k0, k1, k2, k3, k4⟩

noncomputable def low : Nat := (World.holding Tryd.prog default ⟨#[], #[], []⟩).heap.size
noncomputable def laidWorld (os : Os) : World :=
  let w0 := World.holding Tryd.prog os ⟨#[.cells #[.string ⟨(#[116, 104, 101, 32, 115, 101, 97, 32, 111, 114, 32, 116, 104, 101, 32, 102, 105, 110, 100, 115, 32, 97, 114, 101, 32, 110, 111, 116, 32, 118, 97, 108, 105, 100] : Array UInt8)⟩] 156, .cells #[.string ⟨(#[97, 32, 110, 117, 109, 98, 101, 114, 32, 105, 115, 32, 111, 117, 116, 32, 111, 102, 32, 105, 116, 115, 32, 114, 97, 110, 103, 101] : Array UInt8)⟩] 156, .cells #[.string ⟨(#[116, 104, 101, 114, 101, 32, 119, 111, 117, 108, 100, 32, 98, 101, 32, 116, 111, 111, 32, 109, 97, 110, 121, 32, 102, 105, 110, 100, 115] : Array UInt8)⟩] 156, .cells #[.string ⟨(#[108, 97, 110, 100, 32, 105, 115, 32, 119, 104, 101, 114, 101, 32, 119, 97, 116, 101, 114, 32, 104, 97, 115, 32, 116, 111, 32, 98, 101, 44, 32, 111, 114, 32, 119, 97, 116, 101, 114, 32, 119, 104, 101, 114, 101, 32, 108, 97, 110, 100, 32, 104, 97, 115, 32, 116, 111, 32, 98, 101] : Array UInt8)⟩] 156, .cells #[.string ⟨(#[116, 104, 101, 114, 101, 32, 105, 115, 32, 110, 111, 116, 104, 105, 110, 103, 32, 111, 102, 32, 116, 104, 105, 115, 32, 107, 105, 110, 100] : Array UInt8)⟩] 156], #[], []⟩
  { w0 with heap := ((((w0.heap.modify 0 fun
      | .cells _ t frozen => .cells #[.iface 129 (.pointer (some ⟨low + 0, 0, none⟩))] t frozen
      | o => o).modify 1 fun
      | .cells _ t frozen => .cells #[.iface 129 (.pointer (some ⟨low + 1, 0, none⟩))] t frozen
      | o => o).modify 2 fun
      | .cells _ t frozen => .cells #[.iface 129 (.pointer (some ⟨low + 2, 0, none⟩))] t frozen
      | o => o).modify 3 fun
      | .cells _ t frozen => .cells #[.iface 129 (.pointer (some ⟨low + 3, 0, none⟩))] t frozen
      | o => o).modify 4 fun
      | .cells _ t frozen => .cells #[.iface 129 (.pointer (some ⟨low + 4, 0, none⟩))] t frozen
      | o => o }
theorem laid_met (os : Os) (args : Array Value) : laidMet Tryd.prog Rows.fnExactMeanHourRow.laid ((laidWorld os).forCall (fun _ _ => 0) ⟨#[], args, []⟩).memory :=
  laidMet_of_run' 8 (by kernel_rfl) (by kernel_rfl)
theorem reads (os : Os) {H : Type} (enc : TypeId × Value → H) : ∃ x, DataW.whole enc Tryd.prog ((laidWorld os).forCall (fun _ _ => 0) ⟨#[], #[.agg (zc Tryd.prog 28), .slice none 0 0], []⟩).memory Tryd.f4.params.toList Rows.fnExactMeanHourSpec.vars false (#[.agg (zc Tryd.prog 28), .slice none 0 0] : Array Value).toList 8 = some x :=
  Option.isSome_iff_exists.1 (by kernel_rfl)
set_option maxRecDepth 100000 in
theorem lifted (os : Os) (started : os.Started) (H : Type) (enc : TypeId × Value → H) (Fi : Stop.Interp) :
    ReturnsInHanded {} Tryd.checked os 4 .any ((OpenSpec.ofChange Rows.fnExactMeanHourSpec).preRow enc Tryd.prog Tryd.f4 Rows.fnExactMeanHourRow.domain false Rows.fnExactMeanHourRow.laid) (((OpenSpec.ofChange Rows.fnExactMeanHourSpec).at Fi).post enc Tryd.prog Tryd.f4 false true false false) := by
  obtain ⟨x, hx⟩ := reads os enc
  refine law_laid (C := Tryd.checked) (tb := 4) own (by kernel_rfl) (by kernel_rfl) Tryd.func4 (by kernel_rfl) Tryd.underlying4 (of_decide_eq_true (by kernel_rfl)) (by kernel_rfl) ?_ os started H enc Fi
    (witness_row_at (enc := enc) (C := Tryd.checked) false (laidWorld os) #[.agg (zc Tryd.prog 28), .slice none 0 0] rfl (by kernel_rfl) (by kernel_rfl) (by kernel_rfl)
      (OpenSpec.preRow_of_cond 8 hx (by kernel_rfl) (fun k hk => by cases hk) (by kernel_rfl) (laid_met os _))) ?_
  · intro H ds gs hds hgs
    rw [show Tryd.f4.params.toList.length = 2 by kernel_rfl] at hds
    rw [show Rows.fnExactMeanHourSpec.vars.length = 5 by kernel_rfl] at hgs
    match ds, hds, gs, hgs with
    | [_, _], _, [_, _, _, _, _], _ => rfl
  · intro W base args ds ps hval hA hL
    obtain ⟨b0, b1, b2, b3, b4, k0, k1, k2, k3, k4⟩ := laid_all hL
    rw [Tryd.params4] at hA hval
    obtain ⟨v0, vs0, d0, ds0, p0, q0, ha0, rfl, rfl, h0, r0⟩ := trodAll_cons hA
    obtain ⟨v1, vs1, d1, ds1, p1, q1, rfl, rfl, rfl, h1, r1⟩ := trodAll_cons r0
    obtain ⟨rfl, rfl, rfl⟩ := trodAll_nil r1
    have hargs : args = #[v0, v1] := by cases args; simp_all
    obtain ⟨a0, e0, w0⟩ := open_data (t := 28) 8 (by kernel_rfl) (by kernel_rfl) (hval 0 28 v0 rfl (by rw [hargs]; rfl)) h0
    obtain ⟨x_a1, n_a1, c_a1, a1, e1, w1⟩ := open_sl (P := Tryd.prog) (t := 29) (e := 60) 8 Tryd.underlying29 (by kernel_rfl) (by kernel_rfl) (Nat.lt_of_lt_of_eq (by decide : 0 < 2) (by kernel_rfl)) (okWide_slice Tryd.underlying29 (hval 1 29 v1 rfl (by rw [hargs]; rfl))) h1
    obtain rfl : args = #[.agg a0, .slice x_a1 n_a1 c_a1] := by rw [hargs, e0, e1]
    obtain ⟨hg, hv⟩ := laws_FnExactMeanHour_true a0 b0 b1 b2 b3 b4 (some x_a1) n_a1 a1 w0 w1.2.2.1
    have hr : laws_FnExactMeanHour_con [.g a0 28, .l 5] [.gl 0 129 b0 36452, .gl 1 129 b1 27809, .gl 2 129 b2 46794, .gl 3 129 b3 59197, .gl 4 129 b4 28733, .sl (.came (some x_a1)) n_a1 a1 60] = some (.a (.b true), .none, true) := by
      show (some (SV.a (SA.b ((laws_FnExactMeanHour_v0 a0 b0 b1 b2 b3 b4 (some x_a1) n_a1 a1))), Eff.none, (laws_FnExactMeanHour_gd a0 b0 b1 b2 b3 b4 (some x_a1) n_a1 a1)) : Option (SV × Eff × Bool)) = _
      rw [hg, hv]
    exact calls_con2 laws_FnExactMeanHour_ok hr W (vals := [.agg a0, .slice x_a1 n_a1 c_a1]) (SlL.no (P := Tryd.prog) (W := W) (.gl k0 (.gl k1 (.gl k2 (.gl k3 (.gl k4 (.cons w1 .nil))))))) (SlL.his (P := Tryd.prog) (.gl k0 (.gl k1 (.gl k2 (.gl k3 (.gl k4 (.cons w1 .nil))))))) (allCons2 ⟨rfl, w0⟩ (allCons2 (is_came rfl) (allNil2 _)))

theorem said : Rows.FnExactMeanHourSaid :=
  OpenClaim.holds_of_cond 4 Tryd.f4 rfl rfl rfl rfl rfl rfl rfl ⟨rfl, rfl, rfl, rfl, rfl⟩ rfl rfl rfl rfl rfl (by kernel_rfl) Tryd.func4 (by kernel_rfl)
    (of_decide_eq_true (by kernel_rfl)) (by unfold Func.isWrapper; first | (rw [if_pos (by decide +kernel)]; kernel_rfl) | (rw [if_neg (by decide +kernel)]; exact ⟨rfl, rfl⟩))
    (fun os started H enc _ Fi => by rw [OpenClaim.pre_eq_preRow]; exact lifted os started H enc Fi)
theorem plain (f : FuncId) (fn : Func) (hf : Tryd.pinned.checked.prog.funcNamed Rows.fnExactMeanHourRow.func = some f) (hfn : Tryd.pinned.checked.prog.funcs[f]? = some fn) :
    Rows.fnExactMeanHourCard.stood.looks = Tryd.pinned.checked.prog.looks [] ∧ ∀ (j : Nat) t, fn.params[j]? = some t → Tryd.pinned.checked.prog.wantsStandIn t = false := by
  obtain rfl : f = 4 := Option.some.inj ((show Tryd.prog.funcNamed Rows.fnExactMeanHourRow.func = some 4 by kernel_rfl).symm.trans hf) |>.symm
  obtain rfl : fn = Tryd.f4 := (Option.some.inj (Tryd.func4.symm.trans hfn)).symm
  refine ⟨by kernel_rfl, fun j t ht => ?_⟩
  have hall : ∀ t ∈ Tryd.f4.params.toList, Tryd.prog.wantsStandIn t = false := of_decide_eq_true (by kernel_rfl)
  exact hall t (by simpa using Array.mem_of_getElem? ht)
theorem proved : Rows.FnExactMeanHourCardSaid :=
  Claim7.holds_tied_plain_at .later [] _ _ _ _ said (fun _ h => by cases h) (by kernel_rfl) (fun _ h => by cases h) fnExactMeanHour_row_tie rfl ⟨rfl, rfl⟩ (by kernel_rfl) rfl plain (by kernel_rfl)
#print axioms proved
end lawFnExactMeanHour

end
end Go.Proofs.YtmkkckhfghomfaaDoor
