/- The program's iterator over some cells has its contract for the symbolic run. -/
import Derived.Test.YtjnbhnofffhclaaVeEach
import Derived.Test.YtjnbhnofffhclaaVeSeaA
namespace Go.Proofs.Ytjnbhnofffhclaa
open Go.ChangeShapes Go.WideShapes Go.ChangeAt Go.RowKit Go.Shelf Ve
set_option linter.unusedVariables false
attribute [local go_sem] Oper.semAt_some

section
variable {F : Fence} {n : Nat} {P : Program} {ops : Array Oper} {rest : List Oper} {op : Oper} {a : Act} {w : World} {Q : Exit → Act → World → Prop}
theorem opIn_loadeachWater (D : Array Value) (hF : ∀ f, F.fn f) (hg : op.guard = none) (T : TypeId) (x : Operand) (ho : op.op = .load T x) (g : Nat) (hx : a.eval x = .pointer (some ⟨g, 0, none⟩))
    (t : TypeId) (fr : Nat × Nat) (hb : w.heap[g]? = some (.cells D t fr)) (d : TypeDesc) (hu : P.underlying T = some d)
    (hd : (match d with | .struct _ | .array _ _ => true | _ => false) = true) (hi : (P.info? T).map (·.size) = some D.size)
    (h : wpListIn F n P ops Q rest (a.put op.dst (.agg D)) w) : wpListIn F n P ops Q (op :: rest) a w := by
  refine wpListIn_plain hg fun K hK => ⟨fun f _ => hF f, ?_⟩
  have hrun : (execOp a.eval op).run P w = .ok (.value (.agg D)) w := by
    unfold execOp
    simp only [ho, hx, Instr.loadAt, Instr.sureAddr, Sem.run_bind, Sem.run_pure, Result.andThen_ok, run_loadVar_row w g t T D fr d hb hu hd hi]
  rw [Oper.semAt_eq _ _ _ (fun c hc => by rw [ho] at hc; cases hc), hrun]
  exact hK _ _ h
theorem at_loadeachWater (T : TypeId) {x : Operand} (ho : op.op = .load T x) (h : wpListIn F n P ops Q (op :: rest) a w) : wpListIn F n P ops Q (op :: rest) a w := h
end

theorem impl_eachWater_nans (S : Array Value) : ansN Try.prog (mkΓ []) 10 Try.f73 [] [.g S 38] = some ⟨84, [(S, 38)]⟩ := by kernel_rfl
def impl_eachWater_nc : NCon := fun args => match args with
  | [.g S 38] => some ⟨84, [(S, 38)]⟩
  | _ => none
theorem impl_eachWater_nok : NConOk Try.prog 73 impl_eachWater_nc := (ansN_ok (N := 10) (by kernel_rfl) mkΓ_nil (fn := Try.f73) (by kernel_rfl) (by kernel_rfl) []).of (by
  intro ρ h args vals c hA hr
  unfold impl_eachWater_nc at hr
  split at hr
  · rename_i S
    rw [← Option.some.inj hr]
    exact impl_eachWater_nans S
  · cases hr)
theorem impl_eachWater_enter : Enters Try.prog 73 := enter_ok (fn := Try.f73) (by kernel_rfl) (by kernel_rfl) (by kernel_rfl)

theorem calls_isWater (S : Array Value) (hS : WT Try.prog 38 S) (x : Int) (hx : 0 ≤ x ∧ x < 36) (w : World) :
    Calls Try.prog 67 #[.agg S, .int .i64 x] w fun e w' => e = .returned (.bool (impl_isWater_v0 S x)) ∧ Below w.heap.size w w' := by
  have e1 : IntKind.i64.min = -9223372036854775808 := rfl
  have e2 : IntKind.i64.max = 9223372036854775807 := rfl
  have hr : impl_isWater_con [.g S 38, .i .i64 x] [] = some (.a (.b (impl_isWater_v0 S x)), .none, true) := by
    show some (SV.a (SA.b (impl_isWater_v0 S x)), Eff.none, decide (0 ≤ x)) = _
    rw [decide_eq_true hx.1]
  exact calls_con impl_isWater_ok hr w (vals := [.agg S, .int .i64 x]) (allCons ⟨rfl, hS⟩ (allCons ⟨rfl, by omega, by omega⟩ allNil))

set_option maxRecDepth 100000 in
set_option maxHeartbeats 2000000 in
theorem eachWater_seq (bs : Nat) (S : Array Value) (hS : WT Try.prog 38 S) (wd hi : Nat) (hw : num S 0 = wd) (hh : num S 1 = hi) (hw6 : wd ≤ 6) (hh6 : hi ≤ 6) (w : World) (hbs : w.heap[bs]? = some (.cells S 38 (0, 0))) :
    SeqStopsV Fence.wide 5 Try.prog 84 #[.pointer (some ⟨bs, 0, none⟩)] (fun x : Int => #[.int .i64 x]) (KeepL [bs]) (· = (cellsL wd hi 36).filter (impl_isWater_v0 S)) (· <+: (cellsL wd hi 36).filter (impl_isWater_v0 S)) (fun pre x => pre ++ [x] <+: (cellsL wd hi 36).filter (impl_isWater_v0 S)) w := by
  intro l J Jx W hbel hJ hJx hY h0
  have hbs : W.heap[bs]? = some (.cells S 38 (0, 0)) := (hbel.block bs (Array.getElem?_eq_some_iff.1 hbs).1).trans hbs
  obtain ⟨s0, a0, b0⟩ := hS.int (o := 0) (k := .i8) (by kernel_rfl)
  obtain ⟨s1, a1, b1⟩ := hS.int (o := 1) (k := .i8) (by kernel_rfl)
  have hi0 : (Try.prog.info? 38).map (·.size) = some S.size := by rw [hS.size]; kernel_rfl
  rw [hw] at s0
  rw [hh] at s1
  show CallsIn Fence.wide 5 Try.prog 84 #[.func (.yield l) #[] #[], .pointer (some ⟨bs, 0, none⟩)] W _
  refine callsIn_of_wp_marks Try.func84 rfl trivial ?_ rfl
  simp only [Try.ntmps84, List.size_toArray, List.length_cons, List.length_nil, Nat.reduceAdd, Nat.reduceSub, Array.replicate_succ, Array.replicate_zero, List.push_toArray, List.append_toArray, List.nil_append, List.cons_append]
  have q0 := keepAlloc (.cells #[.func (.yield l) #[] #[]] 49) hbs
  have q1 := newBlock W (.cells #[.func (.yield l) #[] #[]] 49)
  have qB := chainAlloc (Below.refl W.heap.size W) (.cells #[.func (.yield l) #[] #[]] 49)
  gi_wp2_with (first | (refine at_loadeachWater 38 rfl ?_; refine opIn_loadeachWater _ (fun _ => trivial) rfl 38 _ rfl _ rfl _ _ q0 _ Try.underlying38 rfl hi0 ?_) | (refine ⟨trivial, ?_⟩; gi_at_call 78; refine (callsIn_wide.2 (impl_eachCell_v S wd hi s0 s1 ⟨by omega, by omega⟩ ⟨by omega, by omega⟩ _)).mono ?_; rintro e w1 ⟨bh, bw, rfl, hbh, hbw, hlh, hlw, hne, hb⟩))
  have r0 := keep hb q0
  have r1 := keep hb q1
  have rB := chain qB hb
  have hbsz : bs < w1.heap.size := (Array.getElem?_eq_some_iff.1 r0).1
  have hWsz : W.heap.size < w1.heap.size := (Array.getElem?_eq_some_iff.1 r1).1
  have grow : ∀ {V V' : World}, Below V.heap.size V V' → V.grownBy V' none := fun h => ⟨h.os, h.tape, h.output, h.size, fun k hk _ => h.block k hk⟩
  have hJ1 : J [] w1 := hJ _ _ _ none (hJ _ _ _ none h0 (World.grownBy_alloc W (.cells #[.func (.yield l) #[] #[]] 49) none) (fun r e => by cases e)) (grow hb) (fun r e => by cases e)
  have hend : ∀ m, (cellsL wd hi 36) = m → True := fun _ _ => trivial
  clear q0 q1 qB hb hend
  refine wpIn_rangeFunc_V (F := Fence.wide) (n := 5) (α := Int) (w0 := w1) rfl (by omega) (gf := 87) (lb := #[.pointer (some ⟨bh, 0, none⟩), .pointer (some ⟨bw, 0, none⟩)]) rfl trivial impl_eachCell_1_enter
    (eachCell_seq 4 (by omega) bh bw wd hi hw6 hh6 w1 hbh hbw)
    (fun {A B C} h k q hq Ce t fr e => k q hq Ce t fr (h q hq Ce t fr e))
    (fun W l' o o' hl ho hc _ k hk C t fr e => by
      have : l' ≠ k := fun e' => by subst e'; rw [ho] at e; cases e; cases hc
      rw [World.putObj_heap_other (Ne.symm this)]; exact e)
    (Below.refl _ w1)
    (fun pre V => J (pre.filter (impl_isWater_v0 S)) V ∧ V.heap[bs]? = some (.cells S 38 (0, 0)) ∧ V.heap[W.heap.size]? = some (.cells #[.func (.yield l) #[] #[]] 49 (0, 0)) ∧ w1.heap.size ≤ V.heap.size)
    (fun c pre V => c = .ret ∧ Jx (pre.filter (impl_isWater_v0 S)) V)
    ?hps ?hI ?hIx ?h0
    (fun x => { tmps := #[.func (.yield l) #[] #[], .pointer (some ⟨bs, 0, none⟩), .pointer (some ⟨W.heap.size, 0, none⟩), .int .i64 x, .agg S, .func (.func 87) #[] #[.pointer (some ⟨bh, 0, none⟩), .pointer (some ⟨bw, 0, none⟩)], .int .i64 x, undef, undef, undef, undef, undef, undef, undef, undef, undef], defers := [] }) ?hassign ?hbody ?hdone ?hstop
  case hps => exact fun pre x V _ _ => rfl
  case hI =>
    intro pre A B row ⟨h1, h2, h3, h4⟩ hg hr
    have cellk : ∀ {k : Nat} {C : Array Value} {t : TypeId}, A.heap[k]? = some (.cells C t (0, 0)) → B.heap[k]? = some (.cells C t (0, 0)) := fun {k C t} hk => by
      refine (hg.block k (Array.getElem?_eq_some_iff.1 hk).1 fun e => ?_).trans hk
      obtain ⟨_, o, ho, hc⟩ := hr k e.symm
      rw [hk] at ho; cases ho; cases hc
    exact ⟨hJ _ _ _ row h1 hg fun r e => ⟨by have := (hr r e).1; omega, (hr r e).2⟩, cellk h2, cellk h3, Nat.le_trans h4 hg.size⟩
  case hIx => exact fun c pre A B row ⟨h1, h2⟩ hg hr => ⟨h1, hJx _ _ _ row h2 hg fun r e => ⟨by have := (hr r e).1; omega, (hr r e).2⟩⟩
  case h0 => exact ⟨hJ1, r0, r1, Nat.le_refl _⟩
  case hassign =>
    intro l' x V K hK
    gi_wp2
    exact hK
  case hbody =>
    rintro l' pre x V hl' - ⟨hJ0, hb0, hy0, hz0⟩ hpre
    have hx := cellsL_mem (x := x) (hpre.subset (by simp))
    have hpf := hpre.filter (impl_isWater_v0 S)
    rw [List.filter_append] at hpf
    have hcl := calls_isWater S hS x (by omega)
    have cy : V.cell? ⟨W.heap.size, 0, none⟩ = some (.func (.yield l) #[] #[]) := by rw [cell_of_row V W.heap.size 0 _ _ _ hy0]; rfl
    have HJ := hideV hJ
    have HY := hideV hY
    clear hJ hJx hY hJ1 r0 r1 rB
    cases hq : impl_isWater_v0 S x
    · rw [show List.filter (impl_isWater_v0 S) [x] = [] by simp [hq]] at hpf
      have Hf := hideV (show (pre ++ [x]).filter (impl_isWater_v0 S) = pre.filter (impl_isWater_v0 S) by rw [List.filter_append]; simp [hq])
      simp only [hq] at hcl
      gi_wp2_with (first | (refine at_loadeachWater 38 rfl ?_; refine opIn_loadeachWater _ (fun _ => trivial) rfl 38 _ rfl _ rfl _ _ hb0 _ Try.underlying38 rfl hi0 ?_) | (refine ⟨trivial, ?_⟩; gi_at_call 67; refine (CallsIn.inRound l' (callsIn_wide.2 (hcl _))).mono ?_; rintro e w2 ⟨rfl, h2⟩) | ((with_reducible refine And.intro ?_ ?_); exact fun _ _ => trivial))
      exact ⟨⟨h2.size, fun k _ hk => h2.block k hk⟩, fun k _ C t fr h => keep h2 h, by rw [Hf.out]; exact HJ.out _ _ _ none hJ0 (grow h2) (fun r e => by cases e), keep h2 hb0, keep h2 hy0, Nat.le_trans hz0 h2.size⟩
    · rw [show List.filter (impl_isWater_v0 S) [x] = [x] by simp [hq]] at hpf
      have Hf := hideV (show (pre ++ [x]).filter (impl_isWater_v0 S) = pre.filter (impl_isWater_v0 S) ++ [x] by rw [List.filter_append]; simp [hq])
      simp only [hq] at hcl
      have hd : 1 ≤ 5 - 1 - 1 := by omega
      gi_wp2_with (first | (refine at_loadeachWater 38 rfl ?_; refine opIn_loadeachWater _ (fun _ => trivial) rfl 38 _ rfl _ rfl _ _ hb0 _ Try.underlying38 rfl hi0 ?_) | (refine ⟨trivial, ?_⟩; gi_at_call 67; refine (CallsIn.inRound l' (callsIn_wide.2 (hcl _))).mono ?_; rintro e w2 ⟨rfl, h2⟩; have cy2 : w2.cell? ⟨W.heap.size, 0, none⟩ = some (.func (.yield l) #[] #[]) := (by rw [cell_of_row w2 W.heap.size 0 _ _ _ (keep h2 hy0)]; rfl); obtain ⟨fn, tmps, assign, body, hy', hR⟩ := yieldAt_deep rfl (5 - 1 - 1 - 1) (HY.out (pre.filter (impl_isWater_v0 S)) x w2 (HJ.out _ _ _ none hJ0 (grow h2) (fun r e => by cases e)) hpf (by have := h2.size; omega)); clear cy) | ((with_reducible refine And.intro ?_ ?_); exact fun _ _ => trivial))
      refine (show RoundIn (Fence.wide.inRound l') _ Try.prog l fn tmps assign body w2 _ from hR).mono ?_
      rintro e W2 (⟨rfl, hJ2, hk, hkf⟩ | ⟨rfl, hJx2, hkf⟩)
      · have ka : KeepsAll w1.heap.size V W2 := KeepsAll.trans ⟨h2.size, fun k _ hk => h2.block k hk⟩ (hkf.later (by omega))
        have hlh' : W.heap.size ≤ bh := by simp at hlh; omega
        have hlw' : W.heap.size ≤ bw := by simp at hlw; omega
        have kl : KeepL [bh, bw] V W2 := fun k hk' C t fr h => by
          have hk2 : W.heap.size ≤ k := by
            rcases List.mem_cons.1 hk' with rfl | hk''
            · exact hlh'
            · rw [List.mem_singleton.1 hk'']; exact hlw'
          exact hkf.at hk2 (keep h2 h)
        gi_wp2
        exact ⟨ka, kl, by rw [Hf.out]; exact hJ2, hk bs (by simp) _ _ _ (keep h2 hb0), hkf.at (Nat.le_refl _) (keep h2 hy0), Nat.le_trans hz0 (Nat.le_trans h2.size hkf.size)⟩
      · have ka : KeepsAll w1.heap.size V W2 := KeepsAll.trans ⟨h2.size, fun k _ hk => h2.block k hk⟩ (hkf.later (by omega))
        gi_wp2
        exact ⟨ka, rfl, by rw [Hf.out]; exact hJx2⟩
  case hdone =>
    rintro D xs V hD rfl ⟨hJ0, _, _, _⟩ hm
    have hJ2 := hJ.putObj (.deferred none) hJ0 (by omega) hm rfl
    clear hJ hJx hY hJ1
    gi_wp2
    refine ⟨by simp, .inl ⟨_, _, rfl, run_takeDeferred hm, ?_⟩⟩
    exact ⟨_, results_none rfl _ _ _, ⟨_, rfl⟩, .inl ⟨_, rfl, hJ2⟩⟩
  case hstop =>
    rintro D c pre V hD hpre ⟨rfl, hJx0⟩ hm
    have hJ2 := hJx.putObj (.deferred none) hJx0 (by omega) hm rfl
    have hpf := hpre.filter (impl_isWater_v0 S)
    clear hJ hJx hY hJ1
    gi_wp2
    refine ⟨by simp, .inl ⟨_, _, rfl, run_takeDeferred hm, ?_⟩⟩
    exact ⟨_, results_none rfl _ _ _, ⟨_, rfl⟩, .inr ⟨_, hpf, hJ2⟩⟩

theorem seqV_anyeachWater {α : Type} {n n' : Nat} {P : Program} {g : Nat} {lb : Array Value} {encs : α → Array Value} {Kp : World → World → Prop} {S Sp : List α → Prop} {Ok : List α → α → Prop} {w : World} (h : SeqStopsV Fence.wide n P g lb encs Kp S Sp Ok w) : SeqStopsV Fence.wide n' P g lb encs Kp S Sp Ok w :=
  fun l J Jx W hb hJ hJx hY h0 => callsIn_wide.2 (callsIn_wide.1 (h l J Jx W hb hJ hJx (fun pre x W1 hj hok hle => yieldAt_deep rfl _ (hY pre x W1 hj hok hle)) h0))

noncomputable def impl_eachWater_1_ic : ICon := fun bs => match bs with
  | [.row S 38] => some ⟨Int, fun n => [.i .i64 n], (cellsL (num S 0) (num S 1) 36).filter (impl_isWater_v0 S), decide (0 ≤ num S 0) && decide (num S 0 ≤ 6) && (decide (0 ≤ num S 1) && decide (num S 1 ≤ 6))⟩
  | _ => none
theorem impl_eachWater_1_iok : IConOk Try.prog 84 impl_eachWater_1_ic := by
  intro ρ h w ns Y hY hok hH hr
  match ns, hY, hr with
  | [n1], hY, hr =>
    simp only [getH] at hY
    unfold impl_eachWater_1_ic at hY
    split at hY
    · rename_i S heq
      have e0 := (List.cons.inj heq).1
      cases hY
      have g : ∀ {m : Nat} {C : Array Value} {t : TypeId}, h.getD m .no = .row C t → h[m]? = some (.row C t) := fun {m C t} e => by
        rw [List.getD_eq_getElem?_getD] at e
        cases hm : h[m]? with
        | none => rw [hm] at e; cases e
        | some b => rw [hm] at e; exact congrArg some e
      obtain ⟨h1, w1⟩ := hH.is n1 _ (g e0)
      dsimp only at hok
      simp only [Bool.and_eq_true, decide_eq_true_eq] at hok
      obtain ⟨⟨a1, a2⟩, a3, a4⟩ := hok
      obtain ⟨vn, hv⟩ : ∃ vn : Nat, num S 0 = vn := ⟨(num S 0).toNat, by omega⟩
      obtain ⟨hn, hh⟩ : ∃ hn : Nat, num S 1 = hn := ⟨(num S 1).toNat, by omega⟩
      rw [hv, hh]
      refine ⟨fun pre x hpre y hy => ?_, fun n hn' => ?_⟩
      · simp only [List.mem_singleton] at hy
        subst hy
        refine ⟨rfl, rfl, ?_⟩
        have := cellsL_mem (x := x) (List.mem_filter.1 (hpre.subset (by simp))).1
        have e1 : IntKind.i64.min = -9223372036854775808 := rfl
        have e2 : IntKind.i64.max = 9223372036854775807 := rfl
        omega
      · exact seqV_anyeachWater (eachWater_seq (ρ n1) S w1 vn hn hv hh (by omega) (by omega) w h1)
    · cases hY
  | [], hY, _ => cases hY
  | _ :: _ :: _, hY, _ =>
    simp only [getH] at hY
    unfold impl_eachWater_1_ic at hY
    split at hY
    · rename_i heq; simp at heq
    · cases hY
theorem impl_eachWater_1_enter : Enters Try.prog 84 := enter_ok (fn := Try.f84) (by kernel_rfl) (by kernel_rfl) (by kernel_rfl)
end Go.Proofs.Ytjnbhnofffhclaa
