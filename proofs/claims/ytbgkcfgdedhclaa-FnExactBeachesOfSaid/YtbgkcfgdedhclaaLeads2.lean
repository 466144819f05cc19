/- Where way 2 leads, in the program. -/
import Derived.Test.YtbgkcfgdedhclaaLeads
namespace Go.Proofs.Ytbgkcfgdedhclaa
open Go.ChangeShapes Go.WideShapes Go.ChangeAt Go.RowKit
set_option linter.unusedVariables false

set_option maxRecDepth 100000 in
set_option maxHeartbeats 4000000 in
theorem leadsTo_east (wd hi ld : Int) (T : Array Value) (hS : SeaIn wd hi ld T) (hBd : 1 ≤ wd ∧ wd ≤ 6 ∧ 1 ≤ hi ∧ hi ≤ 6) (c : Int) (hc : 0 ≤ c ∧ c ≤ 35) (p : Bool) (hp : plB wd hi (c % 6 + 1) (c / 6) = p) (w : World) :
    Calls Try.prog 87 #[.agg (sea wd hi ld T), .int .i64 c, .int .i64 2] w fun e w' => e = .returned (.int .i64 (bif p then (c % 6 + 1) + 6 * (c / 6) else -1)) ∧ Below w.heap.size w w' := by
  have q0 := newBlock w (.cells (sea wd hi ld T) 35)
  have qB := chainAlloc (Below.refl w.heap.size w) (.cells (sea wd hi ld T) 35)
  have hi0 : (Try.prog.info? 35).map (·.size) = some (sea wd hi ld T).size := by rw [sea_size, hS.size]; kernel_rfl
  have hP := impl_hasPlace wd hi ld T hS.wide hS.high (c % 6 + 1) (c / 6)
  rw [hp] at hP
  have hO : p = true → ∀ W, Calls Try.prog 74 #[.agg #[.int .i64 (c % 6 + 1), .int .i64 (c / 6)]] W fun e w' => e = .returned (.int .i64 (c % 6 + 1 + 6 * (c / 6))) ∧ Below W.heap.size W w' := fun e W => by
    rw [e] at hp
    have := of_decide_eq_true hp
    exact impl_cellOf (c % 6 + 1) (c / 6) (by omega) (by omega) W
  have hidx : ∀ W : World, (Instr.index 97 (.agg #[.func (.func 91) #[] #[], .func (.func 92) #[] #[], .func (.func 93) #[] #[], .func (.func 94) #[] #[], .func (.func 95) #[] #[]]) (.int .i64 2)).run Try.prog W = .ok (.func (.func 93) #[] #[]) W := fun _ => by kernel_rfl
  clear hS hp
  cases p
  · clear hO
    simp only [cond_false]
    go_enter Try.func87, Try.ntmps87
    go_wp2_with fail
    refine wp_region_held_drew (S := (fun W => W.heap[w.heap.size]? = some (.cells (sea wd hi ld T) 35 (0, 0)) ∧ Below w.heap.size w W)) (by kernel_rfl) ⟨q0, qB.drew⟩ (fun hS1 => ?_)
    clear q0 qB
    refine take_first (i := 1) (v := .int .i64 2) (some 9) rfl rfl (by kernel_rfl) (by kernel_rfl) (by kernel_rfl) (fun _ _ _ h => h) (Or.inl ⟨by rfl, fun W hW => by go_simp⟩) hS1 ?_
    simp only [Act.put, List.setIfInBounds_toArray]; try simp only [List.set_cons_succ, List.set_cons_zero]
    refine take_first (i := 3) (v := .int .i64 c) (some 11) rfl rfl (by kernel_rfl) (by kernel_rfl) (by kernel_rfl) (fun _ _ _ h => h) (Or.inl ⟨by rfl, fun W hW => by go_simp⟩) hS1 ?_
    simp only [Act.put, List.setIfInBounds_toArray]; try simp only [List.set_cons_succ, List.set_cons_zero]
    refine wpAnyH_ready (rs := [0, 6]) (by kernel_rfl) (by simp) (AllReadyH.cons rfl (fun K hK => ?_) (AllReadyH.cons rfl (fun K hK => ?_) AllReadyH.nil))
    · go_simp
      refine (impl_allWays _).mono ?_
      rintro e v2 ⟨rfl, hb⟩
      refine hK.out _ _ ⟨keep hb hS1.1, chain hS1.2 hb⟩ (fun hS2 => ?_)
      clear hK K hS1 hb
      refine take_first (i := 2) (v := .func (.func 93) #[] #[]) (some 10) rfl rfl (by kernel_rfl) (by kernel_rfl) (by kernel_rfl) (fun _ _ _ h => h) (Or.inl ⟨by rfl, fun W hW => by go_simp⟩) hS2 ?_
      simp only [Act.put, List.setIfInBounds_toArray]; try simp only [List.set_cons_succ, List.set_cons_zero]
      refine wpAnyH_ready (rs := [4, 6]) (by kernel_rfl) (by simp) (AllReadyH.cons rfl (fun K hK => ?_) (AllReadyH.cons rfl (fun K hK => ?_) AllReadyH.nil))
      · go_simp
        refine (impl_placeOf c hc _).mono ?_
        rintro e v3 ⟨rfl, hb⟩
        refine hK.out _ _ ⟨keep hb hS2.1, chain hS2.2 hb⟩ (fun hS3 => ?_)
        clear hK K hS2 hb
        refine wpAnyH_ready (rs := [5, 6]) (by kernel_rfl) (by simp) (AllReadyH.cons rfl (fun K hK => ?_) (AllReadyH.cons rfl (fun K hK => ?_) AllReadyH.nil))
        · go_simp
          refine (way_east (c % 6) (c / 6) ⟨by omega, by omega⟩ ⟨by omega, by omega⟩ _).mono ?_
          rintro e v4 ⟨rfl, hb⟩
          refine hK.out _ _ ⟨keep hb hS3.1, chain hS3.2 hb⟩ (fun hS4 => ?_)
          clear hK K hS3 hb
          refine wpAnyH_ready (rs := [6]) (by kernel_rfl) (by simp) (AllReadyH.cons rfl (fun K hK => ?_) AllReadyH.nil)
          have gl := pLt hS4.1
          go_simp
          have pA := newOf hS4.2 (.cells #[.int .i64 0, .int .i64 0] 83)
          refine hK.out _ _ ⟨keepAlloc _ hS4.1, chainAlloc hS4.2 _⟩ (fun hS5 => ?_)
          clear hK K hS4
          refine wpAnyH_ready (rs := [7]) (by kernel_rfl) (by simp) (AllReadyH.cons rfl (fun K hK => ?_) AllReadyH.nil)
          rw [if_pos (by rfl)]
          refine wpo_store2 #[.int .i64 (c % 6 + 1), .int .i64 (c / 6)] 83 _ _ rfl _ _ rfl _ rfl _ _ pA (by kernel_rfl) (by simp) (by kernel_rfl) rfl ?_
          intro w9 s9 so sB
          refine hK.out _ _ ⟨(so _ (by have := (Array.getElem?_eq_some_iff.1 hS5.1).1; have := pLt pA; omega)).trans hS5.1, chainStore hS5.2 sB (by omega)⟩ (fun hS6 => ?_)
          clear hK K hS5 pA so sB
          refine wpAnyH_done (by kernel_rfl) ?_ _
          have pA := s9
          have q0 := hS6.1
          have qB := hS6.2
          have pc0 := cellAt (o := 0) pA rfl
          have pc1 := cellAt (o := 1) pA rfl
          clear hS6
          go_wp2_with (first | (refine at_load 35 rfl ?_; refine wpList_load_row rfl 35 _ rfl _ rfl _ _ _ _ q0 Try.underlying35 rfl hi0 ?_) | (go_at_call 89; refine (hP _).mono ?_; rintro e v9 ⟨rfl, hb⟩; replace q0 := keep hb q0; replace pA := keep hb pA; replace qB := chain qB hb; clear hb pc0 pc1; have pc0 := cellAt (o := 0) pA rfl; have pc1 := cellAt (o := 1) pA rfl) | (go_at_call 74; refine (hO1 _).mono ?_; rintro e v9 ⟨rfl, hb⟩; replace qB := chain qB hb; clear hb))
          go_ret
          exact ⟨rfl, qB⟩
        · have gl := pLt hS3.1
          go_simp
          have pA := newOf hS3.2 (.cells #[.int .i64 0, .int .i64 0] 83)
          refine hK.out _ _ ⟨keepAlloc _ hS3.1, chainAlloc hS3.2 _⟩ (fun hS4 => ?_)
          clear hK K hS3
          refine wpAnyH_ready (rs := [5]) (by kernel_rfl) (by simp) (AllReadyH.cons rfl (fun K hK => ?_) AllReadyH.nil)
          go_simp
          refine (way_east (c % 6) (c / 6) ⟨by omega, by omega⟩ ⟨by omega, by omega⟩ _).mono ?_
          rintro e v5 ⟨rfl, hb⟩
          replace pA := keep hb pA
          refine hK.out _ _ ⟨keep hb hS4.1, chain hS4.2 hb⟩ (fun hS5 => ?_)
          clear hK K hS4 hb
          refine wpAnyH_ready (rs := [7]) (by kernel_rfl) (by simp) (AllReadyH.cons rfl (fun K hK => ?_) AllReadyH.nil)
          rw [if_pos (by rfl)]
          refine wpo_store2 #[.int .i64 (c % 6 + 1), .int .i64 (c / 6)] 83 _ _ rfl _ _ rfl _ rfl _ _ pA (by kernel_rfl) (by simp) (by kernel_rfl) rfl ?_
          intro w9 s9 so sB
          refine hK.out _ _ ⟨(so _ (by have := (Array.getElem?_eq_some_iff.1 hS5.1).1; have := pLt pA; omega)).trans hS5.1, chainStore hS5.2 sB (by omega)⟩ (fun hS6 => ?_)
          clear hK K hS5 pA so sB
          refine wpAnyH_done (by kernel_rfl) ?_ _
          have pA := s9
          have q0 := hS6.1
          have qB := hS6.2
          have pc0 := cellAt (o := 0) pA rfl
          have pc1 := cellAt (o := 1) pA rfl
          clear hS6
          go_wp2_with (first | (refine at_load 35 rfl ?_; refine wpList_load_row rfl 35 _ rfl _ rfl _ _ _ _ q0 Try.underlying35 rfl hi0 ?_) | (go_at_call 89; refine (hP _).mono ?_; rintro e v9 ⟨rfl, hb⟩; replace q0 := keep hb q0; replace pA := keep hb pA; replace qB := chain qB hb; clear hb pc0 pc1; have pc0 := cellAt (o := 0) pA rfl; have pc1 := cellAt (o := 1) pA rfl) | (go_at_call 74; refine (hO1 _).mono ?_; rintro e v9 ⟨rfl, hb⟩; replace qB := chain qB hb; clear hb))
          go_ret
          exact ⟨rfl, qB⟩
      · have gl := pLt hS2.1
        go_simp
        have pA := newOf hS2.2 (.cells #[.int .i64 0, .int .i64 0] 83)
        refine hK.out _ _ ⟨keepAlloc _ hS2.1, chainAlloc hS2.2 _⟩ (fun hS3 => ?_)
        clear hK K hS2
        refine wpAnyH_ready (rs := [4]) (by kernel_rfl) (by simp) (AllReadyH.cons rfl (fun K hK => ?_) AllReadyH.nil)
        go_simp
        refine (impl_placeOf c hc _).mono ?_
        rintro e v4 ⟨rfl, hb⟩
        replace pA := keep hb pA
        refine hK.out _ _ ⟨keep hb hS3.1, chain hS3.2 hb⟩ (fun hS4 => ?_)
        clear hK K hS3 hb
        refine wpAnyH_ready (rs := [5]) (by kernel_rfl) (by simp) (AllReadyH.cons rfl (fun K hK => ?_) AllReadyH.nil)
        go_simp
        refine (way_east (c % 6) (c / 6) ⟨by omega, by omega⟩ ⟨by omega, by omega⟩ _).mono ?_
        rintro e v5 ⟨rfl, hb⟩
        replace pA := keep hb pA
        refine hK.out _ _ ⟨keep hb hS4.1, chain hS4.2 hb⟩ (fun hS5 => ?_)
        clear hK K hS4 hb
        refine wpAnyH_ready (rs := [7]) (by kernel_rfl) (by simp) (AllReadyH.cons rfl (fun K hK => ?_) AllReadyH.nil)
        rw [if_pos (by rfl)]
        refine wpo_store2 #[.int .i64 (c % 6 + 1), .int .i64 (c / 6)] 83 _ _ rfl _ _ rfl _ rfl _ _ pA (by kernel_rfl) (by simp) (by kernel_rfl) rfl ?_
        intro w9 s9 so sB
        refine hK.out _ _ ⟨(so _ (by have := (Array.getElem?_eq_some_iff.1 hS5.1).1; have := pLt pA; omega)).trans hS5.1, chainStore hS5.2 sB (by omega)⟩ (fun hS6 => ?_)
        clear hK K hS5 pA so sB
        refine wpAnyH_done (by kernel_rfl) ?_ _
        have pA := s9
        have q0 := hS6.1
        have qB := hS6.2
        have pc0 := cellAt (o := 0) pA rfl
        have pc1 := cellAt (o := 1) pA rfl
        clear hS6
        go_wp2_with (first | (refine at_load 35 rfl ?_; refine wpList_load_row rfl 35 _ rfl _ rfl _ _ _ _ q0 Try.underlying35 rfl hi0 ?_) | (go_at_call 89; refine (hP _).mono ?_; rintro e v9 ⟨rfl, hb⟩; replace q0 := keep hb q0; replace pA := keep hb pA; replace qB := chain qB hb; clear hb pc0 pc1; have pc0 := cellAt (o := 0) pA rfl; have pc1 := cellAt (o := 1) pA rfl) | (go_at_call 74; refine (hO1 _).mono ?_; rintro e v9 ⟨rfl, hb⟩; replace qB := chain qB hb; clear hb))
        go_ret
        exact ⟨rfl, qB⟩
    · go_simp
      have pA := newOf hS1.2 (.cells #[.int .i64 0, .int .i64 0] 83)
      rw [show (w.alloc (.cells (sea wd hi ld T) 35)).drew.heap.size = w.heap.size + 1 from Array.size_push _] at pA
      refine hK.out _ _ ⟨keepAlloc _ hS1.1, chainAlloc hS1.2 _⟩ (fun hS2 => ?_)
      clear hK K hS1
      refine wpAnyH_ready (rs := [0]) (by kernel_rfl) (by simp) (AllReadyH.cons rfl (fun K hK => ?_) AllReadyH.nil)
      go_simp
      refine (impl_allWays _).mono ?_
      rintro e v3 ⟨rfl, hb⟩
      replace pA := keep hb pA
      refine hK.out _ _ ⟨keep hb hS2.1, chain hS2.2 hb⟩ (fun hS3 => ?_)
      clear hK K hS2 hb
      refine take_first (i := 2) (v := .func (.func 93) #[] #[]) (some 10) rfl rfl (by kernel_rfl) (by kernel_rfl) (by kernel_rfl) (fun _ _ _ h => h) (Or.inl ⟨by rfl, fun W hW => by go_simp⟩) hS3 ?_
      simp only [Act.put, List.setIfInBounds_toArray]; try simp only [List.set_cons_succ, List.set_cons_zero]
      refine wpAnyH_ready (rs := [4]) (by kernel_rfl) (by simp) (AllReadyH.cons rfl (fun K hK => ?_) AllReadyH.nil)
      go_simp
      refine (impl_placeOf c hc _).mono ?_
      rintro e v4 ⟨rfl, hb⟩
      replace pA := keep hb pA
      refine hK.out _ _ ⟨keep hb hS3.1, chain hS3.2 hb⟩ (fun hS4 => ?_)
      clear hK K hS3 hb
      refine wpAnyH_ready (rs := [5]) (by kernel_rfl) (by simp) (AllReadyH.cons rfl (fun K hK => ?_) AllReadyH.nil)
      go_simp
      refine (way_east (c % 6) (c / 6) ⟨by omega, by omega⟩ ⟨by omega, by omega⟩ _).mono ?_
      rintro e v5 ⟨rfl, hb⟩
      replace pA := keep hb pA
      refine hK.out _ _ ⟨keep hb hS4.1, chain hS4.2 hb⟩ (fun hS5 => ?_)
      clear hK K hS4 hb
      refine wpAnyH_ready (rs := [7]) (by kernel_rfl) (by simp) (AllReadyH.cons rfl (fun K hK => ?_) AllReadyH.nil)
      rw [if_pos (by rfl)]
      refine wpo_store2 #[.int .i64 (c % 6 + 1), .int .i64 (c / 6)] 83 _ _ rfl _ _ rfl _ rfl _ _ pA (by kernel_rfl) (by simp) (by kernel_rfl) rfl ?_
      intro w9 s9 so sB
      refine hK.out _ _ ⟨(so _ (by have := (Array.getElem?_eq_some_iff.1 hS5.1).1; have := pLt pA; omega)).trans hS5.1, chainStore hS5.2 sB (by omega)⟩ (fun hS6 => ?_)
      clear hK K hS5 pA so sB
      refine wpAnyH_done (by kernel_rfl) ?_ _
      have pA := s9
      have q0 := hS6.1
      have qB := hS6.2
      have pc0 := cellAt (o := 0) pA rfl
      have pc1 := cellAt (o := 1) pA rfl
      clear hS6
      go_wp2_with (first | (refine at_load 35 rfl ?_; refine wpList_load_row rfl 35 _ rfl _ rfl _ _ _ _ q0 Try.underlying35 rfl hi0 ?_) | (go_at_call 89; refine (hP _).mono ?_; rintro e v9 ⟨rfl, hb⟩; replace q0 := keep hb q0; replace pA := keep hb pA; replace qB := chain qB hb; clear hb pc0 pc1; have pc0 := cellAt (o := 0) pA rfl; have pc1 := cellAt (o := 1) pA rfl) | (go_at_call 74; refine (hO1 _).mono ?_; rintro e v9 ⟨rfl, hb⟩; replace qB := chain qB hb; clear hb))
      go_ret
      exact ⟨rfl, qB⟩
  · have hO1 := hO rfl
    clear hO
    simp only [cond_true]
    go_enter Try.func87, Try.ntmps87
    go_wp2_with fail
    refine wp_region_held_drew (S := (fun W => W.heap[w.heap.size]? = some (.cells (sea wd hi ld T) 35 (0, 0)) ∧ Below w.heap.size w W)) (by kernel_rfl) ⟨q0, qB.drew⟩ (fun hS1 => ?_)
    clear q0 qB
    refine take_first (i := 1) (v := .int .i64 2) (some 9) rfl rfl (by kernel_rfl) (by kernel_rfl) (by kernel_rfl) (fun _ _ _ h => h) (Or.inl ⟨by rfl, fun W hW => by go_simp⟩) hS1 ?_
    simp only [Act.put, List.setIfInBounds_toArray]; try simp only [List.set_cons_succ, List.set_cons_zero]
    refine take_first (i := 3) (v := .int .i64 c) (some 11) rfl rfl (by kernel_rfl) (by kernel_rfl) (by kernel_rfl) (fun _ _ _ h => h) (Or.inl ⟨by rfl, fun W hW => by go_simp⟩) hS1 ?_
    simp only [Act.put, List.setIfInBounds_toArray]; try simp only [List.set_cons_succ, List.set_cons_zero]
    refine wpAnyH_ready (rs := [0, 6]) (by kernel_rfl) (by simp) (AllReadyH.cons rfl (fun K hK => ?_) (AllReadyH.cons rfl (fun K hK => ?_) AllReadyH.nil))
    · go_simp
      refine (impl_allWays _).mono ?_
      rintro e v2 ⟨rfl, hb⟩
      refine hK.out _ _ ⟨keep hb hS1.1, chain hS1.2 hb⟩ (fun hS2 => ?_)
      clear hK K hS1 hb
      refine take_first (i := 2) (v := .func (.func 93) #[] #[]) (some 10) rfl rfl (by kernel_rfl) (by kernel_rfl) (by kernel_rfl) (fun _ _ _ h => h) (Or.inl ⟨by rfl, fun W hW => by go_simp⟩) hS2 ?_
      simp only [Act.put, List.setIfInBounds_toArray]; try simp only [List.set_cons_succ, List.set_cons_zero]
      refine wpAnyH_ready (rs := [4, 6]) (by kernel_rfl) (by simp) (AllReadyH.cons rfl (fun K hK => ?_) (AllReadyH.cons rfl (fun K hK => ?_) AllReadyH.nil))
      · go_simp
        refine (impl_placeOf c hc _).mono ?_
        rintro e v3 ⟨rfl, hb⟩
        refine hK.out _ _ ⟨keep hb hS2.1, chain hS2.2 hb⟩ (fun hS3 => ?_)
        clear hK K hS2 hb
        refine wpAnyH_ready (rs := [5, 6]) (by kernel_rfl) (by simp) (AllReadyH.cons rfl (fun K hK => ?_) (AllReadyH.cons rfl (fun K hK => ?_) AllReadyH.nil))
        · go_simp
          refine (way_east (c % 6) (c / 6) ⟨by omega, by omega⟩ ⟨by omega, by omega⟩ _).mono ?_
          rintro e v4 ⟨rfl, hb⟩
          refine hK.out _ _ ⟨keep hb hS3.1, chain hS3.2 hb⟩ (fun hS4 => ?_)
          clear hK K hS3 hb
          refine wpAnyH_ready (rs := [6]) (by kernel_rfl) (by simp) (AllReadyH.cons rfl (fun K hK => ?_) AllReadyH.nil)
          have gl := pLt hS4.1
          go_simp
          have pA := newOf hS4.2 (.cells #[.int .i64 0, .int .i64 0] 83)
          refine hK.out _ _ ⟨keepAlloc _ hS4.1, chainAlloc hS4.2 _⟩ (fun hS5 => ?_)
          clear hK K hS4
          refine wpAnyH_ready (rs := [7]) (by kernel_rfl) (by simp) (AllReadyH.cons rfl (fun K hK => ?_) AllReadyH.nil)
          rw [if_pos (by rfl)]
          refine wpo_store2 #[.int .i64 (c % 6 + 1), .int .i64 (c / 6)] 83 _ _ rfl _ _ rfl _ rfl _ _ pA (by kernel_rfl) (by simp) (by kernel_rfl) rfl ?_
          intro w9 s9 so sB
          refine hK.out _ _ ⟨(so _ (by have := (Array.getElem?_eq_some_iff.1 hS5.1).1; have := pLt pA; omega)).trans hS5.1, chainStore hS5.2 sB (by omega)⟩ (fun hS6 => ?_)
          clear hK K hS5 pA so sB
          refine wpAnyH_done (by kernel_rfl) ?_ _
          have pA := s9
          have q0 := hS6.1
          have qB := hS6.2
          have pc0 := cellAt (o := 0) pA rfl
          have pc1 := cellAt (o := 1) pA rfl
          clear hS6
          go_wp2_with (first | (refine at_load 35 rfl ?_; refine wpList_load_row rfl 35 _ rfl _ rfl _ _ _ _ q0 Try.underlying35 rfl hi0 ?_) | (go_at_call 89; refine (hP _).mono ?_; rintro e v9 ⟨rfl, hb⟩; replace q0 := keep hb q0; replace pA := keep hb pA; replace qB := chain qB hb; clear hb pc0 pc1; have pc0 := cellAt (o := 0) pA rfl; have pc1 := cellAt (o := 1) pA rfl) | (go_at_call 74; refine (hO1 _).mono ?_; rintro e v9 ⟨rfl, hb⟩; replace qB := chain qB hb; clear hb))
          go_ret
          exact ⟨rfl, qB⟩
        · have gl := pLt hS3.1
          go_simp
          have pA := newOf hS3.2 (.cells #[.int .i64 0, .int .i64 0] 83)
          refine hK.out _ _ ⟨keepAlloc _ hS3.1, chainAlloc hS3.2 _⟩ (fun hS4 => ?_)
          clear hK K hS3
          refine wpAnyH_ready (rs := [5]) (by kernel_rfl) (by simp) (AllReadyH.cons rfl (fun K hK => ?_) AllReadyH.nil)
          go_simp
          refine (way_east (c % 6) (c / 6) ⟨by omega, by omega⟩ ⟨by omega, by omega⟩ _).mono ?_
          rintro e v5 ⟨rfl, hb⟩
          replace pA := keep hb pA
          refine hK.out _ _ ⟨keep hb hS4.1, chain hS4.2 hb⟩ (fun hS5 => ?_)
          clear hK K hS4 hb
          refine wpAnyH_ready (rs := [7]) (by kernel_rfl) (by simp) (AllReadyH.cons rfl (fun K hK => ?_) AllReadyH.nil)
          rw [if_pos (by rfl)]
          refine wpo_store2 #[.int .i64 (c % 6 + 1), .int .i64 (c / 6)] 83 _ _ rfl _ _ rfl _ rfl _ _ pA (by kernel_rfl) (by simp) (by kernel_rfl) rfl ?_
          intro w9 s9 so sB
          refine hK.out _ _ ⟨(so _ (by have := (Array.getElem?_eq_some_iff.1 hS5.1).1; have := pLt pA; omega)).trans hS5.1, chainStore hS5.2 sB (by omega)⟩ (fun hS6 => ?_)
          clear hK K hS5 pA so sB
          refine wpAnyH_done (by kernel_rfl) ?_ _
          have pA := s9
          have q0 := hS6.1
          have qB := hS6.2
          have pc0 := cellAt (o := 0) pA rfl
          have pc1 := cellAt (o := 1) pA rfl
          clear hS6
          go_wp2_with (first | (refine at_load 35 rfl ?_; refine wpList_load_row rfl 35 _ rfl _ rfl _ _ _ _ q0 Try.underlying35 rfl hi0 ?_) | (go_at_call 89; refine (hP _).mono ?_; rintro e v9 ⟨rfl, hb⟩; replace q0 := keep hb q0; replace pA := keep hb pA; replace qB := chain qB hb; clear hb pc0 pc1; have pc0 := cellAt (o := 0) pA rfl; have pc1 := cellAt (o := 1) pA rfl) | (go_at_call 74; refine (hO1 _).mono ?_; rintro e v9 ⟨rfl, hb⟩; replace qB := chain qB hb; clear hb))
          go_ret
          exact ⟨rfl, qB⟩
      · have gl := pLt hS2.1
        go_simp
        have pA := newOf hS2.2 (.cells #[.int .i64 0, .int .i64 0] 83)
        refine hK.out _ _ ⟨keepAlloc _ hS2.1, chainAlloc hS2.2 _⟩ (fun hS3 => ?_)
        clear hK K hS2
        refine wpAnyH_ready (rs := [4]) (by kernel_rfl) (by simp) (AllReadyH.cons rfl (fun K hK => ?_) AllReadyH.nil)
        go_simp
        refine (impl_placeOf c hc _).mono ?_
        rintro e v4 ⟨rfl, hb⟩
        replace pA := keep hb pA
        refine hK.out _ _ ⟨keep hb hS3.1, chain hS3.2 hb⟩ (fun hS4 => ?_)
        clear hK K hS3 hb
        refine wpAnyH_ready (rs := [5]) (by kernel_rfl) (by simp) (AllReadyH.cons rfl (fun K hK => ?_) AllReadyH.nil)
        go_simp
        refine (way_east (c % 6) (c / 6) ⟨by omega, by omega⟩ ⟨by omega, by omega⟩ _).mono ?_
        rintro e v5 ⟨rfl, hb⟩
        replace pA := keep hb pA
        refine hK.out _ _ ⟨keep hb hS4.1, chain hS4.2 hb⟩ (fun hS5 => ?_)
        clear hK K hS4 hb
        refine wpAnyH_ready (rs := [7]) (by kernel_rfl) (by simp) (AllReadyH.cons rfl (fun K hK => ?_) AllReadyH.nil)
        rw [if_pos (by rfl)]
        refine wpo_store2 #[.int .i64 (c % 6 + 1), .int .i64 (c / 6)] 83 _ _ rfl _ _ rfl _ rfl _ _ pA (by kernel_rfl) (by simp) (by kernel_rfl) rfl ?_
        intro w9 s9 so sB
        refine hK.out _ _ ⟨(so _ (by have := (Array.getElem?_eq_some_iff.1 hS5.1).1; have := pLt pA; omega)).trans hS5.1, chainStore hS5.2 sB (by omega)⟩ (fun hS6 => ?_)
        clear hK K hS5 pA so sB
        refine wpAnyH_done (by kernel_rfl) ?_ _
        have pA := s9
        have q0 := hS6.1
        have qB := hS6.2
        have pc0 := cellAt (o := 0) pA rfl
        have pc1 := cellAt (o := 1) pA rfl
        clear hS6
        go_wp2_with (first | (refine at_load 35 rfl ?_; refine wpList_load_row rfl 35 _ rfl _ rfl _ _ _ _ q0 Try.underlying35 rfl hi0 ?_) | (go_at_call 89; refine (hP _).mono ?_; rintro e v9 ⟨rfl, hb⟩; replace q0 := keep hb q0; replace pA := keep hb pA; replace qB := chain qB hb; clear hb pc0 pc1; have pc0 := cellAt (o := 0) pA rfl; have pc1 := cellAt (o := 1) pA rfl) | (go_at_call 74; refine (hO1 _).mono ?_; rintro e v9 ⟨rfl, hb⟩; replace qB := chain qB hb; clear hb))
        go_ret
        exact ⟨rfl, qB⟩
    · go_simp
      have pA := newOf hS1.2 (.cells #[.int .i64 0, .int .i64 0] 83)
      rw [show (w.alloc (.cells (sea wd hi ld T) 35)).drew.heap.size = w.heap.size + 1 from Array.size_push _] at pA
      refine hK.out _ _ ⟨keepAlloc _ hS1.1, chainAlloc hS1.2 _⟩ (fun hS2 => ?_)
      clear hK K hS1
      refine wpAnyH_ready (rs := [0]) (by kernel_rfl) (by simp) (AllReadyH.cons rfl (fun K hK => ?_) AllReadyH.nil)
      go_simp
      refine (impl_allWays _).mono ?_
      rintro e v3 ⟨rfl, hb⟩
      replace pA := keep hb pA
      refine hK.out _ _ ⟨keep hb hS2.1, chain hS2.2 hb⟩ (fun hS3 => ?_)
      clear hK K hS2 hb
      refine take_first (i := 2) (v := .func (.func 93) #[] #[]) (some 10) rfl rfl (by kernel_rfl) (by kernel_rfl) (by kernel_rfl) (fun _ _ _ h => h) (Or.inl ⟨by rfl, fun W hW => by go_simp⟩) hS3 ?_
      simp only [Act.put, List.setIfInBounds_toArray]; try simp only [List.set_cons_succ, List.set_cons_zero]
      refine wpAnyH_ready (rs := [4]) (by kernel_rfl) (by simp) (AllReadyH.cons rfl (fun K hK => ?_) AllReadyH.nil)
      go_simp
      refine (impl_placeOf c hc _).mono ?_
      rintro e v4 ⟨rfl, hb⟩
      replace pA := keep hb pA
      refine hK.out _ _ ⟨keep hb hS3.1, chain hS3.2 hb⟩ (fun hS4 => ?_)
      clear hK K hS3 hb
      refine wpAnyH_ready (rs := [5]) (by kernel_rfl) (by simp) (AllReadyH.cons rfl (fun K hK => ?_) AllReadyH.nil)
      go_simp
      refine (way_east (c % 6) (c / 6) ⟨by omega, by omega⟩ ⟨by omega, by omega⟩ _).mono ?_
      rintro e v5 ⟨rfl, hb⟩
      replace pA := keep hb pA
      refine hK.out _ _ ⟨keep hb hS4.1, chain hS4.2 hb⟩ (fun hS5 => ?_)
      clear hK K hS4 hb
      refine wpAnyH_ready (rs := [7]) (by kernel_rfl) (by simp) (AllReadyH.cons rfl (fun K hK => ?_) AllReadyH.nil)
      rw [if_pos (by rfl)]
      refine wpo_store2 #[.int .i64 (c % 6 + 1), .int .i64 (c / 6)] 83 _ _ rfl _ _ rfl _ rfl _ _ pA (by kernel_rfl) (by simp) (by kernel_rfl) rfl ?_
      intro w9 s9 so sB
      refine hK.out _ _ ⟨(so _ (by have := (Array.getElem?_eq_some_iff.1 hS5.1).1; have := pLt pA; omega)).trans hS5.1, chainStore hS5.2 sB (by omega)⟩ (fun hS6 => ?_)
      clear hK K hS5 pA so sB
      refine wpAnyH_done (by kernel_rfl) ?_ _
      have pA := s9
      have q0 := hS6.1
      have qB := hS6.2
      have pc0 := cellAt (o := 0) pA rfl
      have pc1 := cellAt (o := 1) pA rfl
      clear hS6
      go_wp2_with (first | (refine at_load 35 rfl ?_; refine wpList_load_row rfl 35 _ rfl _ rfl _ _ _ _ q0 Try.underlying35 rfl hi0 ?_) | (go_at_call 89; refine (hP _).mono ?_; rintro e v9 ⟨rfl, hb⟩; replace q0 := keep hb q0; replace pA := keep hb pA; replace qB := chain qB hb; clear hb pc0 pc1; have pc0 := cellAt (o := 0) pA rfl; have pc1 := cellAt (o := 1) pA rfl) | (go_at_call 74; refine (hO1 _).mono ?_; rintro e v9 ⟨rfl, hb⟩; replace qB := chain qB hb; clear hb))
      go_ret
      exact ⟨rfl, qB⟩
end Go.Proofs.Ytbgkcfgdedhclaa
