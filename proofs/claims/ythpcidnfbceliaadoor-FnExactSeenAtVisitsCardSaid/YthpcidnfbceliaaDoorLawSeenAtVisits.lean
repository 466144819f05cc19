/- For every sea, list of finds and number of hours spec and program tell the same finds as they are seen. -/
import Derived.Test.YthpcidnfbceliaaDoorRows
import Derived.Test.YthpcidnfbceliaaDoorChecked
import Derived.Test.YthpcidnfbceliaaDoorBase
import Derived.Test.YthpcidnfbceliaaDoorVeSw
import Derived.Test.YthpcidnfbceliaaDoorVeE
import Derived.Test.YthpcidnfbceliaaDoorCards
import Derived.Test.YthpcidnfbceliaaDoorTie
namespace Go.Proofs.YthpcidnfbceliaaDoor
open Go.ChangeShapes Go.WideShapes Go.ChangeAt Go.RowKit Ve
set_option linter.unusedVariables false
set_option linter.unusedSimpArgs false
set_option maxRecDepth 100000
noncomputable section

theorem svN_le (S : Array Value) (n : Nat) (a : Array Value) (e : Int) : svN S n a e ≤ 60 := by
  unfold svN
  cases hv : vf S n a with
  | false => exact Nat.zero_le _
  | true =>
    have := vf_n hv
    cases spec_l00In_v0 e 1 14 <;> cases okV a e n <;> first | exact Nat.zero_le _ | exact this
theorem svA_size (S : Array Value) (n : Nat) (a : Array Value) (e : Int) : (svA S n a e).size = svN S n a e * 2 := by
  unfold svN svA
  cases vf S n a <;> cases spec_l00In_v0 e 1 14 <;> cases okV a e n <;> first | rfl | exact seenC_size a e n

noncomputable def laws_FnExactSeenAtVisits_G : Cons := (mkΓw [(13, conSW laws_markFindS_scon)] [(7, con laws_szFindS_con), (8, con spec_SeenAtVisits_con), (9, con laws_toSea_con), (10, con laws_toFindS_con), (11, conG impl_SeenAtVisits_con), (12, con laws_eqFindS_con), (14, con laws_heldFindS_con)] [] [])
theorem laws_FnExactSeenAtVisits_ans (N : Nat) (a0 : Array Value) (a2 : Int) (g_e0 : Addr) (g_e1 : Addr) (g_e2 : Addr) (g_e3 : Addr) (g_e4 : Addr) (b_a1 : Option (Option Addr)) (n_a1 : Nat) (a1 : Array Value) : ansV Tryd.prog laws_FnExactSeenAtVisits_G N Tryd.f3 [] [.g a0 28, .l 5, .i .i64 (a2)] [.gl 0 212 g_e0 36452, .gl 1 212 g_e1 27809, .gl 2 212 g_e2 46794, .gl 3 212 g_e3 59197, .gl 4 212 g_e4 28733, .sl (.came b_a1) n_a1 a1 67] = (bif decide ((laws_szFindS_v0 (1048576 : Int) b_a1 n_a1 a1) < (0 : Int)) then (some (.a (.b (true)), .none, true))
    else (bif decide (n_a1 ≤ 1048576) then (bif decide (n_a1 ≤ 1048576) then (bif (!((decide (((svN a0 n_a1 a1 a2)) = ((svN a0 n_a1 a1 a2))) && sameB (svA a0 n_a1 a1 a2) (svA a0 n_a1 a1 a2)))) then (some (.a (.b (false)), .none, true))
          else (bif ((svE a0 n_a1 a1 a2) != (svE a0 n_a1 a1 a2)) then (some (.a (.b (false)), .none, true))
            else (bif decide (n_a1 ≤ 1048576) then (bif (!((decide (n_a1 = n_a1) && sameB a1 a1))) then (some (.a (.b (false)), .none, true))
                else (bif Nat.beq n_a1 0 then (bif (!((decide (((svN a0 n_a1 a1 a2)) = ((svN a0 n_a1 a1 a2))) && sameB (svA a0 n_a1 a1 a2) (svA a0 n_a1 a1 a2)))) then (some (.a (.b (false)), .none, true))
                    else (bif ((svE a0 n_a1 a1 a2) != (svE a0 n_a1 a1 a2)) then (some (.a (.b (false)), .none, true))
                      else (bif Nat.beq ((svN a0 n_a1 a1 a2)) 0 then (bif ((Nat.ble ((svN a0 n_a1 a1 a2)) 100000) && ((decide (0 ≤ (1 : Int)) && decide ((1 : Int) ≤ 1000000)) && sameB (svA a0 n_a1 a1 a2) (mk8 (((svN a0 n_a1 a1 a2)) * 2) (1 : Int)))) then (bif decide (((1 : Int) + ((((svN a0 n_a1 a1 a2)) * 2 : Nat) : Int)) < (0 : Int)) then (some (.a (.b (false)), .none, true))
                            else (bif (((1 : Int) + ((((svN a0 n_a1 a1 a2)) * 2 : Nat) : Int)) != (1 : Int)) then (some (.a (.b (false)), .none, true))
                              else (bif decide (n_a1 ≤ 1048576) then (bif (!((decide (((svN a0 n_a1 a1 a2)) = ((svN a0 n_a1 a1 a2))) && sameB (svA a0 n_a1 a1 a2) (svA a0 n_a1 a1 a2)))) then (some (.a (.b (false)), .none, true))
                                  else (bif ((svE a0 n_a1 a1 a2) != (svE a0 n_a1 a1 a2)) then (some (.a (.b (false)), .none, true))
                                    else (bif ((Nat.ble ((svN a0 n_a1 a1 a2)) 100000) && ((decide (0 ≤ (1 : Int)) && decide ((1 : Int) ≤ 1000000)) && sameB (svA a0 n_a1 a1 a2) (mk8 (((svN a0 n_a1 a1 a2)) * 2) (1 : Int)))) then (bif decide (((1 : Int) + ((((svN a0 n_a1 a1 a2)) * 2 : Nat) : Int)) < (0 : Int)) then (some (.a (.b (false)), .none, true))
                                        else (bif (((1 : Int) + ((((svN a0 n_a1 a1 a2)) * 2 : Nat) : Int)) != (1 : Int)) then (some (.a (.b (false)), .none, true))
                                          else (some (.a (.b (true)), .none, true))))
                                      else (none))))
                                else (none))))
                          else (none))
                        else (bif ((Nat.ble ((svN a0 n_a1 a1 a2)) 2000000) && (decide (0 ≤ (1 : Int)) && decide ((1 : Int) ≤ 1000000))) then (bif ((Nat.ble ((svN a0 n_a1 a1 a2)) 100000) && ((decide (0 ≤ (1 : Int)) && decide ((1 : Int) ≤ 1000000)) && sameB (mk8 (((svN a0 n_a1 a1 a2)) * 2) (1 : Int)) (mk8 (((svN a0 n_a1 a1 a2)) * 2) (1 : Int)))) then (bif decide (((1 : Int) + ((((svN a0 n_a1 a1 a2)) * 2 : Nat) : Int)) < (0 : Int)) then (some (.a (.b (false)), .none, true))
                              else (bif (((1 : Int) + ((((svN a0 n_a1 a1 a2)) * 2 : Nat) : Int)) != ((1 : Int) + ((((svN a0 n_a1 a1 a2)) * 2 : Nat) : Int))) then (some (.a (.b (false)), .none, true))
                                else (bif decide (n_a1 ≤ 1048576) then (bif (!((decide (((svN a0 n_a1 a1 a2)) = ((svN a0 n_a1 a1 a2))) && sameB (svA a0 n_a1 a1 a2) (svA a0 n_a1 a1 a2)))) then (some (.a (.b (false)), .none, true))
                                    else (bif ((svE a0 n_a1 a1 a2) != (svE a0 n_a1 a1 a2)) then (some (.a (.b (false)), .none, true))
                                      else (bif ((Nat.ble ((svN a0 n_a1 a1 a2)) 100000) && ((decide (0 ≤ (1 : Int)) && decide ((1 : Int) ≤ 1000000)) && sameB (mk8 (((svN a0 n_a1 a1 a2)) * 2) (1 : Int)) (mk8 (((svN a0 n_a1 a1 a2)) * 2) (1 : Int)))) then (bif decide (((1 : Int) + ((((svN a0 n_a1 a1 a2)) * 2 : Nat) : Int)) < (0 : Int)) then (some (.a (.b (false)), .none, true))
                                          else (bif (((1 : Int) + ((((svN a0 n_a1 a1 a2)) * 2 : Nat) : Int)) != ((1 : Int) + ((((svN a0 n_a1 a1 a2)) * 2 : Nat) : Int))) then (some (.a (.b (false)), .none, true))
                                            else (some (.a (.b (true)), .none, true))))
                                        else (none))))
                                  else (none))))
                            else (none))
                          else (none)))))
                  else (bif ((Nat.ble n_a1 2000000) && (decide (0 ≤ (1 : Int)) && decide ((1 : Int) ≤ 1000000))) then (bif decide (((1 : Int) + ((n_a1 * 2 : Nat) : Int)) < (0 : Int)) then (some (.a (.b (false)), .none, true))
                      else (bif (!((decide (((svN a0 n_a1 a1 a2)) = ((svN a0 n_a1 a1 a2))) && sameB (svA a0 n_a1 a1 a2) (svA a0 n_a1 a1 a2)))) then (some (.a (.b (false)), .none, true))
                        else (bif ((svE a0 n_a1 a1 a2) != (svE a0 n_a1 a1 a2)) then (some (.a (.b (false)), .none, true))
                          else (bif Nat.beq ((svN a0 n_a1 a1 a2)) 0 then (bif ((Nat.ble ((svN a0 n_a1 a1 a2)) 100000) && ((decide (0 ≤ (1 : Int)) && decide ((1 : Int) ≤ 1000000)) && sameB (svA a0 n_a1 a1 a2) (mk8 (((svN a0 n_a1 a1 a2)) * 2) (1 : Int)))) then (bif decide (((1 : Int) + ((((svN a0 n_a1 a1 a2)) * 2 : Nat) : Int)) < (0 : Int)) then (some (.a (.b (false)), .none, true))
                                else (bif (((1 : Int) + ((((svN a0 n_a1 a1 a2)) * 2 : Nat) : Int)) != (1 : Int)) then (some (.a (.b (false)), .none, true))
                                  else (bif decide (n_a1 ≤ 1048576) then (bif (!((decide (((svN a0 n_a1 a1 a2)) = ((svN a0 n_a1 a1 a2))) && sameB (svA a0 n_a1 a1 a2) (svA a0 n_a1 a1 a2)))) then (some (.a (.b (false)), .none, true))
                                      else (bif ((svE a0 n_a1 a1 a2) != (svE a0 n_a1 a1 a2)) then (some (.a (.b (false)), .none, true))
                                        else (bif ((Nat.ble ((svN a0 n_a1 a1 a2)) 100000) && ((decide (0 ≤ (1 : Int)) && decide ((1 : Int) ≤ 1000000)) && sameB (svA a0 n_a1 a1 a2) (mk8 (((svN a0 n_a1 a1 a2)) * 2) (1 : Int)))) then (bif decide (((1 : Int) + ((((svN a0 n_a1 a1 a2)) * 2 : Nat) : Int)) < (0 : Int)) then (some (.a (.b (false)), .none, true))
                                            else (bif (((1 : Int) + ((((svN a0 n_a1 a1 a2)) * 2 : Nat) : Int)) != (1 : Int)) then (some (.a (.b (false)), .none, true))
                                              else (some (.a (.b (true)), .none, true))))
                                          else (none))))
                                    else (none))))
                              else (none))
                            else (bif ((Nat.ble ((svN a0 n_a1 a1 a2)) 2000000) && (decide (0 ≤ (1 : Int)) && decide ((1 : Int) ≤ 1000000))) then (bif ((Nat.ble ((svN a0 n_a1 a1 a2)) 100000) && ((decide (0 ≤ (1 : Int)) && decide ((1 : Int) ≤ 1000000)) && sameB (mk8 (((svN a0 n_a1 a1 a2)) * 2) (1 : Int)) (mk8 (((svN a0 n_a1 a1 a2)) * 2) (1 : Int)))) then (bif decide (((1 : Int) + ((((svN a0 n_a1 a1 a2)) * 2 : Nat) : Int)) < (0 : Int)) then (some (.a (.b (false)), .none, true))
                                  else (bif (((1 : Int) + ((((svN a0 n_a1 a1 a2)) * 2 : Nat) : Int)) != ((1 : Int) + ((((svN a0 n_a1 a1 a2)) * 2 : Nat) : Int))) then (some (.a (.b (false)), .none, true))
                                    else (bif decide (n_a1 ≤ 1048576) then (bif (!((decide (((svN a0 n_a1 a1 a2)) = ((svN a0 n_a1 a1 a2))) && sameB (svA a0 n_a1 a1 a2) (svA a0 n_a1 a1 a2)))) then (some (.a (.b (false)), .none, true))
                                        else (bif ((svE a0 n_a1 a1 a2) != (svE a0 n_a1 a1 a2)) then (some (.a (.b (false)), .none, true))
                                          else (bif ((Nat.ble ((svN a0 n_a1 a1 a2)) 100000) && ((decide (0 ≤ (1 : Int)) && decide ((1 : Int) ≤ 1000000)) && sameB (mk8 (((svN a0 n_a1 a1 a2)) * 2) (1 : Int)) (mk8 (((svN a0 n_a1 a1 a2)) * 2) (1 : Int)))) then (bif decide (((1 : Int) + ((((svN a0 n_a1 a1 a2)) * 2 : Nat) : Int)) < (0 : Int)) then (some (.a (.b (false)), .none, true))
                                              else (bif (((1 : Int) + ((((svN a0 n_a1 a1 a2)) * 2 : Nat) : Int)) != ((1 : Int) + ((((svN a0 n_a1 a1 a2)) * 2 : Nat) : Int))) then (some (.a (.b (false)), .none, true))
                                                else (some (.a (.b (true)), .none, true))))
                                            else (none))))
                                      else (none))))
                                else (none))
                              else (none))))))
                    else (none))))
              else (none))))
        else (none))
      else (none))) := by kernel_rfl

noncomputable def laws_FnExactSeenAtVisits_v0 (a0 : Array Value) (a2 : Int) (g_e0 : Addr) (g_e1 : Addr) (g_e2 : Addr) (g_e3 : Addr) (g_e4 : Addr) (b_a1 : Option (Option Addr)) (n_a1 : Nat) (a1 : Array Value) : Bool := (bif decide ((laws_szFindS_v0 (1048576 : Int) b_a1 n_a1 a1) < (0 : Int)) then true else (bif (!((decide (((svN a0 n_a1 a1 a2)) = ((svN a0 n_a1 a1 a2))) && sameB (svA a0 n_a1 a1 a2) (svA a0 n_a1 a1 a2)))) then false else (bif ((svE a0 n_a1 a1 a2) != (svE a0 n_a1 a1 a2)) then false else (bif (!((decide (n_a1 = n_a1) && sameB a1 a1))) then false else (bif Nat.beq n_a1 0 then (bif (!((decide (((svN a0 n_a1 a1 a2)) = ((svN a0 n_a1 a1 a2))) && sameB (svA a0 n_a1 a1 a2) (svA a0 n_a1 a1 a2)))) then false else (bif ((svE a0 n_a1 a1 a2) != (svE a0 n_a1 a1 a2)) then false else (bif Nat.beq ((svN a0 n_a1 a1 a2)) 0 then (bif decide (((1 : Int) + ((((svN a0 n_a1 a1 a2)) * 2 : Nat) : Int)) < (0 : Int)) then false else (bif (((1 : Int) + ((((svN a0 n_a1 a1 a2)) * 2 : Nat) : Int)) != (1 : Int)) then false else (bif (!((decide (((svN a0 n_a1 a1 a2)) = ((svN a0 n_a1 a1 a2))) && sameB (svA a0 n_a1 a1 a2) (svA a0 n_a1 a1 a2)))) then false else (bif ((svE a0 n_a1 a1 a2) != (svE a0 n_a1 a1 a2)) then false else (bif decide (((1 : Int) + ((((svN a0 n_a1 a1 a2)) * 2 : Nat) : Int)) < (0 : Int)) then false else (bif (((1 : Int) + ((((svN a0 n_a1 a1 a2)) * 2 : Nat) : Int)) != (1 : Int)) then false else true)))))) else (bif decide (((1 : Int) + ((((svN a0 n_a1 a1 a2)) * 2 : Nat) : Int)) < (0 : Int)) then false else (bif (((1 : Int) + ((((svN a0 n_a1 a1 a2)) * 2 : Nat) : Int)) != ((1 : Int) + ((((svN a0 n_a1 a1 a2)) * 2 : Nat) : Int))) then false else (bif (!((decide (((svN a0 n_a1 a1 a2)) = ((svN a0 n_a1 a1 a2))) && sameB (svA a0 n_a1 a1 a2) (svA a0 n_a1 a1 a2)))) then false else (bif ((svE a0 n_a1 a1 a2) != (svE a0 n_a1 a1 a2)) then false else (bif decide (((1 : Int) + ((((svN a0 n_a1 a1 a2)) * 2 : Nat) : Int)) < (0 : Int)) then false else (bif (((1 : Int) + ((((svN a0 n_a1 a1 a2)) * 2 : Nat) : Int)) != ((1 : Int) + ((((svN a0 n_a1 a1 a2)) * 2 : Nat) : Int))) then false else true))))))))) else (bif decide (((1 : Int) + ((n_a1 * 2 : Nat) : Int)) < (0 : Int)) then false else (bif (!((decide (((svN a0 n_a1 a1 a2)) = ((svN a0 n_a1 a1 a2))) && sameB (svA a0 n_a1 a1 a2) (svA a0 n_a1 a1 a2)))) then false else (bif ((svE a0 n_a1 a1 a2) != (svE a0 n_a1 a1 a2)) then false else (bif Nat.beq ((svN a0 n_a1 a1 a2)) 0 then (bif decide (((1 : Int) + ((((svN a0 n_a1 a1 a2)) * 2 : Nat) : Int)) < (0 : Int)) then false else (bif (((1 : Int) + ((((svN a0 n_a1 a1 a2)) * 2 : Nat) : Int)) != (1 : Int)) then false else (bif (!((decide (((svN a0 n_a1 a1 a2)) = ((svN a0 n_a1 a1 a2))) && sameB (svA a0 n_a1 a1 a2) (svA a0 n_a1 a1 a2)))) then false else (bif ((svE a0 n_a1 a1 a2) != (svE a0 n_a1 a1 a2)) then false else (bif decide (((1 : Int) + ((((svN a0 n_a1 a1 a2)) * 2 : Nat) : Int)) < (0 : Int)) then false else (bif (((1 : Int) + ((((svN a0 n_a1 a1 a2)) * 2 : Nat) : Int)) != (1 : Int)) then false else true)))))) else (bif decide (((1 : Int) + ((((svN a0 n_a1 a1 a2)) * 2 : Nat) : Int)) < (0 : Int)) then false else (bif (((1 : Int) + ((((svN a0 n_a1 a1 a2)) * 2 : Nat) : Int)) != ((1 : Int) + ((((svN a0 n_a1 a1 a2)) * 2 : Nat) : Int))) then false else (bif (!((decide (((svN a0 n_a1 a1 a2)) = ((svN a0 n_a1 a1 a2))) && sameB (svA a0 n_a1 a1 a2) (svA a0 n_a1 a1 a2)))) then false else (bif ((svE a0 n_a1 a1 a2) != (svE a0 n_a1 a1 a2)) then false else (bif decide (((1 : Int) + ((((svN a0 n_a1 a1 a2)) * 2 : Nat) : Int)) < (0 : Int)) then false else (bif (((1 : Int) + ((((svN a0 n_a1 a1 a2)) * 2 : Nat) : Int)) != ((1 : Int) + ((((svN a0 n_a1 a1 a2)) * 2 : Nat) : Int))) then false else true)))))))))))))))
noncomputable def laws_FnExactSeenAtVisits_gd (a0 : Array Value) (a2 : Int) (g_e0 : Addr) (g_e1 : Addr) (g_e2 : Addr) (g_e3 : Addr) (g_e4 : Addr) (b_a1 : Option (Option Addr)) (n_a1 : Nat) (a1 : Array Value) : Bool := (bif decide ((laws_szFindS_v0 (1048576 : Int) b_a1 n_a1 a1) < (0 : Int)) then true else (bif decide (n_a1 ≤ 1048576) then (bif decide (n_a1 ≤ 1048576) then (bif (!((decide (((svN a0 n_a1 a1 a2)) = ((svN a0 n_a1 a1 a2))) && sameB (svA a0 n_a1 a1 a2) (svA a0 n_a1 a1 a2)))) then true else (bif ((svE a0 n_a1 a1 a2) != (svE a0 n_a1 a1 a2)) then true else (bif decide (n_a1 ≤ 1048576) then (bif (!((decide (n_a1 = n_a1) && sameB a1 a1))) then true else (bif Nat.beq n_a1 0 then (bif (!((decide (((svN a0 n_a1 a1 a2)) = ((svN a0 n_a1 a1 a2))) && sameB (svA a0 n_a1 a1 a2) (svA a0 n_a1 a1 a2)))) then true else (bif ((svE a0 n_a1 a1 a2) != (svE a0 n_a1 a1 a2)) then true else (bif Nat.beq ((svN a0 n_a1 a1 a2)) 0 then (bif ((Nat.ble ((svN a0 n_a1 a1 a2)) 100000) && ((decide (0 ≤ (1 : Int)) && decide ((1 : Int) ≤ 1000000)) && sameB (svA a0 n_a1 a1 a2) (mk8 (((svN a0 n_a1 a1 a2)) * 2) (1 : Int)))) then (bif decide (((1 : Int) + ((((svN a0 n_a1 a1 a2)) * 2 : Nat) : Int)) < (0 : Int)) then true else (bif (((1 : Int) + ((((svN a0 n_a1 a1 a2)) * 2 : Nat) : Int)) != (1 : Int)) then true else (bif decide (n_a1 ≤ 1048576) then (bif (!((decide (((svN a0 n_a1 a1 a2)) = ((svN a0 n_a1 a1 a2))) && sameB (svA a0 n_a1 a1 a2) (svA a0 n_a1 a1 a2)))) then true else (bif ((svE a0 n_a1 a1 a2) != (svE a0 n_a1 a1 a2)) then true else ((Nat.ble ((svN a0 n_a1 a1 a2)) 100000) && ((decide (0 ≤ (1 : Int)) && decide ((1 : Int) ≤ 1000000)) && sameB (svA a0 n_a1 a1 a2) (mk8 (((svN a0 n_a1 a1 a2)) * 2) (1 : Int)))))) else false))) else false) else (bif ((Nat.ble ((svN a0 n_a1 a1 a2)) 2000000) && (decide (0 ≤ (1 : Int)) && decide ((1 : Int) ≤ 1000000))) then (bif ((Nat.ble ((svN a0 n_a1 a1 a2)) 100000) && ((decide (0 ≤ (1 : Int)) && decide ((1 : Int) ≤ 1000000)) && sameB (mk8 (((svN a0 n_a1 a1 a2)) * 2) (1 : Int)) (mk8 (((svN a0 n_a1 a1 a2)) * 2) (1 : Int)))) then (bif decide (((1 : Int) + ((((svN a0 n_a1 a1 a2)) * 2 : Nat) : Int)) < (0 : Int)) then true else (bif (((1 : Int) + ((((svN a0 n_a1 a1 a2)) * 2 : Nat) : Int)) != ((1 : Int) + ((((svN a0 n_a1 a1 a2)) * 2 : Nat) : Int))) then true else (bif decide (n_a1 ≤ 1048576) then (bif (!((decide (((svN a0 n_a1 a1 a2)) = ((svN a0 n_a1 a1 a2))) && sameB (svA a0 n_a1 a1 a2) (svA a0 n_a1 a1 a2)))) then true else (bif ((svE a0 n_a1 a1 a2) != (svE a0 n_a1 a1 a2)) then true else ((Nat.ble ((svN a0 n_a1 a1 a2)) 100000) && ((decide (0 ≤ (1 : Int)) && decide ((1 : Int) ≤ 1000000)) && sameB (mk8 (((svN a0 n_a1 a1 a2)) * 2) (1 : Int)) (mk8 (((svN a0 n_a1 a1 a2)) * 2) (1 : Int)))))) else false))) else false) else false)))) else (bif ((Nat.ble n_a1 2000000) && (decide (0 ≤ (1 : Int)) && decide ((1 : Int) ≤ 1000000))) then (bif decide (((1 : Int) + ((n_a1 * 2 : Nat) : Int)) < (0 : Int)) then true else (bif (!((decide (((svN a0 n_a1 a1 a2)) = ((svN a0 n_a1 a1 a2))) && sameB (svA a0 n_a1 a1 a2) (svA a0 n_a1 a1 a2)))) then true else (bif ((svE a0 n_a1 a1 a2) != (svE a0 n_a1 a1 a2)) then true else (bif Nat.beq ((svN a0 n_a1 a1 a2)) 0 then (bif ((Nat.ble ((svN a0 n_a1 a1 a2)) 100000) && ((decide (0 ≤ (1 : Int)) && decide ((1 : Int) ≤ 1000000)) && sameB (svA a0 n_a1 a1 a2) (mk8 (((svN a0 n_a1 a1 a2)) * 2) (1 : Int)))) then (bif decide (((1 : Int) + ((((svN a0 n_a1 a1 a2)) * 2 : Nat) : Int)) < (0 : Int)) then true else (bif (((1 : Int) + ((((svN a0 n_a1 a1 a2)) * 2 : Nat) : Int)) != (1 : Int)) then true else (bif decide (n_a1 ≤ 1048576) then (bif (!((decide (((svN a0 n_a1 a1 a2)) = ((svN a0 n_a1 a1 a2))) && sameB (svA a0 n_a1 a1 a2) (svA a0 n_a1 a1 a2)))) then true else (bif ((svE a0 n_a1 a1 a2) != (svE a0 n_a1 a1 a2)) then true else ((Nat.ble ((svN a0 n_a1 a1 a2)) 100000) && ((decide (0 ≤ (1 : Int)) && decide ((1 : Int) ≤ 1000000)) && sameB (svA a0 n_a1 a1 a2) (mk8 (((svN a0 n_a1 a1 a2)) * 2) (1 : Int)))))) else false))) else false) else (bif ((Nat.ble ((svN a0 n_a1 a1 a2)) 2000000) && (decide (0 ≤ (1 : Int)) && decide ((1 : Int) ≤ 1000000))) then (bif ((Nat.ble ((svN a0 n_a1 a1 a2)) 100000) && ((decide (0 ≤ (1 : Int)) && decide ((1 : Int) ≤ 1000000)) && sameB (mk8 (((svN a0 n_a1 a1 a2)) * 2) (1 : Int)) (mk8 (((svN a0 n_a1 a1 a2)) * 2) (1 : Int)))) then (bif decide (((1 : Int) + ((((svN a0 n_a1 a1 a2)) * 2 : Nat) : Int)) < (0 : Int)) then true else (bif (((1 : Int) + ((((svN a0 n_a1 a1 a2)) * 2 : Nat) : Int)) != ((1 : Int) + ((((svN a0 n_a1 a1 a2)) * 2 : Nat) : Int))) then true else (bif decide (n_a1 ≤ 1048576) then (bif (!((decide (((svN a0 n_a1 a1 a2)) = ((svN a0 n_a1 a1 a2))) && sameB (svA a0 n_a1 a1 a2) (svA a0 n_a1 a1 a2)))) then true else (bif ((svE a0 n_a1 a1 a2) != (svE a0 n_a1 a1 a2)) then true else ((Nat.ble ((svN a0 n_a1 a1 a2)) 100000) && ((decide (0 ≤ (1 : Int)) && decide ((1 : Int) ≤ 1000000)) && sameB (mk8 (((svN a0 n_a1 a1 a2)) * 2) (1 : Int)) (mk8 (((svN a0 n_a1 a1 a2)) * 2) (1 : Int)))))) else false))) else false) else false))))) else false))) else false))) else false) else false))

theorem laws_FnExactSeenAtVisits_main (a0 : Array Value) (a2 : Int) (g_e0 : Addr) (g_e1 : Addr) (g_e2 : Addr) (g_e3 : Addr) (g_e4 : Addr) (b_a1 : Option (Option Addr)) (n_a1 : Nat) (a1 : Array Value) (h_a0 : WT Tryd.prog 28 a0) (h_a2 : IntKind.i64.min ≤ a2 ∧ a2 ≤ IntKind.i64.max) (h_a1 : a1.size = n_a1 * (lay Tryd.prog 67).length ∧ (∀ k, k < n_a1 → WT Tryd.prog 67 (a1.extract (k * (lay Tryd.prog 67).length) (k * (lay Tryd.prog 67).length + (lay Tryd.prog 67).length))) ∧ n_a1 ≤ 9223372036854775807) (hg : ((laws_FnExactSeenAtVisits_gd a0 a2 g_e0 g_e1 g_e2 g_e3 g_e4 b_a1 n_a1 a1)) = true) : ansV Tryd.prog laws_FnExactSeenAtVisits_G 1000 Tryd.f3 [] [.g a0 28, .l 5, .i .i64 (a2)] [.gl 0 212 g_e0 36452, .gl 1 212 g_e1 27809, .gl 2 212 g_e2 46794, .gl 3 212 g_e3 59197, .gl 4 212 g_e4 28733, .sl (.came b_a1) n_a1 a1 67] = some (.a (.b ((laws_FnExactSeenAtVisits_v0 a0 a2 g_e0 g_e1 g_e2 g_e3 g_e4 b_a1 n_a1 a1))), .none, true) := by
  refine (laws_FnExactSeenAtVisits_ans 1000 a0 a2 g_e0 g_e1 g_e2 g_e3 g_e4 b_a1 n_a1 a1).trans ?_
  unfold laws_FnExactSeenAtVisits_gd at hg
  unfold laws_FnExactSeenAtVisits_v0
  revert hg
  generalize (decide ((laws_szFindS_v0 (1048576 : Int) b_a1 n_a1 a1) < (0 : Int))) = b2
  intro hg
  cases b2
  · skip
    revert hg
    generalize (decide (n_a1 ≤ 1048576)) = b4
    intro hg
    cases b4
    · skip
      first | exact (nomatch (hg : false = true)) | (simp only [cond_true, cond_false, Bool.and_true, Bool.true_and, Bool.and_false, Bool.false_and]; done) | rfl
    · skip
      revert hg
      generalize ((!((decide (((svN a0 n_a1 a1 a2)) = ((svN a0 n_a1 a1 a2))) && sameB (svA a0 n_a1 a1 a2) (svA a0 n_a1 a1 a2))))) = b6
      intro hg
      cases b6
      · skip
        revert hg
        generalize (((svE a0 n_a1 a1 a2) != (svE a0 n_a1 a1 a2))) = b8
        intro hg
        cases b8
        · skip
          revert hg
          generalize ((!((decide (n_a1 = n_a1) && sameB a1 a1)))) = b10
          intro hg
          cases b10
          · skip
            revert hg
            generalize (Nat.beq n_a1 0) = b12
            intro hg
            cases b12
            · skip
              revert hg
              generalize (((Nat.ble n_a1 2000000) && (decide (0 ≤ (1 : Int)) && decide ((1 : Int) ≤ 1000000)))) = b14
              intro hg
              cases b14
              · skip
                first | exact (nomatch (hg : false = true)) | (simp only [cond_true, cond_false, Bool.and_true, Bool.true_and, Bool.and_false, Bool.false_and]; done) | rfl
              · skip
                revert hg
                generalize (decide (((1 : Int) + ((n_a1 * 2 : Nat) : Int)) < (0 : Int))) = b16
                intro hg
                cases b16
                · skip
                  revert hg
                  generalize (Nat.beq ((svN a0 n_a1 a1 a2)) 0) = b18
                  intro hg
                  cases b18
                  · skip
                    revert hg
                    generalize (((Nat.ble ((svN a0 n_a1 a1 a2)) 2000000) && (decide (0 ≤ (1 : Int)) && decide ((1 : Int) ≤ 1000000)))) = b20
                    intro hg
                    cases b20
                    · skip
                      first | exact (nomatch (hg : false = true)) | (simp only [cond_true, cond_false, Bool.and_true, Bool.true_and, Bool.and_false, Bool.false_and]; done) | rfl
                    · skip
                      revert hg
                      generalize (((Nat.ble ((svN a0 n_a1 a1 a2)) 100000) && ((decide (0 ≤ (1 : Int)) && decide ((1 : Int) ≤ 1000000)) && sameB (mk8 (((svN a0 n_a1 a1 a2)) * 2) (1 : Int)) (mk8 (((svN a0 n_a1 a1 a2)) * 2) (1 : Int))))) = b22
                      intro hg
                      cases b22
                      · skip
                        first | exact (nomatch (hg : false = true)) | (simp only [cond_true, cond_false, Bool.and_true, Bool.true_and, Bool.and_false, Bool.false_and]; done) | rfl
                      · skip
                        revert hg
                        generalize (decide (((1 : Int) + ((((svN a0 n_a1 a1 a2)) * 2 : Nat) : Int)) < (0 : Int))) = b24
                        intro hg
                        cases b24
                        · skip
                          revert hg
                          generalize ((((1 : Int) + ((((svN a0 n_a1 a1 a2)) * 2 : Nat) : Int)) != ((1 : Int) + ((((svN a0 n_a1 a1 a2)) * 2 : Nat) : Int)))) = b26
                          intro hg
                          cases b26
                          · skip
                            first | (simp only [cond_true, cond_false, Bool.and_true, Bool.true_and, Bool.and_false, Bool.false_and]; done) | rfl | exact (nomatch (hg : false = true))
                          · skip
                            first | (simp only [cond_true, cond_false, Bool.and_true, Bool.true_and, Bool.and_false, Bool.false_and]; done) | rfl | exact (nomatch (hg : false = true))
                        · skip
                          first | (simp only [cond_true, cond_false, Bool.and_true, Bool.true_and, Bool.and_false, Bool.false_and]; done) | rfl | exact (nomatch (hg : false = true))
                  · skip
                    revert hg
                    generalize (((Nat.ble ((svN a0 n_a1 a1 a2)) 100000) && ((decide (0 ≤ (1 : Int)) && decide ((1 : Int) ≤ 1000000)) && sameB (svA a0 n_a1 a1 a2) (mk8 (((svN a0 n_a1 a1 a2)) * 2) (1 : Int))))) = b20
                    intro hg
                    cases b20
                    · skip
                      first | exact (nomatch (hg : false = true)) | (simp only [cond_true, cond_false, Bool.and_true, Bool.true_and, Bool.and_false, Bool.false_and]; done) | rfl
                    · skip
                      revert hg
                      generalize (decide (((1 : Int) + ((((svN a0 n_a1 a1 a2)) * 2 : Nat) : Int)) < (0 : Int))) = b22
                      intro hg
                      cases b22
                      · skip
                        revert hg
                        generalize ((((1 : Int) + ((((svN a0 n_a1 a1 a2)) * 2 : Nat) : Int)) != (1 : Int))) = b24
                        intro hg
                        cases b24
                        · skip
                          first | (simp only [cond_true, cond_false, Bool.and_true, Bool.true_and, Bool.and_false, Bool.false_and]; done) | rfl | exact (nomatch (hg : false = true))
                        · skip
                          first | (simp only [cond_true, cond_false, Bool.and_true, Bool.true_and, Bool.and_false, Bool.false_and]; done) | rfl | exact (nomatch (hg : false = true))
                      · skip
                        first | (simp only [cond_true, cond_false, Bool.and_true, Bool.true_and, Bool.and_false, Bool.false_and]; done) | rfl | exact (nomatch (hg : false = true))
                · skip
                  first | (simp only [cond_true, cond_false, Bool.and_true, Bool.true_and, Bool.and_false, Bool.false_and]; done) | rfl | exact (nomatch (hg : false = true))
            · skip
              revert hg
              generalize (Nat.beq ((svN a0 n_a1 a1 a2)) 0) = b14
              intro hg
              cases b14
              · skip
                revert hg
                generalize (((Nat.ble ((svN a0 n_a1 a1 a2)) 2000000) && (decide (0 ≤ (1 : Int)) && decide ((1 : Int) ≤ 1000000)))) = b16
                intro hg
                cases b16
                · skip
                  first | exact (nomatch (hg : false = true)) | (simp only [cond_true, cond_false, Bool.and_true, Bool.true_and, Bool.and_false, Bool.false_and]; done) | rfl
                · skip
                  revert hg
                  generalize (((Nat.ble ((svN a0 n_a1 a1 a2)) 100000) && ((decide (0 ≤ (1 : Int)) && decide ((1 : Int) ≤ 1000000)) && sameB (mk8 (((svN a0 n_a1 a1 a2)) * 2) (1 : Int)) (mk8 (((svN a0 n_a1 a1 a2)) * 2) (1 : Int))))) = b18
                  intro hg
                  cases b18
                  · skip
                    first | exact (nomatch (hg : false = true)) | (simp only [cond_true, cond_false, Bool.and_true, Bool.true_and, Bool.and_false, Bool.false_and]; done) | rfl
                  · skip
                    revert hg
                    generalize (decide (((1 : Int) + ((((svN a0 n_a1 a1 a2)) * 2 : Nat) : Int)) < (0 : Int))) = b20
                    intro hg
                    cases b20
                    · skip
                      revert hg
                      generalize ((((1 : Int) + ((((svN a0 n_a1 a1 a2)) * 2 : Nat) : Int)) != ((1 : Int) + ((((svN a0 n_a1 a1 a2)) * 2 : Nat) : Int)))) = b22
                      intro hg
                      cases b22
                      · skip
                        first | (simp only [cond_true, cond_false, Bool.and_true, Bool.true_and, Bool.and_false, Bool.false_and]; done) | rfl | exact (nomatch (hg : false = true))
                      · skip
                        first | (simp only [cond_true, cond_false, Bool.and_true, Bool.true_and, Bool.and_false, Bool.false_and]; done) | rfl | exact (nomatch (hg : false = true))
                    · skip
                      first | (simp only [cond_true, cond_false, Bool.and_true, Bool.true_and, Bool.and_false, Bool.false_and]; done) | rfl | exact (nomatch (hg : false = true))
              · skip
                revert hg
                generalize (((Nat.ble ((svN a0 n_a1 a1 a2)) 100000) && ((decide (0 ≤ (1 : Int)) && decide ((1 : Int) ≤ 1000000)) && sameB (svA a0 n_a1 a1 a2) (mk8 (((svN a0 n_a1 a1 a2)) * 2) (1 : Int))))) = b16
                intro hg
                cases b16
                · skip
                  first | exact (nomatch (hg : false = true)) | (simp only [cond_true, cond_false, Bool.and_true, Bool.true_and, Bool.and_false, Bool.false_and]; done) | rfl
                · skip
                  revert hg
                  generalize (decide (((1 : Int) + ((((svN a0 n_a1 a1 a2)) * 2 : Nat) : Int)) < (0 : Int))) = b18
                  intro hg
                  cases b18
                  · skip
                    revert hg
                    generalize ((((1 : Int) + ((((svN a0 n_a1 a1 a2)) * 2 : Nat) : Int)) != (1 : Int))) = b20
                    intro hg
                    cases b20
                    · skip
                      first | (simp only [cond_true, cond_false, Bool.and_true, Bool.true_and, Bool.and_false, Bool.false_and]; done) | rfl | exact (nomatch (hg : false = true))
                    · skip
                      first | (simp only [cond_true, cond_false, Bool.and_true, Bool.true_and, Bool.and_false, Bool.false_and]; done) | rfl | exact (nomatch (hg : false = true))
                  · skip
                    first | (simp only [cond_true, cond_false, Bool.and_true, Bool.true_and, Bool.and_false, Bool.false_and]; done) | rfl | exact (nomatch (hg : false = true))
          · skip
            first | (simp only [cond_true, cond_false, Bool.and_true, Bool.true_and, Bool.and_false, Bool.false_and]; done) | rfl | exact (nomatch (hg : false = true))
        · skip
          first | (simp only [cond_true, cond_false, Bool.and_true, Bool.true_and, Bool.and_false, Bool.false_and]; done) | rfl | exact (nomatch (hg : false = true))
      · skip
        first | (simp only [cond_true, cond_false, Bool.and_true, Bool.true_and, Bool.and_false, Bool.false_and]; done) | rfl | exact (nomatch (hg : false = true))
  · skip
    first | (simp only [cond_true, cond_false, Bool.and_true, Bool.true_and, Bool.and_false, Bool.false_and]; done) | rfl | exact (nomatch (hg : false = true))
noncomputable def laws_FnExactSeenAtVisits_con : Con := fun args h => match args, h with
  | [.g a0 28, .l 5, .i .i64 a2], [.gl 0 212 g_e0 36452, .gl 1 212 g_e1 27809, .gl 2 212 g_e2 46794, .gl 3 212 g_e3 59197, .gl 4 212 g_e4 28733, .sl (.came b_a1) n_a1 a1 67] => some (.a (.b ((laws_FnExactSeenAtVisits_v0 a0 a2 g_e0 g_e1 g_e2 g_e3 g_e4 b_a1 n_a1 a1))), .none, (laws_FnExactSeenAtVisits_gd a0 a2 g_e0 g_e1 g_e2 g_e3 g_e4 b_a1 n_a1 a1))
  | _, _ => none
theorem laws_FnExactSeenAtVisits_enter : ∀ args w, (callFunc 3 args).run Tryd.prog w = .ok (.enter 3 args) w := enter_ok (fn := Tryd.f3) (by kernel_rfl) (by kernel_rfl) (by kernel_rfl)
theorem laws_FnExactSeenAtVisits_ok : ConOk Tryd.prog 3 laws_FnExactSeenAtVisits_con := (ans_ok (N := 1000) (by kernel_rfl) (mkΓw_s (conSW_ok laws_markFindS_sok) laws_markFindS_enter (mkΓw_c (con_ok laws_szFindS_ok) laws_szFindS_enter (mkΓw_c (con_ok spec_SeenAtVisits_ok) spec_SeenAtVisits_enter (mkΓw_c (con_ok laws_toSea_ok) laws_toSea_enter (mkΓw_c (con_ok laws_toFindS_ok) laws_toFindS_enter (mkΓw_c (conG_ok impl_SeenAtVisits_ok) impl_SeenAtVisits_enter (mkΓw_c (con_ok laws_eqFindS_ok) laws_eqFindS_enter (mkΓw_c (con_ok laws_heldFindS_ok) laws_heldFindS_enter mkΓx_nil)))))))) (fn := Tryd.f3) (by kernel_rfl) (by kernel_rfl) []).of (by
  intro ρ h w args vals r e hA hH hr
  unfold laws_FnExactSeenAtVisits_con at hr
  split at hr
  · rename_i a0 a2 g_e0 g_e1 g_e2 g_e3 g_e4 b_a1 n_a1 a1
    obtain ⟨rfl, hg⟩ := Prod.mk.inj (Option.some.inj hr)
    obtain ⟨rfl, hg2⟩ := Prod.mk.inj hg
    exact laws_FnExactSeenAtVisits_main a0 a2 g_e0 g_e1 g_e2 g_e3 g_e4 b_a1 n_a1 a1 (hA.wt 0 rfl) (hA.rng 2 rfl) (hH.slw 5 rfl) hg2
  · cases hr)

theorem laws_FnExactSeenAtVisits_true (a0 : Array Value) (a2 : Int) (g_e0 : Addr) (g_e1 : Addr) (g_e2 : Addr) (g_e3 : Addr) (g_e4 : Addr) (b_a1 : Option (Option Addr)) (n_a1 : Nat) (a1 : Array Value) (h_a0 : WT Tryd.prog 28 a0) (h_a2 : IntKind.i64.min ≤ a2 ∧ a2 ≤ IntKind.i64.max) (h_a1 : n_a1 ≤ 9223372036854775807) : ((laws_FnExactSeenAtVisits_gd a0 a2 g_e0 g_e1 g_e2 g_e3 g_e4 b_a1 n_a1 a1)) = true ∧ ((laws_FnExactSeenAtVisits_v0 a0 a2 g_e0 g_e1 g_e2 g_e3 g_e4 b_a1 n_a1 a1)) = true := by
  have hN := svN_le a0 n_a1 a1 a2
  have hD := svA_size a0 n_a1 a1 a2
  unfold laws_FnExactSeenAtVisits_gd laws_FnExactSeenAtVisits_v0 laws_szFindS_v0
  generalize svN a0 n_a1 a1 a2 = n at hN hD ⊢
  generalize svA a0 n_a1 a1 a2 = D at hD ⊢
  generalize svE a0 n_a1 a1 a2 = c
  rw [IntWalk.i64_in (1048576 - (n_a1 : Int)) (by omega)]
  by_cases h : n_a1 ≤ 1048576
  · have e1 : decide ((1048576 : Int) - (n_a1 : Int) < 0) = false := decide_eq_false (by omega)
    have e3 : decide (n_a1 ≤ 1048576) = true := decide_eq_true h
    have b1 : Nat.ble n 100000 = true := Nat.ble_eq_true_of_le (by omega)
    have b2 : Nat.ble n_a1 2000000 = true := Nat.ble_eq_true_of_le (by omega)
    have b3 : Nat.ble n 2000000 = true := Nat.ble_eq_true_of_le (by omega)
    have c1 : decide (((1 : Int) + ((n * 2 : Nat) : Int)) < (0 : Int)) = false := decide_eq_false (by omega)
    have k1 : decide (((1 : Int) + ((n_a1 * 2 : Nat) : Int)) < (0 : Int)) = false := decide_eq_false (by omega)
    have c2 : decide (0 ≤ (1 : Int)) = true := rfl
    have c3 : decide ((1 : Int) ≤ 1000000) = true := rfl
    have c6 : decide ((1 : Int) < 0) = false := rfl
    cases hy : Nat.beq n_a1 0 <;> cases hz : Nat.beq n 0
    case false.true | true.true =>
      obtain rfl := Nat.eq_of_beq_eq_true hz
      obtain rfl : D = #[] := Array.eq_empty_of_size_eq_zero (by rw [hD])
      have c4 : ((1 : Int) + ((0 * 2 : Nat) : Int) != (1 : Int)) = false := rfl
      have c5 : mk8 (0 * 2) (1 : Int) = (#[] : Array Value) := rfl
      simp only [c4, c5, b1, b2, b3, e1, e3, c1, c2, c3, c6, k1, hy, decide_true, Bool.and_self, sameB_self, bne_self_eq_false, Bool.not_true, cond_false, cond_true, and_self]
    all_goals simp only [b1, b2, b3, e1, e3, c1, c2, c3, c6, k1, hy, decide_true, Bool.and_self, sameB_self, bne_self_eq_false, Bool.not_true, cond_false, cond_true, and_self]
  · have e1 : decide ((1048576 : Int) - (n_a1 : Int) < 0) = true := decide_eq_true (by omega)
    have e2 : decide ((-1 : Int) < 0) = true := by decide
    simp only [e1, e2, cond_true]
    exact ⟨trivial, trivial⟩

namespace lawFnExactSeenAtVisits
theorem own : ownKnob Tryd.prog.godebug = none := by kernel_rfl
theorem star : "*" ++ "errors.errorString" = "*errors.errorString" := by decide
theorem row_pe (u : TypeId) (h : Tryd.prog.typeName? 3 u = some "*errors.errorString") : u = 212 :=
  typeName_ptr_named (nm := "errors.errorString") (by rw [star]; kernel_rfl) (by kernel_rfl) (by decide) u (by rw [star]; exact h)
theorem n_e0 : Tryd.prog.globalNamed "loop.example/g01300/impl.errInvalid" = some 0 := by kernel_rfl
theorem t_e0 : (Tryd.prog.globals[0]?).map (·.type) = some 69 := by kernel_rfl
theorem n_e1 : Tryd.prog.globalNamed "loop.example/g01300/impl.errRange" = some 1 := by kernel_rfl
theorem t_e1 : (Tryd.prog.globals[1]?).map (·.type) = some 69 := by kernel_rfl
theorem n_e2 : Tryd.prog.globalNamed "loop.example/g01300/impl.errLimit" = some 2 := by kernel_rfl
theorem t_e2 : (Tryd.prog.globals[2]?).map (·.type) = some 69 := by kernel_rfl
theorem n_e3 : Tryd.prog.globalNamed "loop.example/g01300/impl.errState" = some 3 := by kernel_rfl
theorem t_e3 : (Tryd.prog.globals[3]?).map (·.type) = some 69 := by kernel_rfl
theorem n_e4 : Tryd.prog.globalNamed "loop.example/g01300/impl.errNotFound" = some 4 := by kernel_rfl
theorem t_e4 : (Tryd.prog.globals[4]?).map (·.type) = some 69 := by kernel_rfl

theorem laid_all {W : World} (h : laidMetH Tryd.prog Rows.fnExactSeenAtVisitsRow.laid W) : ∃ b0 b1 b2 b3 b4 : Addr, BIs Tryd.prog idA [] W ⟨0, 0⟩ (.gl 0 212 b0 36452) ∧ BIs Tryd.prog idA [] W ⟨0, 0⟩ (.gl 1 212 b1 27809) ∧ BIs Tryd.prog idA [] W ⟨0, 0⟩ (.gl 2 212 b2 46794) ∧ BIs Tryd.prog idA [] W ⟨0, 0⟩ (.gl 3 212 b3 59197) ∧ BIs Tryd.prog idA [] W ⟨0, 0⟩ (.gl 4 212 b4 28733) := by
  have h0 : laidMet Tryd.prog Rows.fnExactSeenAtVisitsRow.laid W := h
  have h1 := laidMet.tail h0
  have h2 := laidMet.tail h1
  have h3 := laidMet.tail h2
  have h4 := laidMet.tail h3
  obtain ⟨b0, k0⟩ := laid_gl h0 n_e0 t_e0 Tryd.underlying69 row_pe Tryd.underlying212 Tryd.underlying234 rfl rfl Tryd.underlying9 (by kernel_rfl) (by kernel_rfl)
  obtain ⟨b1, k1⟩ := laid_gl h1 n_e1 t_e1 Tryd.underlying69 row_pe Tryd.underlying212 Tryd.underlying234 rfl rfl Tryd.underlying9 (by kernel_rfl) (by kernel_rfl)
  obtain ⟨b2, k2⟩ := laid_gl h2 n_e2 t_e2 Tryd.underlying69 row_pe Tryd.underlying212 Tryd.underlying234 rfl rfl Tryd.underlying9 (by kernel_rfl) (by kernel_rfl)
  obtain ⟨b3, k3⟩ := laid_gl h3 n_e3 t_e3 Tryd.underlying69 row_pe Tryd.underlying212 Tryd.underlying234 rfl rfl Tryd.underlying9 (by kernel_rfl) (by kernel_rfl)
  obtain ⟨b4, k4⟩ := laid_gl h4 n_e4 t_e4 Tryd.underlying69 row_pe Tryd.underlying212 Tryd.underlying234 rfl rfl Tryd.underlying9 (by kernel_rfl) (by kernel_rfl)
  exact ⟨b0, b1, b2, b3, b4, k0, k1, k2, k3, k4⟩

noncomputable def low : Nat := (World.holding Tryd.prog default ⟨#[], #[], []⟩).heap.size
noncomputable def laidWorld (os : Os) : World :=
  let w0 := World.holding Tryd.prog os ⟨#[.cells #[.string ⟨(#[116, 104, 101, 32, 115, 101, 97, 32, 111, 114, 32, 116, 104, 101, 32, 102, 105, 110, 100, 115, 32, 97, 114, 101, 32, 110, 111, 116, 32, 118, 97, 108, 105, 100] : Array UInt8)⟩] 234, .cells #[.string ⟨(#[97, 32, 110, 117, 109, 98, 101, 114, 32, 105, 115, 32, 111, 117, 116, 32, 111, 102, 32, 105, 116, 115, 32, 114, 97, 110, 103, 101] : Array UInt8)⟩] 234, .cells #[.string ⟨(#[116, 104, 101, 114, 101, 32, 119, 111, 117, 108, 100, 32, 98, 101, 32, 116, 111, 111, 32, 109, 97, 110, 121, 32, 102, 105, 110, 100, 115] : Array UInt8)⟩] 234, .cells #[.string ⟨(#[108, 97, 110, 100, 32, 105, 115, 32, 119, 104, 101, 114, 101, 32, 119, 97, 116, 101, 114, 32, 104, 97, 115, 32, 116, 111, 32, 98, 101, 44, 32, 111, 114, 32, 119, 97, 116, 101, 114, 32, 119, 104, 101, 114, 101, 32, 108, 97, 110, 100, 32, 104, 97, 115, 32, 116, 111, 32, 98, 101] : Array UInt8)⟩] 234, .cells #[.string ⟨(#[116, 104, 101, 114, 101, 32, 105, 115, 32, 110, 111, 116, 104, 105, 110, 103, 32, 111, 102, 32, 116, 104, 105, 115, 32, 107, 105, 110, 100] : Array UInt8)⟩] 234], #[], []⟩
  { w0 with heap := ((((w0.heap.modify 0 fun
      | .cells _ t frozen => .cells #[.iface 212 (.pointer (some ⟨low + 0, 0, none⟩))] t frozen
      | o => o).modify 1 fun
      | .cells _ t frozen => .cells #[.iface 212 (.pointer (some ⟨low + 1, 0, none⟩))] t frozen
      | o => o).modify 2 fun
      | .cells _ t frozen => .cells #[.iface 212 (.pointer (some ⟨low + 2, 0, none⟩))] t frozen
      | o => o).modify 3 fun
      | .cells _ t frozen => .cells #[.iface 212 (.pointer (some ⟨low + 3, 0, none⟩))] t frozen
      | o => o).modify 4 fun
      | .cells _ t frozen => .cells #[.iface 212 (.pointer (some ⟨low + 4, 0, none⟩))] t frozen
      | o => o }
theorem laid_met (os : Os) (args : Array Value) : laidMet Tryd.prog Rows.fnExactSeenAtVisitsRow.laid ((laidWorld os).forCall (fun _ _ => 0) ⟨#[], args, []⟩).memory :=
  laidMet_of_run' 8 (by kernel_rfl) (by kernel_rfl)
theorem reads (os : Os) {H : Type} (enc : TypeId × Value → H) : ∃ x, DataW.whole enc Tryd.prog ((laidWorld os).forCall (fun _ _ => 0) ⟨#[], #[.agg (zc Tryd.prog 28), .slice none 0 0, .int .i64 0], []⟩).memory Tryd.f3.params.toList Rows.fnExactSeenAtVisitsSpec.vars false (#[.agg (zc Tryd.prog 28), .slice none 0 0, .int .i64 0] : Array Value).toList 8 = some x :=
  Option.isSome_iff_exists.1 (by kernel_rfl)
set_option maxRecDepth 100000 in
theorem lifted (os : Os) (started : os.Started) (H : Type) (enc : TypeId × Value → H) (Fi : Stop.Interp) :
    ReturnsInHanded {} Tryd.checked os 3 .any ((OpenSpec.ofChange Rows.fnExactSeenAtVisitsSpec).preRow enc Tryd.prog Tryd.f3 Rows.fnExactSeenAtVisitsRow.domain false Rows.fnExactSeenAtVisitsRow.laid) (((OpenSpec.ofChange Rows.fnExactSeenAtVisitsSpec).at Fi).post enc Tryd.prog Tryd.f3 false true false false) := by
  obtain ⟨x, hx⟩ := reads os enc
  refine law_laid (C := Tryd.checked) (tb := 4) own (by kernel_rfl) (by kernel_rfl) Tryd.func3 (by kernel_rfl) Tryd.underlying4 (of_decide_eq_true (by kernel_rfl)) (by kernel_rfl) ?_ os started H enc Fi
    (witness_row_at (enc := enc) (C := Tryd.checked) false (laidWorld os) #[.agg (zc Tryd.prog 28), .slice none 0 0, .int .i64 0] rfl (by kernel_rfl) (by kernel_rfl) (by kernel_rfl)
      (OpenSpec.preRow_of_cond 8 hx (by kernel_rfl) (fun k hk => by cases hk) (by kernel_rfl) (laid_met os _))) ?_
  · intro H ds gs hds hgs
    rw [show Tryd.f3.params.toList.length = 3 by kernel_rfl] at hds
    rw [show Rows.fnExactSeenAtVisitsSpec.vars.length = 5 by kernel_rfl] at hgs
    match ds, hds, gs, hgs with
    | [_, _, _], _, [_, _, _, _, _], _ => rfl
  · intro W base args ds ps hval hA hL
    obtain ⟨b0, b1, b2, b3, b4, k0, k1, k2, k3, k4⟩ := laid_all hL
    rw [Tryd.params3] at hA hval
    obtain ⟨v0, vs0, d0, ds0, p0, q0, ha0, rfl, rfl, h0, r0⟩ := trodAll_cons hA
    obtain ⟨v1, vs1, d1, ds1, p1, q1, rfl, rfl, rfl, h1, r1⟩ := trodAll_cons r0
    obtain ⟨v2, vs2, d2, ds2, p2, q2, rfl, rfl, rfl, h2, r2⟩ := trodAll_cons r1
    obtain ⟨rfl, rfl, rfl⟩ := trodAll_nil r2
    have hargs : args = #[v0, v1, v2] := by cases args; simp_all
    obtain ⟨a0, e0, w0⟩ := open_data (t := 28) 8 (by kernel_rfl) (by kernel_rfl) (hval 0 28 v0 rfl (by rw [hargs]; rfl)) h0
    obtain ⟨x_a1, n_a1, c_a1, a1, e1, w1⟩ := open_sl (P := Tryd.prog) (t := 29) (e := 67) 8 Tryd.underlying29 (by kernel_rfl) (by kernel_rfl) (Nat.lt_of_lt_of_eq (by decide : 0 < 2) (by kernel_rfl)) (okWide_slice Tryd.underlying29 (hval 1 29 v1 rfl (by rw [hargs]; rfl))) h1
    obtain ⟨a2, e2, _, _, w2⟩ := open_int Tryd.underlying2 (hval 2 2 v2 rfl (by rw [hargs]; rfl)) h2
    obtain rfl : args = #[.agg a0, .slice x_a1 n_a1 c_a1, .int .i64 a2] := by rw [hargs, e0, e1, e2]
    obtain ⟨hg, hv⟩ := laws_FnExactSeenAtVisits_true a0 a2 b0 b1 b2 b3 b4 (some x_a1) n_a1 a1 w0 (wfb w2) w1.2.2.1
    have hr : laws_FnExactSeenAtVisits_con [.g a0 28, .l 5, .i .i64 a2] [.gl 0 212 b0 36452, .gl 1 212 b1 27809, .gl 2 212 b2 46794, .gl 3 212 b3 59197, .gl 4 212 b4 28733, .sl (.came (some x_a1)) n_a1 a1 67] = some (.a (.b true), .none, true) := by
      show (some (SV.a (SA.b ((laws_FnExactSeenAtVisits_v0 a0 a2 b0 b1 b2 b3 b4 (some x_a1) n_a1 a1))), Eff.none, (laws_FnExactSeenAtVisits_gd a0 a2 b0 b1 b2 b3 b4 (some x_a1) n_a1 a1)) : Option (SV × Eff × Bool)) = _
      rw [hg, hv]
    exact calls_con2 laws_FnExactSeenAtVisits_ok hr W (vals := [.agg a0, .slice x_a1 n_a1 c_a1, .int .i64 a2]) (SlL.no (P := Tryd.prog) (W := W) (.gl k0 (.gl k1 (.gl k2 (.gl k3 (.gl k4 (.cons w1 .nil))))))) (SlL.his (P := Tryd.prog) (.gl k0 (.gl k1 (.gl k2 (.gl k3 (.gl k4 (.cons w1 .nil))))))) (allCons2 ⟨rfl, w0⟩ (allCons2 (is_came rfl) (allCons2 ⟨rfl, wfb w2⟩ (allNil2 _))))

theorem said : Rows.FnExactSeenAtVisitsSaid :=
  OpenClaim.holds_of_cond 3 Tryd.f3 rfl rfl rfl rfl rfl rfl rfl ⟨rfl, rfl, rfl, rfl, rfl⟩ rfl rfl rfl rfl rfl (by kernel_rfl) Tryd.func3 (by kernel_rfl)
    (of_decide_eq_true (by kernel_rfl)) (by unfold Func.isWrapper; first | (rw [if_pos (by decide +kernel)]; kernel_rfl) | (rw [if_neg (by decide +kernel)]; exact ⟨rfl, rfl⟩))
    (fun os started H enc _ Fi => by rw [OpenClaim.pre_eq_preRow]; exact lifted os started H enc Fi)
theorem plain (f : FuncId) (fn : Func) (hf : Tryd.pinned.checked.prog.funcNamed Rows.fnExactSeenAtVisitsRow.func = some f) (hfn : Tryd.pinned.checked.prog.funcs[f]? = some fn) :
    Rows.fnExactSeenAtVisitsCard.stood.looks = Tryd.pinned.checked.prog.looks [] ∧ ∀ (j : Nat) t, fn.params[j]? = some t → Tryd.pinned.checked.prog.wantsStandIn t = false := by
  obtain rfl : f = 3 := Option.some.inj ((show Tryd.prog.funcNamed Rows.fnExactSeenAtVisitsRow.func = some 3 by kernel_rfl).symm.trans hf) |>.symm
  obtain rfl : fn = Tryd.f3 := (Option.some.inj (Tryd.func3.symm.trans hfn)).symm
  refine ⟨by kernel_rfl, fun j t ht => ?_⟩
  have hall : ∀ t ∈ Tryd.f3.params.toList, Tryd.prog.wantsStandIn t = false := of_decide_eq_true (by kernel_rfl)
  exact hall t (by simpa using Array.mem_of_getElem? ht)
theorem proved : Rows.FnExactSeenAtVisitsCardSaid :=
  Claim7.holds_tied_plain_at .later [] _ _ _ _ said (fun _ h => by cases h) (by kernel_rfl) (fun _ h => by cases h) fnExactSeenAtVisits_row_tie rfl ⟨rfl, rfl⟩ (by kernel_rfl) rfl plain (by kernel_rfl)
#print axioms proved
end lawFnExactSeenAtVisits

end
end Go.Proofs.YthpcidnfbceliaaDoor
