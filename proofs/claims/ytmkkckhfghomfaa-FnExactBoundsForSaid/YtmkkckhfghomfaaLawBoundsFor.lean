/- For every sea and all numbers spec and program answer the same least bounds, in memory of their own. -/
import Derived.Test.YtmkkckhfghomfaaRows
import Derived.Test.YtmkkckhfghomfaaChecked
import Derived.Test.YtmkkckhfghomfaaBase
import Derived.Test.YtmkkckhfghomfaaVeCp
namespace Go.Proofs.Ytmkkckhfghomfaa
open Go.ChangeShapes Go.WideShapes Go.ChangeAt Go.RowKit Ve
set_option linter.unusedVariables false
set_option linter.unusedSimpArgs false
set_option maxRecDepth 100000
noncomputable section
theorem laws_FnExactBoundsFor_ans (N : Nat) (a0 : Array Value) (a1 : Int) (a2 : Int) (a3 : Int) : ansV Try.prog (mkΓw [(18, conS spec_BoundsFor_scon), (19, conS impl_BoundsFor_scon), (21, conSW laws_markBounds_scon)] [(12, con laws_toSea_con), (20, con laws_eqBounds_con), (22, con laws_heldBounds_con)] [] []) N Try.f5 [] [.g a0 28, .i .i64 (a1), .i .i64 (a2), .i .i64 (a3)] [] = (bif (spec_l04Asked_v0 a1 a1 a2 a3 a0 == 0) then (bif (spec_l04Asked_v0 a1 a1 a2 a3 a0 == 0) then (bif (!((decide (((a3.toNat + 1)) = ((a3.toNat + 1))) && sameB (impl_boundsFor_v0 Try.prog a0 a1 a2 a3) (impl_boundsFor_v0 Try.prog a0 a1 a2 a3)))) then (some (.a (.b (false)), .none, true))
        else (bif Nat.beq ((a3.toNat + 1)) 0 then (bif ((Nat.ble ((a3.toNat + 1)) 100000) && ((decide (0 ≤ (1 : Int)) && decide ((1 : Int) ≤ 1000000)) && sameB (impl_boundsFor_v0 Try.prog a0 a1 a2 a3) (mkA (((a3.toNat + 1)) * 36) (1 : Int)))) then (bif decide (((1 : Int) + ((((a3.toNat + 1)) * 36 : Nat) : Int)) < (0 : Int)) then (some (.a (.b (false)), .none, true))
              else (bif (((1 : Int) + ((((a3.toNat + 1)) * 36 : Nat) : Int)) != (1 : Int)) then (some (.a (.b (false)), .none, true))
                else (bif (spec_l04Asked_v0 a1 a1 a2 a3 a0 == 0) then (bif (!((decide (((a3.toNat + 1)) = ((a3.toNat + 1))) && sameB (impl_boundsFor_v0 Try.prog a0 a1 a2 a3) (impl_boundsFor_v0 Try.prog a0 a1 a2 a3)))) then (some (.a (.b (false)), .none, true))
                    else (bif ((Nat.ble ((a3.toNat + 1)) 100000) && ((decide (0 ≤ (1 : Int)) && decide ((1 : Int) ≤ 1000000)) && sameB (impl_boundsFor_v0 Try.prog a0 a1 a2 a3) (mkA (((a3.toNat + 1)) * 36) (1 : Int)))) then (bif decide (((1 : Int) + ((((a3.toNat + 1)) * 36 : Nat) : Int)) < (0 : Int)) then (some (.a (.b (false)), .none, true))
                        else (bif (((1 : Int) + ((((a3.toNat + 1)) * 36 : Nat) : Int)) != (1 : Int)) then (some (.a (.b (false)), .none, true))
                          else (some (.a (.b (true)), .none, true))))
                      else (none)))
                  else (bif (!((decide (0 = ((a3.toNat + 1))) && sameB (#[] : Array Value) (impl_boundsFor_v0 Try.prog a0 a1 a2 a3)))) then (some (.a (.b (false)), .none, true))
                    else (bif ((spec_l04Asked_v0 a1 a1 a2 a3 a0) != (0 : Int)) then (some (.a (.b (false)), .none, true))
                      else (bif ((Nat.ble ((a3.toNat + 1)) 100000) && ((decide (0 ≤ (1 : Int)) && decide ((1 : Int) ≤ 1000000)) && sameB (impl_boundsFor_v0 Try.prog a0 a1 a2 a3) (mkA (((a3.toNat + 1)) * 36) (1 : Int)))) then (bif decide (((1 : Int) + ((((a3.toNat + 1)) * 36 : Nat) : Int)) < (0 : Int)) then (some (.a (.b (false)), .none, true))
                          else (bif (((1 : Int) + ((((a3.toNat + 1)) * 36 : Nat) : Int)) != (1 : Int)) then (some (.a (.b (false)), .none, true))
                            else (some (.a (.b (true)), .none, true))))
                        else (none)))))))
            else (none))
          else (bif ((Nat.ble ((a3.toNat + 1)) 100000) && (decide (0 ≤ (1 : Int)) && decide ((1 : Int) ≤ 1000000))) then (bif ((Nat.ble ((a3.toNat + 1)) 100000) && ((decide (0 ≤ (1 : Int)) && decide ((1 : Int) ≤ 1000000)) && sameB (mkA (((a3.toNat + 1)) * 36) (1 : Int)) (mkA (((a3.toNat + 1)) * 36) (1 : Int)))) then (bif decide (((1 : Int) + ((((a3.toNat + 1)) * 36 : Nat) : Int)) < (0 : Int)) then (some (.a (.b (false)), .none, true))
                else (bif (((1 : Int) + ((((a3.toNat + 1)) * 36 : Nat) : Int)) != ((1 : Int) + ((((a3.toNat + 1)) * 36 : Nat) : Int))) then (some (.a (.b (false)), .none, true))
                  else (bif (spec_l04Asked_v0 a1 a1 a2 a3 a0 == 0) then (bif (!((decide (((a3.toNat + 1)) = ((a3.toNat + 1))) && sameB (impl_boundsFor_v0 Try.prog a0 a1 a2 a3) (impl_boundsFor_v0 Try.prog a0 a1 a2 a3)))) then (some (.a (.b (false)), .none, true))
                      else (bif ((Nat.ble ((a3.toNat + 1)) 100000) && ((decide (0 ≤ (1 : Int)) && decide ((1 : Int) ≤ 1000000)) && sameB (mkA (((a3.toNat + 1)) * 36) (1 : Int)) (mkA (((a3.toNat + 1)) * 36) (1 : Int)))) then (bif decide (((1 : Int) + ((((a3.toNat + 1)) * 36 : Nat) : Int)) < (0 : Int)) then (some (.a (.b (false)), .none, true))
                          else (bif (((1 : Int) + ((((a3.toNat + 1)) * 36 : Nat) : Int)) != ((1 : Int) + ((((a3.toNat + 1)) * 36 : Nat) : Int))) then (some (.a (.b (false)), .none, true))
                            else (some (.a (.b (true)), .none, true))))
                        else (none)))
                    else (bif (!((decide (0 = ((a3.toNat + 1))) && sameB (#[] : Array Value) (impl_boundsFor_v0 Try.prog a0 a1 a2 a3)))) then (some (.a (.b (false)), .none, true))
                      else (bif ((spec_l04Asked_v0 a1 a1 a2 a3 a0) != (0 : Int)) then (some (.a (.b (false)), .none, true))
                        else (bif ((Nat.ble ((a3.toNat + 1)) 100000) && ((decide (0 ≤ (1 : Int)) && decide ((1 : Int) ≤ 1000000)) && sameB (mkA (((a3.toNat + 1)) * 36) (1 : Int)) (mkA (((a3.toNat + 1)) * 36) (1 : Int)))) then (bif decide (((1 : Int) + ((((a3.toNat + 1)) * 36 : Nat) : Int)) < (0 : Int)) then (some (.a (.b (false)), .none, true))
                            else (bif (((1 : Int) + ((((a3.toNat + 1)) * 36 : Nat) : Int)) != ((1 : Int) + ((((a3.toNat + 1)) * 36 : Nat) : Int))) then (some (.a (.b (false)), .none, true))
                              else (some (.a (.b (true)), .none, true))))
                          else (none)))))))
              else (none))
            else (none))))
      else (bif (!((decide (0 = ((a3.toNat + 1))) && sameB (#[] : Array Value) (impl_boundsFor_v0 Try.prog a0 a1 a2 a3)))) then (some (.a (.b (false)), .none, true))
        else (bif ((spec_l04Asked_v0 a1 a1 a2 a3 a0) != (0 : Int)) then (some (.a (.b (false)), .none, true))
          else (bif Nat.beq 0 0 then (bif ((Nat.ble 0 100000) && ((decide (0 ≤ (1 : Int)) && decide ((1 : Int) ≤ 1000000)) && sameB (#[] : Array Value) (mkA (0 * 36) (1 : Int)))) then (bif decide (((1 : Int) + ((0 * 36 : Nat) : Int)) < (0 : Int)) then (some (.a (.b (false)), .none, true))
                else (bif (((1 : Int) + ((0 * 36 : Nat) : Int)) != (1 : Int)) then (some (.a (.b (false)), .none, true))
                  else (bif (spec_l04Asked_v0 a1 a1 a2 a3 a0 == 0) then (bif (!((decide (((a3.toNat + 1)) = ((a3.toNat + 1))) && sameB (impl_boundsFor_v0 Try.prog a0 a1 a2 a3) (impl_boundsFor_v0 Try.prog a0 a1 a2 a3)))) then (some (.a (.b (false)), .none, true))
                      else (bif ((Nat.ble 0 100000) && ((decide (0 ≤ (1 : Int)) && decide ((1 : Int) ≤ 1000000)) && sameB (#[] : Array Value) (mkA (0 * 36) (1 : Int)))) then (bif decide (((1 : Int) + ((0 * 36 : Nat) : Int)) < (0 : Int)) then (some (.a (.b (false)), .none, true))
                          else (bif (((1 : Int) + ((0 * 36 : Nat) : Int)) != (1 : Int)) then (some (.a (.b (false)), .none, true))
                            else (some (.a (.b (true)), .none, true))))
                        else (none)))
                    else (bif (!((decide (0 = ((a3.toNat + 1))) && sameB (#[] : Array Value) (impl_boundsFor_v0 Try.prog a0 a1 a2 a3)))) then (some (.a (.b (false)), .none, true))
                      else (bif ((spec_l04Asked_v0 a1 a1 a2 a3 a0) != (0 : Int)) then (some (.a (.b (false)), .none, true))
                        else (bif ((Nat.ble 0 100000) && ((decide (0 ≤ (1 : Int)) && decide ((1 : Int) ≤ 1000000)) && sameB (#[] : Array Value) (mkA (0 * 36) (1 : Int)))) then (bif decide (((1 : Int) + ((0 * 36 : Nat) : Int)) < (0 : Int)) then (some (.a (.b (false)), .none, true))
                            else (bif (((1 : Int) + ((0 * 36 : Nat) : Int)) != (1 : Int)) then (some (.a (.b (false)), .none, true))
                              else (some (.a (.b (true)), .none, true))))
                          else (none)))))))
              else (none))
            else (bif ((Nat.ble 0 100000) && (decide (0 ≤ (1 : Int)) && decide ((1 : Int) ≤ 1000000))) then (bif ((Nat.ble 0 100000) && ((decide (0 ≤ (1 : Int)) && decide ((1 : Int) ≤ 1000000)) && sameB (mkA (0 * 36) (1 : Int)) (mkA (0 * 36) (1 : Int)))) then (bif decide (((1 : Int) + ((0 * 36 : Nat) : Int)) < (0 : Int)) then (some (.a (.b (false)), .none, true))
                  else (bif (((1 : Int) + ((0 * 36 : Nat) : Int)) != ((1 : Int) + ((0 * 36 : Nat) : Int))) then (some (.a (.b (false)), .none, true))
                    else (bif (spec_l04Asked_v0 a1 a1 a2 a3 a0 == 0) then (bif (!((decide (((a3.toNat + 1)) = ((a3.toNat + 1))) && sameB (impl_boundsFor_v0 Try.prog a0 a1 a2 a3) (impl_boundsFor_v0 Try.prog a0 a1 a2 a3)))) then (some (.a (.b (false)), .none, true))
                        else (bif ((Nat.ble 0 100000) && ((decide (0 ≤ (1 : Int)) && decide ((1 : Int) ≤ 1000000)) && sameB (mkA (0 * 36) (1 : Int)) (mkA (0 * 36) (1 : Int)))) then (bif decide (((1 : Int) + ((0 * 36 : Nat) : Int)) < (0 : Int)) then (some (.a (.b (false)), .none, true))
                            else (bif (((1 : Int) + ((0 * 36 : Nat) : Int)) != ((1 : Int) + ((0 * 36 : Nat) : Int))) then (some (.a (.b (false)), .none, true))
                              else (some (.a (.b (true)), .none, true))))
                          else (none)))
                      else (bif (!((decide (0 = ((a3.toNat + 1))) && sameB (#[] : Array Value) (impl_boundsFor_v0 Try.prog a0 a1 a2 a3)))) then (some (.a (.b (false)), .none, true))
                        else (bif ((spec_l04Asked_v0 a1 a1 a2 a3 a0) != (0 : Int)) then (some (.a (.b (false)), .none, true))
                          else (bif ((Nat.ble 0 100000) && ((decide (0 ≤ (1 : Int)) && decide ((1 : Int) ≤ 1000000)) && sameB (mkA (0 * 36) (1 : Int)) (mkA (0 * 36) (1 : Int)))) then (bif decide (((1 : Int) + ((0 * 36 : Nat) : Int)) < (0 : Int)) then (some (.a (.b (false)), .none, true))
                              else (bif (((1 : Int) + ((0 * 36 : Nat) : Int)) != ((1 : Int) + ((0 * 36 : Nat) : Int))) then (some (.a (.b (false)), .none, true))
                                else (some (.a (.b (true)), .none, true))))
                            else (none)))))))
                else (none))
              else (none))))))
    else (bif (spec_l04Asked_v0 a1 a1 a2 a3 a0 == 0) then (bif (!((decide (((a3.toNat + 1)) = 0) && sameB (impl_boundsFor_v0 Try.prog a0 a1 a2 a3) (#[] : Array Value)))) then (some (.a (.b (false)), .none, true))
        else (bif ((0 : Int) != (spec_l04Asked_v0 a1 a1 a2 a3 a0)) then (some (.a (.b (false)), .none, true))
          else (bif Nat.beq ((a3.toNat + 1)) 0 then (bif ((Nat.ble ((a3.toNat + 1)) 100000) && ((decide (0 ≤ (1 : Int)) && decide ((1 : Int) ≤ 1000000)) && sameB (impl_boundsFor_v0 Try.prog a0 a1 a2 a3) (mkA (((a3.toNat + 1)) * 36) (1 : Int)))) then (bif decide (((1 : Int) + ((((a3.toNat + 1)) * 36 : Nat) : Int)) < (0 : Int)) then (some (.a (.b (false)), .none, true))
                else (bif (((1 : Int) + ((((a3.toNat + 1)) * 36 : Nat) : Int)) != (1 : Int)) then (some (.a (.b (false)), .none, true))
                  else (bif (spec_l04Asked_v0 a1 a1 a2 a3 a0 == 0) then (bif (!((decide (((a3.toNat + 1)) = 0) && sameB (impl_boundsFor_v0 Try.prog a0 a1 a2 a3) (#[] : Array Value)))) then (some (.a (.b (false)), .none, true))
                      else (bif ((0 : Int) != (spec_l04Asked_v0 a1 a1 a2 a3 a0)) then (some (.a (.b (false)), .none, true))
                        else (bif ((Nat.ble ((a3.toNat + 1)) 100000) && ((decide (0 ≤ (1 : Int)) && decide ((1 : Int) ≤ 1000000)) && sameB (impl_boundsFor_v0 Try.prog a0 a1 a2 a3) (mkA (((a3.toNat + 1)) * 36) (1 : Int)))) then (bif decide (((1 : Int) + ((((a3.toNat + 1)) * 36 : Nat) : Int)) < (0 : Int)) then (some (.a (.b (false)), .none, true))
                            else (bif (((1 : Int) + ((((a3.toNat + 1)) * 36 : Nat) : Int)) != (1 : Int)) then (some (.a (.b (false)), .none, true))
                              else (some (.a (.b (true)), .none, true))))
                          else (none))))
                    else (bif (!((decide (0 = 0) && sameB (#[] : Array Value) (#[] : Array Value)))) then (some (.a (.b (false)), .none, true))
                      else (bif ((spec_l04Asked_v0 a1 a1 a2 a3 a0) != (spec_l04Asked_v0 a1 a1 a2 a3 a0)) then (some (.a (.b (false)), .none, true))
                        else (bif ((Nat.ble ((a3.toNat + 1)) 100000) && ((decide (0 ≤ (1 : Int)) && decide ((1 : Int) ≤ 1000000)) && sameB (impl_boundsFor_v0 Try.prog a0 a1 a2 a3) (mkA (((a3.toNat + 1)) * 36) (1 : Int)))) then (bif decide (((1 : Int) + ((((a3.toNat + 1)) * 36 : Nat) : Int)) < (0 : Int)) then (some (.a (.b (false)), .none, true))
                            else (bif (((1 : Int) + ((((a3.toNat + 1)) * 36 : Nat) : Int)) != (1 : Int)) then (some (.a (.b (false)), .none, true))
                              else (some (.a (.b (true)), .none, true))))
                          else (none)))))))
              else (none))
            else (bif ((Nat.ble ((a3.toNat + 1)) 100000) && (decide (0 ≤ (1 : Int)) && decide ((1 : Int) ≤ 1000000))) then (bif ((Nat.ble ((a3.toNat + 1)) 100000) && ((decide (0 ≤ (1 : Int)) && decide ((1 : Int) ≤ 1000000)) && sameB (mkA (((a3.toNat + 1)) * 36) (1 : Int)) (mkA (((a3.toNat + 1)) * 36) (1 : Int)))) then (bif decide (((1 : Int) + ((((a3.toNat + 1)) * 36 : Nat) : Int)) < (0 : Int)) then (some (.a (.b (false)), .none, true))
                  else (bif (((1 : Int) + ((((a3.toNat + 1)) * 36 : Nat) : Int)) != ((1 : Int) + ((((a3.toNat + 1)) * 36 : Nat) : Int))) then (some (.a (.b (false)), .none, true))
                    else (bif (spec_l04Asked_v0 a1 a1 a2 a3 a0 == 0) then (bif (!((decide (((a3.toNat + 1)) = 0) && sameB (impl_boundsFor_v0 Try.prog a0 a1 a2 a3) (#[] : Array Value)))) then (some (.a (.b (false)), .none, true))
                        else (bif ((0 : Int) != (spec_l04Asked_v0 a1 a1 a2 a3 a0)) then (some (.a (.b (false)), .none, true))
                          else (bif ((Nat.ble ((a3.toNat + 1)) 100000) && ((decide (0 ≤ (1 : Int)) && decide ((1 : Int) ≤ 1000000)) && sameB (mkA (((a3.toNat + 1)) * 36) (1 : Int)) (mkA (((a3.toNat + 1)) * 36) (1 : Int)))) then (bif decide (((1 : Int) + ((((a3.toNat + 1)) * 36 : Nat) : Int)) < (0 : Int)) then (some (.a (.b (false)), .none, true))
                              else (bif (((1 : Int) + ((((a3.toNat + 1)) * 36 : Nat) : Int)) != ((1 : Int) + ((((a3.toNat + 1)) * 36 : Nat) : Int))) then (some (.a (.b (false)), .none, true))
                                else (some (.a (.b (true)), .none, true))))
                            else (none))))
                      else (bif (!((decide (0 = 0) && sameB (#[] : Array Value) (#[] : Array Value)))) then (some (.a (.b (false)), .none, true))
                        else (bif ((spec_l04Asked_v0 a1 a1 a2 a3 a0) != (spec_l04Asked_v0 a1 a1 a2 a3 a0)) then (some (.a (.b (false)), .none, true))
                          else (bif ((Nat.ble ((a3.toNat + 1)) 100000) && ((decide (0 ≤ (1 : Int)) && decide ((1 : Int) ≤ 1000000)) && sameB (mkA (((a3.toNat + 1)) * 36) (1 : Int)) (mkA (((a3.toNat + 1)) * 36) (1 : Int)))) then (bif decide (((1 : Int) + ((((a3.toNat + 1)) * 36 : Nat) : Int)) < (0 : Int)) then (some (.a (.b (false)), .none, true))
                              else (bif (((1 : Int) + ((((a3.toNat + 1)) * 36 : Nat) : Int)) != ((1 : Int) + ((((a3.toNat + 1)) * 36 : Nat) : Int))) then (some (.a (.b (false)), .none, true))
                                else (some (.a (.b (true)), .none, true))))
                            else (none)))))))
                else (none))
              else (none)))))
      else (bif (!((decide (0 = 0) && sameB (#[] : Array Value) (#[] : Array Value)))) then (some (.a (.b (false)), .none, true))
        else (bif ((spec_l04Asked_v0 a1 a1 a2 a3 a0) != (spec_l04Asked_v0 a1 a1 a2 a3 a0)) then (some (.a (.b (false)), .none, true))
          else (bif Nat.beq 0 0 then (bif ((Nat.ble 0 100000) && ((decide (0 ≤ (1 : Int)) && decide ((1 : Int) ≤ 1000000)) && sameB (#[] : Array Value) (mkA (0 * 36) (1 : Int)))) then (bif decide (((1 : Int) + ((0 * 36 : Nat) : Int)) < (0 : Int)) then (some (.a (.b (false)), .none, true))
                else (bif (((1 : Int) + ((0 * 36 : Nat) : Int)) != (1 : Int)) then (some (.a (.b (false)), .none, true))
                  else (bif (spec_l04Asked_v0 a1 a1 a2 a3 a0 == 0) then (bif (!((decide (((a3.toNat + 1)) = 0) && sameB (impl_boundsFor_v0 Try.prog a0 a1 a2 a3) (#[] : Array Value)))) then (some (.a (.b (false)), .none, true))
                      else (bif ((0 : Int) != (spec_l04Asked_v0 a1 a1 a2 a3 a0)) then (some (.a (.b (false)), .none, true))
                        else (bif ((Nat.ble 0 100000) && ((decide (0 ≤ (1 : Int)) && decide ((1 : Int) ≤ 1000000)) && sameB (#[] : Array Value) (mkA (0 * 36) (1 : Int)))) then (bif decide (((1 : Int) + ((0 * 36 : Nat) : Int)) < (0 : Int)) then (some (.a (.b (false)), .none, true))
                            else (bif (((1 : Int) + ((0 * 36 : Nat) : Int)) != (1 : Int)) then (some (.a (.b (false)), .none, true))
                              else (some (.a (.b (true)), .none, true))))
                          else (none))))
                    else (bif (!((decide (0 = 0) && sameB (#[] : Array Value) (#[] : Array Value)))) then (some (.a (.b (false)), .none, true))
                      else (bif ((spec_l04Asked_v0 a1 a1 a2 a3 a0) != (spec_l04Asked_v0 a1 a1 a2 a3 a0)) then (some (.a (.b (false)), .none, true))
                        else (bif ((Nat.ble 0 100000) && ((decide (0 ≤ (1 : Int)) && decide ((1 : Int) ≤ 1000000)) && sameB (#[] : Array Value) (mkA (0 * 36) (1 : Int)))) then (bif decide (((1 : Int) + ((0 * 36 : Nat) : Int)) < (0 : Int)) then (some (.a (.b (false)), .none, true))
                            else (bif (((1 : Int) + ((0 * 36 : Nat) : Int)) != (1 : Int)) then (some (.a (.b (false)), .none, true))
                              else (some (.a (.b (true)), .none, true))))
                          else (none)))))))
              else (none))
            else (bif ((Nat.ble 0 100000) && (decide (0 ≤ (1 : Int)) && decide ((1 : Int) ≤ 1000000))) then (bif ((Nat.ble 0 100000) && ((decide (0 ≤ (1 : Int)) && decide ((1 : Int) ≤ 1000000)) && sameB (mkA (0 * 36) (1 : Int)) (mkA (0 * 36) (1 : Int)))) then (bif decide (((1 : Int) + ((0 * 36 : Nat) : Int)) < (0 : Int)) then (some (.a (.b (false)), .none, true))
                  else (bif (((1 : Int) + ((0 * 36 : Nat) : Int)) != ((1 : Int) + ((0 * 36 : Nat) : Int))) then (some (.a (.b (false)), .none, true))
                    else (bif (spec_l04Asked_v0 a1 a1 a2 a3 a0 == 0) then (bif (!((decide (((a3.toNat + 1)) = 0) && sameB (impl_boundsFor_v0 Try.prog a0 a1 a2 a3) (#[] : Array Value)))) then (some (.a (.b (false)), .none, true))
                        else (bif ((0 : Int) != (spec_l04Asked_v0 a1 a1 a2 a3 a0)) then (some (.a (.b (false)), .none, true))
                          else (bif ((Nat.ble 0 100000) && ((decide (0 ≤ (1 : Int)) && decide ((1 : Int) ≤ 1000000)) && sameB (mkA (0 * 36) (1 : Int)) (mkA (0 * 36) (1 : Int)))) then (bif decide (((1 : Int) + ((0 * 36 : Nat) : Int)) < (0 : Int)) then (some (.a (.b (false)), .none, true))
                              else (bif (((1 : Int) + ((0 * 36 : Nat) : Int)) != ((1 : Int) + ((0 * 36 : Nat) : Int))) then (some (.a (.b (false)), .none, true))
                                else (some (.a (.b (true)), .none, true))))
                            else (none))))
                      else (bif (!((decide (0 = 0) && sameB (#[] : Array Value) (#[] : Array Value)))) then (some (.a (.b (false)), .none, true))
                        else (bif ((spec_l04Asked_v0 a1 a1 a2 a3 a0) != (spec_l04Asked_v0 a1 a1 a2 a3 a0)) then (some (.a (.b (false)), .none, true))
                          else (bif ((Nat.ble 0 100000) && ((decide (0 ≤ (1 : Int)) && decide ((1 : Int) ≤ 1000000)) && sameB (mkA (0 * 36) (1 : Int)) (mkA (0 * 36) (1 : Int)))) then (bif decide (((1 : Int) + ((0 * 36 : Nat) : Int)) < (0 : Int)) then (some (.a (.b (false)), .none, true))
                              else (bif (((1 : Int) + ((0 * 36 : Nat) : Int)) != ((1 : Int) + ((0 * 36 : Nat) : Int))) then (some (.a (.b (false)), .none, true))
                                else (some (.a (.b (true)), .none, true))))
                            else (none)))))))
                else (none))
              else (none))))))) := by kernel_rfl

noncomputable def laws_FnExactBoundsFor_v0 (P : Program) (a0 : Array Value) (a1 : Int) (a2 : Int) (a3 : Int) : Bool := (bif (spec_l04Asked_v0 a1 a1 a2 a3 a0 == 0) then (bif (spec_l04Asked_v0 a1 a1 a2 a3 a0 == 0) then (bif (!((decide (((a3.toNat + 1)) = ((a3.toNat + 1))) && sameB (impl_boundsFor_v0 P a0 a1 a2 a3) (impl_boundsFor_v0 P a0 a1 a2 a3)))) then false else (bif Nat.beq ((a3.toNat + 1)) 0 then (bif decide (((1 : Int) + ((((a3.toNat + 1)) * 36 : Nat) : Int)) < (0 : Int)) then false else (bif (((1 : Int) + ((((a3.toNat + 1)) * 36 : Nat) : Int)) != (1 : Int)) then false else (bif (spec_l04Asked_v0 a1 a1 a2 a3 a0 == 0) then (bif (!((decide (((a3.toNat + 1)) = ((a3.toNat + 1))) && sameB (impl_boundsFor_v0 P a0 a1 a2 a3) (impl_boundsFor_v0 P a0 a1 a2 a3)))) then false else (bif decide (((1 : Int) + ((((a3.toNat + 1)) * 36 : Nat) : Int)) < (0 : Int)) then false else (bif (((1 : Int) + ((((a3.toNat + 1)) * 36 : Nat) : Int)) != (1 : Int)) then false else true))) else (bif (!((decide (0 = ((a3.toNat + 1))) && sameB (#[] : Array Value) (impl_boundsFor_v0 P a0 a1 a2 a3)))) then false else (bif ((spec_l04Asked_v0 a1 a1 a2 a3 a0) != (0 : Int)) then false else (bif decide (((1 : Int) + ((((a3.toNat + 1)) * 36 : Nat) : Int)) < (0 : Int)) then false else (bif (((1 : Int) + ((((a3.toNat + 1)) * 36 : Nat) : Int)) != (1 : Int)) then false else true))))))) else (bif decide (((1 : Int) + ((((a3.toNat + 1)) * 36 : Nat) : Int)) < (0 : Int)) then false else (bif (((1 : Int) + ((((a3.toNat + 1)) * 36 : Nat) : Int)) != ((1 : Int) + ((((a3.toNat + 1)) * 36 : Nat) : Int))) then false else (bif (spec_l04Asked_v0 a1 a1 a2 a3 a0 == 0) then (bif (!((decide (((a3.toNat + 1)) = ((a3.toNat + 1))) && sameB (impl_boundsFor_v0 P a0 a1 a2 a3) (impl_boundsFor_v0 P a0 a1 a2 a3)))) then false else (bif decide (((1 : Int) + ((((a3.toNat + 1)) * 36 : Nat) : Int)) < (0 : Int)) then false else (bif (((1 : Int) + ((((a3.toNat + 1)) * 36 : Nat) : Int)) != ((1 : Int) + ((((a3.toNat + 1)) * 36 : Nat) : Int))) then false else true))) else (bif (!((decide (0 = ((a3.toNat + 1))) && sameB (#[] : Array Value) (impl_boundsFor_v0 P a0 a1 a2 a3)))) then false else (bif ((spec_l04Asked_v0 a1 a1 a2 a3 a0) != (0 : Int)) then false else (bif decide (((1 : Int) + ((((a3.toNat + 1)) * 36 : Nat) : Int)) < (0 : Int)) then false else (bif (((1 : Int) + ((((a3.toNat + 1)) * 36 : Nat) : Int)) != ((1 : Int) + ((((a3.toNat + 1)) * 36 : Nat) : Int))) then false else true))))))))) else (bif (!((decide (0 = ((a3.toNat + 1))) && sameB (#[] : Array Value) (impl_boundsFor_v0 P a0 a1 a2 a3)))) then false else (bif ((spec_l04Asked_v0 a1 a1 a2 a3 a0) != (0 : Int)) then false else (bif Nat.beq 0 0 then (bif decide (((1 : Int) + ((0 * 36 : Nat) : Int)) < (0 : Int)) then false else (bif (((1 : Int) + ((0 * 36 : Nat) : Int)) != (1 : Int)) then false else (bif (spec_l04Asked_v0 a1 a1 a2 a3 a0 == 0) then (bif (!((decide (((a3.toNat + 1)) = ((a3.toNat + 1))) && sameB (impl_boundsFor_v0 P a0 a1 a2 a3) (impl_boundsFor_v0 P a0 a1 a2 a3)))) then false else (bif decide (((1 : Int) + ((0 * 36 : Nat) : Int)) < (0 : Int)) then false else (bif (((1 : Int) + ((0 * 36 : Nat) : Int)) != (1 : Int)) then false else true))) else (bif (!((decide (0 = ((a3.toNat + 1))) && sameB (#[] : Array Value) (impl_boundsFor_v0 P a0 a1 a2 a3)))) then false else (bif ((spec_l04Asked_v0 a1 a1 a2 a3 a0) != (0 : Int)) then false else (bif decide (((1 : Int) + ((0 * 36 : Nat) : Int)) < (0 : Int)) then false else (bif (((1 : Int) + ((0 * 36 : Nat) : Int)) != (1 : Int)) then false else true))))))) else (bif decide (((1 : Int) + ((0 * 36 : Nat) : Int)) < (0 : Int)) then false else (bif (((1 : Int) + ((0 * 36 : Nat) : Int)) != ((1 : Int) + ((0 * 36 : Nat) : Int))) then false else (bif (spec_l04Asked_v0 a1 a1 a2 a3 a0 == 0) then (bif (!((decide (((a3.toNat + 1)) = ((a3.toNat + 1))) && sameB (impl_boundsFor_v0 P a0 a1 a2 a3) (impl_boundsFor_v0 P a0 a1 a2 a3)))) then false else (bif decide (((1 : Int) + ((0 * 36 : Nat) : Int)) < (0 : Int)) then false else (bif (((1 : Int) + ((0 * 36 : Nat) : Int)) != ((1 : Int) + ((0 * 36 : Nat) : Int))) then false else true))) else (bif (!((decide (0 = ((a3.toNat + 1))) && sameB (#[] : Array Value) (impl_boundsFor_v0 P a0 a1 a2 a3)))) then false else (bif ((spec_l04Asked_v0 a1 a1 a2 a3 a0) != (0 : Int)) then false else (bif decide (((1 : Int) + ((0 * 36 : Nat) : Int)) < (0 : Int)) then false else (bif (((1 : Int) + ((0 * 36 : Nat) : Int)) != ((1 : Int) + ((0 * 36 : Nat) : Int))) then false else true))))))))))) else (bif (spec_l04Asked_v0 a1 a1 a2 a3 a0 == 0) then (bif (!((decide (((a3.toNat + 1)) = 0) && sameB (impl_boundsFor_v0 P a0 a1 a2 a3) (#[] : Array Value)))) then false else (bif ((0 : Int) != (spec_l04Asked_v0 a1 a1 a2 a3 a0)) then false else (bif Nat.beq ((a3.toNat + 1)) 0 then (bif decide (((1 : Int) + ((((a3.toNat + 1)) * 36 : Nat) : Int)) < (0 : Int)) then false else (bif (((1 : Int) + ((((a3.toNat + 1)) * 36 : Nat) : Int)) != (1 : Int)) then false else (bif (spec_l04Asked_v0 a1 a1 a2 a3 a0 == 0) then (bif (!((decide (((a3.toNat + 1)) = 0) && sameB (impl_boundsFor_v0 P a0 a1 a2 a3) (#[] : Array Value)))) then false else (bif ((0 : Int) != (spec_l04Asked_v0 a1 a1 a2 a3 a0)) then false else (bif decide (((1 : Int) + ((((a3.toNat + 1)) * 36 : Nat) : Int)) < (0 : Int)) then false else (bif (((1 : Int) + ((((a3.toNat + 1)) * 36 : Nat) : Int)) != (1 : Int)) then false else true)))) else (bif (!((decide (0 = 0) && sameB (#[] : Array Value) (#[] : Array Value)))) then false else (bif ((spec_l04Asked_v0 a1 a1 a2 a3 a0) != (spec_l04Asked_v0 a1 a1 a2 a3 a0)) then false else (bif decide (((1 : Int) + ((((a3.toNat + 1)) * 36 : Nat) : Int)) < (0 : Int)) then false else (bif (((1 : Int) + ((((a3.toNat + 1)) * 36 : Nat) : Int)) != (1 : Int)) then false else true))))))) else (bif decide (((1 : Int) + ((((a3.toNat + 1)) * 36 : Nat) : Int)) < (0 : Int)) then false else (bif (((1 : Int) + ((((a3.toNat + 1)) * 36 : Nat) : Int)) != ((1 : Int) + ((((a3.toNat + 1)) * 36 : Nat) : Int))) then false else (bif (spec_l04Asked_v0 a1 a1 a2 a3 a0 == 0) then (bif (!((decide (((a3.toNat + 1)) = 0) && sameB (impl_boundsFor_v0 P a0 a1 a2 a3) (#[] : Array Value)))) then false else (bif ((0 : Int) != (spec_l04Asked_v0 a1 a1 a2 a3 a0)) then false else (bif decide (((1 : Int) + ((((a3.toNat + 1)) * 36 : Nat) : Int)) < (0 : Int)) then false else (bif (((1 : Int) + ((((a3.toNat + 1)) * 36 : Nat) : Int)) != ((1 : Int) + ((((a3.toNat + 1)) * 36 : Nat) : Int))) then false else true)))) else (bif (!((decide (0 = 0) && sameB (#[] : Array Value) (#[] : Array Value)))) then false else (bif ((spec_l04Asked_v0 a1 a1 a2 a3 a0) != (spec_l04Asked_v0 a1 a1 a2 a3 a0)) then false else (bif decide (((1 : Int) + ((((a3.toNat + 1)) * 36 : Nat) : Int)) < (0 : Int)) then false else (bif (((1 : Int) + ((((a3.toNat + 1)) * 36 : Nat) : Int)) != ((1 : Int) + ((((a3.toNat + 1)) * 36 : Nat) : Int))) then false else true)))))))))) else (bif (!((decide (0 = 0) && sameB (#[] : Array Value) (#[] : Array Value)))) then false else (bif ((spec_l04Asked_v0 a1 a1 a2 a3 a0) != (spec_l04Asked_v0 a1 a1 a2 a3 a0)) then false else (bif Nat.beq 0 0 then (bif decide (((1 : Int) + ((0 * 36 : Nat) : Int)) < (0 : Int)) then false else (bif (((1 : Int) + ((0 * 36 : Nat) : Int)) != (1 : Int)) then false else (bif (spec_l04Asked_v0 a1 a1 a2 a3 a0 == 0) then (bif (!((decide (((a3.toNat + 1)) = 0) && sameB (impl_boundsFor_v0 P a0 a1 a2 a3) (#[] : Array Value)))) then false else (bif ((0 : Int) != (spec_l04Asked_v0 a1 a1 a2 a3 a0)) then false else (bif decide (((1 : Int) + ((0 * 36 : Nat) : Int)) < (0 : Int)) then false else (bif (((1 : Int) + ((0 * 36 : Nat) : Int)) != (1 : Int)) then false else true)))) else (bif (!((decide (0 = 0) && sameB (#[] : Array Value) (#[] : Array Value)))) then false else (bif ((spec_l04Asked_v0 a1 a1 a2 a3 a0) != (spec_l04Asked_v0 a1 a1 a2 a3 a0)) then false else (bif decide (((1 : Int) + ((0 * 36 : Nat) : Int)) < (0 : Int)) then false else (bif (((1 : Int) + ((0 * 36 : Nat) : Int)) != (1 : Int)) then false else true))))))) else (bif decide (((1 : Int) + ((0 * 36 : Nat) : Int)) < (0 : Int)) then false else (bif (((1 : Int) + ((0 * 36 : Nat) : Int)) != ((1 : Int) + ((0 * 36 : Nat) : Int))) then false else (bif (spec_l04Asked_v0 a1 a1 a2 a3 a0 == 0) then (bif (!((decide (((a3.toNat + 1)) = 0) && sameB (impl_boundsFor_v0 P a0 a1 a2 a3) (#[] : Array Value)))) then false else (bif ((0 : Int) != (spec_l04Asked_v0 a1 a1 a2 a3 a0)) then false else (bif decide (((1 : Int) + ((0 * 36 : Nat) : Int)) < (0 : Int)) then false else (bif (((1 : Int) + ((0 * 36 : Nat) : Int)) != ((1 : Int) + ((0 * 36 : Nat) : Int))) then false else true)))) else (bif (!((decide (0 = 0) && sameB (#[] : Array Value) (#[] : Array Value)))) then false else (bif ((spec_l04Asked_v0 a1 a1 a2 a3 a0) != (spec_l04Asked_v0 a1 a1 a2 a3 a0)) then false else (bif decide (((1 : Int) + ((0 * 36 : Nat) : Int)) < (0 : Int)) then false else (bif (((1 : Int) + ((0 * 36 : Nat) : Int)) != ((1 : Int) + ((0 * 36 : Nat) : Int))) then false else true))))))))))))
noncomputable def laws_FnExactBoundsFor_gd (a0 : Array Value) (a1 : Int) (a2 : Int) (a3 : Int) : Bool := (bif (spec_l04Asked_v0 a1 a1 a2 a3 a0 == 0) then (bif (spec_l04Asked_v0 a1 a1 a2 a3 a0 == 0) then (bif (!((decide (((a3.toNat + 1)) = ((a3.toNat + 1))) && sameB (impl_boundsFor_v0 Try.prog a0 a1 a2 a3) (impl_boundsFor_v0 Try.prog a0 a1 a2 a3)))) then true else (bif Nat.beq ((a3.toNat + 1)) 0 then (bif ((Nat.ble ((a3.toNat + 1)) 100000) && ((decide (0 ≤ (1 : Int)) && decide ((1 : Int) ≤ 1000000)) && sameB (impl_boundsFor_v0 Try.prog a0 a1 a2 a3) (mkA (((a3.toNat + 1)) * 36) (1 : Int)))) then (bif decide (((1 : Int) + ((((a3.toNat + 1)) * 36 : Nat) : Int)) < (0 : Int)) then true else (bif (((1 : Int) + ((((a3.toNat + 1)) * 36 : Nat) : Int)) != (1 : Int)) then true else (bif (spec_l04Asked_v0 a1 a1 a2 a3 a0 == 0) then (bif (!((decide (((a3.toNat + 1)) = ((a3.toNat + 1))) && sameB (impl_boundsFor_v0 Try.prog a0 a1 a2 a3) (impl_boundsFor_v0 Try.prog a0 a1 a2 a3)))) then true else ((Nat.ble ((a3.toNat + 1)) 100000) && ((decide (0 ≤ (1 : Int)) && decide ((1 : Int) ≤ 1000000)) && sameB (impl_boundsFor_v0 Try.prog a0 a1 a2 a3) (mkA (((a3.toNat + 1)) * 36) (1 : Int))))) else (bif (!((decide (0 = ((a3.toNat + 1))) && sameB (#[] : Array Value) (impl_boundsFor_v0 Try.prog a0 a1 a2 a3)))) then true else (bif ((spec_l04Asked_v0 a1 a1 a2 a3 a0) != (0 : Int)) then true else ((Nat.ble ((a3.toNat + 1)) 100000) && ((decide (0 ≤ (1 : Int)) && decide ((1 : Int) ≤ 1000000)) && sameB (impl_boundsFor_v0 Try.prog a0 a1 a2 a3) (mkA (((a3.toNat + 1)) * 36) (1 : Int))))))))) else false) else (bif ((Nat.ble ((a3.toNat + 1)) 100000) && (decide (0 ≤ (1 : Int)) && decide ((1 : Int) ≤ 1000000))) then (bif ((Nat.ble ((a3.toNat + 1)) 100000) && ((decide (0 ≤ (1 : Int)) && decide ((1 : Int) ≤ 1000000)) && sameB (mkA (((a3.toNat + 1)) * 36) (1 : Int)) (mkA (((a3.toNat + 1)) * 36) (1 : Int)))) then (bif decide (((1 : Int) + ((((a3.toNat + 1)) * 36 : Nat) : Int)) < (0 : Int)) then true else (bif (((1 : Int) + ((((a3.toNat + 1)) * 36 : Nat) : Int)) != ((1 : Int) + ((((a3.toNat + 1)) * 36 : Nat) : Int))) then true else (bif (spec_l04Asked_v0 a1 a1 a2 a3 a0 == 0) then (bif (!((decide (((a3.toNat + 1)) = ((a3.toNat + 1))) && sameB (impl_boundsFor_v0 Try.prog a0 a1 a2 a3) (impl_boundsFor_v0 Try.prog a0 a1 a2 a3)))) then true else ((Nat.ble ((a3.toNat + 1)) 100000) && ((decide (0 ≤ (1 : Int)) && decide ((1 : Int) ≤ 1000000)) && sameB (mkA (((a3.toNat + 1)) * 36) (1 : Int)) (mkA (((a3.toNat + 1)) * 36) (1 : Int))))) else (bif (!((decide (0 = ((a3.toNat + 1))) && sameB (#[] : Array Value) (impl_boundsFor_v0 Try.prog a0 a1 a2 a3)))) then true else (bif ((spec_l04Asked_v0 a1 a1 a2 a3 a0) != (0 : Int)) then true else ((Nat.ble ((a3.toNat + 1)) 100000) && ((decide (0 ≤ (1 : Int)) && decide ((1 : Int) ≤ 1000000)) && sameB (mkA (((a3.toNat + 1)) * 36) (1 : Int)) (mkA (((a3.toNat + 1)) * 36) (1 : Int))))))))) else false) else false))) else (bif (!((decide (0 = ((a3.toNat + 1))) && sameB (#[] : Array Value) (impl_boundsFor_v0 Try.prog a0 a1 a2 a3)))) then true else (bif ((spec_l04Asked_v0 a1 a1 a2 a3 a0) != (0 : Int)) then true else (bif Nat.beq 0 0 then (bif ((Nat.ble 0 100000) && ((decide (0 ≤ (1 : Int)) && decide ((1 : Int) ≤ 1000000)) && sameB (#[] : Array Value) (mkA (0 * 36) (1 : Int)))) then (bif decide (((1 : Int) + ((0 * 36 : Nat) : Int)) < (0 : Int)) then true else (bif (((1 : Int) + ((0 * 36 : Nat) : Int)) != (1 : Int)) then true else (bif (spec_l04Asked_v0 a1 a1 a2 a3 a0 == 0) then (bif (!((decide (((a3.toNat + 1)) = ((a3.toNat + 1))) && sameB (impl_boundsFor_v0 Try.prog a0 a1 a2 a3) (impl_boundsFor_v0 Try.prog a0 a1 a2 a3)))) then true else ((Nat.ble 0 100000) && ((decide (0 ≤ (1 : Int)) && decide ((1 : Int) ≤ 1000000)) && sameB (#[] : Array Value) (mkA (0 * 36) (1 : Int))))) else (bif (!((decide (0 = ((a3.toNat + 1))) && sameB (#[] : Array Value) (impl_boundsFor_v0 Try.prog a0 a1 a2 a3)))) then true else (bif ((spec_l04Asked_v0 a1 a1 a2 a3 a0) != (0 : Int)) then true else ((Nat.ble 0 100000) && ((decide (0 ≤ (1 : Int)) && decide ((1 : Int) ≤ 1000000)) && sameB (#[] : Array Value) (mkA (0 * 36) (1 : Int))))))))) else false) else (bif ((Nat.ble 0 100000) && (decide (0 ≤ (1 : Int)) && decide ((1 : Int) ≤ 1000000))) then (bif ((Nat.ble 0 100000) && ((decide (0 ≤ (1 : Int)) && decide ((1 : Int) ≤ 1000000)) && sameB (mkA (0 * 36) (1 : Int)) (mkA (0 * 36) (1 : Int)))) then (bif decide (((1 : Int) + ((0 * 36 : Nat) : Int)) < (0 : Int)) then true else (bif (((1 : Int) + ((0 * 36 : Nat) : Int)) != ((1 : Int) + ((0 * 36 : Nat) : Int))) then true else (bif (spec_l04Asked_v0 a1 a1 a2 a3 a0 == 0) then (bif (!((decide (((a3.toNat + 1)) = ((a3.toNat + 1))) && sameB (impl_boundsFor_v0 Try.prog a0 a1 a2 a3) (impl_boundsFor_v0 Try.prog a0 a1 a2 a3)))) then true else ((Nat.ble 0 100000) && ((decide (0 ≤ (1 : Int)) && decide ((1 : Int) ≤ 1000000)) && sameB (mkA (0 * 36) (1 : Int)) (mkA (0 * 36) (1 : Int))))) else (bif (!((decide (0 = ((a3.toNat + 1))) && sameB (#[] : Array Value) (impl_boundsFor_v0 Try.prog a0 a1 a2 a3)))) then true else (bif ((spec_l04Asked_v0 a1 a1 a2 a3 a0) != (0 : Int)) then true else ((Nat.ble 0 100000) && ((decide (0 ≤ (1 : Int)) && decide ((1 : Int) ≤ 1000000)) && sameB (mkA (0 * 36) (1 : Int)) (mkA (0 * 36) (1 : Int))))))))) else false) else false))))) else (bif (spec_l04Asked_v0 a1 a1 a2 a3 a0 == 0) then (bif (!((decide (((a3.toNat + 1)) = 0) && sameB (impl_boundsFor_v0 Try.prog a0 a1 a2 a3) (#[] : Array Value)))) then true else (bif ((0 : Int) != (spec_l04Asked_v0 a1 a1 a2 a3 a0)) then true else (bif Nat.beq ((a3.toNat + 1)) 0 then (bif ((Nat.ble ((a3.toNat + 1)) 100000) && ((decide (0 ≤ (1 : Int)) && decide ((1 : Int) ≤ 1000000)) && sameB (impl_boundsFor_v0 Try.prog a0 a1 a2 a3) (mkA (((a3.toNat + 1)) * 36) (1 : Int)))) then (bif decide (((1 : Int) + ((((a3.toNat + 1)) * 36 : Nat) : Int)) < (0 : Int)) then true else (bif (((1 : Int) + ((((a3.toNat + 1)) * 36 : Nat) : Int)) != (1 : Int)) then true else (bif (spec_l04Asked_v0 a1 a1 a2 a3 a0 == 0) then (bif (!((decide (((a3.toNat + 1)) = 0) && sameB (impl_boundsFor_v0 Try.prog a0 a1 a2 a3) (#[] : Array Value)))) then true else (bif ((0 : Int) != (spec_l04Asked_v0 a1 a1 a2 a3 a0)) then true else ((Nat.ble ((a3.toNat + 1)) 100000) && ((decide (0 ≤ (1 : Int)) && decide ((1 : Int) ≤ 1000000)) && sameB (impl_boundsFor_v0 Try.prog a0 a1 a2 a3) (mkA (((a3.toNat + 1)) * 36) (1 : Int)))))) else (bif (!((decide (0 = 0) && sameB (#[] : Array Value) (#[] : Array Value)))) then true else (bif ((spec_l04Asked_v0 a1 a1 a2 a3 a0) != (spec_l04Asked_v0 a1 a1 a2 a3 a0)) then true else ((Nat.ble ((a3.toNat + 1)) 100000) && ((decide (0 ≤ (1 : Int)) && decide ((1 : Int) ≤ 1000000)) && sameB (impl_boundsFor_v0 Try.prog a0 a1 a2 a3) (mkA (((a3.toNat + 1)) * 36) (1 : Int))))))))) else false) else (bif ((Nat.ble ((a3.toNat + 1)) 100000) && (decide (0 ≤ (1 : Int)) && decide ((1 : Int) ≤ 1000000))) then (bif ((Nat.ble ((a3.toNat + 1)) 100000) && ((decide (0 ≤ (1 : Int)) && decide ((1 : Int) ≤ 1000000)) && sameB (mkA (((a3.toNat + 1)) * 36) (1 : Int)) (mkA (((a3.toNat + 1)) * 36) (1 : Int)))) then (bif decide (((1 : Int) + ((((a3.toNat + 1)) * 36 : Nat) : Int)) < (0 : Int)) then true else (bif (((1 : Int) + ((((a3.toNat + 1)) * 36 : Nat) : Int)) != ((1 : Int) + ((((a3.toNat + 1)) * 36 : Nat) : Int))) then true else (bif (spec_l04Asked_v0 a1 a1 a2 a3 a0 == 0) then (bif (!((decide (((a3.toNat + 1)) = 0) && sameB (impl_boundsFor_v0 Try.prog a0 a1 a2 a3) (#[] : Array Value)))) then true else (bif ((0 : Int) != (spec_l04Asked_v0 a1 a1 a2 a3 a0)) then true else ((Nat.ble ((a3.toNat + 1)) 100000) && ((decide (0 ≤ (1 : Int)) && decide ((1 : Int) ≤ 1000000)) && sameB (mkA (((a3.toNat + 1)) * 36) (1 : Int)) (mkA (((a3.toNat + 1)) * 36) (1 : Int)))))) else (bif (!((decide (0 = 0) && sameB (#[] : Array Value) (#[] : Array Value)))) then true else (bif ((spec_l04Asked_v0 a1 a1 a2 a3 a0) != (spec_l04Asked_v0 a1 a1 a2 a3 a0)) then true else ((Nat.ble ((a3.toNat + 1)) 100000) && ((decide (0 ≤ (1 : Int)) && decide ((1 : Int) ≤ 1000000)) && sameB (mkA (((a3.toNat + 1)) * 36) (1 : Int)) (mkA (((a3.toNat + 1)) * 36) (1 : Int))))))))) else false) else false)))) else (bif (!((decide (0 = 0) && sameB (#[] : Array Value) (#[] : Array Value)))) then true else (bif ((spec_l04Asked_v0 a1 a1 a2 a3 a0) != (spec_l04Asked_v0 a1 a1 a2 a3 a0)) then true else (bif Nat.beq 0 0 then (bif ((Nat.ble 0 100000) && ((decide (0 ≤ (1 : Int)) && decide ((1 : Int) ≤ 1000000)) && sameB (#[] : Array Value) (mkA (0 * 36) (1 : Int)))) then (bif decide (((1 : Int) + ((0 * 36 : Nat) : Int)) < (0 : Int)) then true else (bif (((1 : Int) + ((0 * 36 : Nat) : Int)) != (1 : Int)) then true else (bif (spec_l04Asked_v0 a1 a1 a2 a3 a0 == 0) then (bif (!((decide (((a3.toNat + 1)) = 0) && sameB (impl_boundsFor_v0 Try.prog a0 a1 a2 a3) (#[] : Array Value)))) then true else (bif ((0 : Int) != (spec_l04Asked_v0 a1 a1 a2 a3 a0)) then true else ((Nat.ble 0 100000) && ((decide (0 ≤ (1 : Int)) && decide ((1 : Int) ≤ 1000000)) && sameB (#[] : Array Value) (mkA (0 * 36) (1 : Int)))))) else (bif (!((decide (0 = 0) && sameB (#[] : Array Value) (#[] : Array Value)))) then true else (bif ((spec_l04Asked_v0 a1 a1 a2 a3 a0) != (spec_l04Asked_v0 a1 a1 a2 a3 a0)) then true else ((Nat.ble 0 100000) && ((decide (0 ≤ (1 : Int)) && decide ((1 : Int) ≤ 1000000)) && sameB (#[] : Array Value) (mkA (0 * 36) (1 : Int))))))))) else false) else (bif ((Nat.ble 0 100000) && (decide (0 ≤ (1 : Int)) && decide ((1 : Int) ≤ 1000000))) then (bif ((Nat.ble 0 100000) && ((decide (0 ≤ (1 : Int)) && decide ((1 : Int) ≤ 1000000)) && sameB (mkA (0 * 36) (1 : Int)) (mkA (0 * 36) (1 : Int)))) then (bif decide (((1 : Int) + ((0 * 36 : Nat) : Int)) < (0 : Int)) then true else (bif (((1 : Int) + ((0 * 36 : Nat) : Int)) != ((1 : Int) + ((0 * 36 : Nat) : Int))) then true else (bif (spec_l04Asked_v0 a1 a1 a2 a3 a0 == 0) then (bif (!((decide (((a3.toNat + 1)) = 0) && sameB (impl_boundsFor_v0 Try.prog a0 a1 a2 a3) (#[] : Array Value)))) then true else (bif ((0 : Int) != (spec_l04Asked_v0 a1 a1 a2 a3 a0)) then true else ((Nat.ble 0 100000) && ((decide (0 ≤ (1 : Int)) && decide ((1 : Int) ≤ 1000000)) && sameB (mkA (0 * 36) (1 : Int)) (mkA (0 * 36) (1 : Int)))))) else (bif (!((decide (0 = 0) && sameB (#[] : Array Value) (#[] : Array Value)))) then true else (bif ((spec_l04Asked_v0 a1 a1 a2 a3 a0) != (spec_l04Asked_v0 a1 a1 a2 a3 a0)) then true else ((Nat.ble 0 100000) && ((decide (0 ≤ (1 : Int)) && decide ((1 : Int) ≤ 1000000)) && sameB (mkA (0 * 36) (1 : Int)) (mkA (0 * 36) (1 : Int))))))))) else false) else false))))))

theorem laws_FnExactBoundsFor_main (a0 : Array Value) (a1 : Int) (a2 : Int) (a3 : Int) (h_a0 : WT Try.prog 28 a0) (h_a1 : IntKind.i64.min ≤ a1 ∧ a1 ≤ IntKind.i64.max) (h_a2 : IntKind.i64.min ≤ a2 ∧ a2 ≤ IntKind.i64.max) (h_a3 : IntKind.i64.min ≤ a3 ∧ a3 ≤ IntKind.i64.max) (hg : ((laws_FnExactBoundsFor_gd a0 a1 a2 a3)) = true) : ansV Try.prog (mkΓw [(18, conS spec_BoundsFor_scon), (19, conS impl_BoundsFor_scon), (21, conSW laws_markBounds_scon)] [(12, con laws_toSea_con), (20, con laws_eqBounds_con), (22, con laws_heldBounds_con)] [] []) 1000 Try.f5 [] [.g a0 28, .i .i64 (a1), .i .i64 (a2), .i .i64 (a3)] [] = some (.a (.b ((laws_FnExactBoundsFor_v0 Try.prog a0 a1 a2 a3))), .none, true) := by
  refine (laws_FnExactBoundsFor_ans 1000 a0 a1 a2 a3).trans ?_
  unfold laws_FnExactBoundsFor_gd at hg
  unfold laws_FnExactBoundsFor_v0
  revert hg
  generalize ((spec_l04Asked_v0 a1 a1 a2 a3 a0 == 0)) = b2
  intro hg
  cases b2
  · skip
    revert hg
    generalize ((!((decide (0 = 0) && sameB (#[] : Array Value) (#[] : Array Value))))) = b4
    intro hg
    cases b4
    · skip
      revert hg
      generalize (((spec_l04Asked_v0 a1 a1 a2 a3 a0) != (spec_l04Asked_v0 a1 a1 a2 a3 a0))) = b6
      intro hg
      cases b6
      · skip
        revert hg
        generalize (Nat.beq 0 0) = b8
        intro hg
        cases b8
        · skip
          revert hg
          generalize (((Nat.ble 0 100000) && (decide (0 ≤ (1 : Int)) && decide ((1 : Int) ≤ 1000000)))) = b10
          intro hg
          cases b10
          · skip
            first | exact (nomatch (hg : false = true)) | (simp only [cond_true, cond_false, Bool.and_true, Bool.true_and, Bool.and_false, Bool.false_and]; done) | rfl
          · skip
            revert hg
            generalize (((Nat.ble 0 100000) && ((decide (0 ≤ (1 : Int)) && decide ((1 : Int) ≤ 1000000)) && sameB (mkA (0 * 36) (1 : Int)) (mkA (0 * 36) (1 : Int))))) = b12
            intro hg
            cases b12
            · skip
              first | exact (nomatch (hg : false = true)) | (simp only [cond_true, cond_false, Bool.and_true, Bool.true_and, Bool.and_false, Bool.false_and]; done) | rfl
            · skip
              revert hg
              generalize (decide (((1 : Int) + ((0 * 36 : Nat) : Int)) < (0 : Int))) = b14
              intro hg
              cases b14
              · skip
                revert hg
                generalize ((((1 : Int) + ((0 * 36 : Nat) : Int)) != ((1 : Int) + ((0 * 36 : Nat) : Int)))) = b16
                intro hg
                cases b16
                · skip
                  first | (simp only [cond_true, cond_false, Bool.and_true, Bool.true_and, Bool.and_false, Bool.false_and]; done) | rfl | exact (nomatch (hg : false = true))
                · skip
                  first | (simp only [cond_true, cond_false, Bool.and_true, Bool.true_and, Bool.and_false, Bool.false_and]; done) | rfl | exact (nomatch (hg : false = true))
              · skip
                first | (simp only [cond_true, cond_false, Bool.and_true, Bool.true_and, Bool.and_false, Bool.false_and]; done) | rfl | exact (nomatch (hg : false = true))
        · skip
          revert hg
          generalize (((Nat.ble 0 100000) && ((decide (0 ≤ (1 : Int)) && decide ((1 : Int) ≤ 1000000)) && sameB (#[] : Array Value) (mkA (0 * 36) (1 : Int))))) = b10
          intro hg
          cases b10
          · skip
            first | exact (nomatch (hg : false = true)) | (simp only [cond_true, cond_false, Bool.and_true, Bool.true_and, Bool.and_false, Bool.false_and]; done) | rfl
          · skip
            revert hg
            generalize (decide (((1 : Int) + ((0 * 36 : Nat) : Int)) < (0 : Int))) = b12
            intro hg
            cases b12
            · skip
              revert hg
              generalize ((((1 : Int) + ((0 * 36 : Nat) : Int)) != (1 : Int))) = b14
              intro hg
              cases b14
              · skip
                first | (simp only [cond_true, cond_false, Bool.and_true, Bool.true_and, Bool.and_false, Bool.false_and]; done) | rfl | exact (nomatch (hg : false = true))
              · skip
                first | (simp only [cond_true, cond_false, Bool.and_true, Bool.true_and, Bool.and_false, Bool.false_and]; done) | rfl | exact (nomatch (hg : false = true))
            · skip
              first | (simp only [cond_true, cond_false, Bool.and_true, Bool.true_and, Bool.and_false, Bool.false_and]; done) | rfl | exact (nomatch (hg : false = true))
      · skip
        first | (simp only [cond_true, cond_false, Bool.and_true, Bool.true_and, Bool.and_false, Bool.false_and]; done) | rfl | exact (nomatch (hg : false = true))
    · skip
      first | (simp only [cond_true, cond_false, Bool.and_true, Bool.true_and, Bool.and_false, Bool.false_and]; done) | rfl | exact (nomatch (hg : false = true))
  · skip
    revert hg
    generalize ((!((decide (((a3.toNat + 1)) = ((a3.toNat + 1))) && sameB (impl_boundsFor_v0 Try.prog a0 a1 a2 a3) (impl_boundsFor_v0 Try.prog a0 a1 a2 a3))))) = b4
    intro hg
    cases b4
    · skip
      revert hg
      generalize (Nat.beq ((a3.toNat + 1)) 0) = b6
      intro hg
      cases b6
      · skip
        revert hg
        generalize (((Nat.ble ((a3.toNat + 1)) 100000) && (decide (0 ≤ (1 : Int)) && decide ((1 : Int) ≤ 1000000)))) = b8
        intro hg
        cases b8
        · skip
          first | exact (nomatch (hg : false = true)) | (simp only [cond_true, cond_false, Bool.and_true, Bool.true_and, Bool.and_false, Bool.false_and]; done) | rfl
        · skip
          revert hg
          generalize (((Nat.ble ((a3.toNat + 1)) 100000) && ((decide (0 ≤ (1 : Int)) && decide ((1 : Int) ≤ 1000000)) && sameB (mkA (((a3.toNat + 1)) * 36) (1 : Int)) (mkA (((a3.toNat + 1)) * 36) (1 : Int))))) = b10
          intro hg
          cases b10
          · skip
            first | exact (nomatch (hg : false = true)) | (simp only [cond_true, cond_false, Bool.and_true, Bool.true_and, Bool.and_false, Bool.false_and]; done) | rfl
          · skip
            revert hg
            generalize (decide (((1 : Int) + ((((a3.toNat + 1)) * 36 : Nat) : Int)) < (0 : Int))) = b12
            intro hg
            cases b12
            · skip
              revert hg
              generalize ((((1 : Int) + ((((a3.toNat + 1)) * 36 : Nat) : Int)) != ((1 : Int) + ((((a3.toNat + 1)) * 36 : Nat) : Int)))) = b14
              intro hg
              cases b14
              · skip
                first | (simp only [cond_true, cond_false, Bool.and_true, Bool.true_and, Bool.and_false, Bool.false_and]; done) | rfl | exact (nomatch (hg : false = true))
              · skip
                first | (simp only [cond_true, cond_false, Bool.and_true, Bool.true_and, Bool.and_false, Bool.false_and]; done) | rfl | exact (nomatch (hg : false = true))
            · skip
              first | (simp only [cond_true, cond_false, Bool.and_true, Bool.true_and, Bool.and_false, Bool.false_and]; done) | rfl | exact (nomatch (hg : false = true))
      · skip
        revert hg
        generalize (((Nat.ble ((a3.toNat + 1)) 100000) && ((decide (0 ≤ (1 : Int)) && decide ((1 : Int) ≤ 1000000)) && sameB (impl_boundsFor_v0 Try.prog a0 a1 a2 a3) (mkA (((a3.toNat + 1)) * 36) (1 : Int))))) = b8
        intro hg
        cases b8
        · skip
          first | exact (nomatch (hg : false = true)) | (simp only [cond_true, cond_false, Bool.and_true, Bool.true_and, Bool.and_false, Bool.false_and]; done) | rfl
        · skip
          revert hg
          generalize (decide (((1 : Int) + ((((a3.toNat + 1)) * 36 : Nat) : Int)) < (0 : Int))) = b10
          intro hg
          cases b10
          · skip
            revert hg
            generalize ((((1 : Int) + ((((a3.toNat + 1)) * 36 : Nat) : Int)) != (1 : Int))) = b12
            intro hg
            cases b12
            · skip
              first | (simp only [cond_true, cond_false, Bool.and_true, Bool.true_and, Bool.and_false, Bool.false_and]; done) | rfl | exact (nomatch (hg : false = true))
            · skip
              first | (simp only [cond_true, cond_false, Bool.and_true, Bool.true_and, Bool.and_false, Bool.false_and]; done) | rfl | exact (nomatch (hg : false = true))
          · skip
            first | (simp only [cond_true, cond_false, Bool.and_true, Bool.true_and, Bool.and_false, Bool.false_and]; done) | rfl | exact (nomatch (hg : false = true))
    · skip
      first | (simp only [cond_true, cond_false, Bool.and_true, Bool.true_and, Bool.and_false, Bool.false_and]; done) | rfl | exact (nomatch (hg : false = true))
noncomputable def laws_FnExactBoundsFor_con : Con := fun args h => match args, h with
  | [.g a0 28, .i .i64 a1, .i .i64 a2, .i .i64 a3], [] => some (.a (.b ((laws_FnExactBoundsFor_v0 Try.prog a0 a1 a2 a3))), .none, (laws_FnExactBoundsFor_gd a0 a1 a2 a3))
  | _, _ => none
theorem laws_FnExactBoundsFor_enter : ∀ args w, (callFunc 5 args).run Try.prog w = .ok (.enter 5 args) w := enter_ok (fn := Try.f5) (by kernel_rfl) (by kernel_rfl) (by kernel_rfl)
theorem laws_FnExactBoundsFor_ok : ConOk Try.prog 5 laws_FnExactBoundsFor_con := (ans_ok (N := 1000) (by kernel_rfl) (mkΓw_s (conS_ok spec_BoundsFor_sok) spec_BoundsFor_enter (mkΓw_s (conS_ok impl_BoundsFor_sok) impl_BoundsFor_enter (mkΓw_s (conSW_ok laws_markBounds_sok) laws_markBounds_enter (mkΓw_c (con_ok laws_toSea_ok) laws_toSea_enter (mkΓw_c (con_ok laws_eqBounds_ok) laws_eqBounds_enter (mkΓw_c (con_ok laws_heldBounds_ok) laws_heldBounds_enter mkΓx_nil)))))) (fn := Try.f5) (by kernel_rfl) (by kernel_rfl) []).of (by
  intro ρ h w args vals r e hA hH hr
  unfold laws_FnExactBoundsFor_con at hr
  split at hr
  · rename_i a0 a1 a2 a3
    obtain ⟨rfl, hg⟩ := Prod.mk.inj (Option.some.inj hr)
    obtain ⟨rfl, hg2⟩ := Prod.mk.inj hg
    exact laws_FnExactBoundsFor_main a0 a1 a2 a3 (hA.wt 0 rfl) (hA.rng 1 rfl) (hA.rng 2 rfl) (hA.rng 3 rfl) hg2
  · cases hr)

theorem laws_FnExactBoundsFor_true (a0 : Array Value) (a1 : Int) (a2 : Int) (a3 : Int) (h_a0 : WT Try.prog 28 a0) (h_a1 : IntKind.i64.min ≤ a1 ∧ a1 ≤ IntKind.i64.max) (h_a2 : IntKind.i64.min ≤ a2 ∧ a2 ≤ IntKind.i64.max) (h_a3 : IntKind.i64.min ≤ a3 ∧ a3 ≤ IntKind.i64.max) : ((laws_FnExactBoundsFor_gd a0 a1 a2 a3)) = true ∧ ((laws_FnExactBoundsFor_v0 Try.prog a0 a1 a2 a3)) = true := by
  have n0 : Nat.beq 0 0 = true := rfl
  have n2 : Nat.ble 0 100000 = true := rfl
  have d1 : decide ((0 : Int) ≤ 1) = true := by decide
  have d2 : decide ((1 : Int) ≤ 1000000) = true := by decide
  have m0 : ∀ m : Nat, sameB (#[] : Array Value) (mkA (0 * m) (1 : Int)) = true := fun m => by rw [Nat.zero_mul]; exact sameB_self _
  have z1 : ∀ m : Nat, decide ((1 : Int) + ((0 * m : Nat) : Int) < 0) = false := fun m => by rw [Nat.zero_mul]; rfl
  have z2 : ∀ m : Nat, ((1 : Int) + ((0 * m : Nat) : Int) != 1) = false := fun m => by rw [Nat.zero_mul]; rfl
  unfold laws_FnExactBoundsFor_gd laws_FnExactBoundsFor_v0
  cases hc : (spec_l04Asked_v0 a1 a1 a2 a3 a0 == 0) with
  | false =>
    simp only [cond_true, cond_false, sameB_self, decide_true, Bool.and_self, Bool.not_true, bne_self_eq_false, n0, n2, d1, d2, m0, z1, z2, decide_eq_true (rfl : (0 : Nat) = 0)]
    exact ⟨trivial, trivial⟩
  | true =>
    have r5 := in_range (ask_all hc).2.2.2.2
    have n1 : Nat.ble (a3.toNat + 1) 100000 = true := Nat.ble_eq_true_of_le (by omega)
    have n3 : Nat.beq (a3.toNat + 1) 0 = false := rfl
    have z3 : decide ((1 : Int) + (((a3.toNat + 1) * 36 : Nat) : Int) < 0) = false := decide_eq_false (by omega)
    simp only [cond_true, cond_false, sameB_self, decide_true, Bool.and_self, Bool.not_true, bne_self_eq_false, n1, n3, d1, d2, z3]
    exact ⟨trivial, trivial⟩

namespace lawFnExactBoundsFor
theorem lifted (os : Os) (started : os.Started) (H : Type) (enc : TypeId × Value → H) :
    ReturnsInHanded {} Try.checked os 5 .any (Rows.fnExactBoundsForSpec.pre6 enc Try.prog Try.f5 Rows.fnExactBoundsForRow.domain false) (Rows.fnExactBoundsForSpec.post enc Try.prog Try.f5 false true false false) := by
  refine law_lifted (C := Try.checked) (tb := 4) (by kernel_rfl) (by kernel_rfl) (by kernel_rfl) Try.func5 (by kernel_rfl) Try.underlying4 (of_decide_eq_true (by kernel_rfl)) rfl ?_ os started H enc
    (ChangeSpec.witness6 (enc := enc) (C := Try.checked) false ⟨#[], #[.agg (zc Try.prog 28), .int .i64 0, .int .i64 0, .int .i64 0], []⟩ 8 (by kernel_rfl) (by kernel_rfl) (by kernel_rfl) (by kernel_rfl)) ?_
  · intro H ds hds
    rw [show Try.f5.params.toList.length = 4 by kernel_rfl] at hds
    match ds, hds with
    | [_, _, _, _], _ => rfl
  · intro W base args ds ps hval hA
    rw [Try.params5] at hA hval
    obtain ⟨v0, v1, v2, v3, d0, d1, d2, d3, p0, p1, p2, p3, hargs, rfl, rfl, h0, h1, h2, h3⟩ := trodAll_four hA
    obtain ⟨a0, e0, w0⟩ := open_data (t := 28) 8 (by kernel_rfl) (by kernel_rfl) (hval 0 28 v0 rfl (by rw [hargs]; rfl)) h0
    obtain ⟨a1, e1, _, _, w1⟩ := open_int Try.underlying2 (hval 1 2 v1 rfl (by rw [hargs]; rfl)) h1
    obtain ⟨a2, e2, _, _, w2⟩ := open_int Try.underlying2 (hval 2 2 v2 rfl (by rw [hargs]; rfl)) h2
    obtain ⟨a3, e3, _, _, w3⟩ := open_int Try.underlying2 (hval 3 2 v3 rfl (by rw [hargs]; rfl)) h3
    obtain rfl : args = #[.agg a0, .int .i64 a1, .int .i64 a2, .int .i64 a3] := by rw [hargs, e0, e1, e2, e3]
    obtain ⟨hg, hv⟩ := laws_FnExactBoundsFor_true a0 a1 a2 a3 w0 (wfb w1) (wfb w2) (wfb w3)
    have hr : laws_FnExactBoundsFor_con [.g a0 28, .i .i64 a1, .i .i64 a2, .i .i64 a3] [] = some (.a (.b true), .none, true) := by
      show (some (SV.a (SA.b ((laws_FnExactBoundsFor_v0 Try.prog a0 a1 a2 a3))), Eff.none, (laws_FnExactBoundsFor_gd a0 a1 a2 a3)) : Option (SV × Eff × Bool)) = _
      rw [hg, hv]
    exact calls_con laws_FnExactBoundsFor_ok hr W (vals := [.agg a0, .int .i64 a1, .int .i64 a2, .int .i64 a3]) (allCons ⟨rfl, w0⟩ (allCons ⟨rfl, wfb w1⟩ (allCons ⟨rfl, wfb w2⟩ (allCons ⟨rfl, wfb w3⟩ allNil))))

theorem over : Rows.fnExactBoundsForRow.holds Try.pinned (OpenSpec.ofChange Rows.fnExactBoundsForSpec) :=
  OpenClaim.holds_of_wide 5 Try.f5 rfl rfl rfl rfl rfl rfl rfl ⟨rfl, rfl, rfl, rfl, rfl⟩ rfl rfl rfl rfl rfl (by kernel_rfl) Try.func5 (by kernel_rfl)
    (of_decide_eq_true (by kernel_rfl)) (by unfold Func.isWrapper; first | (rw [if_pos (by decide +kernel)]; kernel_rfl) | (rw [if_neg (by decide +kernel)]; exact ⟨rfl, rfl⟩))
    (fun os started H enc _ => lifted os started H enc)

theorem proved : Rows.FnExactBoundsForSaid := over
#print axioms proved
end lawFnExactBoundsFor

end
end Go.Proofs.Ytmkkckhfghomfaa
