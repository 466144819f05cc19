/- For every sea, cell, tide and list of finds spec and program tell the same finds that cannot be. -/
import Derived.Test.YtphmhgdedoeaeaaDoorRows
import Derived.Test.YtphmhgdedoeaeaaDoorChecked
import Derived.Test.YtphmhgdedoeaeaaDoorCyO
import Derived.Test.YtphmhgdedoeaeaaDoorVcG
import Derived.Test.YtphmhgdedoeaeaaDoorCards
import Derived.Test.YtphmhgdedoeaeaaDoorTie
namespace Go.Proofs.YtphmhgdedoeaeaaDoor
open Go.ChangeShapes Go.WideShapes Go.ChangeAt Go.RowKit Ve Vc
open Go.Proofs.Tryd (prog)
open IntKind (i64)
set_option linter.unusedVariables false
set_option linter.unusedSimpArgs false
set_option maxRecDepth 100000
noncomputable section
variable {F:Vc.Fd}
noncomputable def laws_FnExactImpossibleFinds_G:Cons:=(mkΓw [(33,conSW laws_markFindS_scon),(34,conSW laws_markInt64S_scon)] [(14,con laws_toSea_con),(27,con laws_szFindS_con),(28,con spec_ImpossibleFinds_con),(29,con laws_toFindS_con),(30,conG impl_ImpossibleFinds_con),(31,con laws_eqInt64S_con),(32,con laws_eqFindS_con),(35,con laws_heldInt64S_con)] [] [])
theorem laws_FnExactImpossibleFinds_ans (N:Nat) (a0:Array Value) (a1 a2:Int) (g_e0 g_e1 g_e2 g_e3 g_e4:Addr) (b_a3:Option (Option Addr)) (n_a3:Nat) (a3:Array Value):ansV prog laws_FnExactImpossibleFinds_G N Tryd.f8 [] [.g a0 28,.i .i64 (a1),.i .i64 (a2),.l 5] [.gl 0 184 g_e0 101973,.gl 1 184 g_e1 93330,.gl 3 184 g_e2 112315,.gl 2 184 g_e3 124718,.gl 4 184 g_e4 94254,.sl (.came b_a3) n_a3 a3 47]=(bif decide ((laws_szFindS_v0 (1048576:Int) b_a3 n_a3 a3)<(0:Int)) then (some (.a (.b (true)),.none,true))
    else (bif decide (n_a3≤1048576) then (bif decide (n_a3≤1048576) then (bif (!((decide (((impN a0 a1 a2 n_a3 a3))=((impN a0 a1 a2 n_a3 a3)))&&sameB (impD a0 a1 a2 n_a3 a3) (impD a0 a1 a2 n_a3 a3)))) then (some (.a (.b (false)),.none,true))
          else (bif ((impE a0 a1 a2 n_a3 a3) != (impE a0 a1 a2 n_a3 a3)) then (some (.a (.b (false)),.none,true))
            else (bif decide (n_a3≤1048576) then (bif (!((decide (n_a3=n_a3)&&sameB a3 a3))) then (some (.a (.b (false)),.none,true))
                else (bif Nat.beq n_a3 0 then (bif (!((decide (((impN a0 a1 a2 n_a3 a3))=((impN a0 a1 a2 n_a3 a3)))&&sameB (impD a0 a1 a2 n_a3 a3) (impD a0 a1 a2 n_a3 a3)))) then (some (.a (.b (false)),.none,true))
                    else (bif ((impE a0 a1 a2 n_a3 a3) != (impE a0 a1 a2 n_a3 a3)) then (some (.a (.b (false)),.none,true))
                      else (bif Nat.beq ((impN a0 a1 a2 n_a3 a3)) 0 then (bif ((Nat.ble ((impN a0 a1 a2 n_a3 a3)) 100000)&&((decide (0≤(1:Int))&&decide ((1:Int)≤1000000))&&sameB (impD a0 a1 a2 n_a3 a3) (mkA (((impN a0 a1 a2 n_a3 a3))*1) (1:Int)))) then (bif decide (((1:Int)+((((impN a0 a1 a2 n_a3 a3))*1:Nat):Int))<(0:Int)) then (some (.a (.b (false)),.none,true))
                            else (bif (((1:Int)+((((impN a0 a1 a2 n_a3 a3))*1:Nat):Int)) != (1:Int)) then (some (.a (.b (false)),.none,true))
                              else (bif decide (n_a3≤1048576) then (bif (!((decide (((impN a0 a1 a2 n_a3 a3))=((impN a0 a1 a2 n_a3 a3)))&&sameB (impD a0 a1 a2 n_a3 a3) (impD a0 a1 a2 n_a3 a3)))) then (some (.a (.b (false)),.none,true))
                                  else (bif ((impE a0 a1 a2 n_a3 a3) != (impE a0 a1 a2 n_a3 a3)) then (some (.a (.b (false)),.none,true))
                                    else (bif ((Nat.ble ((impN a0 a1 a2 n_a3 a3)) 100000)&&((decide (0≤(1:Int))&&decide ((1:Int)≤1000000))&&sameB (impD a0 a1 a2 n_a3 a3) (mkA (((impN a0 a1 a2 n_a3 a3))*1) (1:Int)))) then (bif decide (((1:Int)+((((impN a0 a1 a2 n_a3 a3))*1:Nat):Int))<(0:Int)) then (some (.a (.b (false)),.none,true))
                                        else (bif (((1:Int)+((((impN a0 a1 a2 n_a3 a3))*1:Nat):Int)) != (1:Int)) then (some (.a (.b (false)),.none,true))
                                          else (some (.a (.b (true)),.none,true))))
                                      else (none))))
                                else (none))))
                          else (none))
                        else (bif ((Nat.ble ((impN a0 a1 a2 n_a3 a3)) 100000)&&(decide (0≤(1:Int))&&decide ((1:Int)≤1000000))) then (bif ((Nat.ble ((impN a0 a1 a2 n_a3 a3)) 100000)&&((decide (0≤(1:Int))&&decide ((1:Int)≤1000000))&&sameB (mkA (((impN a0 a1 a2 n_a3 a3))*1) (1:Int)) (mkA (((impN a0 a1 a2 n_a3 a3))*1) (1:Int)))) then (bif decide (((1:Int)+((((impN a0 a1 a2 n_a3 a3))*1:Nat):Int))<(0:Int)) then (some (.a (.b (false)),.none,true))
                              else (bif (((1:Int)+((((impN a0 a1 a2 n_a3 a3))*1:Nat):Int)) != ((1:Int)+((((impN a0 a1 a2 n_a3 a3))*1:Nat):Int))) then (some (.a (.b (false)),.none,true))
                                else (bif decide (n_a3≤1048576) then (bif (!((decide (((impN a0 a1 a2 n_a3 a3))=((impN a0 a1 a2 n_a3 a3)))&&sameB (impD a0 a1 a2 n_a3 a3) (impD a0 a1 a2 n_a3 a3)))) then (some (.a (.b (false)),.none,true))
                                    else (bif ((impE a0 a1 a2 n_a3 a3) != (impE a0 a1 a2 n_a3 a3)) then (some (.a (.b (false)),.none,true))
                                      else (bif ((Nat.ble ((impN a0 a1 a2 n_a3 a3)) 100000)&&((decide (0≤(1:Int))&&decide ((1:Int)≤1000000))&&sameB (mkA (((impN a0 a1 a2 n_a3 a3))*1) (1:Int)) (mkA (((impN a0 a1 a2 n_a3 a3))*1) (1:Int)))) then (bif decide (((1:Int)+((((impN a0 a1 a2 n_a3 a3))*1:Nat):Int))<(0:Int)) then (some (.a (.b (false)),.none,true))
                                          else (bif (((1:Int)+((((impN a0 a1 a2 n_a3 a3))*1:Nat):Int)) != ((1:Int)+((((impN a0 a1 a2 n_a3 a3))*1:Nat):Int))) then (some (.a (.b (false)),.none,true))
                                            else (some (.a (.b (true)),.none,true))))
                                        else (none))))
                                  else (none))))
                            else (none))
                          else (none)))))
                  else (bif ((Nat.ble n_a3 2000000)&&(decide (0≤(1:Int))&&decide ((1:Int)≤1000000))) then (bif decide (((1:Int)+((n_a3*2:Nat):Int))<(0:Int)) then (some (.a (.b (false)),.none,true))
                      else (bif (!((decide (((impN a0 a1 a2 n_a3 a3))=((impN a0 a1 a2 n_a3 a3)))&&sameB (impD a0 a1 a2 n_a3 a3) (impD a0 a1 a2 n_a3 a3)))) then (some (.a (.b (false)),.none,true))
                        else (bif ((impE a0 a1 a2 n_a3 a3) != (impE a0 a1 a2 n_a3 a3)) then (some (.a (.b (false)),.none,true))
                          else (bif Nat.beq ((impN a0 a1 a2 n_a3 a3)) 0 then (bif ((Nat.ble ((impN a0 a1 a2 n_a3 a3)) 100000)&&((decide (0≤(1:Int))&&decide ((1:Int)≤1000000))&&sameB (impD a0 a1 a2 n_a3 a3) (mkA (((impN a0 a1 a2 n_a3 a3))*1) (1:Int)))) then (bif decide (((1:Int)+((((impN a0 a1 a2 n_a3 a3))*1:Nat):Int))<(0:Int)) then (some (.a (.b (false)),.none,true))
                                else (bif (((1:Int)+((((impN a0 a1 a2 n_a3 a3))*1:Nat):Int)) != (1:Int)) then (some (.a (.b (false)),.none,true))
                                  else (bif decide (n_a3≤1048576) then (bif (!((decide (((impN a0 a1 a2 n_a3 a3))=((impN a0 a1 a2 n_a3 a3)))&&sameB (impD a0 a1 a2 n_a3 a3) (impD a0 a1 a2 n_a3 a3)))) then (some (.a (.b (false)),.none,true))
                                      else (bif ((impE a0 a1 a2 n_a3 a3) != (impE a0 a1 a2 n_a3 a3)) then (some (.a (.b (false)),.none,true))
                                        else (bif ((Nat.ble ((impN a0 a1 a2 n_a3 a3)) 100000)&&((decide (0≤(1:Int))&&decide ((1:Int)≤1000000))&&sameB (impD a0 a1 a2 n_a3 a3) (mkA (((impN a0 a1 a2 n_a3 a3))*1) (1:Int)))) then (bif decide (((1:Int)+((((impN a0 a1 a2 n_a3 a3))*1:Nat):Int))<(0:Int)) then (some (.a (.b (false)),.none,true))
                                            else (bif (((1:Int)+((((impN a0 a1 a2 n_a3 a3))*1:Nat):Int)) != (1:Int)) then (some (.a (.b (false)),.none,true))
                                              else (some (.a (.b (true)),.none,true))))
                                          else (none))))
                                    else (none))))
                              else (none))
                            else (bif ((Nat.ble ((impN a0 a1 a2 n_a3 a3)) 100000)&&(decide (0≤(1:Int))&&decide ((1:Int)≤1000000))) then (bif ((Nat.ble ((impN a0 a1 a2 n_a3 a3)) 100000)&&((decide (0≤(1:Int))&&decide ((1:Int)≤1000000))&&sameB (mkA (((impN a0 a1 a2 n_a3 a3))*1) (1:Int)) (mkA (((impN a0 a1 a2 n_a3 a3))*1) (1:Int)))) then (bif decide (((1:Int)+((((impN a0 a1 a2 n_a3 a3))*1:Nat):Int))<(0:Int)) then (some (.a (.b (false)),.none,true))
                                  else (bif (((1:Int)+((((impN a0 a1 a2 n_a3 a3))*1:Nat):Int)) != ((1:Int)+((((impN a0 a1 a2 n_a3 a3))*1:Nat):Int))) then (some (.a (.b (false)),.none,true))
                                    else (bif decide (n_a3≤1048576) then (bif (!((decide (((impN a0 a1 a2 n_a3 a3))=((impN a0 a1 a2 n_a3 a3)))&&sameB (impD a0 a1 a2 n_a3 a3) (impD a0 a1 a2 n_a3 a3)))) then (some (.a (.b (false)),.none,true))
                                        else (bif ((impE a0 a1 a2 n_a3 a3) != (impE a0 a1 a2 n_a3 a3)) then (some (.a (.b (false)),.none,true))
                                          else (bif ((Nat.ble ((impN a0 a1 a2 n_a3 a3)) 100000)&&((decide (0≤(1:Int))&&decide ((1:Int)≤1000000))&&sameB (mkA (((impN a0 a1 a2 n_a3 a3))*1) (1:Int)) (mkA (((impN a0 a1 a2 n_a3 a3))*1) (1:Int)))) then (bif decide (((1:Int)+((((impN a0 a1 a2 n_a3 a3))*1:Nat):Int))<(0:Int)) then (some (.a (.b (false)),.none,true))
                                              else (bif (((1:Int)+((((impN a0 a1 a2 n_a3 a3))*1:Nat):Int)) != ((1:Int)+((((impN a0 a1 a2 n_a3 a3))*1:Nat):Int))) then (some (.a (.b (false)),.none,true))
                                                else (some (.a (.b (true)),.none,true))))
                                            else (none))))
                                      else (none))))
                                else (none))
                              else (none))))))
                    else (none))))
              else (none))))
        else (none))
      else (none))):=by kernel_rfl
noncomputable def laws_FnExactImpossibleFinds_v0 (a0:Array Value) (a1 a2:Int) (g_e0 g_e1 g_e2 g_e3 g_e4:Addr) (b_a3:Option (Option Addr)) (n_a3:Nat) (a3:Array Value):Bool:=(bif decide ((laws_szFindS_v0 (1048576:Int) b_a3 n_a3 a3)<(0:Int)) then true else (bif (!((decide (((impN a0 a1 a2 n_a3 a3))=((impN a0 a1 a2 n_a3 a3)))&&sameB (impD a0 a1 a2 n_a3 a3) (impD a0 a1 a2 n_a3 a3)))) then false else (bif ((impE a0 a1 a2 n_a3 a3) != (impE a0 a1 a2 n_a3 a3)) then false else (bif (!((decide (n_a3=n_a3)&&sameB a3 a3))) then false else (bif Nat.beq n_a3 0 then (bif (!((decide (((impN a0 a1 a2 n_a3 a3))=((impN a0 a1 a2 n_a3 a3)))&&sameB (impD a0 a1 a2 n_a3 a3) (impD a0 a1 a2 n_a3 a3)))) then false else (bif ((impE a0 a1 a2 n_a3 a3) != (impE a0 a1 a2 n_a3 a3)) then false else (bif Nat.beq ((impN a0 a1 a2 n_a3 a3)) 0 then (bif decide (((1:Int)+((((impN a0 a1 a2 n_a3 a3))*1:Nat):Int))<(0:Int)) then false else (bif (((1:Int)+((((impN a0 a1 a2 n_a3 a3))*1:Nat):Int)) != (1:Int)) then false else (bif (!((decide (((impN a0 a1 a2 n_a3 a3))=((impN a0 a1 a2 n_a3 a3)))&&sameB (impD a0 a1 a2 n_a3 a3) (impD a0 a1 a2 n_a3 a3)))) then false else (bif ((impE a0 a1 a2 n_a3 a3) != (impE a0 a1 a2 n_a3 a3)) then false else (bif decide (((1:Int)+((((impN a0 a1 a2 n_a3 a3))*1:Nat):Int))<(0:Int)) then false else (bif (((1:Int)+((((impN a0 a1 a2 n_a3 a3))*1:Nat):Int)) != (1:Int)) then false else true)))))) else (bif decide (((1:Int)+((((impN a0 a1 a2 n_a3 a3))*1:Nat):Int))<(0:Int)) then false else (bif (((1:Int)+((((impN a0 a1 a2 n_a3 a3))*1:Nat):Int)) != ((1:Int)+((((impN a0 a1 a2 n_a3 a3))*1:Nat):Int))) then false else (bif (!((decide (((impN a0 a1 a2 n_a3 a3))=((impN a0 a1 a2 n_a3 a3)))&&sameB (impD a0 a1 a2 n_a3 a3) (impD a0 a1 a2 n_a3 a3)))) then false else (bif ((impE a0 a1 a2 n_a3 a3) != (impE a0 a1 a2 n_a3 a3)) then false else (bif decide (((1:Int)+((((impN a0 a1 a2 n_a3 a3))*1:Nat):Int))<(0:Int)) then false else (bif (((1:Int)+((((impN a0 a1 a2 n_a3 a3))*1:Nat):Int)) != ((1:Int)+((((impN a0 a1 a2 n_a3 a3))*1:Nat):Int))) then false else true))))))))) else (bif decide (((1:Int)+((n_a3*2:Nat):Int))<(0:Int)) then false else (bif (!((decide (((impN a0 a1 a2 n_a3 a3))=((impN a0 a1 a2 n_a3 a3)))&&sameB (impD a0 a1 a2 n_a3 a3) (impD a0 a1 a2 n_a3 a3)))) then false else (bif ((impE a0 a1 a2 n_a3 a3) != (impE a0 a1 a2 n_a3 a3)) then false else (bif Nat.beq ((impN a0 a1 a2 n_a3 a3)) 0 then (bif decide (((1:Int)+((((impN a0 a1 a2 n_a3 a3))*1:Nat):Int))<(0:Int)) then false else (bif (((1:Int)+((((impN a0 a1 a2 n_a3 a3))*1:Nat):Int)) != (1:Int)) then false else (bif (!((decide (((impN a0 a1 a2 n_a3 a3))=((impN a0 a1 a2 n_a3 a3)))&&sameB (impD a0 a1 a2 n_a3 a3) (impD a0 a1 a2 n_a3 a3)))) then false else (bif ((impE a0 a1 a2 n_a3 a3) != (impE a0 a1 a2 n_a3 a3)) then false else (bif decide (((1:Int)+((((impN a0 a1 a2 n_a3 a3))*1:Nat):Int))<(0:Int)) then false else (bif (((1:Int)+((((impN a0 a1 a2 n_a3 a3))*1:Nat):Int)) != (1:Int)) then false else true)))))) else (bif decide (((1:Int)+((((impN a0 a1 a2 n_a3 a3))*1:Nat):Int))<(0:Int)) then false else (bif (((1:Int)+((((impN a0 a1 a2 n_a3 a3))*1:Nat):Int)) != ((1:Int)+((((impN a0 a1 a2 n_a3 a3))*1:Nat):Int))) then false else (bif (!((decide (((impN a0 a1 a2 n_a3 a3))=((impN a0 a1 a2 n_a3 a3)))&&sameB (impD a0 a1 a2 n_a3 a3) (impD a0 a1 a2 n_a3 a3)))) then false else (bif ((impE a0 a1 a2 n_a3 a3) != (impE a0 a1 a2 n_a3 a3)) then false else (bif decide (((1:Int)+((((impN a0 a1 a2 n_a3 a3))*1:Nat):Int))<(0:Int)) then false else (bif (((1:Int)+((((impN a0 a1 a2 n_a3 a3))*1:Nat):Int)) != ((1:Int)+((((impN a0 a1 a2 n_a3 a3))*1:Nat):Int))) then false else true)))))))))))))))
noncomputable def laws_FnExactImpossibleFinds_gd (a0:Array Value) (a1 a2:Int) (g_e0 g_e1 g_e2 g_e3 g_e4:Addr) (b_a3:Option (Option Addr)) (n_a3:Nat) (a3:Array Value):Bool:=(bif decide ((laws_szFindS_v0 (1048576:Int) b_a3 n_a3 a3)<(0:Int)) then true else (bif decide (n_a3≤1048576) then (bif decide (n_a3≤1048576) then (bif (!((decide (((impN a0 a1 a2 n_a3 a3))=((impN a0 a1 a2 n_a3 a3)))&&sameB (impD a0 a1 a2 n_a3 a3) (impD a0 a1 a2 n_a3 a3)))) then true else (bif ((impE a0 a1 a2 n_a3 a3) != (impE a0 a1 a2 n_a3 a3)) then true else (bif decide (n_a3≤1048576) then (bif (!((decide (n_a3=n_a3)&&sameB a3 a3))) then true else (bif Nat.beq n_a3 0 then (bif (!((decide (((impN a0 a1 a2 n_a3 a3))=((impN a0 a1 a2 n_a3 a3)))&&sameB (impD a0 a1 a2 n_a3 a3) (impD a0 a1 a2 n_a3 a3)))) then true else (bif ((impE a0 a1 a2 n_a3 a3) != (impE a0 a1 a2 n_a3 a3)) then true else (bif Nat.beq ((impN a0 a1 a2 n_a3 a3)) 0 then (bif ((Nat.ble ((impN a0 a1 a2 n_a3 a3)) 100000)&&((decide (0≤(1:Int))&&decide ((1:Int)≤1000000))&&sameB (impD a0 a1 a2 n_a3 a3) (mkA (((impN a0 a1 a2 n_a3 a3))*1) (1:Int)))) then (bif decide (((1:Int)+((((impN a0 a1 a2 n_a3 a3))*1:Nat):Int))<(0:Int)) then true else (bif (((1:Int)+((((impN a0 a1 a2 n_a3 a3))*1:Nat):Int)) != (1:Int)) then true else (bif decide (n_a3≤1048576) then (bif (!((decide (((impN a0 a1 a2 n_a3 a3))=((impN a0 a1 a2 n_a3 a3)))&&sameB (impD a0 a1 a2 n_a3 a3) (impD a0 a1 a2 n_a3 a3)))) then true else (bif ((impE a0 a1 a2 n_a3 a3) != (impE a0 a1 a2 n_a3 a3)) then true else ((Nat.ble ((impN a0 a1 a2 n_a3 a3)) 100000)&&((decide (0≤(1:Int))&&decide ((1:Int)≤1000000))&&sameB (impD a0 a1 a2 n_a3 a3) (mkA (((impN a0 a1 a2 n_a3 a3))*1) (1:Int)))))) else false))) else false) else (bif ((Nat.ble ((impN a0 a1 a2 n_a3 a3)) 100000)&&(decide (0≤(1:Int))&&decide ((1:Int)≤1000000))) then (bif ((Nat.ble ((impN a0 a1 a2 n_a3 a3)) 100000)&&((decide (0≤(1:Int))&&decide ((1:Int)≤1000000))&&sameB (mkA (((impN a0 a1 a2 n_a3 a3))*1) (1:Int)) (mkA (((impN a0 a1 a2 n_a3 a3))*1) (1:Int)))) then (bif decide (((1:Int)+((((impN a0 a1 a2 n_a3 a3))*1:Nat):Int))<(0:Int)) then true else (bif (((1:Int)+((((impN a0 a1 a2 n_a3 a3))*1:Nat):Int)) != ((1:Int)+((((impN a0 a1 a2 n_a3 a3))*1:Nat):Int))) then true else (bif decide (n_a3≤1048576) then (bif (!((decide (((impN a0 a1 a2 n_a3 a3))=((impN a0 a1 a2 n_a3 a3)))&&sameB (impD a0 a1 a2 n_a3 a3) (impD a0 a1 a2 n_a3 a3)))) then true else (bif ((impE a0 a1 a2 n_a3 a3) != (impE a0 a1 a2 n_a3 a3)) then true else ((Nat.ble ((impN a0 a1 a2 n_a3 a3)) 100000)&&((decide (0≤(1:Int))&&decide ((1:Int)≤1000000))&&sameB (mkA (((impN a0 a1 a2 n_a3 a3))*1) (1:Int)) (mkA (((impN a0 a1 a2 n_a3 a3))*1) (1:Int)))))) else false))) else false) else false)))) else (bif ((Nat.ble n_a3 2000000)&&(decide (0≤(1:Int))&&decide ((1:Int)≤1000000))) then (bif decide (((1:Int)+((n_a3*2:Nat):Int))<(0:Int)) then true else (bif (!((decide (((impN a0 a1 a2 n_a3 a3))=((impN a0 a1 a2 n_a3 a3)))&&sameB (impD a0 a1 a2 n_a3 a3) (impD a0 a1 a2 n_a3 a3)))) then true else (bif ((impE a0 a1 a2 n_a3 a3) != (impE a0 a1 a2 n_a3 a3)) then true else (bif Nat.beq ((impN a0 a1 a2 n_a3 a3)) 0 then (bif ((Nat.ble ((impN a0 a1 a2 n_a3 a3)) 100000)&&((decide (0≤(1:Int))&&decide ((1:Int)≤1000000))&&sameB (impD a0 a1 a2 n_a3 a3) (mkA (((impN a0 a1 a2 n_a3 a3))*1) (1:Int)))) then (bif decide (((1:Int)+((((impN a0 a1 a2 n_a3 a3))*1:Nat):Int))<(0:Int)) then true else (bif (((1:Int)+((((impN a0 a1 a2 n_a3 a3))*1:Nat):Int)) != (1:Int)) then true else (bif decide (n_a3≤1048576) then (bif (!((decide (((impN a0 a1 a2 n_a3 a3))=((impN a0 a1 a2 n_a3 a3)))&&sameB (impD a0 a1 a2 n_a3 a3) (impD a0 a1 a2 n_a3 a3)))) then true else (bif ((impE a0 a1 a2 n_a3 a3) != (impE a0 a1 a2 n_a3 a3)) then true else ((Nat.ble ((impN a0 a1 a2 n_a3 a3)) 100000)&&((decide (0≤(1:Int))&&decide ((1:Int)≤1000000))&&sameB (impD a0 a1 a2 n_a3 a3) (mkA (((impN a0 a1 a2 n_a3 a3))*1) (1:Int)))))) else false))) else false) else (bif ((Nat.ble ((impN a0 a1 a2 n_a3 a3)) 100000)&&(decide (0≤(1:Int))&&decide ((1:Int)≤1000000))) then (bif ((Nat.ble ((impN a0 a1 a2 n_a3 a3)) 100000)&&((decide (0≤(1:Int))&&decide ((1:Int)≤1000000))&&sameB (mkA (((impN a0 a1 a2 n_a3 a3))*1) (1:Int)) (mkA (((impN a0 a1 a2 n_a3 a3))*1) (1:Int)))) then (bif decide (((1:Int)+((((impN a0 a1 a2 n_a3 a3))*1:Nat):Int))<(0:Int)) then true else (bif (((1:Int)+((((impN a0 a1 a2 n_a3 a3))*1:Nat):Int)) != ((1:Int)+((((impN a0 a1 a2 n_a3 a3))*1:Nat):Int))) then true else (bif decide (n_a3≤1048576) then (bif (!((decide (((impN a0 a1 a2 n_a3 a3))=((impN a0 a1 a2 n_a3 a3)))&&sameB (impD a0 a1 a2 n_a3 a3) (impD a0 a1 a2 n_a3 a3)))) then true else (bif ((impE a0 a1 a2 n_a3 a3) != (impE a0 a1 a2 n_a3 a3)) then true else ((Nat.ble ((impN a0 a1 a2 n_a3 a3)) 100000)&&((decide (0≤(1:Int))&&decide ((1:Int)≤1000000))&&sameB (mkA (((impN a0 a1 a2 n_a3 a3))*1) (1:Int)) (mkA (((impN a0 a1 a2 n_a3 a3))*1) (1:Int)))))) else false))) else false) else false))))) else false))) else false))) else false) else false))
theorem laws_FnExactImpossibleFinds_main (a0:Array Value) (a1 a2:Int) (g_e0 g_e1 g_e2 g_e3 g_e4:Addr) (b_a3:Option (Option Addr)) (n_a3:Nat) (a3:Array Value) (h_a0:WT prog 28 a0) (h_a1:i64.min≤a1∧a1≤i64.max) (h_a2:i64.min≤a2∧a2≤i64.max) (h_a3:a3.size=n_a3*(lay prog 47).length∧(∀ k,k<n_a3→WT prog 47 (a3.extract (k*(lay prog 47).length) (k*(lay prog 47).length+(lay prog 47).length)))∧n_a3≤9223372036854775807) (hg:((laws_FnExactImpossibleFinds_gd a0 a1 a2 g_e0 g_e1 g_e2 g_e3 g_e4 b_a3 n_a3 a3))=true):ansV prog laws_FnExactImpossibleFinds_G 1000 Tryd.f8 [] [.g a0 28,.i .i64 (a1),.i .i64 (a2),.l 5] [.gl 0 184 g_e0 101973,.gl 1 184 g_e1 93330,.gl 3 184 g_e2 112315,.gl 2 184 g_e3 124718,.gl 4 184 g_e4 94254,.sl (.came b_a3) n_a3 a3 47]=some (.a (.b ((laws_FnExactImpossibleFinds_v0 a0 a1 a2 g_e0 g_e1 g_e2 g_e3 g_e4 b_a3 n_a3 a3))),.none,true):=by
 refine (laws_FnExactImpossibleFinds_ans 1000 a0 a1 a2 g_e0 g_e1 g_e2 g_e3 g_e4 b_a3 n_a3 a3).trans ?_
 unfold laws_FnExactImpossibleFinds_gd at hg
 unfold laws_FnExactImpossibleFinds_v0
 revert hg
 generalize (decide ((laws_szFindS_v0 (1048576:Int) b_a3 n_a3 a3)<(0:Int)))=b2
 intro hg
 cases b2
 ·skip
  revert hg
  generalize (decide (n_a3≤1048576))=b4
  intro hg
  cases b4
  ·skip
   first | exact (nomatch (hg:false=true)) | (simp only [cond_true,cond_false,Bool.and_true,Bool.true_and,Bool.and_false,Bool.false_and];done) | rfl
  ·skip
   revert hg
   generalize ((!((decide (((impN a0 a1 a2 n_a3 a3))=((impN a0 a1 a2 n_a3 a3)))&&sameB (impD a0 a1 a2 n_a3 a3) (impD a0 a1 a2 n_a3 a3)))))=b6
   intro hg
   cases b6
   ·skip
    revert hg
    generalize (((impE a0 a1 a2 n_a3 a3) != (impE a0 a1 a2 n_a3 a3)))=b8
    intro hg
    cases b8
    ·skip
     revert hg
     generalize ((!((decide (n_a3=n_a3)&&sameB a3 a3))))=b10
     intro hg
     cases b10
     ·skip
      revert hg
      generalize (Nat.beq n_a3 0)=b12
      intro hg
      cases b12
      ·skip
       revert hg
       generalize (((Nat.ble n_a3 2000000)&&(decide (0≤(1:Int))&&decide ((1:Int)≤1000000))))=b14
       intro hg
       cases b14
       ·skip
        first | exact (nomatch (hg:false=true)) | (simp only [cond_true,cond_false,Bool.and_true,Bool.true_and,Bool.and_false,Bool.false_and];done) | rfl
       ·skip
        revert hg
        generalize (decide (((1:Int)+((n_a3*2:Nat):Int))<(0:Int)))=b16
        intro hg
        cases b16
        ·skip
         revert hg
         generalize (Nat.beq ((impN a0 a1 a2 n_a3 a3)) 0)=b18
         intro hg
         cases b18
         ·skip
          revert hg
          generalize (((Nat.ble ((impN a0 a1 a2 n_a3 a3)) 100000)&&(decide (0≤(1:Int))&&decide ((1:Int)≤1000000))))=b20
          intro hg
          cases b20
          ·skip
           first | exact (nomatch (hg:false=true)) | (simp only [cond_true,cond_false,Bool.and_true,Bool.true_and,Bool.and_false,Bool.false_and];done) | rfl
          ·skip
           revert hg
           generalize (((Nat.ble ((impN a0 a1 a2 n_a3 a3)) 100000)&&((decide (0≤(1:Int))&&decide ((1:Int)≤1000000))&&sameB (mkA (((impN a0 a1 a2 n_a3 a3))*1) (1:Int)) (mkA (((impN a0 a1 a2 n_a3 a3))*1) (1:Int)))))=b22
           intro hg
           cases b22
           ·skip
            first | exact (nomatch (hg:false=true)) | (simp only [cond_true,cond_false,Bool.and_true,Bool.true_and,Bool.and_false,Bool.false_and];done) | rfl
           ·skip
            revert hg
            generalize (decide (((1:Int)+((((impN a0 a1 a2 n_a3 a3))*1:Nat):Int))<(0:Int)))=b24
            intro hg
            cases b24
            ·skip
             revert hg
             generalize ((((1:Int)+((((impN a0 a1 a2 n_a3 a3))*1:Nat):Int)) != ((1:Int)+((((impN a0 a1 a2 n_a3 a3))*1:Nat):Int))))=b26
             intro hg
             cases b26
             ·skip
              first | (simp only [cond_true,cond_false,Bool.and_true,Bool.true_and,Bool.and_false,Bool.false_and];done) | rfl | exact (nomatch (hg:false=true))
             ·skip
              first | (simp only [cond_true,cond_false,Bool.and_true,Bool.true_and,Bool.and_false,Bool.false_and];done) | rfl | exact (nomatch (hg:false=true))
            ·skip
             first | (simp only [cond_true,cond_false,Bool.and_true,Bool.true_and,Bool.and_false,Bool.false_and];done) | rfl | exact (nomatch (hg:false=true))
         ·skip
          revert hg
          generalize (((Nat.ble ((impN a0 a1 a2 n_a3 a3)) 100000)&&((decide (0≤(1:Int))&&decide ((1:Int)≤1000000))&&sameB (impD a0 a1 a2 n_a3 a3) (mkA (((impN a0 a1 a2 n_a3 a3))*1) (1:Int)))))=b20
          intro hg
          cases b20
          ·skip
           first | exact (nomatch (hg:false=true)) | (simp only [cond_true,cond_false,Bool.and_true,Bool.true_and,Bool.and_false,Bool.false_and];done) | rfl
          ·skip
           revert hg
           generalize (decide (((1:Int)+((((impN a0 a1 a2 n_a3 a3))*1:Nat):Int))<(0:Int)))=b22
           intro hg
           cases b22
           ·skip
            revert hg
            generalize ((((1:Int)+((((impN a0 a1 a2 n_a3 a3))*1:Nat):Int)) != (1:Int)))=b24
            intro hg
            cases b24
            ·skip
             first | (simp only [cond_true,cond_false,Bool.and_true,Bool.true_and,Bool.and_false,Bool.false_and];done) | rfl | exact (nomatch (hg:false=true))
            ·skip
             first | (simp only [cond_true,cond_false,Bool.and_true,Bool.true_and,Bool.and_false,Bool.false_and];done) | rfl | exact (nomatch (hg:false=true))
           ·skip
            first | (simp only [cond_true,cond_false,Bool.and_true,Bool.true_and,Bool.and_false,Bool.false_and];done) | rfl | exact (nomatch (hg:false=true))
        ·skip
         first | (simp only [cond_true,cond_false,Bool.and_true,Bool.true_and,Bool.and_false,Bool.false_and];done) | rfl | exact (nomatch (hg:false=true))
      ·skip
       revert hg
       generalize (Nat.beq ((impN a0 a1 a2 n_a3 a3)) 0)=b14
       intro hg
       cases b14
       ·skip
        revert hg
        generalize (((Nat.ble ((impN a0 a1 a2 n_a3 a3)) 100000)&&(decide (0≤(1:Int))&&decide ((1:Int)≤1000000))))=b16
        intro hg
        cases b16
        ·skip
         first | exact (nomatch (hg:false=true)) | (simp only [cond_true,cond_false,Bool.and_true,Bool.true_and,Bool.and_false,Bool.false_and];done) | rfl
        ·skip
         revert hg
         generalize (((Nat.ble ((impN a0 a1 a2 n_a3 a3)) 100000)&&((decide (0≤(1:Int))&&decide ((1:Int)≤1000000))&&sameB (mkA (((impN a0 a1 a2 n_a3 a3))*1) (1:Int)) (mkA (((impN a0 a1 a2 n_a3 a3))*1) (1:Int)))))=b18
         intro hg
         cases b18
         ·skip
          first | exact (nomatch (hg:false=true)) | (simp only [cond_true,cond_false,Bool.and_true,Bool.true_and,Bool.and_false,Bool.false_and];done) | rfl
         ·skip
          revert hg
          generalize (decide (((1:Int)+((((impN a0 a1 a2 n_a3 a3))*1:Nat):Int))<(0:Int)))=b20
          intro hg
          cases b20
          ·skip
           revert hg
           generalize ((((1:Int)+((((impN a0 a1 a2 n_a3 a3))*1:Nat):Int)) != ((1:Int)+((((impN a0 a1 a2 n_a3 a3))*1:Nat):Int))))=b22
           intro hg
           cases b22
           ·skip
            first | (simp only [cond_true,cond_false,Bool.and_true,Bool.true_and,Bool.and_false,Bool.false_and];done) | rfl | exact (nomatch (hg:false=true))
           ·skip
            first | (simp only [cond_true,cond_false,Bool.and_true,Bool.true_and,Bool.and_false,Bool.false_and];done) | rfl | exact (nomatch (hg:false=true))
          ·skip
           first | (simp only [cond_true,cond_false,Bool.and_true,Bool.true_and,Bool.and_false,Bool.false_and];done) | rfl | exact (nomatch (hg:false=true))
       ·skip
        revert hg
        generalize (((Nat.ble ((impN a0 a1 a2 n_a3 a3)) 100000)&&((decide (0≤(1:Int))&&decide ((1:Int)≤1000000))&&sameB (impD a0 a1 a2 n_a3 a3) (mkA (((impN a0 a1 a2 n_a3 a3))*1) (1:Int)))))=b16
        intro hg
        cases b16
        ·skip
         first | exact (nomatch (hg:false=true)) | (simp only [cond_true,cond_false,Bool.and_true,Bool.true_and,Bool.and_false,Bool.false_and];done) | rfl
        ·skip
         revert hg
         generalize (decide (((1:Int)+((((impN a0 a1 a2 n_a3 a3))*1:Nat):Int))<(0:Int)))=b18
         intro hg
         cases b18
         ·skip
          revert hg
          generalize ((((1:Int)+((((impN a0 a1 a2 n_a3 a3))*1:Nat):Int)) != (1:Int)))=b20
          intro hg
          cases b20
          ·skip
           first | (simp only [cond_true,cond_false,Bool.and_true,Bool.true_and,Bool.and_false,Bool.false_and];done) | rfl | exact (nomatch (hg:false=true))
          ·skip
           first | (simp only [cond_true,cond_false,Bool.and_true,Bool.true_and,Bool.and_false,Bool.false_and];done) | rfl | exact (nomatch (hg:false=true))
         ·skip
          first | (simp only [cond_true,cond_false,Bool.and_true,Bool.true_and,Bool.and_false,Bool.false_and];done) | rfl | exact (nomatch (hg:false=true))
     ·skip
      first | (simp only [cond_true,cond_false,Bool.and_true,Bool.true_and,Bool.and_false,Bool.false_and];done) | rfl | exact (nomatch (hg:false=true))
    ·skip
     first | (simp only [cond_true,cond_false,Bool.and_true,Bool.true_and,Bool.and_false,Bool.false_and];done) | rfl | exact (nomatch (hg:false=true))
   ·skip
    first | (simp only [cond_true,cond_false,Bool.and_true,Bool.true_and,Bool.and_false,Bool.false_and];done) | rfl | exact (nomatch (hg:false=true))
 ·skip
  first | (simp only [cond_true,cond_false,Bool.and_true,Bool.true_and,Bool.and_false,Bool.false_and];done) | rfl | exact (nomatch (hg:false=true))
noncomputable def laws_FnExactImpossibleFinds_con:Con:=fun args h=>match args,h with
 | [.g a0 28,.i .i64 a1,.i .i64 a2,.l 5],[.gl 0 184 g_e0 101973,.gl 1 184 g_e1 93330,.gl 3 184 g_e2 112315,.gl 2 184 g_e3 124718,.gl 4 184 g_e4 94254,.sl (.came b_a3) n_a3 a3 47]=>some (.a (.b ((laws_FnExactImpossibleFinds_v0 a0 a1 a2 g_e0 g_e1 g_e2 g_e3 g_e4 b_a3 n_a3 a3))),.none,(laws_FnExactImpossibleFinds_gd a0 a1 a2 g_e0 g_e1 g_e2 g_e3 g_e4 b_a3 n_a3 a3))
 | _,_=>none
theorem laws_FnExactImpossibleFinds_ok:ConOkX (md F) prog 8 laws_FnExactImpossibleFinds_con:=(ansX_ok (N:=1000) (by kernel_rfl) (mkΓw_sX (conSW_okX laws_markFindS_sok) laws_markFindS_enter (mkΓw_sX (conSW_okX laws_markInt64S_sok) laws_markInt64S_enter (mkΓw_cX (con_okX laws_toSea_ok) laws_toSea_enter (mkΓw_cX (con_okX laws_szFindS_ok) laws_szFindS_enter (mkΓw_cX (con_okX spec_ImpossibleFinds_ok) spec_ImpossibleFinds_enter (mkΓw_cX (con_okX laws_toFindS_ok) laws_toFindS_enter (mkΓw_cX (conG_okX impl_ImpossibleFinds_ok) impl_ImpossibleFinds_enter (mkΓw_cX (con_okX laws_eqInt64S_ok) laws_eqInt64S_enter (mkΓw_cX (con_okX laws_eqFindS_ok) laws_eqFindS_enter (mkΓw_cX (con_okX laws_heldInt64S_ok) laws_heldInt64S_enter mkΓx_nilX)))))))))) (fn:=Tryd.f8) (by kernel_rfl) (by kernel_rfl) []).of (by
 intro ρ h w args vals r e hA hH hr
 unfold laws_FnExactImpossibleFinds_con at hr
 split at hr
 ·rename_i a0 a1 a2 g_e0 g_e1 g_e2 g_e3 g_e4 b_a3 n_a3 a3
  obtain ⟨rfl,hg⟩:=Prod.mk.inj (Option.some.inj hr)
  obtain ⟨rfl,hg2⟩:=Prod.mk.inj hg
  exact laws_FnExactImpossibleFinds_main a0 a1 a2 g_e0 g_e1 g_e2 g_e3 g_e4 b_a3 n_a3 a3 (hA.wt 0 rfl) (hA.rng 1 rfl) (hA.rng 2 rfl) (hH.slw 5 rfl) hg2
 ·cases hr)
theorem laws_FnExactImpossibleFinds_true (a0:Array Value) (a1 a2:Int) (g_e0 g_e1 g_e2 g_e3 g_e4:Addr) (b_a3:Option (Option Addr)) (n_a3:Nat) (a3:Array Value) (h_a0:WT prog 28 a0) (h_a1:i64.min≤a1∧a1≤i64.max) (h_a2:i64.min≤a2∧a2≤i64.max) (h_a3:n_a3≤9223372036854775807):((laws_FnExactImpossibleFinds_gd a0 a1 a2 g_e0 g_e1 g_e2 g_e3 g_e4 b_a3 n_a3 a3))=true∧((laws_FnExactImpossibleFinds_v0 a0 a1 a2 g_e0 g_e1 g_e2 g_e3 g_e4 b_a3 n_a3 a3))=true:=by
 have hN:=impN_le a0 a1 a2 n_a3 a3
 have hD:=impD_size a0 a1 a2 n_a3 a3
 unfold laws_FnExactImpossibleFinds_gd laws_FnExactImpossibleFinds_v0 laws_szFindS_v0
 generalize impN a0 a1 a2 n_a3 a3=n at hN hD⊢
 generalize impD a0 a1 a2 n_a3 a3=D at hD⊢
 generalize impE a0 a1 a2 n_a3 a3=c
 rw [IntWalk.i64_in (1048576 - (n_a3:Int)) (by omega)]
 by_cases h:n_a3≤1048576
 ·have e1:decide ((1048576:Int) - (n_a3:Int)<0)=false:=decide_eq_false (by omega)
  have e3:decide (n_a3≤1048576)=true:=decide_eq_true h
  have b1:Nat.ble n 100000=true:=Nat.ble_eq_true_of_le (by omega)
  have b2:Nat.ble n_a3 2000000=true:=Nat.ble_eq_true_of_le (by omega)
  have c1:decide (((1:Int)+((n*1:Nat):Int))<(0:Int))=false:=decide_eq_false (by omega)
  have k1:decide (((1:Int)+((n_a3*2:Nat):Int))<(0:Int))=false:=decide_eq_false (by omega)
  have c2:decide (0≤(1:Int))=true:=rfl
  have c3:decide ((1:Int)≤1000000)=true:=rfl
  have c6:decide ((1:Int)<0)=false:=rfl
  cases hy:Nat.beq n_a3 0<;>cases hz:Nat.beq n 0
  case false.true | true.true=>
   obtain rfl:=Nat.eq_of_beq_eq_true hz
   obtain rfl:D=#[]:=Array.eq_empty_of_size_eq_zero (by rw [hD])
   have c4:((1:Int)+((0*1:Nat):Int) != (1:Int))=false:=rfl
   have c5:mkA (0*1) (1:Int)=(#[]:Array Value):=rfl
   simp only [c4,c5,b1,b2,e1,e3,c1,c2,c3,c6,k1,hy,decide_true,Bool.and_self,sameB_self,bne_self_eq_false,Bool.not_true,cond_false,cond_true,and_self]
  all_goals simp only [b1,b2,e1,e3,c1,c2,c3,c6,k1,hy,decide_true,Bool.and_self,sameB_self,bne_self_eq_false,Bool.not_true,cond_false,cond_true,and_self]
 ·have e1:decide ((1048576:Int) - (n_a3:Int)<0)=true:=decide_eq_true (by omega)
  have e2:decide ((-1:Int)<0)=true:=by decide
  simp only [e1,e2,cond_true]
  exact ⟨trivial,trivial⟩
namespace lawFnExactImpossibleFinds
theorem tied_goes (Lk:Looks) (g:Bool) {p:Pinned} {s:OpenSpec} {c:OpenClaim} (kinds:List LaidKind) (tests:Bool) (har:Bool×String) (lk:Bool)
  (hc:c.holds p s) (hw:c.wfByText s=true)
  (htie:c.laidByTextAt Lk p kinds tests)
  (hst:c.start = .entering) (hnb:c.noBlocks=false∧c.again=false) (hm:p.checked.prog.mainIs=some (har.1,har.2.toList)) (hn:(!har.1&&har.2.isEmpty && !lk)=false)
  (hl:∀ f fn,p.checked.prog.funcNamed c.func=some f→p.checked.prog.funcs[f]? = some fn→lk=p.checked.prog.looks []∧∀ (j:Nat) t,fn.params[j]? = some t→p.checked.prog.wantsStandIn t=false)
  (hg:g=c.goesBy p.checked.prog) :
  Claim7.holds p (.plain s) { stood:={ row:=c,standIns:=[],harness:=har,looks:=lk },kinds:=[],alts:=[],goes:=g,laidByText:=true,laidKinds:=kinds,laidTests:=tests,laidLooks:=Lk }:=by
 have h6:∀ r:OpenClaim,Claim7.isSixth { stood:={ row:=r,standIns:=[],harness:=har,looks:=lk },kinds:=[] }=false:=fun r=>by simpa [Claim7.isSixth] using hn
 exact ⟨Claim7.tied_new_at Lk kinds tests (Claim7.new_of_sixth hc har lk hst hnb hm (h6 c) hl) hw,(fun D hD=>by cases hD),htie,(fun h=>by cases h),hg⟩
theorem own:ownKnob prog.godebug=none:=by kernel_rfl
theorem star : "*" ++ "errors.errorString" = "*errors.errorString" := by decide
theorem row_pe (u : TypeId) (h : prog.typeName? 3 u = some "*errors.errorString") : u = 184 :=
 typeName_ptr_named (nm := "errors.errorString") (by rw [star]; kernel_rfl) (by kernel_rfl) (by decide) u (by rw [star]; exact h)
theorem n_e0 : prog.globalNamed "loop.example/g01300/impl.errInvalid" = some 0 := by kernel_rfl
theorem t_e0:(prog.globals[0]?).map (·.type)=some 85:=by kernel_rfl
theorem n_e1 : prog.globalNamed "loop.example/g01300/impl.errRange" = some 1 := by kernel_rfl
theorem t_e1:(prog.globals[1]?).map (·.type)=some 85:=by kernel_rfl
theorem n_e2 : prog.globalNamed "loop.example/g01300/impl.errLimit" = some 3 := by kernel_rfl
theorem t_e2:(prog.globals[3]?).map (·.type)=some 85:=by kernel_rfl
theorem n_e3 : prog.globalNamed "loop.example/g01300/impl.errState" = some 2 := by kernel_rfl
theorem t_e3:(prog.globals[2]?).map (·.type)=some 85:=by kernel_rfl
theorem n_e4 : prog.globalNamed "loop.example/g01300/impl.errNotFound" = some 4 := by kernel_rfl
theorem t_e4:(prog.globals[4]?).map (·.type)=some 85:=by kernel_rfl
theorem laid_all {W:World} (h:laidMetH prog Rows.fnExactImpossibleFindsRow.laid W):∃ b0 b1 b2 b3 b4:Addr,BIs prog idA [] W ⟨0,0⟩ (.gl 0 184 b0 36452)∧BIs prog idA [] W ⟨0,0⟩ (.gl 1 184 b1 27809)∧BIs prog idA [] W ⟨0,0⟩ (.gl 3 184 b2 46794)∧BIs prog idA [] W ⟨0,0⟩ (.gl 2 184 b3 59197)∧BIs prog idA [] W ⟨0,0⟩ (.gl 4 184 b4 28733):=by
 have h0:laidMet prog Rows.fnExactImpossibleFindsRow.laid W:=h
 obtain ⟨b0,k0⟩:=laid_gl h0 n_e0 t_e0 Tryd.underlying85 row_pe Tryd.underlying184 Tryd.underlying210 rfl rfl Tryd.underlying9 (by kernel_rfl) (by kernel_rfl)
 have h1:=laidMet.tail h0
 obtain ⟨b1,k1⟩:=laid_gl h1 n_e1 t_e1 Tryd.underlying85 row_pe Tryd.underlying184 Tryd.underlying210 rfl rfl Tryd.underlying9 (by kernel_rfl) (by kernel_rfl)
 have h2:=laidMet.tail h1
 obtain ⟨b2,k2⟩:=laid_gl h2 n_e2 t_e2 Tryd.underlying85 row_pe Tryd.underlying184 Tryd.underlying210 rfl rfl Tryd.underlying9 (by kernel_rfl) (by kernel_rfl)
 have h3:=laidMet.tail h2
 obtain ⟨b3,k3⟩:=laid_gl h3 n_e3 t_e3 Tryd.underlying85 row_pe Tryd.underlying184 Tryd.underlying210 rfl rfl Tryd.underlying9 (by kernel_rfl) (by kernel_rfl)
 have h4:=laidMet.tail h3
 obtain ⟨b4,k4⟩:=laid_gl h4 n_e4 t_e4 Tryd.underlying85 row_pe Tryd.underlying184 Tryd.underlying210 rfl rfl Tryd.underlying9 (by kernel_rfl) (by kernel_rfl)
 exact ⟨b0,b1,b2,b3,b4,k0,k1,k2,k3,k4⟩
noncomputable def low:Nat:=(World.holding prog default ⟨#[],#[],[]⟩).heap.size
noncomputable def laidWorld (os:Os):World:=
 let w0:=World.holding prog os ⟨#[.cells #[.string ⟨(#[116,104,101,32,115,101,97,32,111,114,32,116,104,101,32,102,105,110,100,115,32,97,114,101,32,110,111,116,32,118,97,108,105,100]:Array UInt8)⟩] 210,.cells #[.string ⟨(#[97,32,110,117,109,98,101,114,32,105,115,32,111,117,116,32,111,102,32,105,116,115,32,114,97,110,103,101]:Array UInt8)⟩] 210,.cells #[.string ⟨(#[116,104,101,114,101,32,119,111,117,108,100,32,98,101,32,116,111,111,32,109,97,110,121,32,102,105,110,100,115]:Array UInt8)⟩] 210,.cells #[.string ⟨(#[108,97,110,100,32,105,115,32,119,104,101,114,101,32,119,97,116,101,114,32,104,97,115,32,116,111,32,98,101,44,32,111,114,32,119,97,116,101,114,32,119,104,101,114,101,32,108,97,110,100,32,104,97,115,32,116,111,32,98,101]:Array UInt8)⟩] 210,.cells #[.string ⟨(#[116,104,101,114,101,32,105,115,32,110,111,116,104,105,110,103,32,111,102,32,116,104,105,115,32,107,105,110,100]:Array UInt8)⟩] 210],#[],[]⟩
 { w0 with heap:=((((w0.heap.modify 0 fun
   | .cells _ t frozen=>.cells #[.iface 184 (.pointer (some ⟨low+0,0,none⟩))] t frozen
   | o=>o).modify 1 fun
   | .cells _ t frozen=>.cells #[.iface 184 (.pointer (some ⟨low+1,0,none⟩))] t frozen
   | o=>o).modify 3 fun
   | .cells _ t frozen=>.cells #[.iface 184 (.pointer (some ⟨low+2,0,none⟩))] t frozen
   | o=>o).modify 2 fun
   | .cells _ t frozen=>.cells #[.iface 184 (.pointer (some ⟨low+3,0,none⟩))] t frozen
   | o=>o).modify 4 fun
   | .cells _ t frozen=>.cells #[.iface 184 (.pointer (some ⟨low+4,0,none⟩))] t frozen
   | o=>o }
theorem laid_met (os:Os) (args:Array Value):laidMet prog Rows.fnExactImpossibleFindsRow.laid ((laidWorld os).forCall (fun _ _=>0) ⟨#[],args,[]⟩).memory:=
 laidMet_of_run' 8 (by kernel_rfl) (by kernel_rfl)
theorem reads (os:Os) {H:Type} (enc:TypeId×Value→H):∃ x,DataW.whole enc prog ((laidWorld os).forCall (fun _ _=>0) ⟨#[],#[.agg (zc prog 28),.int .i64 0,.int .i64 0,.slice none 0 0],[]⟩).memory Tryd.f8.params.toList Rows.fnExactImpossibleFindsSpec.vars false (#[.agg (zc prog 28),.int .i64 0,.int .i64 0,.slice none 0 0]:Array Value).toList 8=some x:=
 Option.isSome_iff_exists.1 (by kernel_rfl)
set_option maxRecDepth 100000 in
theorem lifted (os:Os) (started:os.Started) (H:Type) (enc:TypeId×Value→H) :
  ReturnsInLeavingWide {} Tryd.checked os 8 .any ((OpenSpec.ofChange Rows.fnExactImpossibleFindsSpec).preRow enc prog Tryd.f8 Rows.fnExactImpossibleFindsRow.domain false Rows.fnExactImpossibleFindsRow.laid) (Rows.fnExactImpossibleFindsSpec.post enc prog Tryd.f8 false true false false):=by
 obtain ⟨x,hx⟩:=reads os enc
 refine law_laid_leaving (C:=Tryd.checked) (tb:=4) own (by kernel_rfl) Tryd.func8 (by kernel_rfl) Tryd.underlying4 (of_decide_eq_true (by kernel_rfl)) (by kernel_rfl) ?_ os started H enc
  (witness_row_at (enc:=enc) (C:=Tryd.checked) false (laidWorld os) #[.agg (zc prog 28),.int .i64 0,.int .i64 0,.slice none 0 0] rfl (by kernel_rfl) (by kernel_rfl) (by kernel_rfl)
   (OpenSpec.preRow_of_cond 8 hx (by kernel_rfl) (fun k hk=>by cases hk) (by kernel_rfl) (laid_met os _))) ?_
 ·intro H ds gs hds hgs
  rw [show Tryd.f8.params.toList.length=4 by kernel_rfl] at hds
  rw [show Rows.fnExactImpossibleFindsSpec.vars.length=5 by kernel_rfl] at hgs
  match ds,hds,gs,hgs with
  | [_,_,_,_],_,[_,_,_,_,_],_=>rfl
 ·intro W base args ds ps hval hA hL
  obtain ⟨b0,b1,b2,b3,b4,k0,k1,k2,k3,k4⟩:=laid_all hL
  rw [Tryd.params8] at hA hval
  obtain ⟨v0,vs0,d0,ds0,p0,q0,ha0,rfl,rfl,h0,r0⟩:=trodAll_cons hA
  obtain ⟨v1,vs1,d1,ds1,p1,q1,rfl,rfl,rfl,h1,r1⟩:=trodAll_cons r0
  obtain ⟨v2,vs2,d2,ds2,p2,q2,rfl,rfl,rfl,h2,r2⟩:=trodAll_cons r1
  obtain ⟨v3,vs3,d3,ds3,p3,q3,rfl,rfl,rfl,h3,r3⟩:=trodAll_cons r2
  obtain ⟨rfl,rfl,rfl⟩:=trodAll_nil r3
  have hargs:args=#[v0,v1,v2,v3]:=by cases args;simp_all
  obtain ⟨a0,e0,w0⟩:=open_data (t:=28) 8 (by kernel_rfl) (by kernel_rfl) (hval 0 28 v0 rfl (by rw [hargs];rfl)) h0
  obtain ⟨a1,e1,_,_,w1⟩:=open_int Tryd.underlying2 (hval 1 2 v1 rfl (by rw [hargs];rfl)) h1
  obtain ⟨a2,e2,_,_,w2⟩:=open_int Tryd.underlying2 (hval 2 2 v2 rfl (by rw [hargs];rfl)) h2
  obtain ⟨x_a3,n_a3,c_a3,a3,e3,w3⟩:=open_sl (P:=prog) (t:=55) (e:=47) 8 Tryd.underlying55 (by kernel_rfl) (by kernel_rfl) (Nat.lt_of_lt_of_eq (by decide:0<2) (by kernel_rfl)) (okWide_slice Tryd.underlying55 (hval 3 55 v3 rfl (by rw [hargs];rfl))) h3
  obtain rfl:args=#[.agg a0,.int .i64 a1,.int .i64 a2,.slice x_a3 n_a3 c_a3]:=by rw [hargs,e0,e1,e2,e3]
  obtain ⟨hg,hv⟩:=laws_FnExactImpossibleFinds_true a0 a1 a2 b0 b1 b2 b3 b4 (some x_a3) n_a3 a3 w0 (wfb w1) (wfb w2) w3.2.2.1
  have hr:laws_FnExactImpossibleFinds_con [.g a0 28,.i .i64 a1,.i .i64 a2,.l 5] [.gl 0 184 b0 101973,.gl 1 184 b1 93330,.gl 3 184 b2 112315,.gl 2 184 b3 124718,.gl 4 184 b4 94254,.sl (.came (some x_a3)) n_a3 a3 47]=some (.a (.b true),.none,true):=by
   show (some (SV.a (SA.b ((laws_FnExactImpossibleFinds_v0 a0 a1 a2 b0 b1 b2 b3 b4 (some x_a3) n_a3 a3))),Eff.none,(laws_FnExactImpossibleFinds_gd a0 a1 a2 b0 b1 b2 b3 b4 (some x_a3) n_a3 a3)):Option (SV×Eff×Bool))=_
   rw [hg,hv]
  exact ends_con2 (by kernel_rfl) laws_FnExactImpossibleFinds_ok (hh:=[.gl 0 184 b0 36452,.gl 1 184 b1 27809,.gl 3 184 b2 46794,.gl 2 184 b3 59197,.gl 4 184 b4 28733,.sl (.came (some x_a3)) n_a3 a3 47]) (by kernel_rfl) hr W (vals:=[.agg a0,.int .i64 a1,.int .i64 a2,.slice x_a3 n_a3 c_a3]) (.gl k0 (.gl k1 (.gl k2 (.gl k3 (.gl k4 (.cons w3 .nil)))))) (allCons2 ⟨rfl,w0⟩ (allCons2 ⟨rfl,wfb w1⟩ (allCons2 ⟨rfl,wfb w2⟩ (allCons2 (is_came rfl) (allNil2 _)))))
theorem said:Rows.FnExactImpossibleFindsSaid:=
 OpenClaim.holds_of_wide_leaving 8 Tryd.f8 rfl rfl rfl rfl rfl rfl rfl ⟨rfl,rfl,rfl,rfl,rfl⟩ rfl rfl rfl rfl rfl (by kernel_rfl) Tryd.func8 (by kernel_rfl)
  (of_decide_eq_true (by kernel_rfl)) (by unfold Func.isWrapper;first | (rw [if_pos (by decide +kernel)];kernel_rfl) | (rw [if_neg (by decide +kernel)];exact ⟨rfl,rfl⟩))
  (fun os started H enc _=>by rw [OpenClaim.pre_eq_preRow];exact lifted os started H enc)
theorem plain (f:FuncId) (fn:Func) (hf:Tryd.pinned.checked.prog.funcNamed Rows.fnExactImpossibleFindsRow.func=some f) (hfn:Tryd.pinned.checked.prog.funcs[f]? = some fn) :
  Rows.fnExactImpossibleFindsCard.stood.looks=Tryd.pinned.checked.prog.looks []∧∀ (j:Nat) t,fn.params[j]? = some t→Tryd.pinned.checked.prog.wantsStandIn t=false:=by
 obtain rfl:f=8:=Option.some.inj ((show prog.funcNamed Rows.fnExactImpossibleFindsRow.func=some 8 by kernel_rfl).symm.trans hf) |>.symm
 obtain rfl:fn=Tryd.f8:=(Option.some.inj (Tryd.func8.symm.trans hfn)).symm
 refine ⟨by kernel_rfl,fun j t ht=> ?_⟩
 have hall:∀ t ∈ Tryd.f8.params.toList,prog.wantsStandIn t=false:=of_decide_eq_true (by kernel_rfl)
 exact hall t (by simpa using Array.mem_of_getElem? ht)
theorem proved:Rows.FnExactImpossibleFindsCardSaid:=
 tied_goes .later true _ _ _ _ said (by kernel_rfl) fnExactImpossibleFinds_row_tie rfl ⟨rfl,rfl⟩ (by kernel_rfl) rfl plain (by kernel_rfl)
#print axioms proved
end lawFnExactImpossibleFinds
end
end Go.Proofs.YtphmhgdedoeaeaaDoor
