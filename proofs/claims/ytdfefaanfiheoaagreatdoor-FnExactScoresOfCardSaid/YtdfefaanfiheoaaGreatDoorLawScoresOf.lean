/- For all seas, cells, tides and finds spec and program tell the same scores. -/
import Derived.Test.YtdfefaanfiheoaaGreatDoorRows
import Derived.Test.YtdfefaanfiheoaaGreatDoorChecked
import Derived.Test.YtdfefaanfiheoaaGreatDoorCuE
import Derived.Test.YtdfefaanfiheoaaGreatDoorCuP
import Derived.Test.YtdfefaanfiheoaaGreatDoorVcG
import Derived.Test.YtdfefaanfiheoaaGreatDoorCards
import Derived.Test.YtdfefaanfiheoaaGreatDoorTie
set_option linter.unusedVariables false
set_option linter.unusedSimpArgs false
open _root_.Nat renaming ble->jA,beq->jB
namespace Go.Proofs.YtdfefaanfiheoaaGreatDoor
open Go.ChangeShapes Go.WideShapes Go.ChangeAt Go.RowKit Ve Vc
open IntKind (i64)
set_option maxRecDepth 100000
noncomputable section
variable {F:Vc.Fd}
def Zkz:Cons:=(mkΓw [(18,conSW Zjj),(19,conSW Zip)] [(9,con Zme),(11,con Zoo),(12,con Zms),(14,con Zmq),(15,con Zk7),(16,conG Zli),(17,con Zlj),(20,con Zjm)] [] [])
theorem Zo8(N:Nat)(a0:Array Value)(a1 a2:Int)(g_e0 g_e1 g_e2 g_e3 g_e4:Addr)(b_a3:Option (Option Addr))(n_a3:Nat)(a3:Array Value):ansV Tryz.prog Zkz N Tryz.f4 [] [.g a0 28,.i .i64 (a1),.i .i64 (a2),.l 5] [.gl 0 185 g_e0 101973,.gl 1 185 g_e1 93330,.gl 3 185 g_e2 124718,.gl 2 185 g_e3 112315,.gl 4 185 g_e4 94254,.sl (.came b_a3) n_a3 a3 72]=(bif decide ((Zdh (1048576:Int) b_a3 n_a3 a3)<(0:Int)) then (some (.a (.b (true)),.none,true))
    else (bif decide (n_a3<=1048576) then (bif decide (n_a3<=1048576) then (bif (!((decide (((impN a0 a1 a2 n_a3 a3))=((impN a0 a1 a2 n_a3 a3)))&&Uai (impD a0 a1 a2 n_a3 a3) (impD a0 a1 a2 n_a3 a3)))) then (some (.a (.b (false)),.none,true))
          else (bif ((impE a0 a1 a2 n_a3 a3) != (impE a0 a1 a2 n_a3 a3)) then (some (.a (.b (false)),.none,true))
            else (bif decide (n_a3<=1048576) then (bif (!((decide (n_a3=n_a3)&&Uai a3 a3))) then (some (.a (.b (false)),.none,true))
                else (bif jB n_a3 0 then (bif (!((decide (((impN a0 a1 a2 n_a3 a3))=((impN a0 a1 a2 n_a3 a3)))&&Uai (impD a0 a1 a2 n_a3 a3) (impD a0 a1 a2 n_a3 a3)))) then (some (.a (.b (false)),.none,true))
                    else (bif ((impE a0 a1 a2 n_a3 a3) != (impE a0 a1 a2 n_a3 a3)) then (some (.a (.b (false)),.none,true))
                      else (bif jB ((impN a0 a1 a2 n_a3 a3)) 0 then (bif ((jA ((impN a0 a1 a2 n_a3 a3)) 100000)&&((decide (0<=(1:Int))&&decide ((1:Int)<=1000000))&&Uai (impD a0 a1 a2 n_a3 a3) (mkA (((impN a0 a1 a2 n_a3 a3))*1) (1:Int)))) then (bif decide (((1:Int)+((((impN a0 a1 a2 n_a3 a3))*1:Nat):Int))<(0:Int)) then (some (.a (.b (false)),.none,true))
                            else (bif (((1:Int)+((((impN a0 a1 a2 n_a3 a3))*1:Nat):Int)) != (1:Int)) then (some (.a (.b (false)),.none,true))
                              else (bif decide (n_a3<=1048576) then (bif (!((decide (((impN a0 a1 a2 n_a3 a3))=((impN a0 a1 a2 n_a3 a3)))&&Uai (impD a0 a1 a2 n_a3 a3) (impD a0 a1 a2 n_a3 a3)))) then (some (.a (.b (false)),.none,true))
                                  else (bif ((impE a0 a1 a2 n_a3 a3) != (impE a0 a1 a2 n_a3 a3)) then (some (.a (.b (false)),.none,true))
                                    else (bif ((jA ((impN a0 a1 a2 n_a3 a3)) 100000)&&((decide (0<=(1:Int))&&decide ((1:Int)<=1000000))&&Uai (impD a0 a1 a2 n_a3 a3) (mkA (((impN a0 a1 a2 n_a3 a3))*1) (1:Int)))) then (bif decide (((1:Int)+((((impN a0 a1 a2 n_a3 a3))*1:Nat):Int))<(0:Int)) then (some (.a (.b (false)),.none,true))
                                        else (bif (((1:Int)+((((impN a0 a1 a2 n_a3 a3))*1:Nat):Int)) != (1:Int)) then (some (.a (.b (false)),.none,true))
                                          else (some (.a (.b (true)),.none,true))))
                                      else (none))))
                                else (none))))
                          else (none))
                        else (bif ((jA ((impN a0 a1 a2 n_a3 a3)) 100000)&&(decide (0<=(1:Int))&&decide ((1:Int)<=1000000))) then (bif ((jA ((impN a0 a1 a2 n_a3 a3)) 100000)&&((decide (0<=(1:Int))&&decide ((1:Int)<=1000000))&&Uai (mkA (((impN a0 a1 a2 n_a3 a3))*1) (1:Int)) (mkA (((impN a0 a1 a2 n_a3 a3))*1) (1:Int)))) then (bif decide (((1:Int)+((((impN a0 a1 a2 n_a3 a3))*1:Nat):Int))<(0:Int)) then (some (.a (.b (false)),.none,true))
                              else (bif (((1:Int)+((((impN a0 a1 a2 n_a3 a3))*1:Nat):Int)) != ((1:Int)+((((impN a0 a1 a2 n_a3 a3))*1:Nat):Int))) then (some (.a (.b (false)),.none,true))
                                else (bif decide (n_a3<=1048576) then (bif (!((decide (((impN a0 a1 a2 n_a3 a3))=((impN a0 a1 a2 n_a3 a3)))&&Uai (impD a0 a1 a2 n_a3 a3) (impD a0 a1 a2 n_a3 a3)))) then (some (.a (.b (false)),.none,true))
                                    else (bif ((impE a0 a1 a2 n_a3 a3) != (impE a0 a1 a2 n_a3 a3)) then (some (.a (.b (false)),.none,true))
                                      else (bif ((jA ((impN a0 a1 a2 n_a3 a3)) 100000)&&((decide (0<=(1:Int))&&decide ((1:Int)<=1000000))&&Uai (mkA (((impN a0 a1 a2 n_a3 a3))*1) (1:Int)) (mkA (((impN a0 a1 a2 n_a3 a3))*1) (1:Int)))) then (bif decide (((1:Int)+((((impN a0 a1 a2 n_a3 a3))*1:Nat):Int))<(0:Int)) then (some (.a (.b (false)),.none,true))
                                          else (bif (((1:Int)+((((impN a0 a1 a2 n_a3 a3))*1:Nat):Int)) != ((1:Int)+((((impN a0 a1 a2 n_a3 a3))*1:Nat):Int))) then (some (.a (.b (false)),.none,true))
                                            else (some (.a (.b (true)),.none,true))))
                                        else (none))))
                                  else (none))))
                            else (none))
                          else (none)))))
                  else (bif ((jA n_a3 2000000)&&(decide (0<=(1:Int))&&decide ((1:Int)<=1000000))) then (bif decide (((1:Int)+((n_a3*2:Nat):Int))<(0:Int)) then (some (.a (.b (false)),.none,true))
                      else (bif (!((decide (((impN a0 a1 a2 n_a3 a3))=((impN a0 a1 a2 n_a3 a3)))&&Uai (impD a0 a1 a2 n_a3 a3) (impD a0 a1 a2 n_a3 a3)))) then (some (.a (.b (false)),.none,true))
                        else (bif ((impE a0 a1 a2 n_a3 a3) != (impE a0 a1 a2 n_a3 a3)) then (some (.a (.b (false)),.none,true))
                          else (bif jB ((impN a0 a1 a2 n_a3 a3)) 0 then (bif ((jA ((impN a0 a1 a2 n_a3 a3)) 100000)&&((decide (0<=(1:Int))&&decide ((1:Int)<=1000000))&&Uai (impD a0 a1 a2 n_a3 a3) (mkA (((impN a0 a1 a2 n_a3 a3))*1) (1:Int)))) then (bif decide (((1:Int)+((((impN a0 a1 a2 n_a3 a3))*1:Nat):Int))<(0:Int)) then (some (.a (.b (false)),.none,true))
                                else (bif (((1:Int)+((((impN a0 a1 a2 n_a3 a3))*1:Nat):Int)) != (1:Int)) then (some (.a (.b (false)),.none,true))
                                  else (bif decide (n_a3<=1048576) then (bif (!((decide (((impN a0 a1 a2 n_a3 a3))=((impN a0 a1 a2 n_a3 a3)))&&Uai (impD a0 a1 a2 n_a3 a3) (impD a0 a1 a2 n_a3 a3)))) then (some (.a (.b (false)),.none,true))
                                      else (bif ((impE a0 a1 a2 n_a3 a3) != (impE a0 a1 a2 n_a3 a3)) then (some (.a (.b (false)),.none,true))
                                        else (bif ((jA ((impN a0 a1 a2 n_a3 a3)) 100000)&&((decide (0<=(1:Int))&&decide ((1:Int)<=1000000))&&Uai (impD a0 a1 a2 n_a3 a3) (mkA (((impN a0 a1 a2 n_a3 a3))*1) (1:Int)))) then (bif decide (((1:Int)+((((impN a0 a1 a2 n_a3 a3))*1:Nat):Int))<(0:Int)) then (some (.a (.b (false)),.none,true))
                                            else (bif (((1:Int)+((((impN a0 a1 a2 n_a3 a3))*1:Nat):Int)) != (1:Int)) then (some (.a (.b (false)),.none,true))
                                              else (some (.a (.b (true)),.none,true))))
                                          else (none))))
                                    else (none))))
                              else (none))
                            else (bif ((jA ((impN a0 a1 a2 n_a3 a3)) 100000)&&(decide (0<=(1:Int))&&decide ((1:Int)<=1000000))) then (bif ((jA ((impN a0 a1 a2 n_a3 a3)) 100000)&&((decide (0<=(1:Int))&&decide ((1:Int)<=1000000))&&Uai (mkA (((impN a0 a1 a2 n_a3 a3))*1) (1:Int)) (mkA (((impN a0 a1 a2 n_a3 a3))*1) (1:Int)))) then (bif decide (((1:Int)+((((impN a0 a1 a2 n_a3 a3))*1:Nat):Int))<(0:Int)) then (some (.a (.b (false)),.none,true))
                                  else (bif (((1:Int)+((((impN a0 a1 a2 n_a3 a3))*1:Nat):Int)) != ((1:Int)+((((impN a0 a1 a2 n_a3 a3))*1:Nat):Int))) then (some (.a (.b (false)),.none,true))
                                    else (bif decide (n_a3<=1048576) then (bif (!((decide (((impN a0 a1 a2 n_a3 a3))=((impN a0 a1 a2 n_a3 a3)))&&Uai (impD a0 a1 a2 n_a3 a3) (impD a0 a1 a2 n_a3 a3)))) then (some (.a (.b (false)),.none,true))
                                        else (bif ((impE a0 a1 a2 n_a3 a3) != (impE a0 a1 a2 n_a3 a3)) then (some (.a (.b (false)),.none,true))
                                          else (bif ((jA ((impN a0 a1 a2 n_a3 a3)) 100000)&&((decide (0<=(1:Int))&&decide ((1:Int)<=1000000))&&Uai (mkA (((impN a0 a1 a2 n_a3 a3))*1) (1:Int)) (mkA (((impN a0 a1 a2 n_a3 a3))*1) (1:Int)))) then (bif decide (((1:Int)+((((impN a0 a1 a2 n_a3 a3))*1:Nat):Int))<(0:Int)) then (some (.a (.b (false)),.none,true))
                                              else (bif (((1:Int)+((((impN a0 a1 a2 n_a3 a3))*1:Nat):Int)) != ((1:Int)+((((impN a0 a1 a2 n_a3 a3))*1:Nat):Int))) then (some (.a (.b (false)),.none,true))
                                                else (some (.a (.b (true)),.none,true))))
                                            else (none))))
                                      else (none))))
                                else (none))
                              else (none))))))
                    else (none))))
              else (none))))
        else (none))
      else (none))):=by kernel_rfl
def Zbt(a0:Array Value)(a1 a2:Int)(g_e0 g_e1 g_e2 g_e3 g_e4:Addr)(b_a3:Option (Option Addr))(n_a3:Nat)(a3:Array Value):Bool:=(bif decide ((Zdh (1048576:Int) b_a3 n_a3 a3)<(0:Int)) then true else (bif (!((decide (((impN a0 a1 a2 n_a3 a3))=((impN a0 a1 a2 n_a3 a3)))&&Uai (impD a0 a1 a2 n_a3 a3) (impD a0 a1 a2 n_a3 a3)))) then false else (bif ((impE a0 a1 a2 n_a3 a3) != (impE a0 a1 a2 n_a3 a3)) then false else (bif (!((decide (n_a3=n_a3)&&Uai a3 a3))) then false else (bif jB n_a3 0 then (bif (!((decide (((impN a0 a1 a2 n_a3 a3))=((impN a0 a1 a2 n_a3 a3)))&&Uai (impD a0 a1 a2 n_a3 a3) (impD a0 a1 a2 n_a3 a3)))) then false else (bif ((impE a0 a1 a2 n_a3 a3) != (impE a0 a1 a2 n_a3 a3)) then false else (bif jB ((impN a0 a1 a2 n_a3 a3)) 0 then (bif decide (((1:Int)+((((impN a0 a1 a2 n_a3 a3))*1:Nat):Int))<(0:Int)) then false else (bif (((1:Int)+((((impN a0 a1 a2 n_a3 a3))*1:Nat):Int)) != (1:Int)) then false else (bif (!((decide (((impN a0 a1 a2 n_a3 a3))=((impN a0 a1 a2 n_a3 a3)))&&Uai (impD a0 a1 a2 n_a3 a3) (impD a0 a1 a2 n_a3 a3)))) then false else (bif ((impE a0 a1 a2 n_a3 a3) != (impE a0 a1 a2 n_a3 a3)) then false else (bif decide (((1:Int)+((((impN a0 a1 a2 n_a3 a3))*1:Nat):Int))<(0:Int)) then false else (bif (((1:Int)+((((impN a0 a1 a2 n_a3 a3))*1:Nat):Int)) != (1:Int)) then false else true)))))) else (bif decide (((1:Int)+((((impN a0 a1 a2 n_a3 a3))*1:Nat):Int))<(0:Int)) then false else (bif (((1:Int)+((((impN a0 a1 a2 n_a3 a3))*1:Nat):Int)) != ((1:Int)+((((impN a0 a1 a2 n_a3 a3))*1:Nat):Int))) then false else (bif (!((decide (((impN a0 a1 a2 n_a3 a3))=((impN a0 a1 a2 n_a3 a3)))&&Uai (impD a0 a1 a2 n_a3 a3) (impD a0 a1 a2 n_a3 a3)))) then false else (bif ((impE a0 a1 a2 n_a3 a3) != (impE a0 a1 a2 n_a3 a3)) then false else (bif decide (((1:Int)+((((impN a0 a1 a2 n_a3 a3))*1:Nat):Int))<(0:Int)) then false else (bif (((1:Int)+((((impN a0 a1 a2 n_a3 a3))*1:Nat):Int)) != ((1:Int)+((((impN a0 a1 a2 n_a3 a3))*1:Nat):Int))) then false else true))))))))) else (bif decide (((1:Int)+((n_a3*2:Nat):Int))<(0:Int)) then false else (bif (!((decide (((impN a0 a1 a2 n_a3 a3))=((impN a0 a1 a2 n_a3 a3)))&&Uai (impD a0 a1 a2 n_a3 a3) (impD a0 a1 a2 n_a3 a3)))) then false else (bif ((impE a0 a1 a2 n_a3 a3) != (impE a0 a1 a2 n_a3 a3)) then false else (bif jB ((impN a0 a1 a2 n_a3 a3)) 0 then (bif decide (((1:Int)+((((impN a0 a1 a2 n_a3 a3))*1:Nat):Int))<(0:Int)) then false else (bif (((1:Int)+((((impN a0 a1 a2 n_a3 a3))*1:Nat):Int)) != (1:Int)) then false else (bif (!((decide (((impN a0 a1 a2 n_a3 a3))=((impN a0 a1 a2 n_a3 a3)))&&Uai (impD a0 a1 a2 n_a3 a3) (impD a0 a1 a2 n_a3 a3)))) then false else (bif ((impE a0 a1 a2 n_a3 a3) != (impE a0 a1 a2 n_a3 a3)) then false else (bif decide (((1:Int)+((((impN a0 a1 a2 n_a3 a3))*1:Nat):Int))<(0:Int)) then false else (bif (((1:Int)+((((impN a0 a1 a2 n_a3 a3))*1:Nat):Int)) != (1:Int)) then false else true)))))) else (bif decide (((1:Int)+((((impN a0 a1 a2 n_a3 a3))*1:Nat):Int))<(0:Int)) then false else (bif (((1:Int)+((((impN a0 a1 a2 n_a3 a3))*1:Nat):Int)) != ((1:Int)+((((impN a0 a1 a2 n_a3 a3))*1:Nat):Int))) then false else (bif (!((decide (((impN a0 a1 a2 n_a3 a3))=((impN a0 a1 a2 n_a3 a3)))&&Uai (impD a0 a1 a2 n_a3 a3) (impD a0 a1 a2 n_a3 a3)))) then false else (bif ((impE a0 a1 a2 n_a3 a3) != (impE a0 a1 a2 n_a3 a3)) then false else (bif decide (((1:Int)+((((impN a0 a1 a2 n_a3 a3))*1:Nat):Int))<(0:Int)) then false else (bif (((1:Int)+((((impN a0 a1 a2 n_a3 a3))*1:Nat):Int)) != ((1:Int)+((((impN a0 a1 a2 n_a3 a3))*1:Nat):Int))) then false else true)))))))))))))))
def Zbr(a0:Array Value)(a1 a2:Int)(g_e0 g_e1 g_e2 g_e3 g_e4:Addr)(b_a3:Option (Option Addr))(n_a3:Nat)(a3:Array Value):Bool:=(bif decide ((Zdh (1048576:Int) b_a3 n_a3 a3)<(0:Int)) then true else (bif decide (n_a3<=1048576) then (bif decide (n_a3<=1048576) then (bif (!((decide (((impN a0 a1 a2 n_a3 a3))=((impN a0 a1 a2 n_a3 a3)))&&Uai (impD a0 a1 a2 n_a3 a3) (impD a0 a1 a2 n_a3 a3)))) then true else (bif ((impE a0 a1 a2 n_a3 a3) != (impE a0 a1 a2 n_a3 a3)) then true else (bif decide (n_a3<=1048576) then (bif (!((decide (n_a3=n_a3)&&Uai a3 a3))) then true else (bif jB n_a3 0 then (bif (!((decide (((impN a0 a1 a2 n_a3 a3))=((impN a0 a1 a2 n_a3 a3)))&&Uai (impD a0 a1 a2 n_a3 a3) (impD a0 a1 a2 n_a3 a3)))) then true else (bif ((impE a0 a1 a2 n_a3 a3) != (impE a0 a1 a2 n_a3 a3)) then true else (bif jB ((impN a0 a1 a2 n_a3 a3)) 0 then (bif ((jA ((impN a0 a1 a2 n_a3 a3)) 100000)&&((decide (0<=(1:Int))&&decide ((1:Int)<=1000000))&&Uai (impD a0 a1 a2 n_a3 a3) (mkA (((impN a0 a1 a2 n_a3 a3))*1) (1:Int)))) then (bif decide (((1:Int)+((((impN a0 a1 a2 n_a3 a3))*1:Nat):Int))<(0:Int)) then true else (bif (((1:Int)+((((impN a0 a1 a2 n_a3 a3))*1:Nat):Int)) != (1:Int)) then true else (bif decide (n_a3<=1048576) then (bif (!((decide (((impN a0 a1 a2 n_a3 a3))=((impN a0 a1 a2 n_a3 a3)))&&Uai (impD a0 a1 a2 n_a3 a3) (impD a0 a1 a2 n_a3 a3)))) then true else (bif ((impE a0 a1 a2 n_a3 a3) != (impE a0 a1 a2 n_a3 a3)) then true else ((jA ((impN a0 a1 a2 n_a3 a3)) 100000)&&((decide (0<=(1:Int))&&decide ((1:Int)<=1000000))&&Uai (impD a0 a1 a2 n_a3 a3) (mkA (((impN a0 a1 a2 n_a3 a3))*1) (1:Int)))))) else false))) else false) else (bif ((jA ((impN a0 a1 a2 n_a3 a3)) 100000)&&(decide (0<=(1:Int))&&decide ((1:Int)<=1000000))) then (bif ((jA ((impN a0 a1 a2 n_a3 a3)) 100000)&&((decide (0<=(1:Int))&&decide ((1:Int)<=1000000))&&Uai (mkA (((impN a0 a1 a2 n_a3 a3))*1) (1:Int)) (mkA (((impN a0 a1 a2 n_a3 a3))*1) (1:Int)))) then (bif decide (((1:Int)+((((impN a0 a1 a2 n_a3 a3))*1:Nat):Int))<(0:Int)) then true else (bif (((1:Int)+((((impN a0 a1 a2 n_a3 a3))*1:Nat):Int)) != ((1:Int)+((((impN a0 a1 a2 n_a3 a3))*1:Nat):Int))) then true else (bif decide (n_a3<=1048576) then (bif (!((decide (((impN a0 a1 a2 n_a3 a3))=((impN a0 a1 a2 n_a3 a3)))&&Uai (impD a0 a1 a2 n_a3 a3) (impD a0 a1 a2 n_a3 a3)))) then true else (bif ((impE a0 a1 a2 n_a3 a3) != (impE a0 a1 a2 n_a3 a3)) then true else ((jA ((impN a0 a1 a2 n_a3 a3)) 100000)&&((decide (0<=(1:Int))&&decide ((1:Int)<=1000000))&&Uai (mkA (((impN a0 a1 a2 n_a3 a3))*1) (1:Int)) (mkA (((impN a0 a1 a2 n_a3 a3))*1) (1:Int)))))) else false))) else false) else false)))) else (bif ((jA n_a3 2000000)&&(decide (0<=(1:Int))&&decide ((1:Int)<=1000000))) then (bif decide (((1:Int)+((n_a3*2:Nat):Int))<(0:Int)) then true else (bif (!((decide (((impN a0 a1 a2 n_a3 a3))=((impN a0 a1 a2 n_a3 a3)))&&Uai (impD a0 a1 a2 n_a3 a3) (impD a0 a1 a2 n_a3 a3)))) then true else (bif ((impE a0 a1 a2 n_a3 a3) != (impE a0 a1 a2 n_a3 a3)) then true else (bif jB ((impN a0 a1 a2 n_a3 a3)) 0 then (bif ((jA ((impN a0 a1 a2 n_a3 a3)) 100000)&&((decide (0<=(1:Int))&&decide ((1:Int)<=1000000))&&Uai (impD a0 a1 a2 n_a3 a3) (mkA (((impN a0 a1 a2 n_a3 a3))*1) (1:Int)))) then (bif decide (((1:Int)+((((impN a0 a1 a2 n_a3 a3))*1:Nat):Int))<(0:Int)) then true else (bif (((1:Int)+((((impN a0 a1 a2 n_a3 a3))*1:Nat):Int)) != (1:Int)) then true else (bif decide (n_a3<=1048576) then (bif (!((decide (((impN a0 a1 a2 n_a3 a3))=((impN a0 a1 a2 n_a3 a3)))&&Uai (impD a0 a1 a2 n_a3 a3) (impD a0 a1 a2 n_a3 a3)))) then true else (bif ((impE a0 a1 a2 n_a3 a3) != (impE a0 a1 a2 n_a3 a3)) then true else ((jA ((impN a0 a1 a2 n_a3 a3)) 100000)&&((decide (0<=(1:Int))&&decide ((1:Int)<=1000000))&&Uai (impD a0 a1 a2 n_a3 a3) (mkA (((impN a0 a1 a2 n_a3 a3))*1) (1:Int)))))) else false))) else false) else (bif ((jA ((impN a0 a1 a2 n_a3 a3)) 100000)&&(decide (0<=(1:Int))&&decide ((1:Int)<=1000000))) then (bif ((jA ((impN a0 a1 a2 n_a3 a3)) 100000)&&((decide (0<=(1:Int))&&decide ((1:Int)<=1000000))&&Uai (mkA (((impN a0 a1 a2 n_a3 a3))*1) (1:Int)) (mkA (((impN a0 a1 a2 n_a3 a3))*1) (1:Int)))) then (bif decide (((1:Int)+((((impN a0 a1 a2 n_a3 a3))*1:Nat):Int))<(0:Int)) then true else (bif (((1:Int)+((((impN a0 a1 a2 n_a3 a3))*1:Nat):Int)) != ((1:Int)+((((impN a0 a1 a2 n_a3 a3))*1:Nat):Int))) then true else (bif decide (n_a3<=1048576) then (bif (!((decide (((impN a0 a1 a2 n_a3 a3))=((impN a0 a1 a2 n_a3 a3)))&&Uai (impD a0 a1 a2 n_a3 a3) (impD a0 a1 a2 n_a3 a3)))) then true else (bif ((impE a0 a1 a2 n_a3 a3) != (impE a0 a1 a2 n_a3 a3)) then true else ((jA ((impN a0 a1 a2 n_a3 a3)) 100000)&&((decide (0<=(1:Int))&&decide ((1:Int)<=1000000))&&Uai (mkA (((impN a0 a1 a2 n_a3 a3))*1) (1:Int)) (mkA (((impN a0 a1 a2 n_a3 a3))*1) (1:Int)))))) else false))) else false) else false))))) else false))) else false))) else false) else false))
theorem Zoc (a0:Array Value) (a1 a2:Int) (g_e0 g_e1 g_e2 g_e3 g_e4:Addr) (b_a3:Option (Option Addr)) (n_a3:Nat) (a3:Array Value) (h_a0:WT Tryz.prog 28 a0) (h_a1:i64.min≤a1∧a1≤i64.max) (h_a2:i64.min≤a2∧a2≤i64.max) (h_a3:SlT 72 n_a3 a3) (hg:((Zbr a0 a1 a2 g_e0 g_e1 g_e2 g_e3 g_e4 b_a3 n_a3 a3))=true):ansV Tryz.prog Zkz 1000 Tryz.f4 [] [.g a0 28,.i .i64 (a1),.i .i64 (a2),.l 5] [.gl 0 185 g_e0 101973,.gl 1 185 g_e1 93330,.gl 3 185 g_e2 124718,.gl 2 185 g_e3 112315,.gl 4 185 g_e4 94254,.sl (.came b_a3) n_a3 a3 72]=some (.a (.b ((Zbt a0 a1 a2 g_e0 g_e1 g_e2 g_e3 g_e4 b_a3 n_a3 a3))),.none,true):=by
 refine(Zo8 1000 a0 a1 a2 g_e0 g_e1 g_e2 g_e3 g_e4 b_a3 n_a3 a3).trans ?_;unfold Zbr at hg;unfold Zbt;revert hg;generalize (decide ((Zdh (1048576:Int) b_a3 n_a3 a3)<(0:Int)))=b2;intro hg;cases b2
 ·skip
  revert hg;generalize (decide (n_a3<=1048576))=b4;intro hg;cases b4
  ·skip
   first|exact(nomatch (hg:false=true)) | (simp only[Q1,Q2,BQ6];done)|rfl
  ·skip
   revert hg;generalize ((!((decide (((impN a0 a1 a2 n_a3 a3))=((impN a0 a1 a2 n_a3 a3)))&&Uai (impD a0 a1 a2 n_a3 a3) (impD a0 a1 a2 n_a3 a3)))))=b6;intro hg;cases b6
   ·skip
    revert hg;generalize (((impE a0 a1 a2 n_a3 a3) != (impE a0 a1 a2 n_a3 a3)))=b8;intro hg;cases b8
    ·skip
     revert hg;generalize ((!((decide (n_a3=n_a3)&&Uai a3 a3))))=b10;intro hg;cases b10
     ·skip
      revert hg;generalize (jB n_a3 0)=b12;intro hg;cases b12
      ·skip
       revert hg;generalize (((jA n_a3 2000000)&&(decide (0<=(1:Int))&&decide ((1:Int)<=1000000))))=b14;intro hg;cases b14
       ·skip
        first|exact(nomatch (hg:false=true)) | (simp only[Q1,Q2,BQ6];done)|rfl
       ·skip
        revert hg;generalize (decide (((1:Int)+((n_a3*2:Nat):Int))<(0:Int)))=b16;intro hg;cases b16
        ·skip
         revert hg;generalize (jB ((impN a0 a1 a2 n_a3 a3)) 0)=b18;intro hg;cases b18
         ·skip
          revert hg;generalize (((jA ((impN a0 a1 a2 n_a3 a3)) 100000)&&(decide (0<=(1:Int))&&decide ((1:Int)<=1000000))))=b20;intro hg;cases b20
          ·skip
           first|exact(nomatch (hg:false=true)) | (simp only[Q1,Q2,BQ6];done)|rfl
          ·skip
           revert hg;generalize (((jA ((impN a0 a1 a2 n_a3 a3)) 100000)&&((decide (0<=(1:Int))&&decide ((1:Int)<=1000000))&&Uai (mkA (((impN a0 a1 a2 n_a3 a3))*1) (1:Int)) (mkA (((impN a0 a1 a2 n_a3 a3))*1) (1:Int)))))=b22;intro hg;cases b22
           ·skip
            first|exact(nomatch (hg:false=true)) | (simp only[Q1,Q2,BQ6];done)|rfl
           ·skip
            revert hg;generalize (decide (((1:Int)+((((impN a0 a1 a2 n_a3 a3))*1:Nat):Int))<(0:Int)))=b24;intro hg;cases b24
            ·skip
             revert hg;generalize ((((1:Int)+((((impN a0 a1 a2 n_a3 a3))*1:Nat):Int)) != ((1:Int)+((((impN a0 a1 a2 n_a3 a3))*1:Nat):Int))))=b26;intro hg;cases b26
             ·skip
              first | (simp only[Q1,Q2,BQ6];done)|rfl|exact(nomatch (hg:false=true))
             ·skip
              first | (simp only[Q1,Q2,BQ6];done)|rfl|exact(nomatch (hg:false=true))
            ·skip
             first | (simp only[Q1,Q2,BQ6];done)|rfl|exact(nomatch (hg:false=true))
         ·skip
          revert hg;generalize (((jA ((impN a0 a1 a2 n_a3 a3)) 100000)&&((decide (0<=(1:Int))&&decide ((1:Int)<=1000000))&&Uai (impD a0 a1 a2 n_a3 a3) (mkA (((impN a0 a1 a2 n_a3 a3))*1) (1:Int)))))=b20;intro hg;cases b20
          ·skip
           first|exact(nomatch (hg:false=true)) | (simp only[Q1,Q2,BQ6];done)|rfl
          ·skip
           revert hg;generalize (decide (((1:Int)+((((impN a0 a1 a2 n_a3 a3))*1:Nat):Int))<(0:Int)))=b22;intro hg;cases b22
           ·skip
            revert hg;generalize ((((1:Int)+((((impN a0 a1 a2 n_a3 a3))*1:Nat):Int)) != (1:Int)))=b24;intro hg;cases b24
            ·skip
             first | (simp only[Q1,Q2,BQ6];done)|rfl|exact(nomatch (hg:false=true))
            ·skip
             first | (simp only[Q1,Q2,BQ6];done)|rfl|exact(nomatch (hg:false=true))
           ·skip
            first | (simp only[Q1,Q2,BQ6];done)|rfl|exact(nomatch (hg:false=true))
        ·skip
         first | (simp only[Q1,Q2,BQ6];done)|rfl|exact(nomatch (hg:false=true))
      ·skip
       revert hg;generalize (jB ((impN a0 a1 a2 n_a3 a3)) 0)=b14;intro hg;cases b14
       ·skip
        revert hg;generalize (((jA ((impN a0 a1 a2 n_a3 a3)) 100000)&&(decide (0<=(1:Int))&&decide ((1:Int)<=1000000))))=b16;intro hg;cases b16
        ·skip
         first|exact(nomatch (hg:false=true)) | (simp only[Q1,Q2,BQ6];done)|rfl
        ·skip
         revert hg;generalize (((jA ((impN a0 a1 a2 n_a3 a3)) 100000)&&((decide (0<=(1:Int))&&decide ((1:Int)<=1000000))&&Uai (mkA (((impN a0 a1 a2 n_a3 a3))*1) (1:Int)) (mkA (((impN a0 a1 a2 n_a3 a3))*1) (1:Int)))))=b18;intro hg;cases b18
         ·skip
          first|exact(nomatch (hg:false=true)) | (simp only[Q1,Q2,BQ6];done)|rfl
         ·skip
          revert hg;generalize (decide (((1:Int)+((((impN a0 a1 a2 n_a3 a3))*1:Nat):Int))<(0:Int)))=b20;intro hg;cases b20
          ·skip
           revert hg;generalize ((((1:Int)+((((impN a0 a1 a2 n_a3 a3))*1:Nat):Int)) != ((1:Int)+((((impN a0 a1 a2 n_a3 a3))*1:Nat):Int))))=b22;intro hg;cases b22
           ·skip
            first | (simp only[Q1,Q2,BQ6];done)|rfl|exact(nomatch (hg:false=true))
           ·skip
            first | (simp only[Q1,Q2,BQ6];done)|rfl|exact(nomatch (hg:false=true))
          ·skip
           first | (simp only[Q1,Q2,BQ6];done)|rfl|exact(nomatch (hg:false=true))
       ·skip
        revert hg;generalize (((jA ((impN a0 a1 a2 n_a3 a3)) 100000)&&((decide (0<=(1:Int))&&decide ((1:Int)<=1000000))&&Uai (impD a0 a1 a2 n_a3 a3) (mkA (((impN a0 a1 a2 n_a3 a3))*1) (1:Int)))))=b16;intro hg;cases b16
        ·skip
         first|exact(nomatch (hg:false=true)) | (simp only[Q1,Q2,BQ6];done)|rfl
        ·skip
         revert hg;generalize (decide (((1:Int)+((((impN a0 a1 a2 n_a3 a3))*1:Nat):Int))<(0:Int)))=b18;intro hg;cases b18
         ·skip
          revert hg;generalize ((((1:Int)+((((impN a0 a1 a2 n_a3 a3))*1:Nat):Int)) != (1:Int)))=b20;intro hg;cases b20
          ·skip
           first | (simp only[Q1,Q2,BQ6];done)|rfl|exact(nomatch (hg:false=true))
          ·skip
           first | (simp only[Q1,Q2,BQ6];done)|rfl|exact(nomatch (hg:false=true))
         ·skip
          first | (simp only[Q1,Q2,BQ6];done)|rfl|exact(nomatch (hg:false=true))
     ·skip
      first | (simp only[Q1,Q2,BQ6];done)|rfl|exact(nomatch (hg:false=true))
    ·skip
     first | (simp only[Q1,Q2,BQ6];done)|rfl|exact(nomatch (hg:false=true))
   ·skip
    first | (simp only[Q1,Q2,BQ6];done)|rfl|exact(nomatch (hg:false=true))
 ·skip
  first | (simp only[Q1,Q2,BQ6];done)|rfl|exact(nomatch (hg:false=true))
def Zf0:Con:=λargs h=>match args,h with
 |[.g a0 28,.i .i64 a1,.i .i64 a2,.l 5],[.gl 0 185 g_e0 101973,.gl 1 185 g_e1 93330,.gl 3 185 g_e2 124718,.gl 2 185 g_e3 112315,.gl 4 185 g_e4 94254,.sl (.came b_a3) n_a3 a3 72]=>some (.a (.b ((Zbt a0 a1 a2 g_e0 g_e1 g_e2 g_e3 g_e4 b_a3 n_a3 a3))),.none,(Zbr a0 a1 a2 g_e0 g_e1 g_e2 g_e3 g_e4 b_a3 n_a3 a3))
 |_,_=>none
theorem Zpz:Uac (md F) Tryz.prog 4 Zf0:=(ansY (N:=1000) (mkΓw_sX (Yk3 Zwf) Zue (mkΓw_sX (Yk3 Zvb) Zrf (mKw (Zae Yeg) Zxw (mKw (Zae Yi8) Yb4 (mKw (Zae Yea) Zxj (mKw (Zae Yfk) Zxr (mKw (Zae Ybz) Zuq (mKw (Zid Ybs) Zvy (mKw (Zae Ybq) Zvc (mKw (Zae Zy2) Zsn mkΓx_nilX)))))))))) Tryz.f4 []).of (by
 intro ρ h w args vals r e hA hH hr;unfold Zf0 at hr;split at hr
 ·rename_i a0 a1 a2 g_e0 g_e1 g_e2 g_e3 g_e4 b_a3 n_a3 a3
  obtain⟨rfl,rfl,hg2⟩:=BQi hr;exact Zoc a0 a1 a2 g_e0 g_e1 g_e2 g_e3 g_e4 b_a3 n_a3 a3 (hA.wt 0 rfl) (hA.rng 1 rfl) (hA.rng 2 rfl) (hH.slw 5 rfl) hg2
 ·cases hr)
theorem Zoi(a0:Array Value)(a1 a2:Int)(g_e0 g_e1 g_e2 g_e3 g_e4:Addr)(b_a3:Option (Option Addr))(n_a3:Nat)(a3:Array Value)(h_a0:WT Tryz.prog 28 a0)(h_a1:i64.min<=a1/\a1<=i64.max)(h_a2:i64.min<=a2/\a2<=i64.max)(h_a3:n_a3<=9223372036854775807):((Zbr a0 a1 a2 g_e0 g_e1 g_e2 g_e3 g_e4 b_a3 n_a3 a3))=true/\((Zbt a0 a1 a2 g_e0 g_e1 g_e2 g_e3 g_e4 b_a3 n_a3 a3))=true:=by
 have hN:=impN_le a0 a1 a2 n_a3 a3;have hD:=Yqc a0 a1 a2 n_a3 a3;unfold Zbr Zbt Zdh;generalize impN a0 a1 a2 n_a3 a3=n at hN hD|-
 generalize impD a0 a1 a2 n_a3 a3=D at hD|-
 generalize impE a0 a1 a2 n_a3 a3=c;rw[IntWalk.i64_in (1048576 - (n_a3:Int)) (by omega)]
 by_cases h:n_a3<=1048576
 ·have e1:decide ((1048576:Int) - (n_a3:Int)<0)=false:=Q4 (by omega)
  have e3:decide (n_a3<=1048576)=true:=Q3 h;have b1:jA n 100000=true:=Nat.ble_eq_true_of_le (by omega);have b2:jA n_a3 2000000=true:=Nat.ble_eq_true_of_le (by omega);have c1:decide (((1:Int)+((n*1:Nat):Int))<(0:Int))=false:=Q4 (by omega);have k1:decide (((1:Int)+((n_a3*2:Nat):Int))<(0:Int))=false:=Q4 (by omega);have c2:decide (0<=(1:Int))=true:=rfl;have c3:decide ((1:Int)<=1000000)=true:=rfl;have c6:decide ((1:Int)<0)=false:=rfl;cases hy:jB n_a3 0<;>cases hz:jB n 0
  case false.true|true.true=>
   obtain rfl:=Nat.eq_of_beq_eq_true hz;obtain rfl:D=#[]:=Array.eq_empty_of_size_eq_zero (by rw[hD]);have c4:((1:Int)+((0*1:Nat):Int) != (1:Int))=false:=rfl;have c5:mkA (0*1) (1:Int)=(#[]:Array Value):=rfl;simp only[c4,c5,b1,b2,e1,e3,c1,c2,c3,c6,k1,hy,decide_true,Bool.and_self,Zs2,bne_self_eq_false,Bool.not_true,Q2,Q1,and_self]
  all_goals simp only[b1,b2,e1,e3,c1,c2,c3,c6,k1,hy,decide_true,Bool.and_self,Zs2,bne_self_eq_false,Bool.not_true,Q2,Q1,and_self]
 ·have e1:decide ((1048576:Int) - (n_a3:Int)<0)=true:=Q3 (by omega)
  have e2:decide ((-1:Int)<0)=true:=by decide
  simp only[e1,e2,Q1];exact⟨trivial,trivial⟩
namespace lawFnExactScoresOf
theorem Yqv(Lk:Looks)(g:Bool){p:Pinned}{s:OpenSpec}{c:OpenClaim}(kinds:List LaidKind)(tests:Bool)(har:Bool×String)(lk:Bool)
  (hc:c.holds p s) (hw:c.wfByText s=true)
  (htie:c.laidByTextAt Lk p kinds tests)
  (hst:c.start=.entering) (hnb:c.noBlocks=false/\c.again=false) (hm:p.checked.prog.mainIs=some (har.1,har.2.toList)) (hn:(!har.1&&har.2.isEmpty && !lk)=false)
  (hl:∀f fn,p.checked.prog.funcNamed c.func=some f->p.checked.prog.funcs[f]?=some fn->lk=p.checked.prog.looks []/\∀(j:Nat) t,fn.params[j]?=some t->p.checked.prog.wantsStandIn t=false)
  (hg:g=c.goesBy p.checked.prog) :
  Claim7.holds p (.plain s) { stood:={ row:=c,standIns:=[],harness:=har,looks:=lk },kinds:=[],alts:=[],goes:=g,laidByText:=true,laidKinds:=kinds,laidTests:=tests,laidLooks:=Lk }:=by
 have h6:∀r:OpenClaim,Claim7.isSixth { stood:={ row:=r,standIns:=[],harness:=har,looks:=lk },kinds:=[] }=false:=λr=>by simpa [Claim7.isSixth] using hn
 exact⟨Claim7.tied_new_at Lk kinds tests (Claim7.new_of_sixth hc har lk hst hnb hm (h6 c) hl) hw,(λD hD=>by cases hD),htie,(λh=>by cases h),hg⟩
theorem own:ownKnob Tryz.prog.godebug=none:=by kernel_rfl
theorem star : "*" ++ "errors.errorString" = "*errors.errorString" := by decide
theorem Yk8 (u : TypeId) (h : Tryz.prog.typeName? 3 u = some "*errors.errorString") : u = 185 :=
 typeName_ptr_named (nm := "errors.errorString") (by rw [star]; kernel_rfl) (by kernel_rfl) (by decide) u (by rw [star]; exact h)
theorem n_e0 : Tryz.prog.globalNamed "loop.example/g01300/impl.errInvalid" = some 0 := by kernel_rfl
theorem t_e0:(Tryz.prog.globals[0]?).map (·.type)=some 102:=by kernel_rfl
theorem n_e1 : Tryz.prog.globalNamed "loop.example/g01300/impl.errRange" = some 1 := by kernel_rfl
theorem t_e1:(Tryz.prog.globals[1]?).map (·.type)=some 102:=by kernel_rfl
theorem n_e2 : Tryz.prog.globalNamed "loop.example/g01300/impl.errState" = some 3 := by kernel_rfl
theorem t_e2:(Tryz.prog.globals[3]?).map (·.type)=some 102:=by kernel_rfl
theorem n_e3 : Tryz.prog.globalNamed "loop.example/g01300/impl.errLimit" = some 2 := by kernel_rfl
theorem t_e3:(Tryz.prog.globals[2]?).map (·.type)=some 102:=by kernel_rfl
theorem n_e4 : Tryz.prog.globalNamed "loop.example/g01300/impl.errNotFound" = some 4 := by kernel_rfl
theorem t_e4:(Tryz.prog.globals[4]?).map (·.type)=some 102:=by kernel_rfl
theorem laid_all{W:World}(h:laidMetH Tryz.prog Rows.fnExactScoresOfRow.laid W):∃b0 b1 b2 b3 b4:Addr,BIs Tryz.prog idA [] W ⟨0,0⟩ (.gl 0 185 b0 36452)/\BIs Tryz.prog idA [] W ⟨0,0⟩ (.gl 1 185 b1 27809)/\BIs Tryz.prog idA [] W ⟨0,0⟩ (.gl 3 185 b2 59197)/\BIs Tryz.prog idA [] W ⟨0,0⟩ (.gl 2 185 b3 46794)/\BIs Tryz.prog idA [] W ⟨0,0⟩ (.gl 4 185 b4 28733):=by have h0:laidMet Tryz.prog Rows.fnExactScoresOfRow.laid W:=h;have h1:=laidMet.tail h0;have h2:=laidMet.tail h1;have h3:=laidMet.tail h2;have h4:=laidMet.tail h3;obtain⟨b0,k0⟩:=Ye1 h0 n_e0 t_e0 Tryz.underlying102 Yk8 Tryz.underlying185 Tryz.underlying212 rfl rfl Tryz.underlying9 (by kernel_rfl) (by kernel_rfl);obtain⟨b1,k1⟩:=Ye1 h1 n_e1 t_e1 Tryz.underlying102 Yk8 Tryz.underlying185 Tryz.underlying212 rfl rfl Tryz.underlying9 (by kernel_rfl) (by kernel_rfl);obtain⟨b2,k2⟩:=Ye1 h3 n_e2 t_e2 Tryz.underlying102 Yk8 Tryz.underlying185 Tryz.underlying212 rfl rfl Tryz.underlying9 (by kernel_rfl) (by kernel_rfl);obtain⟨b3,k3⟩:=Ye1 h2 n_e3 t_e3 Tryz.underlying102 Yk8 Tryz.underlying185 Tryz.underlying212 rfl rfl Tryz.underlying9 (by kernel_rfl) (by kernel_rfl);obtain⟨b4,k4⟩:=Ye1 h4 n_e4 t_e4 Tryz.underlying102 Yk8 Tryz.underlying185 Tryz.underlying212 rfl rfl Tryz.underlying9 (by kernel_rfl) (by kernel_rfl);exact⟨b0,b1,b2,b3,b4,k0,k1,k2,k3,k4⟩
def low:Nat:=(World.holding Tryz.prog default ⟨#[],#[],[]⟩).heap.size
def Udd(os:Os):World:=
 let w0:=World.holding Tryz.prog os ⟨#[.cells #[.string ⟨(#[116,104,101,32,115,101,97,32,111,114,32,116,104,101,32,102,105,110,100,115,32,97,114,101,32,110,111,116,32,118,97,108,105,100]:Array UInt8)⟩] 212,.cells #[.string ⟨(#[97,32,110,117,109,98,101,114,32,105,115,32,111,117,116,32,111,102,32,105,116,115,32,114,97,110,103,101]:Array UInt8)⟩] 212,.cells #[.string ⟨(#[108,97,110,100,32,105,115,32,119,104,101,114,101,32,119,97,116,101,114,32,104,97,115,32,116,111,32,98,101,44,32,111,114,32,119,97,116,101,114,32,119,104,101,114,101,32,108,97,110,100,32,104,97,115,32,116,111,32,98,101]:Array UInt8)⟩] 212,.cells #[.string ⟨(#[116,104,101,114,101,32,119,111,117,108,100,32,98,101,32,116,111,111,32,109,97,110,121,32,102,105,110,100,115]:Array UInt8)⟩] 212,.cells #[.string ⟨(#[116,104,101,114,101,32,105,115,32,110,111,116,104,105,110,103,32,111,102,32,116,104,105,115,32,107,105,110,100]:Array UInt8)⟩] 212],#[],[]⟩
 { w0 with heap:=((((w0.heap.modify 0 fun
   |.cells _ t frozen=>.cells #[.iface 185 (.pointer (some ⟨low+0,0,none⟩))] t frozen
   |o=>o).modify 1 fun
   |.cells _ t frozen=>.cells #[.iface 185 (.pointer (some ⟨low+1,0,none⟩))] t frozen
   |o=>o).modify 3 fun
   |.cells _ t frozen=>.cells #[.iface 185 (.pointer (some ⟨low+2,0,none⟩))] t frozen
   |o=>o).modify 2 fun
   |.cells _ t frozen=>.cells #[.iface 185 (.pointer (some ⟨low+3,0,none⟩))] t frozen
   |o=>o).modify 4 fun
   |.cells _ t frozen=>.cells #[.iface 185 (.pointer (some ⟨low+4,0,none⟩))] t frozen
   |o=>o }
theorem laid_met(os:Os)(args:Array Value):laidMet Tryz.prog Rows.fnExactScoresOfRow.laid ((Udd os).forCall (λ_ _=>0) ⟨#[],args,[]⟩).memory:=
 laidMet_of_run' 8 (by kernel_rfl) (by kernel_rfl)
theorem reads(os:Os){H:Type}(enc:TypeId×Value->H):∃x,DataW.whole enc Tryz.prog ((Udd os).forCall (λ_ _=>0) ⟨#[],#[.agg (zc Tryz.prog 28),.int .i64 0,.int .i64 0,.slice none 0 0],[]⟩).memory Tryz.f4.params.toList Rows.fnExactScoresOfSpec.vars false (#[.agg (zc Tryz.prog 28),.int .i64 0,.int .i64 0,.slice none 0 0]:Array Value).toList 8=some x:=
 Option.isSome_iff_exists.1 (by kernel_rfl)
set_option maxRecDepth 100000 in
theorem lifted(os:Os)(started:os.Started)(H:Type)(enc:TypeId×Value->H):
  ReturnsInLeavingWide {} Tryz.checked os 4 .any ((OpenSpec.ofChange Rows.fnExactScoresOfSpec).preRow enc Tryz.prog Tryz.f4 Rows.fnExactScoresOfRow.domain false Rows.fnExactScoresOfRow.laid) (Rows.fnExactScoresOfSpec.post enc Tryz.prog Tryz.f4 false true false false):=by
 obtain⟨x,hx⟩:=reads os enc;refine Yc4 (C:=Tryz.checked) (tb:=4) own (by kernel_rfl) Tryz.func4 (by kernel_rfl) Tryz.underlying4 (of_decide_eq_true (by kernel_rfl)) (by kernel_rfl) ?_ os started H enc
  (witness_row_at (enc:=enc) (C:=Tryz.checked) false (Udd os) #[.agg (zc Tryz.prog 28),.int .i64 0,.int .i64 0,.slice none 0 0] rfl (by kernel_rfl) (by kernel_rfl) (by kernel_rfl)
   (OpenSpec.preRow_of_cond 8 hx (by kernel_rfl) (λk hk=>by cases hk) (by kernel_rfl) (laid_met os _))) ?_
 ·intro H ds gs hds hgs
  rw[show Tryz.f4.params.toList.length=4 by kernel_rfl]at hds;rw[show Rows.fnExactScoresOfSpec.vars.length=5 by kernel_rfl]at hgs
  match ds,hds,gs,hgs with
  |[_,_,_,_],_,[_,_,_,_,_],_=>rfl
 ·intro W base args ds ps hval hA hL
  obtain⟨b0,b1,b2,b3,b4,k0,k1,k2,k3,k4⟩:=laid_all hL;rw[Tryz.params4]at hA hval;obtain⟨v0,vs0,d0,ds0,p0,q0,ha0,rfl,rfl,h0,r0⟩:=trodAll_cons hA;obtain⟨v1,vs1,d1,ds1,p1,q1,rfl,rfl,rfl,h1,r1⟩:=trodAll_cons r0;obtain⟨v2,vs2,d2,ds2,p2,q2,rfl,rfl,rfl,h2,r2⟩:=trodAll_cons r1;obtain⟨v3,vs3,d3,ds3,p3,q3,rfl,rfl,rfl,h3,r3⟩:=trodAll_cons r2;obtain⟨rfl,rfl,rfl⟩:=trodAll_nil r3;have hargs:args=#[v0,v1,v2,v3]:=by cases args;simp_all
  obtain⟨a0,e0,w0⟩:=Yq8 (t:=28) 8 (by kernel_rfl) (by kernel_rfl) (hval 0 28 v0 rfl (by rw[hargs];rfl)) h0;obtain⟨a1,e1,_,_,w1⟩:=open_int Tryz.underlying2 (hval 1 2 v1 rfl (by rw[hargs];rfl)) h1;obtain⟨a2,e2,_,_,w2⟩:=open_int Tryz.underlying2 (hval 2 2 v2 rfl (by rw[hargs];rfl)) h2;obtain⟨x_a3,n_a3,c_a3,a3,e3,w3⟩:=open_sl (P:=Tryz.prog) (t:=29) (e:=72) 8 Tryz.underlying29 (by kernel_rfl) (by kernel_rfl) (Nat.lt_of_lt_of_eq (by decide:0<2) (by kernel_rfl)) (okWide_slice Tryz.underlying29 (hval 3 29 v3 rfl (by rw[hargs];rfl))) h3;obtain rfl:args=#[.agg a0,.int .i64 a1,.int .i64 a2,.slice x_a3 n_a3 c_a3]:=by rw[hargs,e0,e1,e2,e3]
  obtain⟨hg,hv⟩:=Zoi a0 a1 a2 b0 b1 b2 b3 b4 (some x_a3) n_a3 a3 w0 (wfb w1) (wfb w2) w3.2.2.1;have hr:Zf0 [.g a0 28,.i .i64 a1,.i .i64 a2,.l 5] [.gl 0 185 b0 101973,.gl 1 185 b1 93330,.gl 3 185 b2 124718,.gl 2 185 b3 112315,.gl 4 185 b4 94254,.sl (.came (some x_a3)) n_a3 a3 72]=some (.a (.b true),.none,true):=by
   show (some (SV.a (SA.b ((Zbt a0 a1 a2 b0 b1 b2 b3 b4 (some x_a3) n_a3 a3))),Eff.none,(Zbr a0 a1 a2 b0 b1 b2 b3 b4 (some x_a3) n_a3 a3)):Option (SV×Eff×Bool))=_
   rw[hg,hv]
  exact Ypr (by kernel_rfl) Zpz (hh:=[.gl 0 185 b0 36452,.gl 1 185 b1 27809,.gl 3 185 b2 59197,.gl 2 185 b3 46794,.gl 4 185 b4 28733,.sl (.came (some x_a3)) n_a3 a3 72]) (by kernel_rfl) hr W (vals:=[.agg a0,.int .i64 a1,.int .i64 a2,.slice x_a3 n_a3 c_a3]) (.gl k0 (.gl k1 (.gl k2 (.gl k3 (.gl k4 (.cons w3 .nil)))))) (Uc3 ⟨rfl,w0⟩ (Uc3 ⟨rfl,wfb w1⟩ (Uc3 ⟨rfl,wfb w2⟩ (Uc3 (is_came rfl) (allNil2 _)))))
theorem said:Rows.FnExactScoresOfSaid:=
 OpenClaim.holds_of_wide_leaving 4 Tryz.f4 rfl rfl rfl rfl rfl rfl rfl ⟨rfl,rfl,rfl,rfl,rfl⟩ rfl rfl rfl rfl rfl (by kernel_rfl) Tryz.func4 (by kernel_rfl)
  (of_decide_eq_true (by kernel_rfl)) (by unfold Func.isWrapper;first | (rw[if_pos (by decide +kernel)];kernel_rfl) | (rw[if_neg (by decide +kernel)];exact⟨rfl,rfl⟩))
  (λos started H enc _=>by rw[OpenClaim.pre_eq_preRow];exact lifted os started H enc)
theorem plain(f:FuncId)(fn:Func)(hf:Tryz.pinned.checked.prog.funcNamed Rows.fnExactScoresOfRow.func=some f)(hfn:Tryz.pinned.checked.prog.funcs[f]?=some fn):
  Rows.fnExactScoresOfCard.stood.looks=Tryz.pinned.checked.prog.looks []/\∀(j:Nat) t,fn.params[j]?=some t->Tryz.pinned.checked.prog.wantsStandIn t=false:=by
 obtain rfl:f=4:=Q5 ((show Tryz.prog.funcNamed Rows.fnExactScoresOfRow.func=some 4 by kernel_rfl).symm.trans hf) |>.symm
 obtain rfl:fn=Tryz.f4:=(Q5 (Tryz.func4.symm.trans hfn)).symm;refine⟨by kernel_rfl,λj t ht=> ?_⟩;have hall:∀t∈Tryz.f4.params.toList,Tryz.prog.wantsStandIn t=false:=of_decide_eq_true (by kernel_rfl);exact hall t (by simpa using Array.mem_of_getElem? ht)
theorem proved:Rows.FnExactScoresOfCardSaid:=
 Yqv .later true _ _ _ _ said (by kernel_rfl) fnExactScoresOf_row_tie rfl ⟨rfl,rfl⟩ (by kernel_rfl) rfl plain (by kernel_rfl)
#print axioms proved
end lawFnExactScoresOf
end
end Go.Proofs.YtdfefaanfiheoaaGreatDoor
