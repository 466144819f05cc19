/- For every sea, plan, cells and number of bottles spec and program give out the same. -/
import Derived.Lib.LaidTab
import Derived.Test.YtohnggmlmglhmaaGreatDoorRows
import Derived.Test.YtohnggmlmglhmaaGreatDoorChecked
import Derived.Test.YtohnggmlmglhmaaGreatDoorCnJ
import Derived.Test.YtohnggmlmglhmaaGreatDoorVcG
import Derived.Test.YtohnggmlmglhmaaGreatDoorLoX
import Derived.Test.YtohnggmlmglhmaaGreatDoorCards
import Derived.Test.YtohnggmlmglhmaaGreatDoorTie
open _root_.Nat renaming beq→jA,ble→jB
namespace Go.Proofs.YtohnggmlmglhmaaGreatDoor
open Go.ChangeShapes Go.WideShapes Go.ChangeAt Go.RowKit Ve Vc
open IntKind (i64)
set_option linter.unusedVariables false
set_option linter.unusedSimpArgs false
set_option maxRecDepth 100000
noncomputable section
variable {mn:Md}
def Zn2:Cons:=(mkΓw [(45,conSW Zhf)] [] [] [])
theorem Zpy (N:Nat) (a0:Array Value) (a1:Int) (nR:Nat) (aR:Array Value):ansV Tryz.prog Zn2 N Tryz.f18 [] [.r a0 45 [(2,0)],.i .i64 (a1)] [.sl .lent nR aR 82]=(bif jA nR 0 then (some (.a (.i .i64 (a1)),.none,true))
  else (bif ((jB nR 2000000)&&(decide (0≤a1)&&decide (a1≤1000000))) then (bif (Nat.blt 0 nR) then (some (.a (.i .i64 (a1+((nR*3:Nat):Int))),.set 0 (.sl .lent nR (mkR (nR*3) a1) 82),true))
    else (none))
   else (none))):=by kernel_rfl
theorem Zwl (a0:Array Value) (a1:Int) (nR:Nat) (aR:Array Value) (h_a0:WT Tryz.prog 45 a0) (h_a1:i64.min≤a1∧a1≤i64.max) (h_a0x2:SlT 82 nR aR) (hc0:(jA nR 0)=false) (hg:(((jB nR 2000000)&&(decide (0≤a1)&&decide (a1≤1000000))))=true):ansV Tryz.prog Zn2 1000 Tryz.f18 [] [.r a0 45 [(2,0)],.i .i64 (a1)] [.sl .lent nR aR 82]=some (.a (.i .i64 (a1+((nR*3:Nat):Int))),.set 0 (.sl .lent nR (mkR (nR*3) a1) 82),true):=by
 have hpos:Nat.blt 0 nR=true:=by
  have:nR≠0:=fun h=>by rw [h] at hc0;cases hc0
  simp [Nat.blt];omega
 refine (Zpy 1000 a0 a1 nR aR).trans ?_
 simp only [hc0,hg,hpos,Q1,Q2]
theorem Zv7 (a0:Array Value) (a1:Int) (nR:Nat) (aR:Array Value) (h_a0:WT Tryz.prog 45 a0) (h_a1:i64.min≤a1∧a1≤i64.max) (h_a0x2:SlT 82 nR aR) (hc0:(jA nR 0)=true) (hg:(true)=true):ansV Tryz.prog Zn2 1000 Tryz.f18 [] [.r a0 45 [(2,0)],.i .i64 (a1)] [.sl .lent nR aR 82]=some (.a (.i .i64 (a1)),.none,true):=by
 refine (Zpy 1000 a0 a1 nR aR).trans ?_
 simp only [hc0,Q1]
def Zk0:SCon:=fun args h=>match args,h with
 | [.r a0 45 [(2,0)],.i .i64 a1],[.sl .lent nR aR 82]=>.two (jA nR 0) (.one (some (.a (.i .i64 (a1)),.none,true))) (.one (some (.a (.i .i64 (a1+((nR*3:Nat):Int))),.set 0 (.sl .lent nR (mkR (nR*3) a1) 82),((jB nR 2000000)&&(decide (0≤a1)&&decide (a1≤1000000))))))
 | _,_=>.one none
theorem Zws:EntX Tryz.prog 18:=Zag (fn:=Tryz.f18) (by kernel_rfl) (by kernel_rfl) (by kernel_rfl)
theorem Yak:Uab mn Tryz.prog 18 (fun args h=>Uac (Zk0 args h)):=by
 intro ρ h w args vals r e hn hr hA hH
 dsimp only at hr
 unfold Zk0 at hr
 split at hr
 ·rename_i a0 a1 nR aR
  simp only [Uac] at hr
  cases hc0:(jA nR 0)
  ·rw [hc0] at hr
   simp only [Uac,Q1,Q2] at hr
   obtain ⟨rfl,rfl,hg2⟩:=BQi hr
   exact ((Zaf (N:=1000) (by kernel_rfl) (mkΓw_sX (Yfa Zlu) Zk3 mkΓx_nilX) (fn:=Tryz.f18) (by kernel_rfl) (by kernel_rfl) [])) ρ _ w _ vals _ _ hn ((Zwl a0 a1 nR aR (hA.wtr 0 rfl) (hA.rng 1 rfl) (hH.slw 0 rfl) hc0 hg2)) hA hH
  ·rw [hc0] at hr
   simp only [Uac,Q1,Q2] at hr
   obtain ⟨rfl,rfl,hg2⟩:=BQi hr
   exact ((Zaf (N:=1000) (by kernel_rfl) (mkΓw_sX (Yfa Zlu) Zk3 mkΓx_nilX) (fn:=Tryz.f18) (by kernel_rfl) (by kernel_rfl) [])) ρ _ w _ vals _ _ hn ((Zv7 a0 a1 nR aR (hA.wtr 0 rfl) (hA.rng 1 rfl) (hH.slw 0 rfl) hc0 hg2)) hA hH
 ·simp only [Uac] at hr
  cases hr
theorem Zzw (N:Nat) (a0:Array Value) (a1:Int) (bR:Option (Option Addr)) (nR:Nat) (aR:Array Value):ansV Tryz.prog (mkΓ [(46,con Zft)]) N Tryz.f19 [] [.r a0 45 [(2,0)],.i .i64 (a1)] [.sl (.came bR) nR aR 82]=(bif ((jB nR 2000000)&&((decide (0≤a1)&&decide (a1≤1000000))&&Ua4 aR (mkR (nR*3) a1))) then (bif decide ((a1+((nR*3:Nat):Int))<(0:Int)) then (some (.a (.i .i64 (-1:Int)),.none,true))
   else (some (.a (.i .i64 (a1+((nR*3:Nat):Int))),.none,true)))
  else (none)):=by kernel_rfl
def Zfg (a0:Array Value) (a1:Int) (bR:Option (Option Addr)) (nR:Nat) (aR:Array Value):Int:=(bif decide ((a1+((nR*3:Nat):Int))<(0:Int)) then (-1:Int) else (a1+((nR*3:Nat):Int)))
def Zfl (a0:Array Value) (a1:Int) (bR:Option (Option Addr)) (nR:Nat) (aR:Array Value):Bool:=((jB nR 2000000)&&((decide (0≤a1)&&decide (a1≤1000000))&&Ua4 aR (mkR (nR*3) a1)))
theorem Zxe (a0:Array Value) (a1:Int) (bR:Option (Option Addr)) (nR:Nat) (aR:Array Value) (h_a0:WT Tryz.prog 45 a0) (h_a1:i64.min≤a1∧a1≤i64.max) (h_a0x2:SlT 82 nR aR) (hg:((Zfl a0 a1 bR nR aR))=true):ansV Tryz.prog (mkΓ [(46,con Zft)]) 1000 Tryz.f19 [] [.r a0 45 [(2,0)],.i .i64 (a1)] [.sl (.came bR) nR aR 82]=some (.a (.i .i64 (Zfg a0 a1 bR nR aR)),.none,true):=by
 refine (Zzw 1000 a0 a1 bR nR aR).trans ?_
 unfold Zfl at hg
 unfold Zfg
 revert hg
 generalize (((jB nR 2000000)&&((decide (0≤a1)&&decide (a1≤1000000))&&Ua4 aR (mkR (nR*3) a1))))=b2
 intro hg
 cases b2
 ·skip
  first | exact (nomatch (hg:false=true)) | (simp only [Q1,Q2,BQ6];done) | rfl
 ·skip
  revert hg
  generalize (decide ((a1+((nR*3:Nat):Int))<(0:Int)))=b4
  intro hg
  cases b4
  ·skip
   first | (simp only [Q1,Q2,BQ6];done) | rfl | exact (nomatch (hg:false=true))
  ·skip
   first | (simp only [Q1,Q2,BQ6];done) | rfl | exact (nomatch (hg:false=true))
def Zli:Con:=fun args h=>match args,h with
 | [.r a0 45 [(2,0)],.i .i64 a1],[.sl (.came bR) nR aR 82]=>some (.a (.i .i64 (Zfg a0 a1 bR nR aR)),.none,(Zfl a0 a1 bR nR aR))
 | _,_=>none
theorem Zwo:EntX Tryz.prog 19:=Zag (fn:=Tryz.f19) (by kernel_rfl) (by kernel_rfl) (by kernel_rfl)
theorem Ycr:Uab mn Tryz.prog 19 Zli:=(Zaf (N:=1000) (by kernel_rfl) (mkΓ_consX (Zac Zuz) Zq4 mkΓ_nilX) (fn:=Tryz.f19) (by kernel_rfl) (by kernel_rfl) []).of (by
 intro ρ h w args vals r e hA hH hr
 unfold Zli at hr
 split at hr
 ·rename_i a0 a1 bR nR aR
  obtain ⟨rfl,rfl,hg2⟩:=BQi hr
  exact Zxe a0 a1 bR nR aR (hA.wtr 0 rfl) (hA.rng 1 rfl) (hH.slw 0 rfl) hg2
 ·cases hr)
theorem givN_le {S p A:Array Value} {n:Nat} {c m:Int}:givN Tryz.prog S p n A c m≤12:=by
 unfold givN
 cases h:okG Tryz.prog S p n A c m with
 | false=>exact Nat.zero_le _
 | true=>
  unfold okG at h
  simp only [Q7] at h
  have hp:=h.1.2
  unfold Uay at hp
  simp only [Q7,Bool.not_eq_true',decide_eq_false_iff_not] at hp
  rw [Q1]
  omega
theorem givA_nil {S p A:Array Value} {n:Nat} {c m:Int} (h0:givN Tryz.prog S p n A c m=0):givA Tryz.prog S p n A c m=#[]:=by
 unfold givN at h0
 unfold givA
 cases h:okG Tryz.prog S p n A c m with
 | false=>rfl
 | true=>
  rw [h,Q1] at h0
  rw [Q1]
  unfold gvX
  rw [h0]
  simp
def eqG (a0 a1:Array Value) (nQ:Nat) (aQ:Array Value) (a2 a3:Int):Bool:=Zc7 (givV Tryz.prog a0 a1 nQ aQ a2 a3) (givV Tryz.prog a0 a1 nQ aQ a2 a3) none ((givN Tryz.prog a0 a1 nQ aQ a2 a3)) (givA Tryz.prog a0 a1 nQ aQ a2 a3) none ((givN Tryz.prog a0 a1 nQ aQ a2 a3)) (givA Tryz.prog a0 a1 nQ aQ a2 a3)
def hvG (a0 a1:Array Value) (nQ:Nat) (aQ:Array Value) (a2 a3:Int):Int:=Zfg (givV Tryz.prog a0 a1 nQ aQ a2 a3) (1:Int) none ((givN Tryz.prog a0 a1 nQ aQ a2 a3)) (givA Tryz.prog a0 a1 nQ aQ a2 a3)
def hdG (a0 a1:Array Value) (nQ:Nat) (aQ:Array Value) (a2 a3:Int):Bool:=Zfl (givV Tryz.prog a0 a1 nQ aQ a2 a3) (1:Int) none ((givN Tryz.prog a0 a1 nQ aQ a2 a3)) (givA Tryz.prog a0 a1 nQ aQ a2 a3)
def hvM (a0 a1:Array Value) (nQ:Nat) (aQ:Array Value) (a2 a3:Int):Int:=Zfg (givV Tryz.prog a0 a1 nQ aQ a2 a3) (1:Int) none ((givN Tryz.prog a0 a1 nQ aQ a2 a3)) (mkR (((givN Tryz.prog a0 a1 nQ aQ a2 a3))*3) (1:Int))
def hdM (a0 a1:Array Value) (nQ:Nat) (aQ:Array Value) (a2 a3:Int):Bool:=Zfl (givV Tryz.prog a0 a1 nQ aQ a2 a3) (1:Int) none ((givN Tryz.prog a0 a1 nQ aQ a2 a3)) (mkR (((givN Tryz.prog a0 a1 nQ aQ a2 a3))*3) (1:Int))
def gnG (a0 a1:Array Value) (nQ:Nat) (aQ:Array Value) (a2 a3:Int):Nat:=givN Tryz.prog a0 a1 nQ aQ a2 a3
def gcG (a0 a1:Array Value) (nQ:Nat) (aQ:Array Value) (a2 a3:Int):Int:=givC Tryz.prog a0 a1 nQ aQ a2 a3
def Zlz:Cons:=(mkΓw [(18,conSW Zk0)] [(7,con Znk),(9,con Zo4),(10,con Znf),(13,con Zn0),(19,con Zli),(20,con Zl8),(21,conG Zl5)] [] [])
theorem Zqp (N:Nat) (a0 a1:Array Value) (a2 a3:Int) (g_et:Addr) (g_tb:Addr) (bQ:Option (Option Addr)) (nQ:Nat) (aQ:Array Value):ansV Tryz.prog Zlz N Tryz.f6 [] [.g a0 28,.r a1 31 [(2,2)],.i .u64 (a2),.i .i64 (a3)] [.gl 0 184 g_et 3000075,.gl 1 0 g_tb 1000000000,.sl (.came bQ) nQ aQ 114]=(bif decide ((Zd4 a1 (1048576:Int) bQ nQ aQ)<(0:Int)) then (some (.a (.b (true)),.none,true))
    else (bif decide (nQ≤1048576) then (bif decide (nQ≤1048576) then (bif (!((eqG a0 a1 nQ aQ a2 a3))) then (some (.a (.b (false)),.none,true))
          else (bif ((gcG a0 a1 nQ aQ a2 a3) != (gcG a0 a1 nQ aQ a2 a3)) then (some (.a (.b (false)),.none,true))
            else (bif decide (nQ≤1048576) then (bif (!((Zc7 a1 a1 none nQ aQ none nQ aQ))) then (some (.a (.b (false)),.none,true))
                else (bif jA nQ 0 then (bif (!((eqG a0 a1 nQ aQ a2 a3))) then (some (.a (.b (false)),.none,true))
                    else (bif ((gcG a0 a1 nQ aQ a2 a3) != (gcG a0 a1 nQ aQ a2 a3)) then (some (.a (.b (false)),.none,true))
                      else (bif jA ((gnG a0 a1 nQ aQ a2 a3)) 0 then (bif (hdG a0 a1 nQ aQ a2 a3) then (bif decide ((hvG a0 a1 nQ aQ a2 a3)<(0:Int)) then (some (.a (.b (false)),.none,true))
                            else (bif ((hvG a0 a1 nQ aQ a2 a3) != (1:Int)) then (some (.a (.b (false)),.none,true))
                              else (bif decide (nQ≤1048576) then (bif (!((eqG a0 a1 nQ aQ a2 a3))) then (some (.a (.b (false)),.none,true))
                                  else (bif ((gcG a0 a1 nQ aQ a2 a3) != (gcG a0 a1 nQ aQ a2 a3)) then (some (.a (.b (false)),.none,true))
                                    else (bif (hdG a0 a1 nQ aQ a2 a3) then (bif decide ((hvG a0 a1 nQ aQ a2 a3)<(0:Int)) then (some (.a (.b (false)),.none,true))
                                        else (bif ((hvG a0 a1 nQ aQ a2 a3) != (1:Int)) then (some (.a (.b (false)),.none,true))
                                          else (some (.a (.b (true)),.none,true))))
                                      else (none))))
                                else (none))))
                          else (none))
                        else (bif ((jB ((gnG a0 a1 nQ aQ a2 a3)) 2000000)&&(decide (0≤(1:Int))&&decide ((1:Int)≤1000000))) then (bif (hdM a0 a1 nQ aQ a2 a3) then (bif decide ((hvM a0 a1 nQ aQ a2 a3)<(0:Int)) then (some (.a (.b (false)),.none,true))
                              else (bif ((hvM a0 a1 nQ aQ a2 a3) != ((1:Int)+((((gnG a0 a1 nQ aQ a2 a3))*3:Nat):Int))) then (some (.a (.b (false)),.none,true))
                                else (bif decide (nQ≤1048576) then (bif (!((eqG a0 a1 nQ aQ a2 a3))) then (some (.a (.b (false)),.none,true))
                                    else (bif ((gcG a0 a1 nQ aQ a2 a3) != (gcG a0 a1 nQ aQ a2 a3)) then (some (.a (.b (false)),.none,true))
                                      else (bif (hdM a0 a1 nQ aQ a2 a3) then (bif decide ((hvM a0 a1 nQ aQ a2 a3)<(0:Int)) then (some (.a (.b (false)),.none,true))
                                          else (bif ((hvM a0 a1 nQ aQ a2 a3) != ((1:Int)+((((gnG a0 a1 nQ aQ a2 a3))*3:Nat):Int))) then (some (.a (.b (false)),.none,true))
                                            else (some (.a (.b (true)),.none,true))))
                                        else (none))))
                                  else (none))))
                            else (none))
                          else (none)))))
                  else (bif ((jB nQ 2000000)&&(decide (0≤(1:Int))&&decide ((1:Int)≤1000000))) then (bif decide (((1:Int)+((nQ*3:Nat):Int))<(0:Int)) then (some (.a (.b (false)),.none,true))
                      else (bif (!((eqG a0 a1 nQ aQ a2 a3))) then (some (.a (.b (false)),.none,true))
                        else (bif ((gcG a0 a1 nQ aQ a2 a3) != (gcG a0 a1 nQ aQ a2 a3)) then (some (.a (.b (false)),.none,true))
                          else (bif jA ((gnG a0 a1 nQ aQ a2 a3)) 0 then (bif (hdG a0 a1 nQ aQ a2 a3) then (bif decide ((hvG a0 a1 nQ aQ a2 a3)<(0:Int)) then (some (.a (.b (false)),.none,true))
                                else (bif ((hvG a0 a1 nQ aQ a2 a3) != (1:Int)) then (some (.a (.b (false)),.none,true))
                                  else (bif decide (nQ≤1048576) then (bif (!((eqG a0 a1 nQ aQ a2 a3))) then (some (.a (.b (false)),.none,true))
                                      else (bif ((gcG a0 a1 nQ aQ a2 a3) != (gcG a0 a1 nQ aQ a2 a3)) then (some (.a (.b (false)),.none,true))
                                        else (bif (hdG a0 a1 nQ aQ a2 a3) then (bif decide ((hvG a0 a1 nQ aQ a2 a3)<(0:Int)) then (some (.a (.b (false)),.none,true))
                                            else (bif ((hvG a0 a1 nQ aQ a2 a3) != (1:Int)) then (some (.a (.b (false)),.none,true))
                                              else (some (.a (.b (true)),.none,true))))
                                          else (none))))
                                    else (none))))
                              else (none))
                            else (bif ((jB ((gnG a0 a1 nQ aQ a2 a3)) 2000000)&&(decide (0≤(1:Int))&&decide ((1:Int)≤1000000))) then (bif (hdM a0 a1 nQ aQ a2 a3) then (bif decide ((hvM a0 a1 nQ aQ a2 a3)<(0:Int)) then (some (.a (.b (false)),.none,true))
                                  else (bif ((hvM a0 a1 nQ aQ a2 a3) != ((1:Int)+((((gnG a0 a1 nQ aQ a2 a3))*3:Nat):Int))) then (some (.a (.b (false)),.none,true))
                                    else (bif decide (nQ≤1048576) then (bif (!((eqG a0 a1 nQ aQ a2 a3))) then (some (.a (.b (false)),.none,true))
                                        else (bif ((gcG a0 a1 nQ aQ a2 a3) != (gcG a0 a1 nQ aQ a2 a3)) then (some (.a (.b (false)),.none,true))
                                          else (bif (hdM a0 a1 nQ aQ a2 a3) then (bif decide ((hvM a0 a1 nQ aQ a2 a3)<(0:Int)) then (some (.a (.b (false)),.none,true))
                                              else (bif ((hvM a0 a1 nQ aQ a2 a3) != ((1:Int)+((((gnG a0 a1 nQ aQ a2 a3))*3:Nat):Int))) then (some (.a (.b (false)),.none,true))
                                                else (some (.a (.b (true)),.none,true))))
                                            else (none))))
                                      else (none))))
                                else (none))
                              else (none))))))
                    else (none))))
              else (none))))
        else (none))
      else (none))):=by kernel_rfl
def Zcs (P:Program) (a0 a1:Array Value) (a2 a3:Int) (g_et:Addr) (g_tb:Addr) (bQ:Option (Option Addr)) (nQ:Nat) (aQ:Array Value):Bool:=(bif decide ((Zd4 a1 (1048576:Int) bQ nQ aQ)<(0:Int)) then true else (bif (!((eqG a0 a1 nQ aQ a2 a3))) then false else (bif ((gcG a0 a1 nQ aQ a2 a3) != (gcG a0 a1 nQ aQ a2 a3)) then false else (bif (!((Zc7 a1 a1 none nQ aQ none nQ aQ))) then false else (bif jA nQ 0 then (bif (!((eqG a0 a1 nQ aQ a2 a3))) then false else (bif ((gcG a0 a1 nQ aQ a2 a3) != (gcG a0 a1 nQ aQ a2 a3)) then false else (bif jA ((gnG a0 a1 nQ aQ a2 a3)) 0 then (bif decide ((hvG a0 a1 nQ aQ a2 a3)<(0:Int)) then false else (bif ((hvG a0 a1 nQ aQ a2 a3) != (1:Int)) then false else (bif (!((eqG a0 a1 nQ aQ a2 a3))) then false else (bif ((gcG a0 a1 nQ aQ a2 a3) != (gcG a0 a1 nQ aQ a2 a3)) then false else (bif decide ((hvG a0 a1 nQ aQ a2 a3)<(0:Int)) then false else (bif ((hvG a0 a1 nQ aQ a2 a3) != (1:Int)) then false else true)))))) else (bif decide ((hvM a0 a1 nQ aQ a2 a3)<(0:Int)) then false else (bif ((hvM a0 a1 nQ aQ a2 a3) != ((1:Int)+((((gnG a0 a1 nQ aQ a2 a3))*3:Nat):Int))) then false else (bif (!((eqG a0 a1 nQ aQ a2 a3))) then false else (bif ((gcG a0 a1 nQ aQ a2 a3) != (gcG a0 a1 nQ aQ a2 a3)) then false else (bif decide ((hvM a0 a1 nQ aQ a2 a3)<(0:Int)) then false else (bif ((hvM a0 a1 nQ aQ a2 a3) != ((1:Int)+((((gnG a0 a1 nQ aQ a2 a3))*3:Nat):Int))) then false else true))))))))) else (bif decide (((1:Int)+((nQ*3:Nat):Int))<(0:Int)) then false else (bif (!((eqG a0 a1 nQ aQ a2 a3))) then false else (bif ((gcG a0 a1 nQ aQ a2 a3) != (gcG a0 a1 nQ aQ a2 a3)) then false else (bif jA ((gnG a0 a1 nQ aQ a2 a3)) 0 then (bif decide ((hvG a0 a1 nQ aQ a2 a3)<(0:Int)) then false else (bif ((hvG a0 a1 nQ aQ a2 a3) != (1:Int)) then false else (bif (!((eqG a0 a1 nQ aQ a2 a3))) then false else (bif ((gcG a0 a1 nQ aQ a2 a3) != (gcG a0 a1 nQ aQ a2 a3)) then false else (bif decide ((hvG a0 a1 nQ aQ a2 a3)<(0:Int)) then false else (bif ((hvG a0 a1 nQ aQ a2 a3) != (1:Int)) then false else true)))))) else (bif decide ((hvM a0 a1 nQ aQ a2 a3)<(0:Int)) then false else (bif ((hvM a0 a1 nQ aQ a2 a3) != ((1:Int)+((((gnG a0 a1 nQ aQ a2 a3))*3:Nat):Int))) then false else (bif (!((eqG a0 a1 nQ aQ a2 a3))) then false else (bif ((gcG a0 a1 nQ aQ a2 a3) != (gcG a0 a1 nQ aQ a2 a3)) then false else (bif decide ((hvM a0 a1 nQ aQ a2 a3)<(0:Int)) then false else (bif ((hvM a0 a1 nQ aQ a2 a3) != ((1:Int)+((((gnG a0 a1 nQ aQ a2 a3))*3:Nat):Int))) then false else true)))))))))))))))
def Zct (a0 a1:Array Value) (a2 a3:Int) (g_et:Addr) (g_tb:Addr) (bQ:Option (Option Addr)) (nQ:Nat) (aQ:Array Value):Bool:=(bif decide ((Zd4 a1 (1048576:Int) bQ nQ aQ)<(0:Int)) then true else (bif decide (nQ≤1048576) then (bif decide (nQ≤1048576) then (bif (!((eqG a0 a1 nQ aQ a2 a3))) then true else (bif ((gcG a0 a1 nQ aQ a2 a3) != (gcG a0 a1 nQ aQ a2 a3)) then true else (bif decide (nQ≤1048576) then (bif (!((Zc7 a1 a1 none nQ aQ none nQ aQ))) then true else (bif jA nQ 0 then (bif (!((eqG a0 a1 nQ aQ a2 a3))) then true else (bif ((gcG a0 a1 nQ aQ a2 a3) != (gcG a0 a1 nQ aQ a2 a3)) then true else (bif jA ((gnG a0 a1 nQ aQ a2 a3)) 0 then (bif (hdG a0 a1 nQ aQ a2 a3) then (bif decide ((hvG a0 a1 nQ aQ a2 a3)<(0:Int)) then true else (bif ((hvG a0 a1 nQ aQ a2 a3) != (1:Int)) then true else (bif decide (nQ≤1048576) then (bif (!((eqG a0 a1 nQ aQ a2 a3))) then true else (bif ((gcG a0 a1 nQ aQ a2 a3) != (gcG a0 a1 nQ aQ a2 a3)) then true else (hdG a0 a1 nQ aQ a2 a3))) else false))) else false) else (bif ((jB ((gnG a0 a1 nQ aQ a2 a3)) 2000000)&&(decide (0≤(1:Int))&&decide ((1:Int)≤1000000))) then (bif (hdM a0 a1 nQ aQ a2 a3) then (bif decide ((hvM a0 a1 nQ aQ a2 a3)<(0:Int)) then true else (bif ((hvM a0 a1 nQ aQ a2 a3) != ((1:Int)+((((gnG a0 a1 nQ aQ a2 a3))*3:Nat):Int))) then true else (bif decide (nQ≤1048576) then (bif (!((eqG a0 a1 nQ aQ a2 a3))) then true else (bif ((gcG a0 a1 nQ aQ a2 a3) != (gcG a0 a1 nQ aQ a2 a3)) then true else (hdM a0 a1 nQ aQ a2 a3))) else false))) else false) else false)))) else (bif ((jB nQ 2000000)&&(decide (0≤(1:Int))&&decide ((1:Int)≤1000000))) then (bif decide (((1:Int)+((nQ*3:Nat):Int))<(0:Int)) then true else (bif (!((eqG a0 a1 nQ aQ a2 a3))) then true else (bif ((gcG a0 a1 nQ aQ a2 a3) != (gcG a0 a1 nQ aQ a2 a3)) then true else (bif jA ((gnG a0 a1 nQ aQ a2 a3)) 0 then (bif (hdG a0 a1 nQ aQ a2 a3) then (bif decide ((hvG a0 a1 nQ aQ a2 a3)<(0:Int)) then true else (bif ((hvG a0 a1 nQ aQ a2 a3) != (1:Int)) then true else (bif decide (nQ≤1048576) then (bif (!((eqG a0 a1 nQ aQ a2 a3))) then true else (bif ((gcG a0 a1 nQ aQ a2 a3) != (gcG a0 a1 nQ aQ a2 a3)) then true else (hdG a0 a1 nQ aQ a2 a3))) else false))) else false) else (bif ((jB ((gnG a0 a1 nQ aQ a2 a3)) 2000000)&&(decide (0≤(1:Int))&&decide ((1:Int)≤1000000))) then (bif (hdM a0 a1 nQ aQ a2 a3) then (bif decide ((hvM a0 a1 nQ aQ a2 a3)<(0:Int)) then true else (bif ((hvM a0 a1 nQ aQ a2 a3) != ((1:Int)+((((gnG a0 a1 nQ aQ a2 a3))*3:Nat):Int))) then true else (bif decide (nQ≤1048576) then (bif (!((eqG a0 a1 nQ aQ a2 a3))) then true else (bif ((gcG a0 a1 nQ aQ a2 a3) != (gcG a0 a1 nQ aQ a2 a3)) then true else (hdM a0 a1 nQ aQ a2 a3))) else false))) else false) else false))))) else false))) else false))) else false) else false))
theorem Zp0 (a0 a1:Array Value) (a2 a3:Int) (g_et:Addr) (g_tb:Addr) (bQ:Option (Option Addr)) (nQ:Nat) (aQ:Array Value) (h_a0:WT Tryz.prog 28 a0) (h_a1:WT Tryz.prog 31 a1) (h_a2:IntKind.u64.min≤a2∧a2≤IntKind.u64.max) (h_a3:i64.min≤a3∧a3≤i64.max) (h_a1x2:SlT 114 nQ aQ) (hg:((Zct a0 a1 a2 a3 g_et g_tb bQ nQ aQ))=true):ansV Tryz.prog Zlz 1000 Tryz.f6 [] [.g a0 28,.r a1 31 [(2,2)],.i .u64 (a2),.i .i64 (a3)] [.gl 0 184 g_et 3000075,.gl 1 0 g_tb 1000000000,.sl (.came bQ) nQ aQ 114]=some (.a (.b ((Zcs Tryz.prog a0 a1 a2 a3 g_et g_tb bQ nQ aQ))),.none,true):=by
 refine (Zqp 1000 a0 a1 a2 a3 g_et g_tb bQ nQ aQ).trans ?_
 unfold Zct at hg
 unfold Zcs
 revert hg
 generalize (decide ((Zd4 a1 (1048576:Int) bQ nQ aQ)<(0:Int)))=b2
 intro hg
 cases b2
 ·skip
  revert hg
  generalize (decide (nQ≤1048576))=b4
  intro hg
  cases b4
  ·skip
   first | exact (nomatch (hg:false=true)) | (simp only [Q1,Q2,BQ6];done) | rfl
  ·skip
   revert hg
   generalize ((!((eqG a0 a1 nQ aQ a2 a3))))=b6
   intro hg
   cases b6
   ·skip
    revert hg
    generalize (((gcG a0 a1 nQ aQ a2 a3) != (gcG a0 a1 nQ aQ a2 a3)))=b8
    intro hg
    cases b8
    ·skip
     revert hg
     generalize ((!((Zc7 a1 a1 none nQ aQ none nQ aQ))))=b10
     intro hg
     cases b10
     ·skip
      revert hg
      generalize (jA nQ 0)=b12
      intro hg
      cases b12
      ·skip
       revert hg
       generalize (((jB nQ 2000000)&&(decide (0≤(1:Int))&&decide ((1:Int)≤1000000))))=b14
       intro hg
       cases b14
       ·skip
        first | exact (nomatch (hg:false=true)) | (simp only [Q1,Q2,BQ6];done) | rfl
       ·skip
        revert hg
        generalize (decide (((1:Int)+((nQ*3:Nat):Int))<(0:Int)))=b16
        intro hg
        cases b16
        ·skip
         revert hg
         generalize (jA ((gnG a0 a1 nQ aQ a2 a3)) 0)=b18
         intro hg
         cases b18
         ·skip
          revert hg
          generalize (((jB ((gnG a0 a1 nQ aQ a2 a3)) 2000000)&&(decide (0≤(1:Int))&&decide ((1:Int)≤1000000))))=b20
          intro hg
          cases b20
          ·skip
           first | exact (nomatch (hg:false=true)) | (simp only [Q1,Q2,BQ6];done) | rfl
          ·skip
           revert hg
           generalize ((hdM a0 a1 nQ aQ a2 a3))=b22
           intro hg
           cases b22
           ·skip
            first | exact (nomatch (hg:false=true)) | (simp only [Q1,Q2,BQ6];done) | rfl
           ·skip
            revert hg
            generalize (decide ((hvM a0 a1 nQ aQ a2 a3)<(0:Int)))=b24
            intro hg
            cases b24
            ·skip
             revert hg
             generalize (((hvM a0 a1 nQ aQ a2 a3) != ((1:Int)+((((gnG a0 a1 nQ aQ a2 a3))*3:Nat):Int))))=b26
             intro hg
             cases b26
             ·skip
              first | (simp only [Q1,Q2,BQ6];done) | rfl | exact (nomatch (hg:false=true))
             ·skip
              first | (simp only [Q1,Q2,BQ6];done) | rfl | exact (nomatch (hg:false=true))
            ·skip
             first | (simp only [Q1,Q2,BQ6];done) | rfl | exact (nomatch (hg:false=true))
         ·skip
          revert hg
          generalize ((hdG a0 a1 nQ aQ a2 a3))=b20
          intro hg
          cases b20
          ·skip
           first | exact (nomatch (hg:false=true)) | (simp only [Q1,Q2,BQ6];done) | rfl
          ·skip
           revert hg
           generalize (decide ((hvG a0 a1 nQ aQ a2 a3)<(0:Int)))=b22
           intro hg
           cases b22
           ·skip
            revert hg
            generalize (((hvG a0 a1 nQ aQ a2 a3) != (1:Int)))=b24
            intro hg
            cases b24
            ·skip
             first | (simp only [Q1,Q2,BQ6];done) | rfl | exact (nomatch (hg:false=true))
            ·skip
             first | (simp only [Q1,Q2,BQ6];done) | rfl | exact (nomatch (hg:false=true))
           ·skip
            first | (simp only [Q1,Q2,BQ6];done) | rfl | exact (nomatch (hg:false=true))
        ·skip
         first | (simp only [Q1,Q2,BQ6];done) | rfl | exact (nomatch (hg:false=true))
      ·skip
       revert hg
       generalize (jA ((gnG a0 a1 nQ aQ a2 a3)) 0)=b14
       intro hg
       cases b14
       ·skip
        revert hg
        generalize (((jB ((gnG a0 a1 nQ aQ a2 a3)) 2000000)&&(decide (0≤(1:Int))&&decide ((1:Int)≤1000000))))=b16
        intro hg
        cases b16
        ·skip
         first | exact (nomatch (hg:false=true)) | (simp only [Q1,Q2,BQ6];done) | rfl
        ·skip
         revert hg
         generalize ((hdM a0 a1 nQ aQ a2 a3))=b18
         intro hg
         cases b18
         ·skip
          first | exact (nomatch (hg:false=true)) | (simp only [Q1,Q2,BQ6];done) | rfl
         ·skip
          revert hg
          generalize (decide ((hvM a0 a1 nQ aQ a2 a3)<(0:Int)))=b20
          intro hg
          cases b20
          ·skip
           revert hg
           generalize (((hvM a0 a1 nQ aQ a2 a3) != ((1:Int)+((((gnG a0 a1 nQ aQ a2 a3))*3:Nat):Int))))=b22
           intro hg
           cases b22
           ·skip
            first | (simp only [Q1,Q2,BQ6];done) | rfl | exact (nomatch (hg:false=true))
           ·skip
            first | (simp only [Q1,Q2,BQ6];done) | rfl | exact (nomatch (hg:false=true))
          ·skip
           first | (simp only [Q1,Q2,BQ6];done) | rfl | exact (nomatch (hg:false=true))
       ·skip
        revert hg
        generalize ((hdG a0 a1 nQ aQ a2 a3))=b16
        intro hg
        cases b16
        ·skip
         first | exact (nomatch (hg:false=true)) | (simp only [Q1,Q2,BQ6];done) | rfl
        ·skip
         revert hg
         generalize (decide ((hvG a0 a1 nQ aQ a2 a3)<(0:Int)))=b18
         intro hg
         cases b18
         ·skip
          revert hg
          generalize (((hvG a0 a1 nQ aQ a2 a3) != (1:Int)))=b20
          intro hg
          cases b20
          ·skip
           first | (simp only [Q1,Q2,BQ6];done) | rfl | exact (nomatch (hg:false=true))
          ·skip
           first | (simp only [Q1,Q2,BQ6];done) | rfl | exact (nomatch (hg:false=true))
         ·skip
          first | (simp only [Q1,Q2,BQ6];done) | rfl | exact (nomatch (hg:false=true))
     ·skip
      first | (simp only [Q1,Q2,BQ6];done) | rfl | exact (nomatch (hg:false=true))
    ·skip
     first | (simp only [Q1,Q2,BQ6];done) | rfl | exact (nomatch (hg:false=true))
   ·skip
    first | (simp only [Q1,Q2,BQ6];done) | rfl | exact (nomatch (hg:false=true))
 ·skip
  first | (simp only [Q1,Q2,BQ6];done) | rfl | exact (nomatch (hg:false=true))
def Zgv:Con:=fun args h=>match args,h with
 | [.g a0 28,.r a1 31 [(2,2)],.i .u64 a2,.i .i64 a3],[.gl 0 184 g_et 3000075,.gl 1 0 g_tb 1000000000,.sl (.came bQ) nQ aQ 114]=>some (.a (.b ((Zcs Tryz.prog a0 a1 a2 a3 g_et g_tb bQ nQ aQ))),.none,(Zct a0 a1 a2 a3 g_et g_tb bQ nQ aQ))
 | _,_=>none
theorem Zry:Uab mn Tryz.prog 6 Zgv:=(Zaf (N:=1000) (by kernel_rfl) (mkΓw_sX (Yfa Yak) Zws (mkΓw_cX (Zac Yf6) Yay (mkΓw_cX (Zac Yh1) Yb8 (mkΓw_cX (Zac Yfn) Zzy (mkΓw_cX (Zac Yfk) Yba (mkΓw_cX (Zac Ycr) Zwo (mkΓw_cX (Zac Ye4) Zyw (mkΓw_cX (Zq5 Ye2) Zw3 mkΓx_nilX)))))))) (fn:=Tryz.f6) (by kernel_rfl) (by kernel_rfl) []).of (by
 intro ρ h w args vals r e hA hH hr
 unfold Zgv at hr
 split at hr
 ·rename_i a0 a1 a2 a3 g_et g_tb bQ nQ aQ
  obtain ⟨rfl,rfl,hg2⟩:=BQi hr
  exact Zp0 a0 a1 a2 a3 g_et g_tb bQ nQ aQ (hA.wt 0 rfl) (hA.wtr 1 rfl) (hA.rng 2 rfl) (hA.rng 3 rfl) (hH.slw 2 rfl) hg2
 ·cases hr)
theorem szP (b:Int) (p:Array Value) (bb:Option (Option Addr)) (n:Nat) (A:Array Value) (h1: -1≤b) (h2:b≤1048576) (h3:n≤9223372036854775807):Zd4 p b bb n A=if b - (n:Int)<0 then -1 else b - (n:Int):=by
 unfold Zd4 Zb1
 rw [IntWalk.i64_in (b - (n:Int)) (by omega)]
 by_cases h:b - (n:Int)<0
 ·rw [if_pos h,Q3 h];rfl
 ·rw [if_neg h,Q4 h]
  simp only [Q2,Q4 h]
theorem eqP (p:Array Value) (n:Nat) (A:Array Value):Zc7 p p none n A none n A=true:=by
 unfold Zc7
 simp only [bne_self_eq_false,Q2,Zpr,decide_true,Bool.and_self,Bool.not_true]
theorem Zpg (a0 a1:Array Value) (a2 a3:Int) (g_et:Addr) (g_tb:Addr) (bQ:Option (Option Addr)) (nQ:Nat) (aQ:Array Value) (h_a0:WT Tryz.prog 28 a0) (h_a1:WT Tryz.prog 31 a1) (h_a2:IntKind.u64.min≤a2∧a2≤IntKind.u64.max) (h_a3:i64.min≤a3∧a3≤i64.max) (h_a1x2:nQ≤9223372036854775807):((Zct a0 a1 a2 a3 g_et g_tb bQ nQ aQ))=true∧((Zcs Tryz.prog a0 a1 a2 a3 g_et g_tb bQ nQ aQ))=true:=by
 have hN:givN Tryz.prog a0 a1 nQ aQ a2 a3≤12:=givN_le
 have hD:givN Tryz.prog a0 a1 nQ aQ a2 a3=0→givA Tryz.prog a0 a1 nQ aQ a2 a3=#[]:=givA_nil
 unfold Zct Zcs
 unfold eqG hvG hdG hvM hdM gnG gcG
 rw [szP 1048576 a1 bQ nQ aQ (by omega) (by omega) h_a1x2]
 generalize givV Tryz.prog a0 a1 nQ aQ a2 a3=V
 generalize givN Tryz.prog a0 a1 nQ aQ a2 a3=n at hN hD⊢
 generalize givA Tryz.prog a0 a1 nQ aQ a2 a3=D at hD⊢
 generalize givC Tryz.prog a0 a1 nQ aQ a2 a3=c
 by_cases h:(1048576:Int) - (nQ:Int)<0
 ·rw [if_pos h];exact ⟨rfl,rfl⟩
 ·rw [if_neg h]
  have e1:decide ((1048576:Int) - (nQ:Int)<0)=false:=Q4 h
  have e3:decide (nQ≤1048576)=true:=Q3 (by omega)
  have b2:jB nQ 2000000=true:=Nat.ble_eq_true_of_le (by omega)
  have b3:jB n 2000000=true:=Nat.ble_eq_true_of_le (by omega)
  have c1:decide (((1:Int)+((n*3:Nat):Int))<(0:Int))=false:=Q4 (by omega)
  have k1:decide (((1:Int)+((nQ*3:Nat):Int))<(0:Int))=false:=Q4 (by omega)
  have c2:decide (0≤(1:Int))=true:=rfl
  have c3:decide ((1:Int)≤1000000)=true:=rfl
  have c6:decide ((1:Int)<0)=false:=rfl
  unfold Zfl Zfg
  cases hy:jA nQ 0<;>cases hz:jA n 0
  case false.true | true.true=>
   obtain rfl:=Nat.eq_of_beq_eq_true hz
   obtain rfl:D=#[]:=hD rfl
   have c4:((1:Int)+((0*3:Nat):Int) != (1:Int))=false:=rfl
   have c5:mkR (0*3) (1:Int)=(#[]:Array Value):=rfl
   simp only [eqP,c4,c5,b2,b3,e1,e3,c1,c2,c3,c6,k1,hy,decide_true,Bool.and_self,Zpr,bne_self_eq_false,Bool.not_true,Q2,Q1,and_self]
  all_goals simp only [eqP,b2,b3,e1,e3,c1,c2,c3,c6,k1,hy,hz,decide_true,Bool.and_self,Zpr,bne_self_eq_false,Bool.not_true,Q2,Q1,and_self]
namespace lawFnExactGiveOut
theorem own:ownKnob Tryz.prog.godebug=none:=by kernel_rfl
theorem laid_all {W:World} (h:laidMetH Tryz.prog Rows.fnExactGiveOutRow.laid W):BIs Tryz.prog idA [] W ⟨0,0⟩ (.gl 0 184 ⟨0,0,none⟩ 3000075)∧BIs Tryz.prog idA [] W ⟨0,0⟩ (.gl 1 0 ⟨1,0,none⟩ 1000000000):=by
 have h' : laidMet Tryz.prog [("math/bits.deBruijn64tab", Rows.laid_math_bits_deBruijn64tab)] W ∧ handlesMet Tryz.prog [("errors.errorType", Rows.laid_errors_errorType)] W := h
 refine ⟨(Ylz (nm:=[101,114,114,111,114]) (E:=75) (NG:=2) h'.2 (List.Mem.head _) (by kernel_rfl) (by kernel_rfl) (by kernel_rfl) (by kernel_rfl) (by kernel_rfl) (by kernel_rfl) (by decide) (by decide)),.inr ⟨by omega,rfl,.inr ⟨by omega,fun i hi=> ?_⟩⟩⟩
 have e:(Rows.laid_math_bits_deBruijn64tab:DataW Unit)=Lib.tabData .u8 Ugx:=by kernel_rfl
 have h1 : laidMet Tryz.prog (("math/bits.deBruijn64tab", Lib.tabData .u8 Ugx) :: []) W := by rw [← e]; exact h'.1
 have h2 : Lib.TabIs Tryz.prog W "math/bits.deBruijn64tab" .u8 Ugx := Lib.tabIs_of_head (g := 1) (t := 207) (e := 5) (n := 64) (by kernel_rfl) (by kernel_rfl) Tryz.underlying207 Tryz.underlying5 (by kernel_rfl) (by kernel_rfl) h1
 exact h2.cell (by kernel_rfl) i hi
def Uc9 (os:Os):World:=
 let w0:=World.holding Tryz.prog os ⟨#[],#[],[]⟩
 { w0 with heap:=(w0.heap.modify 0 fun
   | .cells _ t frozen=>.cells #[.iface 184 (.agg #[typeHandle Tryz.prog 75])] t frozen
   | o=>o).modify 1 fun
   | .cells _ t frozen=>.cells (Ugx.map fun z=>Value.int .u8 z).toArray t frozen
   | o=>o }
theorem laid_met (os:Os) (args:Array Value):laidMetH Tryz.prog Rows.fnExactGiveOutRow.laid ((Uc9 os).forCall (fun _ _=>0) ⟨#[],args,[]⟩).memory:=
 laidMetH_of_parts (laidMet_of_run' 8 (by kernel_rfl) (by kernel_rfl)) (by kernel_rfl)
theorem reads (os:Os) {H:Type} (enc:TypeId×Value→H):∃ x,DataW.whole enc Tryz.prog ((Uc9 os).forCall (fun _ _=>0) ⟨#[],#[.agg (zc Tryz.prog 28),.agg (zc Tryz.prog 31),.int .u64 0,.int .i64 0],[]⟩).memory Tryz.f6.params.toList Rows.fnExactGiveOutSpec.vars false (#[.agg (zc Tryz.prog 28),.agg (zc Tryz.prog 31),.int .u64 0,.int .i64 0]:Array Value).toList 8=some x:=
 Option.isSome_iff_exists.1 (by kernel_rfl)
set_option maxRecDepth 100000 in
theorem lifted (os:Os) (started:os.Started) (H:Type) (enc:TypeId×Value→H) :
  ReturnsInHanded {} Tryz.checked os 6 .any ((OpenSpec.ofChange Rows.fnExactGiveOutSpec).preRow enc Tryz.prog Tryz.f6 Rows.fnExactGiveOutRow.domain false Rows.fnExactGiveOutRow.laid) (Rows.fnExactGiveOutSpec.post enc Tryz.prog Tryz.f6 false true false false):=by
 obtain ⟨x,hx⟩:=reads os enc
 refine Yf4 (C:=Tryz.checked) (tb:=4) own (by kernel_rfl) Tryz.func6 (by kernel_rfl) Tryz.underlying4 (of_decide_eq_true (by kernel_rfl)) (by kernel_rfl) ?_ os started H enc
  (witness_row_at (enc:=enc) (C:=Tryz.checked) false (Uc9 os) #[.agg (zc Tryz.prog 28),.agg (zc Tryz.prog 31),.int .u64 0,.int .i64 0] rfl (by kernel_rfl) (by kernel_rfl) (by kernel_rfl)
   (OpenSpec.preRow_of_cond 8 hx (by kernel_rfl) (fun k hk=>by cases hk) (by kernel_rfl) (laid_met os _))) ?_
 ·intro H ds gs hds hgs
  rw [show Tryz.f6.params.toList.length=4 by kernel_rfl] at hds
  rw [show Rows.fnExactGiveOutSpec.vars.length=0 by kernel_rfl] at hgs
  match ds,hds,gs,hgs with
  | [_,_,_,_],_,[],_=>rfl
 ·intro W base args ds ps hval hA hL
  obtain ⟨k0,k1⟩:=laid_all hL
  rw [Tryz.params6] at hA hval
  obtain ⟨v0,vs0,d0,ds0,p0,q0,ha0,rfl,rfl,h0,r0⟩:=trodAll_cons hA
  obtain ⟨v1,vs1,d1,ds1,p1,q1,rfl,rfl,rfl,h1,r1⟩:=trodAll_cons r0
  obtain ⟨v2,vs2,d2,ds2,p2,q2,rfl,rfl,rfl,h2,r2⟩:=trodAll_cons r1
  obtain ⟨v3,vs3,d3,ds3,p3,q3,rfl,rfl,rfl,h3,r3⟩:=trodAll_cons r2
  obtain ⟨rfl,rfl,rfl⟩:=trodAll_nil r3
  have hargs:args=#[v0,v1,v2,v3]:=by cases args;simp_all
  obtain ⟨a0,e0,w0⟩:=Yqa (t:=28) 8 (by kernel_rfl) (by kernel_rfl) (hval 0 28 v0 rfl (by rw [hargs];rfl)) h0
  obtain ⟨x_a1x2,nQ,c_a1x2,aQ,a1,D_a1,e1,s1,w1,z11,z12,z13,z14⟩:=open_rsl (P:=Tryz.prog) (t:=31) (e:=114) (ts:=29) 8 2 2 Tryz.underlying31 (by kernel_rfl) (by kernel_rfl) (by kernel_rfl) (by kernel_rfl) Tryz.underlying29 (by kernel_rfl) (by kernel_rfl) (Nat.lt_of_lt_of_eq (by decide:0<3) (by kernel_rfl)) (hval 1 31 v1 rfl (by rw [hargs];rfl)) h1
  obtain ⟨a2,e2,_,_,w2⟩:=open_int Tryz.underlying23 (hval 2 23 v2 rfl (by rw [hargs];rfl)) h2
  obtain ⟨a3,e3,_,_,w3⟩:=open_int Tryz.underlying2 (hval 3 2 v3 rfl (by rw [hargs];rfl)) h3
  obtain rfl:args=#[.agg a0,.agg D_a1,.int .u64 a2,.int .i64 a3]:=by rw [hargs,e0,e1,e2,e3]
  obtain ⟨hg,hv⟩:=Zpg a0 a1 a2 a3 ⟨0,0,none⟩ ⟨1,0,none⟩ (some x_a1x2) nQ aQ w0 w1 (wfb w2) (wfb w3) s1.2.2.1
  have hr:Zgv [.g a0 28,.r a1 31 [(2,2)],.i .u64 a2,.i .i64 a3] [.gl 0 184 ⟨0,0,none⟩ 3000075,.gl 1 0 ⟨1,0,none⟩ 1000000000,.sl (.came (some x_a1x2)) nQ aQ 114]=some (.a (.b true),.none,true):=by
   show (some (SV.a (SA.b ((Zcs Tryz.prog a0 a1 a2 a3 ⟨0,0,none⟩ ⟨1,0,none⟩ (some x_a1x2) nQ aQ))),Eff.none,(Zct a0 a1 a2 a3 ⟨0,0,none⟩ ⟨1,0,none⟩ (some x_a1x2) nQ aQ)):Option (SV×Eff×Bool))=_
   rw [hg,hv]
  exact Ynl (by kernel_rfl) Zry (hh:=[.gl 0 184 ⟨0,0,none⟩ 3000075,.gl 1 0 ⟨1,0,none⟩ 1000000000,.sl (.came (some x_a1x2)) nQ aQ 114]) (by kernel_rfl) hr W (vals:=[.agg a0,.agg D_a1,.int .u64 a2,.int .i64 a3]) (.gl k0 (.gl k1 (.cons s1 .nil))) (Uc1 ⟨rfl,w0⟩ (Uc1 (is_rsl rfl w1 z11 z12 z13 z14) (Uc1 ⟨rfl,wfb w2⟩ (Uc1 ⟨rfl,wfb w3⟩ (allNil2 _)))))
theorem said:Rows.FnExactGiveOutSaid:=
 OpenClaim.holds_of_wide 6 Tryz.f6 rfl rfl rfl rfl rfl rfl rfl ⟨rfl,rfl,rfl,rfl,rfl⟩ rfl rfl rfl rfl rfl (by kernel_rfl) Tryz.func6 (by kernel_rfl)
  (of_decide_eq_true (by kernel_rfl)) (by unfold Func.isWrapper;first | (rw [if_pos (by decide +kernel)];kernel_rfl) | (rw [if_neg (by decide +kernel)];exact ⟨rfl,rfl⟩))
  (fun os started H enc _=>by rw [OpenClaim.pre_eq_preRow];exact lifted os started H enc)
theorem plain (f:FuncId) (fn:Func) (hf:Tryz.pinned.checked.prog.funcNamed Rows.fnExactGiveOutRow.func=some f) (hfn:Tryz.pinned.checked.prog.funcs[f]? = some fn) :
  Rows.fnExactGiveOutCard.stood.looks=Tryz.pinned.checked.prog.looks []∧∀ (j:Nat) t,fn.params[j]? = some t→Tryz.pinned.checked.prog.wantsStandIn t=false:=by
 obtain rfl:f=6:=Q5 ((show Tryz.prog.funcNamed Rows.fnExactGiveOutRow.func=some 6 by kernel_rfl).symm.trans hf) |>.symm
 obtain rfl:fn=Tryz.f6:=(Q5 (Tryz.func6.symm.trans hfn)).symm
 refine ⟨by kernel_rfl,fun j t ht=> ?_⟩
 have hall:∀ t ∈ Tryz.f6.params.toList,Tryz.prog.wantsStandIn t=false:=of_decide_eq_true (by kernel_rfl)
 exact hall t (by simpa using Array.mem_of_getElem? ht)
theorem proved:Rows.FnExactGiveOutCardSaid:=
 Claim7.holds_tied_plain_at .later [] _ _ _ _ said (fun _ h=>by cases h) (by kernel_rfl) (fun _ h=>by cases h) fnExactGiveOut_row_tie rfl ⟨rfl,rfl⟩ (by kernel_rfl) rfl plain (by kernel_rfl)
#print axioms proved
end lawFnExactGiveOut
end
end Go.Proofs.YtohnggmlmglhmaaGreatDoor
