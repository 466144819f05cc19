/- For every sea and plan spec and program make the same releases one. -/
import Derived.Lib.LaidTab
import Derived.Test.YtdhckffhnkeogaaDoorRows
import Derived.Test.YtdhckffhnkeogaaDoorChecked
import Derived.Test.YtdhckffhnkeogaaDoorCnE
import Derived.Test.YtdhckffhnkeogaaDoorVcG
import Derived.Test.YtdhckffhnkeogaaDoorLoX
import Derived.Test.YtdhckffhnkeogaaDoorCards
import Derived.Test.YtdhckffhnkeogaaDoorTie
set_option linter.unusedVariables false
set_option linter.unusedSimpArgs false
open _root_.Nat renaming beq→jA,ble→jB
namespace Go.Proofs.YtdhckffhnkeogaaDoor
open Go.ChangeShapes Go.WideShapes Go.ChangeAt Go.RowKit Ve Vc
open Go.Proofs.Tryd (prog)
open IntKind (i64)
set_option maxRecDepth 100000
noncomputable section
variable {mn:Md}
def Zjc:Cons:=(mkΓw [(25,conSW Zfo)] [] [] [])
theorem Zkv (N:Nat) (a0:Array Value) (a1:Int) (nR:Nat) (aR:Array Value):ansV prog Zjc N Tryd.f11 [] [.r a0 35 [(2,0)],.i .i64 (a1)] [.sl .lent nR aR 57]=(bif jA nR 0 then (some (.a (.i .i64 (a1)),.none,true))
  else (bif ((jB nR 2000000)&&(decide (0≤a1)&&decide (a1≤1000000))) then (bif (Nat.blt 0 nR) then (some (.a (.i .i64 (a1+((nR*3:Nat):Int))),.set 0 (.sl .lent nR (mkR (nR*3) a1) 57),true))
    else (none))
   else (none))):=by kernel_rfl
theorem Zo9 (a0:Array Value) (a1:Int) (nR:Nat) (aR:Array Value) (h_a0:WT prog 35 a0) (h_a1:i64.min≤a1∧a1≤i64.max) (h_a0x2:aR.size=nR*(lay prog 57).length∧(∀ k,k<nR→WT prog 57 (aR.extract (k*(lay prog 57).length) (k*(lay prog 57).length+(lay prog 57).length)))∧nR≤9223372036854775807) (hc0:(jA nR 0)=false) (hg:(((jB nR 2000000)&&(decide (0≤a1)&&decide (a1≤1000000))))=true):ansV prog Zjc 1000 Tryd.f11 [] [.r a0 35 [(2,0)],.i .i64 (a1)] [.sl .lent nR aR 57]=some (.a (.i .i64 (a1+((nR*3:Nat):Int))),.set 0 (.sl .lent nR (mkR (nR*3) a1) 57),true):=by
 have hpos:Nat.blt 0 nR=true:=by
  have:nR≠0:=fun h=>by rw [h] at hc0;cases hc0
  simp [Nat.blt];omega
 refine (Zkv 1000 a0 a1 nR aR).trans ?_
 simp only [hc0,hg,hpos,Q1,Q2]
theorem Zpg (a0:Array Value) (a1:Int) (nR:Nat) (aR:Array Value) (h_a0:WT prog 35 a0) (h_a1:i64.min≤a1∧a1≤i64.max) (h_a0x2:aR.size=nR*(lay prog 57).length∧(∀ k,k<nR→WT prog 57 (aR.extract (k*(lay prog 57).length) (k*(lay prog 57).length+(lay prog 57).length)))∧nR≤9223372036854775807) (hc0:(jA nR 0)=true) (hg:(true)=true):ansV prog Zjc 1000 Tryd.f11 [] [.r a0 35 [(2,0)],.i .i64 (a1)] [.sl .lent nR aR 57]=some (.a (.i .i64 (a1)),.none,true):=by
 refine (Zkv 1000 a0 a1 nR aR).trans ?_
 simp only [hc0,Q1]
def Zhv:SCon:=fun args h=>match args,h with
 | [.r a0 35 [(2,0)],.i .i64 a1],[.sl .lent nR aR 57]=>.two (jA nR 0) (.one (some (.a (.i .i64 (a1)),.none,true))) (.one (some (.a (.i .i64 (a1+((nR*3:Nat):Int))),.set 0 (.sl .lent nR (mkR (nR*3) a1) 57),((jB nR 2000000)&&(decide (0≤a1)&&decide (a1≤1000000))))))
 | _,_=>.one none
theorem Zpb:EntX prog 11:=Zap (fn:=Tryd.f11)
theorem Zrt:Uab mn prog 11 (fun args h=>Uae (Zhv args h)):=by
 intro ρ h w args vals r e hn hr hA hH
 dsimp only at hr
 unfold Zhv at hr
 split at hr
 ·rename_i a0 a1 nR aR
  simp only [Uae] at hr
  cases hc0:(jA nR 0)
  ·rw [hc0] at hr
   simp only [Uae,Q1,Q2] at hr
   obtain ⟨rfl,rfl,hg2⟩:=BQi hr
   exact ((ansY (N:=1000) (mkΓw_sX (Zut Zid) Zhy mkΓx_nilX) Tryd.f11 [])) ρ _ w _ vals _ _ hn ((Zo9 a0 a1 nR aR (hA.wtr 0 rfl) (hA.rng 1 rfl) (hH.slw 0 rfl) hc0 hg2)) hA hH
  ·rw [hc0] at hr
   simp only [Uae,Q1,Q2] at hr
   obtain ⟨rfl,rfl,hg2⟩:=BQi hr
   exact ((ansY (N:=1000) (mkΓw_sX (Zut Zid) Zhy mkΓx_nilX) Tryd.f11 [])) ρ _ w _ vals _ _ hn ((Zpg a0 a1 nR aR (hA.wtr 0 rfl) (hA.rng 1 rfl) (hH.slw 0 rfl) hc0 hg2)) hA hH
 ·simp only [Uae] at hr
  cases hr
theorem Zsi (N:Nat) (a0:Array Value) (a1:Int) (bR:Option (Option Addr)) (nR:Nat) (aR:Array Value):ansV prog (mkΓ [(26,con Zeh)]) N Tryd.f12 [] [.r a0 35 [(2,0)],.i .i64 (a1)] [.sl (.came bR) nR aR 57]=(bif ((jB nR 2000000)&&((decide (0≤a1)&&decide (a1≤1000000))&&Uas aR (mkR (nR*3) a1))) then (bif decide ((a1+((nR*3:Nat):Int))<(0:Int)) then (some (.a (.i .i64 (-1:Int)),.none,true))
   else (some (.a (.i .i64 (a1+((nR*3:Nat):Int))),.none,true)))
  else (none)):=by kernel_rfl
def Zaa (a0:Array Value) (a1:Int) (bR:Option (Option Addr)) (nR:Nat) (aR:Array Value):Int:=(bif decide ((a1+((nR*3:Nat):Int))<(0:Int)) then (-1:Int) else (a1+((nR*3:Nat):Int)))
def Zaf (a0:Array Value) (a1:Int) (bR:Option (Option Addr)) (nR:Nat) (aR:Array Value):Bool:=((jB nR 2000000)&&((decide (0≤a1)&&decide (a1≤1000000))&&Uas aR (mkR (nR*3) a1)))
theorem Zqa (a0:Array Value) (a1:Int) (bR:Option (Option Addr)) (nR:Nat) (aR:Array Value) (h_a0:WT prog 35 a0) (h_a1:i64.min≤a1∧a1≤i64.max) (h_a0x2:aR.size=nR*(lay prog 57).length∧(∀ k,k<nR→WT prog 57 (aR.extract (k*(lay prog 57).length) (k*(lay prog 57).length+(lay prog 57).length)))∧nR≤9223372036854775807) (hg:((Zaf a0 a1 bR nR aR))=true):ansV prog (mkΓ [(26,con Zeh)]) 1000 Tryd.f12 [] [.r a0 35 [(2,0)],.i .i64 (a1)] [.sl (.came bR) nR aR 57]=some (.a (.i .i64 (Zaa a0 a1 bR nR aR)),.none,true):=by
 refine (Zsi 1000 a0 a1 bR nR aR).trans ?_
 unfold Zaf at hg
 unfold Zaa
 revert hg
 generalize (((jB nR 2000000)&&((decide (0≤a1)&&decide (a1≤1000000))&&Uas aR (mkR (nR*3) a1))))=b2
 intro hg
 cases b2
 ·skip
  first | exact (nomatch (hg:false=true)) | (simp only [Q1,Q2,BQ6];done) | rfl
 ·skip
  revert hg
  generalize (decide ((a1+((nR*3:Nat):Int))<(0:Int)))=b4
  intro hg
  cases b4
  ·skip
   first | (simp only [Q1,Q2,BQ6];done) | rfl | exact (nomatch (hg:false=true))
  ·skip
   first | (simp only [Q1,Q2,BQ6];done) | rfl | exact (nomatch (hg:false=true))
def Zh9:Con:=fun args h=>match args,h with
 | [.r a0 35 [(2,0)],.i .i64 a1],[.sl (.came bR) nR aR 57]=>some (.a (.i .i64 (Zaa a0 a1 bR nR aR)),.none,(Zaf a0 a1 bR nR aR))
 | _,_=>none
theorem Zpw:EntX prog 12:=Zap (fn:=Tryd.f12)
theorem Ztr:Uab mn prog 12 Zh9:=(ansY (N:=1000) (mkΓ_consX (Zam Zo0) Zlw mkΓ_nilX) Tryd.f12 []).of (by
 intro ρ h w args vals r e hA hH hr
 unfold Zh9 at hr
 split at hr
 ·rename_i a0 a1 bR nR aR
  obtain ⟨rfl,rfl,hg2⟩:=BQi hr
  exact Zqa a0 a1 bR nR aR (hA.wtr 0 rfl) (hA.rng 1 rfl) (hH.slw 0 rfl) hg2
 ·cases hr)
theorem mrgN_le {S p A:Array Value} {n:Nat}:mrgN S p n A≤12:=by
 unfold mrgN
 cases h:okM S p n A with
 | false=>exact Nat.zero_le _
 | true=>
  unfold okM at h
  simp only [Q7] at h
  have hp:=h.1.2
  unfold Ua0 at hp
  simp only [Q7,Bool.not_eq_true',decide_eq_false_iff_not] at hp
  have:=Zwb (rt A) n
  rw [Q1]
  omega
theorem mrgA_nil {S p A:Array Value} {n:Nat} (h0:mrgN S p n A=0):mrgA S p n A=#[]:=by
 unfold mrgN at h0
 unfold mrgA
 cases h:okM S p n A with
 | false=>rfl
 | true=>
  rw [h,Q1] at h0
  rw [Q1,List.eq_nil_of_length_eq_zero h0]
  rfl
def Zfy:Cons:=(mkΓw [(11,conSW Zhv)] [(5,con Zi0),(6,con Zft),(7,con Zj3),(8,con Zjn),(9,conG Zfl),(10,con Zi9),(12,con Zh9)] [] [])
theorem Zil (N:Nat) (a0 a1:Array Value) (g_et:Addr) (bQ:Option (Option Addr)) (nQ:Nat) (aQ:Array Value):ansV prog Zfy N Tryd.f3 [] [.g a0 28,.r a1 31 [(2,1)]] [.gl 0 142 g_et 3000066,.sl (.came bQ) nQ aQ 87]=(bif decide ((Zc7 a1 (1048576:Int) bQ nQ aQ)<(0:Int)) then (some (.a (.b (true)),.none,true))
    else (bif decide (nQ≤1048576) then (bif decide (nQ≤1048576) then (bif (!((Zad (mrgV a0 a1 nQ aQ) (mrgV a0 a1 nQ aQ) none ((mrgN a0 a1 nQ aQ)) (mrgA a0 a1 nQ aQ) none ((mrgN a0 a1 nQ aQ)) (mrgA a0 a1 nQ aQ)))) then (some (.a (.b (false)),.none,true))
          else (bif ((mrgC a0 a1 nQ aQ) != (mrgC a0 a1 nQ aQ)) then (some (.a (.b (false)),.none,true))
            else (bif decide (nQ≤1048576) then (bif (!((Zad a1 a1 none nQ aQ none nQ aQ))) then (some (.a (.b (false)),.none,true))
                else (bif jA nQ 0 then (bif (!((Zad (mrgV a0 a1 nQ aQ) (mrgV a0 a1 nQ aQ) none ((mrgN a0 a1 nQ aQ)) (mrgA a0 a1 nQ aQ) none ((mrgN a0 a1 nQ aQ)) (mrgA a0 a1 nQ aQ)))) then (some (.a (.b (false)),.none,true))
                    else (bif ((mrgC a0 a1 nQ aQ) != (mrgC a0 a1 nQ aQ)) then (some (.a (.b (false)),.none,true))
                      else (bif jA ((mrgN a0 a1 nQ aQ)) 0 then (bif (Zaf (mrgV a0 a1 nQ aQ) (1:Int) none ((mrgN a0 a1 nQ aQ)) (mrgA a0 a1 nQ aQ)) then (bif decide ((Zaa (mrgV a0 a1 nQ aQ) (1:Int) none ((mrgN a0 a1 nQ aQ)) (mrgA a0 a1 nQ aQ))<(0:Int)) then (some (.a (.b (false)),.none,true))
                            else (bif ((Zaa (mrgV a0 a1 nQ aQ) (1:Int) none ((mrgN a0 a1 nQ aQ)) (mrgA a0 a1 nQ aQ)) != (1:Int)) then (some (.a (.b (false)),.none,true))
                              else (bif decide (nQ≤1048576) then (bif (!((Zad (mrgV a0 a1 nQ aQ) (mrgV a0 a1 nQ aQ) none ((mrgN a0 a1 nQ aQ)) (mrgA a0 a1 nQ aQ) none ((mrgN a0 a1 nQ aQ)) (mrgA a0 a1 nQ aQ)))) then (some (.a (.b (false)),.none,true))
                                  else (bif ((mrgC a0 a1 nQ aQ) != (mrgC a0 a1 nQ aQ)) then (some (.a (.b (false)),.none,true))
                                    else (bif (Zaf (mrgV a0 a1 nQ aQ) (1:Int) none ((mrgN a0 a1 nQ aQ)) (mrgA a0 a1 nQ aQ)) then (bif decide ((Zaa (mrgV a0 a1 nQ aQ) (1:Int) none ((mrgN a0 a1 nQ aQ)) (mrgA a0 a1 nQ aQ))<(0:Int)) then (some (.a (.b (false)),.none,true))
                                        else (bif ((Zaa (mrgV a0 a1 nQ aQ) (1:Int) none ((mrgN a0 a1 nQ aQ)) (mrgA a0 a1 nQ aQ)) != (1:Int)) then (some (.a (.b (false)),.none,true))
                                          else (some (.a (.b (true)),.none,true))))
                                      else (none))))
                                else (none))))
                          else (none))
                        else (bif ((jB ((mrgN a0 a1 nQ aQ)) 2000000)&&(decide (0≤(1:Int))&&decide ((1:Int)≤1000000))) then (bif (Zaf (mrgV a0 a1 nQ aQ) (1:Int) none ((mrgN a0 a1 nQ aQ)) (mkR (((mrgN a0 a1 nQ aQ))*3) (1:Int))) then (bif decide ((Zaa (mrgV a0 a1 nQ aQ) (1:Int) none ((mrgN a0 a1 nQ aQ)) (mkR (((mrgN a0 a1 nQ aQ))*3) (1:Int)))<(0:Int)) then (some (.a (.b (false)),.none,true))
                              else (bif ((Zaa (mrgV a0 a1 nQ aQ) (1:Int) none ((mrgN a0 a1 nQ aQ)) (mkR (((mrgN a0 a1 nQ aQ))*3) (1:Int))) != ((1:Int)+((((mrgN a0 a1 nQ aQ))*3:Nat):Int))) then (some (.a (.b (false)),.none,true))
                                else (bif decide (nQ≤1048576) then (bif (!((Zad (mrgV a0 a1 nQ aQ) (mrgV a0 a1 nQ aQ) none ((mrgN a0 a1 nQ aQ)) (mrgA a0 a1 nQ aQ) none ((mrgN a0 a1 nQ aQ)) (mrgA a0 a1 nQ aQ)))) then (some (.a (.b (false)),.none,true))
                                    else (bif ((mrgC a0 a1 nQ aQ) != (mrgC a0 a1 nQ aQ)) then (some (.a (.b (false)),.none,true))
                                      else (bif (Zaf (mrgV a0 a1 nQ aQ) (1:Int) none ((mrgN a0 a1 nQ aQ)) (mkR (((mrgN a0 a1 nQ aQ))*3) (1:Int))) then (bif decide ((Zaa (mrgV a0 a1 nQ aQ) (1:Int) none ((mrgN a0 a1 nQ aQ)) (mkR (((mrgN a0 a1 nQ aQ))*3) (1:Int)))<(0:Int)) then (some (.a (.b (false)),.none,true))
                                          else (bif ((Zaa (mrgV a0 a1 nQ aQ) (1:Int) none ((mrgN a0 a1 nQ aQ)) (mkR (((mrgN a0 a1 nQ aQ))*3) (1:Int))) != ((1:Int)+((((mrgN a0 a1 nQ aQ))*3:Nat):Int))) then (some (.a (.b (false)),.none,true))
                                            else (some (.a (.b (true)),.none,true))))
                                        else (none))))
                                  else (none))))
                            else (none))
                          else (none)))))
                  else (bif ((jB nQ 2000000)&&(decide (0≤(1:Int))&&decide ((1:Int)≤1000000))) then (bif decide (((1:Int)+((nQ*3:Nat):Int))<(0:Int)) then (some (.a (.b (false)),.none,true))
                      else (bif (!((Zad (mrgV a0 a1 nQ aQ) (mrgV a0 a1 nQ aQ) none ((mrgN a0 a1 nQ aQ)) (mrgA a0 a1 nQ aQ) none ((mrgN a0 a1 nQ aQ)) (mrgA a0 a1 nQ aQ)))) then (some (.a (.b (false)),.none,true))
                        else (bif ((mrgC a0 a1 nQ aQ) != (mrgC a0 a1 nQ aQ)) then (some (.a (.b (false)),.none,true))
                          else (bif jA ((mrgN a0 a1 nQ aQ)) 0 then (bif (Zaf (mrgV a0 a1 nQ aQ) (1:Int) none ((mrgN a0 a1 nQ aQ)) (mrgA a0 a1 nQ aQ)) then (bif decide ((Zaa (mrgV a0 a1 nQ aQ) (1:Int) none ((mrgN a0 a1 nQ aQ)) (mrgA a0 a1 nQ aQ))<(0:Int)) then (some (.a (.b (false)),.none,true))
                                else (bif ((Zaa (mrgV a0 a1 nQ aQ) (1:Int) none ((mrgN a0 a1 nQ aQ)) (mrgA a0 a1 nQ aQ)) != (1:Int)) then (some (.a (.b (false)),.none,true))
                                  else (bif decide (nQ≤1048576) then (bif (!((Zad (mrgV a0 a1 nQ aQ) (mrgV a0 a1 nQ aQ) none ((mrgN a0 a1 nQ aQ)) (mrgA a0 a1 nQ aQ) none ((mrgN a0 a1 nQ aQ)) (mrgA a0 a1 nQ aQ)))) then (some (.a (.b (false)),.none,true))
                                      else (bif ((mrgC a0 a1 nQ aQ) != (mrgC a0 a1 nQ aQ)) then (some (.a (.b (false)),.none,true))
                                        else (bif (Zaf (mrgV a0 a1 nQ aQ) (1:Int) none ((mrgN a0 a1 nQ aQ)) (mrgA a0 a1 nQ aQ)) then (bif decide ((Zaa (mrgV a0 a1 nQ aQ) (1:Int) none ((mrgN a0 a1 nQ aQ)) (mrgA a0 a1 nQ aQ))<(0:Int)) then (some (.a (.b (false)),.none,true))
                                            else (bif ((Zaa (mrgV a0 a1 nQ aQ) (1:Int) none ((mrgN a0 a1 nQ aQ)) (mrgA a0 a1 nQ aQ)) != (1:Int)) then (some (.a (.b (false)),.none,true))
                                              else (some (.a (.b (true)),.none,true))))
                                          else (none))))
                                    else (none))))
                              else (none))
                            else (bif ((jB ((mrgN a0 a1 nQ aQ)) 2000000)&&(decide (0≤(1:Int))&&decide ((1:Int)≤1000000))) then (bif (Zaf (mrgV a0 a1 nQ aQ) (1:Int) none ((mrgN a0 a1 nQ aQ)) (mkR (((mrgN a0 a1 nQ aQ))*3) (1:Int))) then (bif decide ((Zaa (mrgV a0 a1 nQ aQ) (1:Int) none ((mrgN a0 a1 nQ aQ)) (mkR (((mrgN a0 a1 nQ aQ))*3) (1:Int)))<(0:Int)) then (some (.a (.b (false)),.none,true))
                                  else (bif ((Zaa (mrgV a0 a1 nQ aQ) (1:Int) none ((mrgN a0 a1 nQ aQ)) (mkR (((mrgN a0 a1 nQ aQ))*3) (1:Int))) != ((1:Int)+((((mrgN a0 a1 nQ aQ))*3:Nat):Int))) then (some (.a (.b (false)),.none,true))
                                    else (bif decide (nQ≤1048576) then (bif (!((Zad (mrgV a0 a1 nQ aQ) (mrgV a0 a1 nQ aQ) none ((mrgN a0 a1 nQ aQ)) (mrgA a0 a1 nQ aQ) none ((mrgN a0 a1 nQ aQ)) (mrgA a0 a1 nQ aQ)))) then (some (.a (.b (false)),.none,true))
                                        else (bif ((mrgC a0 a1 nQ aQ) != (mrgC a0 a1 nQ aQ)) then (some (.a (.b (false)),.none,true))
                                          else (bif (Zaf (mrgV a0 a1 nQ aQ) (1:Int) none ((mrgN a0 a1 nQ aQ)) (mkR (((mrgN a0 a1 nQ aQ))*3) (1:Int))) then (bif decide ((Zaa (mrgV a0 a1 nQ aQ) (1:Int) none ((mrgN a0 a1 nQ aQ)) (mkR (((mrgN a0 a1 nQ aQ))*3) (1:Int)))<(0:Int)) then (some (.a (.b (false)),.none,true))
                                              else (bif ((Zaa (mrgV a0 a1 nQ aQ) (1:Int) none ((mrgN a0 a1 nQ aQ)) (mkR (((mrgN a0 a1 nQ aQ))*3) (1:Int))) != ((1:Int)+((((mrgN a0 a1 nQ aQ))*3:Nat):Int))) then (some (.a (.b (false)),.none,true))
                                                else (some (.a (.b (true)),.none,true))))
                                            else (none))))
                                      else (none))))
                                else (none))
                              else (none))))))
                    else (none))))
              else (none))))
        else (none))
      else (none))):=by kernel_rfl
def Za8 (a0 a1:Array Value) (g_et:Addr) (bQ:Option (Option Addr)) (nQ:Nat) (aQ:Array Value):Bool:=(bif decide ((Zc7 a1 (1048576:Int) bQ nQ aQ)<(0:Int)) then true else (bif (!((Zad (mrgV a0 a1 nQ aQ) (mrgV a0 a1 nQ aQ) none ((mrgN a0 a1 nQ aQ)) (mrgA a0 a1 nQ aQ) none ((mrgN a0 a1 nQ aQ)) (mrgA a0 a1 nQ aQ)))) then false else (bif ((mrgC a0 a1 nQ aQ) != (mrgC a0 a1 nQ aQ)) then false else (bif (!((Zad a1 a1 none nQ aQ none nQ aQ))) then false else (bif jA nQ 0 then (bif (!((Zad (mrgV a0 a1 nQ aQ) (mrgV a0 a1 nQ aQ) none ((mrgN a0 a1 nQ aQ)) (mrgA a0 a1 nQ aQ) none ((mrgN a0 a1 nQ aQ)) (mrgA a0 a1 nQ aQ)))) then false else (bif ((mrgC a0 a1 nQ aQ) != (mrgC a0 a1 nQ aQ)) then false else (bif jA ((mrgN a0 a1 nQ aQ)) 0 then (bif decide ((Zaa (mrgV a0 a1 nQ aQ) (1:Int) none ((mrgN a0 a1 nQ aQ)) (mrgA a0 a1 nQ aQ))<(0:Int)) then false else (bif ((Zaa (mrgV a0 a1 nQ aQ) (1:Int) none ((mrgN a0 a1 nQ aQ)) (mrgA a0 a1 nQ aQ)) != (1:Int)) then false else (bif (!((Zad (mrgV a0 a1 nQ aQ) (mrgV a0 a1 nQ aQ) none ((mrgN a0 a1 nQ aQ)) (mrgA a0 a1 nQ aQ) none ((mrgN a0 a1 nQ aQ)) (mrgA a0 a1 nQ aQ)))) then false else (bif ((mrgC a0 a1 nQ aQ) != (mrgC a0 a1 nQ aQ)) then false else (bif decide ((Zaa (mrgV a0 a1 nQ aQ) (1:Int) none ((mrgN a0 a1 nQ aQ)) (mrgA a0 a1 nQ aQ))<(0:Int)) then false else (bif ((Zaa (mrgV a0 a1 nQ aQ) (1:Int) none ((mrgN a0 a1 nQ aQ)) (mrgA a0 a1 nQ aQ)) != (1:Int)) then false else true)))))) else (bif decide ((Zaa (mrgV a0 a1 nQ aQ) (1:Int) none ((mrgN a0 a1 nQ aQ)) (mkR (((mrgN a0 a1 nQ aQ))*3) (1:Int)))<(0:Int)) then false else (bif ((Zaa (mrgV a0 a1 nQ aQ) (1:Int) none ((mrgN a0 a1 nQ aQ)) (mkR (((mrgN a0 a1 nQ aQ))*3) (1:Int))) != ((1:Int)+((((mrgN a0 a1 nQ aQ))*3:Nat):Int))) then false else (bif (!((Zad (mrgV a0 a1 nQ aQ) (mrgV a0 a1 nQ aQ) none ((mrgN a0 a1 nQ aQ)) (mrgA a0 a1 nQ aQ) none ((mrgN a0 a1 nQ aQ)) (mrgA a0 a1 nQ aQ)))) then false else (bif ((mrgC a0 a1 nQ aQ) != (mrgC a0 a1 nQ aQ)) then false else (bif decide ((Zaa (mrgV a0 a1 nQ aQ) (1:Int) none ((mrgN a0 a1 nQ aQ)) (mkR (((mrgN a0 a1 nQ aQ))*3) (1:Int)))<(0:Int)) then false else (bif ((Zaa (mrgV a0 a1 nQ aQ) (1:Int) none ((mrgN a0 a1 nQ aQ)) (mkR (((mrgN a0 a1 nQ aQ))*3) (1:Int))) != ((1:Int)+((((mrgN a0 a1 nQ aQ))*3:Nat):Int))) then false else true))))))))) else (bif decide (((1:Int)+((nQ*3:Nat):Int))<(0:Int)) then false else (bif (!((Zad (mrgV a0 a1 nQ aQ) (mrgV a0 a1 nQ aQ) none ((mrgN a0 a1 nQ aQ)) (mrgA a0 a1 nQ aQ) none ((mrgN a0 a1 nQ aQ)) (mrgA a0 a1 nQ aQ)))) then false else (bif ((mrgC a0 a1 nQ aQ) != (mrgC a0 a1 nQ aQ)) then false else (bif jA ((mrgN a0 a1 nQ aQ)) 0 then (bif decide ((Zaa (mrgV a0 a1 nQ aQ) (1:Int) none ((mrgN a0 a1 nQ aQ)) (mrgA a0 a1 nQ aQ))<(0:Int)) then false else (bif ((Zaa (mrgV a0 a1 nQ aQ) (1:Int) none ((mrgN a0 a1 nQ aQ)) (mrgA a0 a1 nQ aQ)) != (1:Int)) then false else (bif (!((Zad (mrgV a0 a1 nQ aQ) (mrgV a0 a1 nQ aQ) none ((mrgN a0 a1 nQ aQ)) (mrgA a0 a1 nQ aQ) none ((mrgN a0 a1 nQ aQ)) (mrgA a0 a1 nQ aQ)))) then false else (bif ((mrgC a0 a1 nQ aQ) != (mrgC a0 a1 nQ aQ)) then false else (bif decide ((Zaa (mrgV a0 a1 nQ aQ) (1:Int) none ((mrgN a0 a1 nQ aQ)) (mrgA a0 a1 nQ aQ))<(0:Int)) then false else (bif ((Zaa (mrgV a0 a1 nQ aQ) (1:Int) none ((mrgN a0 a1 nQ aQ)) (mrgA a0 a1 nQ aQ)) != (1:Int)) then false else true)))))) else (bif decide ((Zaa (mrgV a0 a1 nQ aQ) (1:Int) none ((mrgN a0 a1 nQ aQ)) (mkR (((mrgN a0 a1 nQ aQ))*3) (1:Int)))<(0:Int)) then false else (bif ((Zaa (mrgV a0 a1 nQ aQ) (1:Int) none ((mrgN a0 a1 nQ aQ)) (mkR (((mrgN a0 a1 nQ aQ))*3) (1:Int))) != ((1:Int)+((((mrgN a0 a1 nQ aQ))*3:Nat):Int))) then false else (bif (!((Zad (mrgV a0 a1 nQ aQ) (mrgV a0 a1 nQ aQ) none ((mrgN a0 a1 nQ aQ)) (mrgA a0 a1 nQ aQ) none ((mrgN a0 a1 nQ aQ)) (mrgA a0 a1 nQ aQ)))) then false else (bif ((mrgC a0 a1 nQ aQ) != (mrgC a0 a1 nQ aQ)) then false else (bif decide ((Zaa (mrgV a0 a1 nQ aQ) (1:Int) none ((mrgN a0 a1 nQ aQ)) (mkR (((mrgN a0 a1 nQ aQ))*3) (1:Int)))<(0:Int)) then false else (bif ((Zaa (mrgV a0 a1 nQ aQ) (1:Int) none ((mrgN a0 a1 nQ aQ)) (mkR (((mrgN a0 a1 nQ aQ))*3) (1:Int))) != ((1:Int)+((((mrgN a0 a1 nQ aQ))*3:Nat):Int))) then false else true)))))))))))))))
def Za9 (a0 a1:Array Value) (g_et:Addr) (bQ:Option (Option Addr)) (nQ:Nat) (aQ:Array Value):Bool:=(bif decide ((Zc7 a1 (1048576:Int) bQ nQ aQ)<(0:Int)) then true else (bif decide (nQ≤1048576) then (bif decide (nQ≤1048576) then (bif (!((Zad (mrgV a0 a1 nQ aQ) (mrgV a0 a1 nQ aQ) none ((mrgN a0 a1 nQ aQ)) (mrgA a0 a1 nQ aQ) none ((mrgN a0 a1 nQ aQ)) (mrgA a0 a1 nQ aQ)))) then true else (bif ((mrgC a0 a1 nQ aQ) != (mrgC a0 a1 nQ aQ)) then true else (bif decide (nQ≤1048576) then (bif (!((Zad a1 a1 none nQ aQ none nQ aQ))) then true else (bif jA nQ 0 then (bif (!((Zad (mrgV a0 a1 nQ aQ) (mrgV a0 a1 nQ aQ) none ((mrgN a0 a1 nQ aQ)) (mrgA a0 a1 nQ aQ) none ((mrgN a0 a1 nQ aQ)) (mrgA a0 a1 nQ aQ)))) then true else (bif ((mrgC a0 a1 nQ aQ) != (mrgC a0 a1 nQ aQ)) then true else (bif jA ((mrgN a0 a1 nQ aQ)) 0 then (bif (Zaf (mrgV a0 a1 nQ aQ) (1:Int) none ((mrgN a0 a1 nQ aQ)) (mrgA a0 a1 nQ aQ)) then (bif decide ((Zaa (mrgV a0 a1 nQ aQ) (1:Int) none ((mrgN a0 a1 nQ aQ)) (mrgA a0 a1 nQ aQ))<(0:Int)) then true else (bif ((Zaa (mrgV a0 a1 nQ aQ) (1:Int) none ((mrgN a0 a1 nQ aQ)) (mrgA a0 a1 nQ aQ)) != (1:Int)) then true else (bif decide (nQ≤1048576) then (bif (!((Zad (mrgV a0 a1 nQ aQ) (mrgV a0 a1 nQ aQ) none ((mrgN a0 a1 nQ aQ)) (mrgA a0 a1 nQ aQ) none ((mrgN a0 a1 nQ aQ)) (mrgA a0 a1 nQ aQ)))) then true else (bif ((mrgC a0 a1 nQ aQ) != (mrgC a0 a1 nQ aQ)) then true else (Zaf (mrgV a0 a1 nQ aQ) (1:Int) none ((mrgN a0 a1 nQ aQ)) (mrgA a0 a1 nQ aQ)))) else false))) else false) else (bif ((jB ((mrgN a0 a1 nQ aQ)) 2000000)&&(decide (0≤(1:Int))&&decide ((1:Int)≤1000000))) then (bif (Zaf (mrgV a0 a1 nQ aQ) (1:Int) none ((mrgN a0 a1 nQ aQ)) (mkR (((mrgN a0 a1 nQ aQ))*3) (1:Int))) then (bif decide ((Zaa (mrgV a0 a1 nQ aQ) (1:Int) none ((mrgN a0 a1 nQ aQ)) (mkR (((mrgN a0 a1 nQ aQ))*3) (1:Int)))<(0:Int)) then true else (bif ((Zaa (mrgV a0 a1 nQ aQ) (1:Int) none ((mrgN a0 a1 nQ aQ)) (mkR (((mrgN a0 a1 nQ aQ))*3) (1:Int))) != ((1:Int)+((((mrgN a0 a1 nQ aQ))*3:Nat):Int))) then true else (bif decide (nQ≤1048576) then (bif (!((Zad (mrgV a0 a1 nQ aQ) (mrgV a0 a1 nQ aQ) none ((mrgN a0 a1 nQ aQ)) (mrgA a0 a1 nQ aQ) none ((mrgN a0 a1 nQ aQ)) (mrgA a0 a1 nQ aQ)))) then true else (bif ((mrgC a0 a1 nQ aQ) != (mrgC a0 a1 nQ aQ)) then true else (Zaf (mrgV a0 a1 nQ aQ) (1:Int) none ((mrgN a0 a1 nQ aQ)) (mkR (((mrgN a0 a1 nQ aQ))*3) (1:Int))))) else false))) else false) else false)))) else (bif ((jB nQ 2000000)&&(decide (0≤(1:Int))&&decide ((1:Int)≤1000000))) then (bif decide (((1:Int)+((nQ*3:Nat):Int))<(0:Int)) then true else (bif (!((Zad (mrgV a0 a1 nQ aQ) (mrgV a0 a1 nQ aQ) none ((mrgN a0 a1 nQ aQ)) (mrgA a0 a1 nQ aQ) none ((mrgN a0 a1 nQ aQ)) (mrgA a0 a1 nQ aQ)))) then true else (bif ((mrgC a0 a1 nQ aQ) != (mrgC a0 a1 nQ aQ)) then true else (bif jA ((mrgN a0 a1 nQ aQ)) 0 then (bif (Zaf (mrgV a0 a1 nQ aQ) (1:Int) none ((mrgN a0 a1 nQ aQ)) (mrgA a0 a1 nQ aQ)) then (bif decide ((Zaa (mrgV a0 a1 nQ aQ) (1:Int) none ((mrgN a0 a1 nQ aQ)) (mrgA a0 a1 nQ aQ))<(0:Int)) then true else (bif ((Zaa (mrgV a0 a1 nQ aQ) (1:Int) none ((mrgN a0 a1 nQ aQ)) (mrgA a0 a1 nQ aQ)) != (1:Int)) then true else (bif decide (nQ≤1048576) then (bif (!((Zad (mrgV a0 a1 nQ aQ) (mrgV a0 a1 nQ aQ) none ((mrgN a0 a1 nQ aQ)) (mrgA a0 a1 nQ aQ) none ((mrgN a0 a1 nQ aQ)) (mrgA a0 a1 nQ aQ)))) then true else (bif ((mrgC a0 a1 nQ aQ) != (mrgC a0 a1 nQ aQ)) then true else (Zaf (mrgV a0 a1 nQ aQ) (1:Int) none ((mrgN a0 a1 nQ aQ)) (mrgA a0 a1 nQ aQ)))) else false))) else false) else (bif ((jB ((mrgN a0 a1 nQ aQ)) 2000000)&&(decide (0≤(1:Int))&&decide ((1:Int)≤1000000))) then (bif (Zaf (mrgV a0 a1 nQ aQ) (1:Int) none ((mrgN a0 a1 nQ aQ)) (mkR (((mrgN a0 a1 nQ aQ))*3) (1:Int))) then (bif decide ((Zaa (mrgV a0 a1 nQ aQ) (1:Int) none ((mrgN a0 a1 nQ aQ)) (mkR (((mrgN a0 a1 nQ aQ))*3) (1:Int)))<(0:Int)) then true else (bif ((Zaa (mrgV a0 a1 nQ aQ) (1:Int) none ((mrgN a0 a1 nQ aQ)) (mkR (((mrgN a0 a1 nQ aQ))*3) (1:Int))) != ((1:Int)+((((mrgN a0 a1 nQ aQ))*3:Nat):Int))) then true else (bif decide (nQ≤1048576) then (bif (!((Zad (mrgV a0 a1 nQ aQ) (mrgV a0 a1 nQ aQ) none ((mrgN a0 a1 nQ aQ)) (mrgA a0 a1 nQ aQ) none ((mrgN a0 a1 nQ aQ)) (mrgA a0 a1 nQ aQ)))) then true else (bif ((mrgC a0 a1 nQ aQ) != (mrgC a0 a1 nQ aQ)) then true else (Zaf (mrgV a0 a1 nQ aQ) (1:Int) none ((mrgN a0 a1 nQ aQ)) (mkR (((mrgN a0 a1 nQ aQ))*3) (1:Int))))) else false))) else false) else false))))) else false))) else false))) else false) else false))
theorem Zic (a0 a1:Array Value) (g_et:Addr) (bQ:Option (Option Addr)) (nQ:Nat) (aQ:Array Value) (h_a0:WT prog 28 a0) (h_a1:WT prog 31 a1) (h_a1x2:aQ.size=nQ*(lay prog 87).length∧(∀ k,k<nQ→WT prog 87 (aQ.extract (k*(lay prog 87).length) (k*(lay prog 87).length+(lay prog 87).length)))∧nQ≤9223372036854775807) (hg:((Za9 a0 a1 g_et bQ nQ aQ))=true):ansV prog Zfy 1000 Tryd.f3 [] [.g a0 28,.r a1 31 [(2,1)]] [.gl 0 142 g_et 3000066,.sl (.came bQ) nQ aQ 87]=some (.a (.b ((Za8 a0 a1 g_et bQ nQ aQ))),.none,true):=by
 refine (Zil 1000 a0 a1 g_et bQ nQ aQ).trans ?_
 unfold Za9 at hg
 unfold Za8
 revert hg
 generalize (decide ((Zc7 a1 (1048576:Int) bQ nQ aQ)<(0:Int)))=b2
 intro hg
 cases b2
 ·skip
  revert hg
  generalize (decide (nQ≤1048576))=b4
  intro hg
  cases b4
  ·skip
   first | exact (nomatch (hg:false=true)) | (simp only [Q1,Q2,BQ6];done) | rfl
  ·skip
   revert hg
   generalize ((!((Zad (mrgV a0 a1 nQ aQ) (mrgV a0 a1 nQ aQ) none ((mrgN a0 a1 nQ aQ)) (mrgA a0 a1 nQ aQ) none ((mrgN a0 a1 nQ aQ)) (mrgA a0 a1 nQ aQ)))))=b6
   intro hg
   cases b6
   ·skip
    revert hg
    generalize (((mrgC a0 a1 nQ aQ) != (mrgC a0 a1 nQ aQ)))=b8
    intro hg
    cases b8
    ·skip
     revert hg
     generalize ((!((Zad a1 a1 none nQ aQ none nQ aQ))))=b10
     intro hg
     cases b10
     ·skip
      revert hg
      generalize (jA nQ 0)=b12
      intro hg
      cases b12
      ·skip
       revert hg
       generalize (((jB nQ 2000000)&&(decide (0≤(1:Int))&&decide ((1:Int)≤1000000))))=b14
       intro hg
       cases b14
       ·skip
        first | exact (nomatch (hg:false=true)) | (simp only [Q1,Q2,BQ6];done) | rfl
       ·skip
        revert hg
        generalize (decide (((1:Int)+((nQ*3:Nat):Int))<(0:Int)))=b16
        intro hg
        cases b16
        ·skip
         revert hg
         generalize (jA ((mrgN a0 a1 nQ aQ)) 0)=b18
         intro hg
         cases b18
         ·skip
          revert hg
          generalize (((jB ((mrgN a0 a1 nQ aQ)) 2000000)&&(decide (0≤(1:Int))&&decide ((1:Int)≤1000000))))=b20
          intro hg
          cases b20
          ·skip
           first | exact (nomatch (hg:false=true)) | (simp only [Q1,Q2,BQ6];done) | rfl
          ·skip
           revert hg
           generalize ((Zaf (mrgV a0 a1 nQ aQ) (1:Int) none ((mrgN a0 a1 nQ aQ)) (mkR (((mrgN a0 a1 nQ aQ))*3) (1:Int))))=b22
           intro hg
           cases b22
           ·skip
            first | exact (nomatch (hg:false=true)) | (simp only [Q1,Q2,BQ6];done) | rfl
           ·skip
            revert hg
            generalize (decide ((Zaa (mrgV a0 a1 nQ aQ) (1:Int) none ((mrgN a0 a1 nQ aQ)) (mkR (((mrgN a0 a1 nQ aQ))*3) (1:Int)))<(0:Int)))=b24
            intro hg
            cases b24
            ·skip
             revert hg
             generalize (((Zaa (mrgV a0 a1 nQ aQ) (1:Int) none ((mrgN a0 a1 nQ aQ)) (mkR (((mrgN a0 a1 nQ aQ))*3) (1:Int))) != ((1:Int)+((((mrgN a0 a1 nQ aQ))*3:Nat):Int))))=b26
             intro hg
             cases b26
             ·skip
              first | (simp only [Q1,Q2,BQ6];done) | rfl | exact (nomatch (hg:false=true))
             ·skip
              first | (simp only [Q1,Q2,BQ6];done) | rfl | exact (nomatch (hg:false=true))
            ·skip
             first | (simp only [Q1,Q2,BQ6];done) | rfl | exact (nomatch (hg:false=true))
         ·skip
          revert hg
          generalize ((Zaf (mrgV a0 a1 nQ aQ) (1:Int) none ((mrgN a0 a1 nQ aQ)) (mrgA a0 a1 nQ aQ)))=b20
          intro hg
          cases b20
          ·skip
           first | exact (nomatch (hg:false=true)) | (simp only [Q1,Q2,BQ6];done) | rfl
          ·skip
           revert hg
           generalize (decide ((Zaa (mrgV a0 a1 nQ aQ) (1:Int) none ((mrgN a0 a1 nQ aQ)) (mrgA a0 a1 nQ aQ))<(0:Int)))=b22
           intro hg
           cases b22
           ·skip
            revert hg
            generalize (((Zaa (mrgV a0 a1 nQ aQ) (1:Int) none ((mrgN a0 a1 nQ aQ)) (mrgA a0 a1 nQ aQ)) != (1:Int)))=b24
            intro hg
            cases b24
            ·skip
             first | (simp only [Q1,Q2,BQ6];done) | rfl | exact (nomatch (hg:false=true))
            ·skip
             first | (simp only [Q1,Q2,BQ6];done) | rfl | exact (nomatch (hg:false=true))
           ·skip
            first | (simp only [Q1,Q2,BQ6];done) | rfl | exact (nomatch (hg:false=true))
        ·skip
         first | (simp only [Q1,Q2,BQ6];done) | rfl | exact (nomatch (hg:false=true))
      ·skip
       revert hg
       generalize (jA ((mrgN a0 a1 nQ aQ)) 0)=b14
       intro hg
       cases b14
       ·skip
        revert hg
        generalize (((jB ((mrgN a0 a1 nQ aQ)) 2000000)&&(decide (0≤(1:Int))&&decide ((1:Int)≤1000000))))=b16
        intro hg
        cases b16
        ·skip
         first | exact (nomatch (hg:false=true)) | (simp only [Q1,Q2,BQ6];done) | rfl
        ·skip
         revert hg
         generalize ((Zaf (mrgV a0 a1 nQ aQ) (1:Int) none ((mrgN a0 a1 nQ aQ)) (mkR (((mrgN a0 a1 nQ aQ))*3) (1:Int))))=b18
         intro hg
         cases b18
         ·skip
          first | exact (nomatch (hg:false=true)) | (simp only [Q1,Q2,BQ6];done) | rfl
         ·skip
          revert hg
          generalize (decide ((Zaa (mrgV a0 a1 nQ aQ) (1:Int) none ((mrgN a0 a1 nQ aQ)) (mkR (((mrgN a0 a1 nQ aQ))*3) (1:Int)))<(0:Int)))=b20
          intro hg
          cases b20
          ·skip
           revert hg
           generalize (((Zaa (mrgV a0 a1 nQ aQ) (1:Int) none ((mrgN a0 a1 nQ aQ)) (mkR (((mrgN a0 a1 nQ aQ))*3) (1:Int))) != ((1:Int)+((((mrgN a0 a1 nQ aQ))*3:Nat):Int))))=b22
           intro hg
           cases b22
           ·skip
            first | (simp only [Q1,Q2,BQ6];done) | rfl | exact (nomatch (hg:false=true))
           ·skip
            first | (simp only [Q1,Q2,BQ6];done) | rfl | exact (nomatch (hg:false=true))
          ·skip
           first | (simp only [Q1,Q2,BQ6];done) | rfl | exact (nomatch (hg:false=true))
       ·skip
        revert hg
        generalize ((Zaf (mrgV a0 a1 nQ aQ) (1:Int) none ((mrgN a0 a1 nQ aQ)) (mrgA a0 a1 nQ aQ)))=b16
        intro hg
        cases b16
        ·skip
         first | exact (nomatch (hg:false=true)) | (simp only [Q1,Q2,BQ6];done) | rfl
        ·skip
         revert hg
         generalize (decide ((Zaa (mrgV a0 a1 nQ aQ) (1:Int) none ((mrgN a0 a1 nQ aQ)) (mrgA a0 a1 nQ aQ))<(0:Int)))=b18
         intro hg
         cases b18
         ·skip
          revert hg
          generalize (((Zaa (mrgV a0 a1 nQ aQ) (1:Int) none ((mrgN a0 a1 nQ aQ)) (mrgA a0 a1 nQ aQ)) != (1:Int)))=b20
          intro hg
          cases b20
          ·skip
           first | (simp only [Q1,Q2,BQ6];done) | rfl | exact (nomatch (hg:false=true))
          ·skip
           first | (simp only [Q1,Q2,BQ6];done) | rfl | exact (nomatch (hg:false=true))
         ·skip
          first | (simp only [Q1,Q2,BQ6];done) | rfl | exact (nomatch (hg:false=true))
     ·skip
      first | (simp only [Q1,Q2,BQ6];done) | rfl | exact (nomatch (hg:false=true))
    ·skip
     first | (simp only [Q1,Q2,BQ6];done) | rfl | exact (nomatch (hg:false=true))
   ·skip
    first | (simp only [Q1,Q2,BQ6];done) | rfl | exact (nomatch (hg:false=true))
 ·skip
  first | (simp only [Q1,Q2,BQ6];done) | rfl | exact (nomatch (hg:false=true))
def Zdl:Con:=fun args h=>match args,h with
 | [.g a0 28,.r a1 31 [(2,1)]],[.gl 0 142 g_et 3000066,.sl (.came bQ) nQ aQ 87]=>some (.a (.b ((Za8 a0 a1 g_et bQ nQ aQ))),.none,(Za9 a0 a1 g_et bQ nQ aQ))
 | _,_=>none
theorem Ziv:Uab mn prog 3 Zdl:=(ansY (N:=1000) (mkΓw_sX (Zut Zrt) Zpb (mkΓw_cX (Zam Zv2) Zrp (mkΓw_cX (Zam Znb) Zks (mkΓw_cX (Zam Zxy) Ztt (mkΓw_cX (Zam Zvq) Zsd (mkΓw_cX (Zt0 Zm2) Zkj (mkΓw_cX (Zam Zvw) Zr4 (mkΓw_cX (Zam Ztr) Zpw mkΓx_nilX)))))))) Tryd.f3 []).of (by
 intro ρ h w args vals r e hA hH hr
 unfold Zdl at hr
 split at hr
 ·rename_i a0 a1 g_et bQ nQ aQ
  obtain ⟨rfl,rfl,hg2⟩:=BQi hr
  exact Zic a0 a1 g_et bQ nQ aQ (hA.wt 0 rfl) (hA.wtr 1 rfl) (hH.slw 1 rfl) hg2
 ·cases hr)
theorem szP (b:Int) (p:Array Value) (bb:Option (Option Addr)) (n:Nat) (A:Array Value) (h1: -1≤b) (h2:b≤1048576) (h3:n≤9223372036854775807):Zc7 p b bb n A=if b - (n:Int)<0 then -1 else b - (n:Int):=by
 unfold Zc7 Zbq
 rw [IntWalk.i64_in (b - (n:Int)) (by omega)]
 by_cases h:b - (n:Int)<0
 ·rw [if_pos h,Q3 h];rfl
 ·rw [if_neg h,Q4 h]
  simp only [Q2,Q4 h]
theorem eqP (p:Array Value) (n:Nat) (A:Array Value):Zad p p none n A none n A=true:=by
 unfold Zad
 simp only [bne_self_eq_false,Q2,Zha,decide_true,Bool.and_self,Bool.not_true]
theorem Zie (a0 a1:Array Value) (g_et:Addr) (bQ:Option (Option Addr)) (nQ:Nat) (aQ:Array Value) (h_a0:WT prog 28 a0) (h_a1:WT prog 31 a1) (h_a1x2:nQ≤9223372036854775807):((Za9 a0 a1 g_et bQ nQ aQ))=true∧((Za8 a0 a1 g_et bQ nQ aQ))=true:=by
 have hN:mrgN a0 a1 nQ aQ≤12:=mrgN_le
 have hD:mrgN a0 a1 nQ aQ=0→mrgA a0 a1 nQ aQ=#[]:=mrgA_nil
 unfold Za9 Za8
 rw [szP 1048576 a1 bQ nQ aQ (by omega) (by omega) h_a1x2]
 generalize mrgV a0 a1 nQ aQ=V
 generalize mrgN a0 a1 nQ aQ=n at hN hD⊢
 generalize mrgA a0 a1 nQ aQ=D at hD⊢
 generalize mrgC a0 a1 nQ aQ=c
 by_cases h:(1048576:Int) - (nQ:Int)<0
 ·rw [if_pos h];exact ⟨rfl,rfl⟩
 ·rw [if_neg h]
  have e1:decide ((1048576:Int) - (nQ:Int)<0)=false:=Q4 h
  have e3:decide (nQ≤1048576)=true:=Q3 (by omega)
  have b2:jB nQ 2000000=true:=Nat.ble_eq_true_of_le (by omega)
  have b3:jB n 2000000=true:=Nat.ble_eq_true_of_le (by omega)
  have c1:decide (((1:Int)+((n*3:Nat):Int))<(0:Int))=false:=Q4 (by omega)
  have k1:decide (((1:Int)+((nQ*3:Nat):Int))<(0:Int))=false:=Q4 (by omega)
  have c2:decide (0≤(1:Int))=true:=rfl
  have c3:decide ((1:Int)≤1000000)=true:=rfl
  have c6:decide ((1:Int)<0)=false:=rfl
  unfold Zaf Zaa
  cases hy:jA nQ 0<;>cases hz:jA n 0
  case false.true | true.true=>
   obtain rfl:=Nat.eq_of_beq_eq_true hz
   obtain rfl:D=#[]:=hD rfl
   have c4:((1:Int)+((0*3:Nat):Int) != (1:Int))=false:=rfl
   have c5:mkR (0*3) (1:Int)=(#[]:Array Value):=rfl
   simp only [eqP,c4,c5,b2,b3,e1,e3,c1,c2,c3,c6,k1,hy,decide_true,Bool.and_self,Zha,bne_self_eq_false,Bool.not_true,Q2,Q1,and_self]
  all_goals simp only [eqP,b2,b3,e1,e3,c1,c2,c3,c6,k1,hy,hz,decide_true,Bool.and_self,Zha,bne_self_eq_false,Bool.not_true,Q2,Q1,and_self]
namespace lawFnExactMergeReleases
theorem own:ownKnob prog.godebug=none:=by kernel_rfl
theorem laid_all {W:World} (h:laidMetH prog Rows.fnExactMergeReleasesRow.laid W):BIs prog idA [] W ⟨0,0⟩ (.gl 0 142 ⟨0,0,none⟩ 3000066):=by
 have h' : laidMet prog [] W ∧ handlesMet prog [("errors.errorType", Rows.laid_errors_errorType)] W := h
 exact (Yai (nm:=[101,114,114,111,114]) (E:=66) (NG:=2) h'.2 (List.Mem.head _) (by kernel_rfl) (by kernel_rfl) (by kernel_rfl) (by kernel_rfl) (by kernel_rfl) (by kernel_rfl) (by decide) (by decide))
def Ucl (os:Os):World:=
 let w0:=World.holding prog os ⟨#[],#[],[]⟩
 { w0 with heap:=w0.heap.modify 0 fun
   | .cells _ t frozen=>.cells #[.iface 142 (.agg #[typeHandle prog 66])] t frozen
   | o=>o }
theorem laid_met (os:Os) (args:Array Value):laidMetH prog Rows.fnExactMergeReleasesRow.laid ((Ucl os).forCall (fun _ _=>0) ⟨#[],args,[]⟩).memory:=
 laidMetH_of_parts (laidMet_of_run' 8 (by kernel_rfl) (by kernel_rfl)) (by kernel_rfl)
theorem reads (os:Os) {H:Type} (enc:TypeId×Value→H):∃ x,DataW.whole enc prog ((Ucl os).forCall (fun _ _=>0) ⟨#[],#[.agg (zc prog 28),.agg (zc prog 31)],[]⟩).memory Tryd.f3.params.toList Rows.fnExactMergeReleasesSpec.vars false (#[.agg (zc prog 28),.agg (zc prog 31)]:Array Value).toList 8=some x:=
 Option.isSome_iff_exists.1 (by kernel_rfl)
set_option maxRecDepth 100000 in
theorem lifted (os:Os) (started:os.Started) (H:Type) (enc:TypeId×Value→H) :
  ReturnsInHanded {} Tryd.checked os 3 .any ((OpenSpec.ofChange Rows.fnExactMergeReleasesSpec).preRow enc prog Tryd.f3 Rows.fnExactMergeReleasesRow.domain false Rows.fnExactMergeReleasesRow.laid) (Rows.fnExactMergeReleasesSpec.post enc prog Tryd.f3 false true false false):=by
 obtain ⟨x,hx⟩:=reads os enc
 refine Zvy (C:=Tryd.checked) (tb:=4) own (by kernel_rfl) Tryd.func3 (by kernel_rfl) Tryd.underlying4 (of_decide_eq_true (by kernel_rfl)) (by kernel_rfl) ?_ os started H enc
  (witness_row_at (enc:=enc) (C:=Tryd.checked) false (Ucl os) #[.agg (zc prog 28),.agg (zc prog 31)] rfl (by kernel_rfl) (by kernel_rfl) (by kernel_rfl)
   (OpenSpec.preRow_of_cond 8 hx (by kernel_rfl) (fun k hk=>by cases hk) (by kernel_rfl) (laid_met os _))) ?_
 ·intro H ds gs hds hgs
  rw [show Tryd.f3.params.toList.length=2 by kernel_rfl] at hds
  rw [show Rows.fnExactMergeReleasesSpec.vars.length=0 by kernel_rfl] at hgs
  match ds,hds,gs,hgs with
  | [_,_],_,[],_=>rfl
 ·intro W base args ds ps hval hA hL
  have k0:=laid_all hL
  rw [Tryd.params3] at hA hval
  obtain ⟨v0,vs0,d0,ds0,p0,q0,ha0,rfl,rfl,h0,r0⟩:=trodAll_cons hA
  obtain ⟨v1,vs1,d1,ds1,p1,q1,rfl,rfl,rfl,h1,r1⟩:=trodAll_cons r0
  obtain ⟨rfl,rfl,rfl⟩:=trodAll_nil r1
  have hargs:args=#[v0,v1]:=by cases args;simp_all
  obtain ⟨a0,e0,w0⟩:=Yez (t:=28) 8 (by kernel_rfl) (by kernel_rfl) (hval 0 28 v0 rfl (by rw [hargs];rfl)) h0
  obtain ⟨x_a1x2,nQ,c_a1x2,aQ,a1,D_a1,e1,s1,w1,z11,z12,z13,z14⟩:=open_rsl (P:=prog) (t:=31) (e:=87) (ts:=29) 8 2 2 Tryd.underlying31 (by kernel_rfl) (by kernel_rfl) (by kernel_rfl) (by kernel_rfl) Tryd.underlying29 (by kernel_rfl) (by kernel_rfl) (Nat.lt_of_lt_of_eq (by decide:0<3) (by kernel_rfl)) (hval 1 31 v1 rfl (by rw [hargs];rfl)) h1
  obtain rfl:args=#[.agg a0,.agg D_a1]:=by rw [hargs,e0,e1]
  obtain ⟨hg,hv⟩:=Zie a0 a1 ⟨0,0,none⟩ (some x_a1x2) nQ aQ w0 w1 s1.2.2.1
  have hr:Zdl [.g a0 28,.r a1 31 [(2,1)]] [.gl 0 142 ⟨0,0,none⟩ 3000066,.sl (.came (some x_a1x2)) nQ aQ 87]=some (.a (.b true),.none,true):=by
   show (some (SV.a (SA.b ((Za8 a0 a1 ⟨0,0,none⟩ (some x_a1x2) nQ aQ))),Eff.none,(Za9 a0 a1 ⟨0,0,none⟩ (some x_a1x2) nQ aQ)):Option (SV×Eff×Bool))=_
   rw [hg,hv]
  exact Yc4 (by kernel_rfl) Ziv (hh:=[.gl 0 142 ⟨0,0,none⟩ 3000066,.sl (.came (some x_a1x2)) nQ aQ 87]) (by kernel_rfl) hr W (vals:=[.agg a0,.agg D_a1]) (.gl k0 (.cons s1 .nil)) (Ue4 ⟨rfl,w0⟩ (Ue4 (is_rsl rfl w1 z11 z12 z13 z14) (allNil2 _)))
theorem said:Rows.FnExactMergeReleasesSaid:=
 OpenClaim.holds_of_wide 3 Tryd.f3 rfl rfl rfl rfl rfl rfl rfl ⟨rfl,rfl,rfl,rfl,rfl⟩ rfl rfl rfl rfl rfl (by kernel_rfl) Tryd.func3 (by kernel_rfl)
  (of_decide_eq_true (by kernel_rfl)) (by unfold Func.isWrapper;first | (rw [if_pos (by decide +kernel)];kernel_rfl) | (rw [if_neg (by decide +kernel)];exact ⟨rfl,rfl⟩))
  (fun os started H enc _=>by rw [OpenClaim.pre_eq_preRow];exact lifted os started H enc)
theorem plain (f:FuncId) (fn:Func) (hf:Tryd.pinned.checked.prog.funcNamed Rows.fnExactMergeReleasesRow.func=some f) (hfn:Tryd.pinned.checked.prog.funcs[f]? = some fn) :
  Rows.fnExactMergeReleasesCard.stood.looks=Tryd.pinned.checked.prog.looks []∧∀ (j:Nat) t,fn.params[j]? = some t→Tryd.pinned.checked.prog.wantsStandIn t=false:=by
 obtain rfl:f=3:=Q5 ((show prog.funcNamed Rows.fnExactMergeReleasesRow.func=some 3 by kernel_rfl).symm.trans hf) |>.symm
 obtain rfl:fn=Tryd.f3:=(Q5 (Tryd.func3.symm.trans hfn)).symm
 refine ⟨by kernel_rfl,fun j t ht=> ?_⟩
 have hall:∀ t ∈ Tryd.f3.params.toList,prog.wantsStandIn t=false:=of_decide_eq_true (by kernel_rfl)
 exact hall t (by simpa using Array.mem_of_getElem? ht)
theorem proved:Rows.FnExactMergeReleasesCardSaid:=
 Claim7.holds_tied_plain_at .later [] _ _ _ _ said (fun _ h=>by cases h) (by kernel_rfl) (fun _ h=>by cases h) fnExactMergeReleases_row_tie rfl ⟨rfl,rfl⟩ (by kernel_rfl) rfl plain (by kernel_rfl)
#print axioms proved
end lawFnExactMergeReleases
end
end Go.Proofs.YtdhckffhnkeogaaDoor
