/- An hour as it is asked, and exact sums, in company. -/
import Derived.Test.YtohnggmlmglhmaaGreatDoorProg
import Derived.Test.YtohnggmlmglhmaaGreatDoorCxE
open _root_.Array renaming getElem?_setIfInBounds→jA,toList_setIfInBounds→jC
open _root_.Bool renaming not_true→jB
namespace Go.Proofs.YtohnggmlmglhmaaGreatDoor
open Go.ChangeShapes Go.WideShapes Go.ChangeAt Go.RowKit Ve Vc
open Tryz renaming prog → PZ
open IntKind (i64)
set_option linter.unusedVariables false
set_option linter.unusedSimpArgs false
set_option maxRecDepth 100000
noncomputable section
variable {mn:Md}
theorem Ycq (N:Nat) (a1 a2:Int) (a0:Array Value):ansV PZ (mkΓ [(47,con Zcw)]) N Tryz.f122 [] [.w 0,.i .i64 (a1),.i .i64 (a2)] [.row a0 41]=(bif (a2==(1:Int)) then (bif (!((Zaa ((a1).tmod (6:Int)) (0:Int) (i64.wrap ((i64.wrap (num a0 0)) - (1:Int)))))) then (some (.a (.i .i64 (-1:Int)),.none,true))
      else (bif (!((Zaa (i64.wrap ((i64.wrap ((a1).tdiv (6:Int))) - (1:Int))) (0:Int) (i64.wrap ((i64.wrap (num a0 1)) - (1:Int)))))) then (some (.a (.i .i64 (-1:Int)),.none,true))
        else (some (.a (.i .i64 (i64.wrap (((a1).tmod (6:Int))+(i64.wrap ((6:Int)*(i64.wrap ((i64.wrap ((a1).tdiv (6:Int))) - (1:Int)))))))),.none,true))))
    else (bif (a2==(2:Int)) then (bif (!((Zaa (i64.wrap (((a1).tmod (6:Int))+(1:Int))) (0:Int) (i64.wrap ((i64.wrap (num a0 0)) - (1:Int)))))) then (some (.a (.i .i64 (-1:Int)),.none,true))
        else (bif (!((Zaa (i64.wrap ((a1).tdiv (6:Int))) (0:Int) (i64.wrap ((i64.wrap (num a0 1)) - (1:Int)))))) then (some (.a (.i .i64 (-1:Int)),.none,true))
          else (some (.a (.i .i64 (i64.wrap ((i64.wrap (((a1).tmod (6:Int))+(1:Int)))+(i64.wrap ((6:Int)*(i64.wrap ((a1).tdiv (6:Int)))))))),.none,true))))
      else (bif (a2==(3:Int)) then (bif (!((Zaa ((a1).tmod (6:Int)) (0:Int) (i64.wrap ((i64.wrap (num a0 0)) - (1:Int)))))) then (some (.a (.i .i64 (-1:Int)),.none,true))
          else (bif (!((Zaa (i64.wrap ((i64.wrap ((a1).tdiv (6:Int)))+(1:Int))) (0:Int) (i64.wrap ((i64.wrap (num a0 1)) - (1:Int)))))) then (some (.a (.i .i64 (-1:Int)),.none,true))
            else (some (.a (.i .i64 (i64.wrap (((a1).tmod (6:Int))+(i64.wrap ((6:Int)*(i64.wrap ((i64.wrap ((a1).tdiv (6:Int)))+(1:Int)))))))),.none,true))))
        else (bif (a2==(4:Int)) then (bif (!((Zaa (i64.wrap (((a1).tmod (6:Int)) - (1:Int))) (0:Int) (i64.wrap ((i64.wrap (num a0 0)) - (1:Int)))))) then (some (.a (.i .i64 (-1:Int)),.none,true))
            else (bif (!((Zaa (i64.wrap ((a1).tdiv (6:Int))) (0:Int) (i64.wrap ((i64.wrap (num a0 1)) - (1:Int)))))) then (some (.a (.i .i64 (-1:Int)),.none,true))
              else (some (.a (.i .i64 (i64.wrap ((i64.wrap (((a1).tmod (6:Int)) - (1:Int)))+(i64.wrap ((6:Int)*(i64.wrap ((a1).tdiv (6:Int)))))))),.none,true))))
          else (bif (!((Zaa ((a1).tmod (6:Int)) (0:Int) (i64.wrap ((i64.wrap (num a0 0)) - (1:Int)))))) then (some (.a (.i .i64 (-1:Int)),.none,true))
            else (bif (!((Zaa (i64.wrap ((a1).tdiv (6:Int))) (0:Int) (i64.wrap ((i64.wrap (num a0 1)) - (1:Int)))))) then (some (.a (.i .i64 (-1:Int)),.none,true))
              else (some (.a (.i .i64 (i64.wrap (((a1).tmod (6:Int))+(i64.wrap ((6:Int)*(i64.wrap ((a1).tdiv (6:Int)))))))),.none,true)))))))):=by kernel_rfl
def Zab (a1 a2:Int) (a0:Array Value):Int:=(bif (a2==(1:Int)) then (bif (!((Zaa ((a1).tmod (6:Int)) (0:Int) (i64.wrap ((i64.wrap (num a0 0)) - (1:Int)))))) then (-1:Int) else (bif (!((Zaa (i64.wrap ((i64.wrap ((a1).tdiv (6:Int))) - (1:Int))) (0:Int) (i64.wrap ((i64.wrap (num a0 1)) - (1:Int)))))) then (-1:Int) else (i64.wrap (((a1).tmod (6:Int))+(i64.wrap ((6:Int)*(i64.wrap ((i64.wrap ((a1).tdiv (6:Int))) - (1:Int))))))))) else (bif (a2==(2:Int)) then (bif (!((Zaa (i64.wrap (((a1).tmod (6:Int))+(1:Int))) (0:Int) (i64.wrap ((i64.wrap (num a0 0)) - (1:Int)))))) then (-1:Int) else (bif (!((Zaa (i64.wrap ((a1).tdiv (6:Int))) (0:Int) (i64.wrap ((i64.wrap (num a0 1)) - (1:Int)))))) then (-1:Int) else (i64.wrap ((i64.wrap (((a1).tmod (6:Int))+(1:Int)))+(i64.wrap ((6:Int)*(i64.wrap ((a1).tdiv (6:Int))))))))) else (bif (a2==(3:Int)) then (bif (!((Zaa ((a1).tmod (6:Int)) (0:Int) (i64.wrap ((i64.wrap (num a0 0)) - (1:Int)))))) then (-1:Int) else (bif (!((Zaa (i64.wrap ((i64.wrap ((a1).tdiv (6:Int)))+(1:Int))) (0:Int) (i64.wrap ((i64.wrap (num a0 1)) - (1:Int)))))) then (-1:Int) else (i64.wrap (((a1).tmod (6:Int))+(i64.wrap ((6:Int)*(i64.wrap ((i64.wrap ((a1).tdiv (6:Int)))+(1:Int))))))))) else (bif (a2==(4:Int)) then (bif (!((Zaa (i64.wrap (((a1).tmod (6:Int)) - (1:Int))) (0:Int) (i64.wrap ((i64.wrap (num a0 0)) - (1:Int)))))) then (-1:Int) else (bif (!((Zaa (i64.wrap ((a1).tdiv (6:Int))) (0:Int) (i64.wrap ((i64.wrap (num a0 1)) - (1:Int)))))) then (-1:Int) else (i64.wrap ((i64.wrap (((a1).tmod (6:Int)) - (1:Int)))+(i64.wrap ((6:Int)*(i64.wrap ((a1).tdiv (6:Int))))))))) else (bif (!((Zaa ((a1).tmod (6:Int)) (0:Int) (i64.wrap ((i64.wrap (num a0 0)) - (1:Int)))))) then (-1:Int) else (bif (!((Zaa (i64.wrap ((a1).tdiv (6:Int))) (0:Int) (i64.wrap ((i64.wrap (num a0 1)) - (1:Int)))))) then (-1:Int) else (i64.wrap (((a1).tmod (6:Int))+(i64.wrap ((6:Int)*(i64.wrap ((a1).tdiv (6:Int)))))))))))))
theorem Ya2 (a1 a2:Int) (a0:Array Value) (h_a1:i64.min≤a1∧a1≤i64.max) (h_a2:i64.min≤a2∧a2≤i64.max) (h_a0:WT PZ 41 a0) (hg:(true)=true):ansV PZ (mkΓ [(47,con Zcw)]) 1000 Tryz.f122 [] [.w 0,.i .i64 (a1),.i .i64 (a2)] [.row a0 41]=some (.a (.i .i64 (Zab a1 a2 a0)),.none,true):=by
 refine (Ycq 1000 a1 a2 a0).trans ?_
 unfold Zab
 revert hg
 generalize ((a2==(1:Int)))=b2
 intro hg
 cases b2
 ·skip
  revert hg
  generalize ((a2==(2:Int)))=b4
  intro hg
  cases b4
  ·skip
   revert hg
   generalize ((a2==(3:Int)))=b6
   intro hg
   cases b6
   ·skip
    revert hg
    generalize ((a2==(4:Int)))=b8
    intro hg
    cases b8
    ·skip
     revert hg
     generalize ((!((Zaa ((a1).tmod (6:Int)) (0:Int) (i64.wrap ((i64.wrap (num a0 0)) - (1:Int)))))))=b10
     intro hg
     cases b10
     ·skip
      revert hg
      generalize ((!((Zaa (i64.wrap ((a1).tdiv (6:Int))) (0:Int) (i64.wrap ((i64.wrap (num a0 1)) - (1:Int)))))))=b12
      intro hg
      cases b12
      ·skip
       first | (simp only [Q1,Q2,BQ6];done) | rfl | exact (nomatch (hg:false=true))
      ·skip
       first | (simp only [Q1,Q2,BQ6];done) | rfl | exact (nomatch (hg:false=true))
     ·skip
      first | (simp only [Q1,Q2,BQ6];done) | rfl | exact (nomatch (hg:false=true))
    ·skip
     revert hg
     generalize ((!((Zaa (i64.wrap (((a1).tmod (6:Int)) - (1:Int))) (0:Int) (i64.wrap ((i64.wrap (num a0 0)) - (1:Int)))))))=b10
     intro hg
     cases b10
     ·skip
      revert hg
      generalize ((!((Zaa (i64.wrap ((a1).tdiv (6:Int))) (0:Int) (i64.wrap ((i64.wrap (num a0 1)) - (1:Int)))))))=b12
      intro hg
      cases b12
      ·skip
       first | (simp only [Q1,Q2,BQ6];done) | rfl | exact (nomatch (hg:false=true))
      ·skip
       first | (simp only [Q1,Q2,BQ6];done) | rfl | exact (nomatch (hg:false=true))
     ·skip
      first | (simp only [Q1,Q2,BQ6];done) | rfl | exact (nomatch (hg:false=true))
   ·skip
    revert hg
    generalize ((!((Zaa ((a1).tmod (6:Int)) (0:Int) (i64.wrap ((i64.wrap (num a0 0)) - (1:Int)))))))=b8
    intro hg
    cases b8
    ·skip
     revert hg
     generalize ((!((Zaa (i64.wrap ((i64.wrap ((a1).tdiv (6:Int)))+(1:Int))) (0:Int) (i64.wrap ((i64.wrap (num a0 1)) - (1:Int)))))))=b10
     intro hg
     cases b10
     ·skip
      first | (simp only [Q1,Q2,BQ6];done) | rfl | exact (nomatch (hg:false=true))
     ·skip
      first | (simp only [Q1,Q2,BQ6];done) | rfl | exact (nomatch (hg:false=true))
    ·skip
     first | (simp only [Q1,Q2,BQ6];done) | rfl | exact (nomatch (hg:false=true))
  ·skip
   revert hg
   generalize ((!((Zaa (i64.wrap (((a1).tmod (6:Int))+(1:Int))) (0:Int) (i64.wrap ((i64.wrap (num a0 0)) - (1:Int)))))))=b6
   intro hg
   cases b6
   ·skip
    revert hg
    generalize ((!((Zaa (i64.wrap ((a1).tdiv (6:Int))) (0:Int) (i64.wrap ((i64.wrap (num a0 1)) - (1:Int)))))))=b8
    intro hg
    cases b8
    ·skip
     first | (simp only [Q1,Q2,BQ6];done) | rfl | exact (nomatch (hg:false=true))
    ·skip
     first | (simp only [Q1,Q2,BQ6];done) | rfl | exact (nomatch (hg:false=true))
   ·skip
    first | (simp only [Q1,Q2,BQ6];done) | rfl | exact (nomatch (hg:false=true))
 ·skip
  revert hg
  generalize ((!((Zaa ((a1).tmod (6:Int)) (0:Int) (i64.wrap ((i64.wrap (num a0 0)) - (1:Int)))))))=b4
  intro hg
  cases b4
  ·skip
   revert hg
   generalize ((!((Zaa (i64.wrap ((i64.wrap ((a1).tdiv (6:Int))) - (1:Int))) (0:Int) (i64.wrap ((i64.wrap (num a0 1)) - (1:Int)))))))=b6
   intro hg
   cases b6
   ·skip
    first | (simp only [Q1,Q2,BQ6];done) | rfl | exact (nomatch (hg:false=true))
   ·skip
    first | (simp only [Q1,Q2,BQ6];done) | rfl | exact (nomatch (hg:false=true))
  ·skip
   first | (simp only [Q1,Q2,BQ6];done) | rfl | exact (nomatch (hg:false=true))
def Zmh:Con:=fun args h=>match args,h with
 | [.w 0,.i .i64 a1,.i .i64 a2],[.row a0 41]=>some (.a (.i .i64 (Zab a1 a2 a0)),.none,true)
 | _,_=>none
theorem Zx5:EntX PZ 122:=Zag (fn:=Tryz.f122) (by kernel_rfl) (by kernel_rfl) (by kernel_rfl)
theorem Yeb:Uab mn PZ 122 Zmh:=(Zaf (N:=1000) (by kernel_rfl) (mkΓ_consX (Zac Zgw) Zep mkΓ_nilX) (fn:=Tryz.f122) (by kernel_rfl) (by kernel_rfl) []).of (by
 intro ρ h w args vals r e hA hH hr
 unfold Zmh at hr
 split at hr
 ·rename_i a1 a2 a0
  obtain ⟨rfl,rfl,hg2⟩:=BQi hr
  exact Ya2 a1 a2 a0 (hA.rng 1 rfl) (hA.rng 2 rfl) (hH.wt 0 rfl) hg2
 ·cases hr)
theorem Yb2 (N:Nat)  : ansV PZ (mkΓ []) N Tryz.f127 [] [] []=(some (.a (.g #[.func (.func 130) #[] #[],.func (.func 131) #[] #[],.func (.func 132) #[] #[],.func (.func 133) #[] #[],.func (.func 134) #[] #[]] 210),.none,true)):=by kernel_rfl
theorem Yaa   (hg:(true)=true):ansV PZ (mkΓ []) 1000 Tryz.f127 [] [] []=some (.a (.g #[.func (.func 130) #[] #[],.func (.func 131) #[] #[],.func (.func 132) #[] #[],.func (.func 133) #[] #[],.func (.func 134) #[] #[]] 210),.none,true):=by
 refine (Yb2 1000 ).trans ?_
 rfl
def Zmm:Con:=fun args h=>match args,h with
 | [],[]=>some (.a (.g #[.func (.func 130) #[] #[],.func (.func 131) #[] #[],.func (.func 132) #[] #[],.func (.func 133) #[] #[],.func (.func 134) #[] #[]] 210),.none,true)
 | _,_=>none
theorem Zyn:EntX PZ 127:=Zag (fn:=Tryz.f127) (by kernel_rfl) (by kernel_rfl) (by kernel_rfl)
theorem Yev:Uab mn PZ 127 Zmm:=(Zaf (N:=1000) (by kernel_rfl) mkΓ_nilX (fn:=Tryz.f127) (by kernel_rfl) (by kernel_rfl) []).of (by
 intro ρ h w args vals r e hA hH hr
 unfold Zmm at hr
 split at hr
 ·obtain ⟨rfl,rfl,hg2⟩:=BQi hr
  exact Yaa hg2
 ·cases hr)
theorem Zv2 (N:Nat) (a0:Array Value):ansV PZ (mkΓ []) N Tryz.f130 [] [.g a0 122] []=(some (.a (.g a0 122),.none,true)):=by kernel_rfl
theorem Zuc (a0:Array Value) (h_a0:WT PZ 122 a0) (hg:(true)=true):ansV PZ (mkΓ []) 1000 Tryz.f130 [] [.g a0 122] []=some (.a (.g a0 122),.none,true):=by
 refine (Zv2 1000 a0).trans ?_
 rfl
def Zjx:Con:=fun args h=>match args,h with
 | [.g a0 122],[]=>some (.a (.g a0 122),.none,true)
 | _,_=>none
theorem Zst:EntX PZ 130:=Zag (fn:=Tryz.f130) (by kernel_rfl) (by kernel_rfl) (by kernel_rfl)
theorem Zw8:Uab mn PZ 130 Zjx:=(Zaf (N:=1000) (by kernel_rfl) mkΓ_nilX (fn:=Tryz.f130) (by kernel_rfl) (by kernel_rfl) []).of (by
 intro ρ h w args vals r e hA hH hr
 unfold Zjx at hr
 split at hr
 ·rename_i a0
  obtain ⟨rfl,rfl,hg2⟩:=BQi hr
  exact Zuc a0 (hA.wt 0 rfl) hg2
 ·cases hr)
theorem Zu6 (N:Nat) (a0:Array Value):ansV PZ (mkΓ []) N Tryz.f131 [] [.g a0 122] []=(some (.a (.g #[.int .i64 (num a0 0),.int .i64 (i64.wrap ((num a0 1) - (1:Int)))] 122),.none,true)):=by kernel_rfl
theorem Ztr (a0:Array Value) (h_a0:WT PZ 122 a0) (hg:(true)=true):ansV PZ (mkΓ []) 1000 Tryz.f131 [] [.g a0 122] []=some (.a (.g #[.int .i64 (num a0 0),.int .i64 (i64.wrap ((num a0 1) - (1:Int)))] 122),.none,true):=by
 refine (Zu6 1000 a0).trans ?_
 rfl
def Zip:Con:=fun args h=>match args,h with
 | [.g a0 122],[]=>some (.a (.g #[.int .i64 (num a0 0),.int .i64 (i64.wrap ((num a0 1) - (1:Int)))] 122),.none,true)
 | _,_=>none
theorem Zrl:EntX PZ 131:=Zag (fn:=Tryz.f131) (by kernel_rfl) (by kernel_rfl) (by kernel_rfl)
theorem Zvo:Uab mn PZ 131 Zip:=(Zaf (N:=1000) (by kernel_rfl) mkΓ_nilX (fn:=Tryz.f131) (by kernel_rfl) (by kernel_rfl) []).of (by
 intro ρ h w args vals r e hA hH hr
 unfold Zip at hr
 split at hr
 ·rename_i a0
  obtain ⟨rfl,rfl,hg2⟩:=BQi hr
  exact Ztr a0 (hA.wt 0 rfl) hg2
 ·cases hr)
theorem Zv5 (N:Nat) (a0:Array Value):ansV PZ (mkΓ []) N Tryz.f132 [] [.g a0 122] []=(some (.a (.g #[.int .i64 (i64.wrap ((num a0 0)+(1:Int))),.int .i64 (num a0 1)] 122),.none,true)):=by kernel_rfl
theorem Zvb (a0:Array Value) (h_a0:WT PZ 122 a0) (hg:(true)=true):ansV PZ (mkΓ []) 1000 Tryz.f132 [] [.g a0 122] []=some (.a (.g #[.int .i64 (i64.wrap ((num a0 0)+(1:Int))),.int .i64 (num a0 1)] 122),.none,true):=by
 refine (Zv5 1000 a0).trans ?_
 rfl
def Zjq:Con:=fun args h=>match args,h with
 | [.g a0 122],[]=>some (.a (.g #[.int .i64 (i64.wrap ((num a0 0)+(1:Int))),.int .i64 (num a0 1)] 122),.none,true)
 | _,_=>none
theorem Ztf:EntX PZ 132:=Zag (fn:=Tryz.f132) (by kernel_rfl) (by kernel_rfl) (by kernel_rfl)
theorem Zxl:Uab mn PZ 132 Zjq:=(Zaf (N:=1000) (by kernel_rfl) mkΓ_nilX (fn:=Tryz.f132) (by kernel_rfl) (by kernel_rfl) []).of (by
 intro ρ h w args vals r e hA hH hr
 unfold Zjq at hr
 split at hr
 ·rename_i a0
  obtain ⟨rfl,rfl,hg2⟩:=BQi hr
  exact Zvb a0 (hA.wt 0 rfl) hg2
 ·cases hr)
theorem Zuu (N:Nat) (a0:Array Value):ansV PZ (mkΓ []) N Tryz.f133 [] [.g a0 122] []=(some (.a (.g #[.int .i64 (num a0 0),.int .i64 (i64.wrap ((num a0 1)+(1:Int)))] 122),.none,true)):=by kernel_rfl
theorem Zsj (a0:Array Value) (h_a0:WT PZ 122 a0) (hg:(true)=true):ansV PZ (mkΓ []) 1000 Tryz.f133 [] [.g a0 122] []=some (.a (.g #[.int .i64 (num a0 0),.int .i64 (i64.wrap ((num a0 1)+(1:Int)))] 122),.none,true):=by
 refine (Zuu 1000 a0).trans ?_
 rfl
def Zi1:Con:=fun args h=>match args,h with
 | [.g a0 122],[]=>some (.a (.g #[.int .i64 (num a0 0),.int .i64 (i64.wrap ((num a0 1)+(1:Int)))] 122),.none,true)
 | _,_=>none
theorem Zr3:EntX PZ 133:=Zag (fn:=Tryz.f133) (by kernel_rfl) (by kernel_rfl) (by kernel_rfl)
theorem Zvq:Uab mn PZ 133 Zi1:=(Zaf (N:=1000) (by kernel_rfl) mkΓ_nilX (fn:=Tryz.f133) (by kernel_rfl) (by kernel_rfl) []).of (by
 intro ρ h w args vals r e hA hH hr
 unfold Zi1 at hr
 split at hr
 ·rename_i a0
  obtain ⟨rfl,rfl,hg2⟩:=BQi hr
  exact Zsj a0 (hA.wt 0 rfl) hg2
 ·cases hr)
theorem Zwa (N:Nat) (a0:Array Value):ansV PZ (mkΓ []) N Tryz.f134 [] [.g a0 122] []=(some (.a (.g #[.int .i64 (i64.wrap ((num a0 0) - (1:Int))),.int .i64 (num a0 1)] 122),.none,true)):=by kernel_rfl
theorem Zu7 (a0:Array Value) (h_a0:WT PZ 122 a0) (hg:(true)=true):ansV PZ (mkΓ []) 1000 Tryz.f134 [] [.g a0 122] []=some (.a (.g #[.int .i64 (i64.wrap ((num a0 0) - (1:Int))),.int .i64 (num a0 1)] 122),.none,true):=by
 refine (Zwa 1000 a0).trans ?_
 rfl
def Zju:Con:=fun args h=>match args,h with
 | [.g a0 122],[]=>some (.a (.g #[.int .i64 (i64.wrap ((num a0 0) - (1:Int))),.int .i64 (num a0 1)] 122),.none,true)
 | _,_=>none
theorem Zsi:EntX PZ 134:=Zag (fn:=Tryz.f134) (by kernel_rfl) (by kernel_rfl) (by kernel_rfl)
theorem Zzi:Uab mn PZ 134 Zju:=(Zaf (N:=1000) (by kernel_rfl) mkΓ_nilX (fn:=Tryz.f134) (by kernel_rfl) (by kernel_rfl) []).of (by
 intro ρ h w args vals r e hA hH hr
 unfold Zju at hr
 split at hr
 ·rename_i a0
  obtain ⟨rfl,rfl,hg2⟩:=BQi hr
  exact Zu7 a0 (hA.wt 0 rfl) hg2
 ·cases hr)
theorem Ydp (N:Nat) (a0 a1:Int):ansV PZ (mkΓ []) N Tryz.f107 [] [.i .i64 (a0),.i .i64 (a1)] []=(some (.a (.i .i64 (((i64.wrap (a0+a1))).tmod (2:Int))),.none,true)):=by kernel_rfl
theorem Ycn (a0 a1:Int) (h_a0:i64.min≤a0∧a0≤i64.max) (h_a1:i64.min≤a1∧a1≤i64.max) (hg:(true)=true):ansV PZ (mkΓ []) 1000 Tryz.f107 [] [.i .i64 (a0),.i .i64 (a1)] []=some (.a (.i .i64 (((i64.wrap (a0+a1))).tmod (2:Int))),.none,true):=by
 refine (Ydp 1000 a0 a1).trans ?_
 rfl
def Zng:Con:=fun args h=>match args,h with
 | [.i .i64 a0,.i .i64 a1],[]=>some (.a (.i .i64 (((i64.wrap (a0+a1))).tmod (2:Int))),.none,true)
 | _,_=>none
theorem Yaf:EntX PZ 107:=Zag (fn:=Tryz.f107) (by kernel_rfl) (by kernel_rfl) (by kernel_rfl)
theorem Yfy:Uab mn PZ 107 Zng:=(Zaf (N:=1000) (by kernel_rfl) mkΓ_nilX (fn:=Tryz.f107) (by kernel_rfl) (by kernel_rfl) []).of (by
 intro ρ h w args vals r e hA hH hr
 unfold Zng at hr
 split at hr
 ·rename_i a0 a1
  obtain ⟨rfl,rfl,hg2⟩:=BQi hr
  exact Ycn a0 a1 (hA.rng 0 rfl) (hA.rng 1 rfl) hg2
 ·cases hr)
def chW (S:Array Value) (t c:Int) (w:Nat):Int:=i64.wrap (num S (((3+(t.toNat*180))+(c.toNat*5))+w))
def gw (S:Array Value) (k:Nat):Nat→Int
 | 0=>(k:Int)
 | 1=>bif decide (6≤k) then (k:Int) - 6 else -1
 | 2=>bif decide (((k % 6:Nat):Int)+1<num S 0) then (k:Int)+1 else -1
 | 3=>bif decide (((k / 6:Nat):Int)+1<num S 1) then (k:Int)+6 else -1
 | _=>bif decide (1≤k % 6) then (k:Int) - 1 else -1
theorem w64 {n:Int} (h: -1000≤n∧n≤1000):i64.wrap n=n:=IntWalk.i64_in n (by omega)
theorem in_eq (n lo hi:Int):Zaa n lo hi=decide (lo≤n∧n≤hi):=by
 unfold Zaa
 by_cases h1:lo≤n
 ·rw [Q3 (show n ≥ lo from h1)]
  by_cases h2:n≤hi
  ·rw [Q3 h2,Q3 (And.intro h1 h2)];rfl
  ·rw [Q4 h2,Q4 (show ¬ (lo≤n∧n≤hi) from fun h=>h2 h.2)];rfl
 ·rw [Q4 (show ¬ n ≥ lo from h1),Q4 (show ¬ (lo≤n∧n≤hi) from fun h=>h1 h.1)];rfl
theorem Yox {w h:Int} {k:Nat} (hi:inC w h k=true):((k % 6:Nat):Int)<w∧((k / 6:Nat):Int)<h:=by
 unfold inC at hi
 simp only [Q7,decide_eq_true_eq] at hi
 exact hi
theorem xy {k:Nat} (hk:k<36):((k:Int)).tmod 6=((k % 6:Nat):Int)∧((k:Int)).tdiv 6=((k / 6:Nat):Int):=by
 constructor
 ·rw [Int.tmod_eq_emod_of_nonneg (by omega)];omega
 ·rw [Int.tdiv_eq_ediv_of_nonneg (by omega)];omega
theorem Yjs {S:Array Value} (h0:1≤num S 0∧num S 0≤6∧1≤num S 1∧num S 1≤6) {k:Nat} (hk:k<36) (hi:inC (num S 0) (num S 1) k=true) (w:Nat) (hw:w<5):Zab (k:Int) (w:Int) S=gw S k w:=by
 obtain ⟨a1,a2,a3,a4⟩:=h0
 obtain ⟨hx,hy⟩:=Yox hi
 obtain ⟨ex,ey⟩:=xy hk
 have hxl:k % 6<6:=Nat.mod_lt _ (by omega)
 have hyl:k / 6<6:=by omega
 have hk6:k=6*(k / 6)+k % 6:=by omega
 unfold Zab
 simp only [in_eq,ex,ey]
 rw [w64 (n:=num S 0) (by omega),w64 (n:=num S 1) (by omega),w64 (n:=num S 0 - 1) (by omega),w64 (n:=num S 1 - 1) (by omega),w64 (n:=((k / 6:Nat):Int)) (by omega),w64 (n:=((k / 6:Nat):Int) - 1) (by omega),w64 (n:=((k / 6:Nat):Int)+1) (by omega),w64 (n:=((k % 6:Nat):Int) - 1) (by omega),w64 (n:=((k % 6:Nat):Int)+1) (by omega),w64 (n:=6*((k / 6:Nat):Int)) (by omega),w64 (n:=6*(((k / 6:Nat):Int) - 1)) (by omega),w64 (n:=6*(((k / 6:Nat):Int)+1)) (by omega)]
 have b0:decide (0≤((k % 6:Nat):Int)∧((k % 6:Nat):Int)≤num S 0 - 1)=true:=Q3 (by omega)
 have b1:decide (0≤((k / 6:Nat):Int)∧((k / 6:Nat):Int)≤num S 1 - 1)=true:=Q3 (by omega)
 generalize hX:k % 6=X at *
 generalize hY:k / 6=Y at *
 match w,hw with
 | 0,_=>
  show (bif ((0:Int)==1) then _ else (bif ((0:Int)==2) then _ else (bif ((0:Int)==3) then _ else (bif ((0:Int)==4) then _ else _))))=_
  simp only [show ((0:Int)==1)=false from rfl,show ((0:Int)==2)=false from rfl,show ((0:Int)==3)=false from rfl,show ((0:Int)==4)=false from rfl,Q2,b0,b1,jB]
  rw [w64 (by omega)];show _=(k:Int);omega
 | 1,_=>
  simp only [show (((1:Nat):Int)==1)=true from rfl,Q1,b0,jB,Q2]
  unfold gw
  by_cases c:1≤Y
  ·rw [Q3 (show 0≤((Y:Nat):Int) - 1∧((Y:Nat):Int) - 1≤num S 1 - 1 by omega),Q3 (show 6≤k by omega)]
   simp only [jB,Q2,Q1]
   rw [w64 (by omega)];omega
  ·rw [Q4 (show ¬ (0≤((Y:Nat):Int) - 1∧((Y:Nat):Int) - 1≤num S 1 - 1) by omega),Q4 (show ¬ 6≤k by omega)]
   rfl
 | 2,_=>
  simp only [show (((2:Nat):Int)==1)=false from rfl,show (((2:Nat):Int)==2)=true from rfl,Q1,b1,jB,Q2]
  unfold gw
  rw [hX]
  by_cases c:((X:Nat):Int)+1<num S 0
  ·rw [Q3 (show 0≤((X:Nat):Int)+1∧((X:Nat):Int)+1≤num S 0 - 1 by omega),Q3 c]
   simp only [jB,Q2,Q1]
   rw [w64 (by omega)];omega
  ·rw [Q4 (show ¬ (0≤((X:Nat):Int)+1∧((X:Nat):Int)+1≤num S 0 - 1) by omega),Q4 c]
   rfl
 | 3,_=>
  simp only [show (((3:Nat):Int)==1)=false from rfl,show (((3:Nat):Int)==2)=false from rfl,show (((3:Nat):Int)==3)=true from rfl,Q1,b0,jB,Q2]
  unfold gw
  rw [hY]
  by_cases c:((Y:Nat):Int)+1<num S 1
  ·rw [Q3 (show 0≤((Y:Nat):Int)+1∧((Y:Nat):Int)+1≤num S 1 - 1 by omega),Q3 c]
   simp only [jB,Q2,Q1]
   rw [w64 (by omega)];omega
  ·rw [Q4 (show ¬ (0≤((Y:Nat):Int)+1∧((Y:Nat):Int)+1≤num S 1 - 1) by omega),Q4 c]
   rfl
 | 4,_=>
  simp only [show (((4:Nat):Int)==1)=false from rfl,show (((4:Nat):Int)==2)=false from rfl,show (((4:Nat):Int)==3)=false from rfl,show (((4:Nat):Int)==4)=true from rfl,Q1,b1,jB,Q2]
  unfold gw
  rw [hX]
  by_cases c:1≤X
  ·rw [Q3 (show 0≤((X:Nat):Int) - 1∧((X:Nat):Int) - 1≤num S 0 - 1 by omega),Q3 c]
   simp only [jB,Q2,Q1]
   rw [w64 (by omega)];omega
  ·rw [Q4 (show ¬ (0≤((X:Nat):Int) - 1∧((X:Nat):Int) - 1≤num S 0 - 1) by omega),Q4 c]
   rfl
theorem Yh0 {S:Array Value} (h0:1≤num S 0∧num S 0≤6∧1≤num S 1∧num S 1≤6) {k:Nat} (hk:k<36) (hi:inC (num S 0) (num S 1) k=true) (w:Nat) (hw:w<5) (hn:gw S k w ≠ -1):0≤gw S k w∧gw S k w<36:=by
 obtain ⟨hx,hy⟩:=Yox hi
 obtain ⟨a1,a2,a3,a4⟩:=h0
 have hk6:k=6*(k / 6)+k % 6:=by omega
 match w,hw with
 | 0,_=>exact ⟨by show 0≤(k:Int);omega,by show (k:Int)<36;omega⟩
 | 1,_=>
  unfold gw at hn⊢
  by_cases c:6≤k
  ·simp only [c,decide_true,Q1];omega
  ·simp [c] at hn
 | 2,_=>
  unfold gw at hn⊢
  by_cases c:((k % 6:Nat):Int)+1<num S 0
  ·simp only [Q3 c,Q1];omega
  ·simp only [Q4 c,Q2] at hn;exact absurd rfl hn
 | 3,_=>
  unfold gw at hn⊢
  by_cases c:((k / 6:Nat):Int)+1<num S 1
  ·simp only [Q3 c,Q1];omega
  ·simp only [Q4 c,Q2] at hn;exact absurd rfl hn
 | 4,_=>
  unfold gw at hn⊢
  by_cases c:1≤k % 6
  ·simp only [c,decide_true,Q1];omega
  ·simp [c] at hn
def Zc6:Cons:=(mkΓ [(38,con Zhu),(122,con Zmh)])
def Zge (a0 a1:Array Value) (y0_7:Int) (r0_22:Array Value):St:=(⟨.a (.w 0) :: .a (.w 1) :: .a (.u) :: .a (.u) :: .a (.w 2) :: .a (.w 22) :: .a (.i .i8 (((IntKind.i8.wrap ((num a1 0)+(num a1 1)))).tmod (2:Int))) :: .a (.i .i64 (y0_7)) :: .a (.i .i64 (0:Int)) :: .a (.x) :: .a (.x) :: .a (.w 1) :: .a (.w 1) :: .a (.p 1 (0) 22) :: .a (.i .i8 (num a1 0)) :: .a (.w 1) :: .a (.w 1) :: .a (.p 1 (1) 22) :: .a (.i .i8 (num a1 1)) :: .a (.i .i8 (IntKind.i8.wrap ((num a1 1)+(1:Int)))) :: .a (.w 1) :: .a (.w 1) :: .a (.p 1 (2) 2) :: .a (.i .i64 (num a1 2)) :: .a (.w 1) :: .a (.w 1) :: .a (.p 1 (39) 2) :: .a (.i .i64 (num a1 39)) :: .a (.i .i64 (i64.wrap ((num a1 39)*(12:Int)))) :: .a (.g (((((zc PZ 144).setIfInBounds 0 (.int .i8 (num a1 0))).setIfInBounds 1 (.int .i8 (IntKind.i8.wrap ((num a1 1)+(1:Int))))).setIfInBounds 2 (.int .i64 (num a1 2))).setIfInBounds 39 (.int .i64 (i64.wrap ((num a1 39)*(12:Int))))) 144) :: .a (.w 1) :: .a (.w 1) :: .a (.p 1 (0) 22) :: .a (.i .i8 (num a1 0)) :: .a (.w 1) :: .a (.w 1) :: .a (.p 1 (1) 22) :: .a (.i .i8 (num a1 1)) :: .a (.i .i8 (IntKind.i8.wrap ((num a1 0)+(num a1 1)))) :: .a (.i .i8 (((IntKind.i8.wrap ((num a1 0)+(num a1 1)))).tmod (2:Int))) :: .a (.i .i64 (y0_7)) :: .a (.b (decide (y0_7<(36:Int)))) :: .a (.x) :: .a (.x) :: .a (.w 0) :: .a (.i .i64 (y0_7)) :: .a (.b ((Zae y0_7 a0))) :: .a (.b ((!((Zae y0_7 a0)))))::xs 55 (.a (.u)::[]),[.row a0 41,.row a1 144,.row (zc PZ 144) 144,.no,.no,.no,.no,.no,.no,.no,.no,.no,.no,.no,.no,.no,.no,.no,.no,.no,.no,.no,.row r0_22 144,.no,.no,.no,.no,.no,.no,.no,.no,.no,.no,.no,.no],[22]⟩:St)
def Zh6:Int×Array Value→LS
 | (y1_8,r1_22)=>([.a (.i .i64 (y1_8))],[.row r1_22 144])
def Znd:Int×Array Value→Exit×LS
 | t=>((.exit 2),Zh6 t)
def Zdd (P : Program) (a0 a1 : Array Value) (y0_7 : Int) (r0_22 : Array Value) : Int × Array Value → Option (Stp (Int × Array Value) (Int × Array Value))
 | (y1_8, r1_22) => bif decide (y1_8 < (5 : Int)) then (bif (decide (0 ≤ y0_7) && decide (y0_7 < 36)) then (bif (decide (0 ≤ (((IntKind.i8.wrap ((num a1 0) + (num a1 1)))).tmod (2 : Int))) && decide ((((IntKind.i8.wrap ((num a1 0) + (num a1 1)))).tmod (2 : Int)) < 2)) then (bif (decide (0 ≤ y0_7) && decide (y0_7 < 36)) then (bif (decide (0 ≤ y1_8) && decide (y1_8 < 5)) then (bif decide ((Zab y0_7 y1_8 a0) < (0 : Int)) then (some (.more ((i64.wrap (y1_8 + (1 : Int))), (r1_22.setIfInBounds 39 (.int .i64 (i64.wrap ((num r1_22 39) + (i64.wrap ((num a1 (3 + ((y0_7).toNat * 1))) * (i64.wrap (num a0 (((3 + ((((IntKind.i8.wrap ((num a1 0) + (num a1 1)))).tmod (2 : Int)).toNat * 180)) + ((y0_7).toNat * 5)) + ((y1_8).toNat * 1)))))))))))))
       else (bif (decide (0 ≤ (Zab y0_7 y1_8 a0)) && decide ((Zab y0_7 y1_8 a0) < 36)) then (bif (decide (0 ≤ (Zab y0_7 y1_8 a0)) && decide ((Zab y0_7 y1_8 a0) < 36)) then (some (.more ((i64.wrap (y1_8 + (1 : Int))), (r1_22.setIfInBounds (3 + ((Zab y0_7 y1_8 a0).toNat * 1)) (.int .i64 (i64.wrap ((num r1_22 (3 + ((Zab y0_7 y1_8 a0).toNat * 1))) + (i64.wrap ((num a1 (3 + ((y0_7).toNat * 1))) * (i64.wrap (num a0 (((3 + ((((IntKind.i8.wrap ((num a1 0) + (num a1 1)))).tmod (2 : Int)).toNat * 180)) + ((y0_7).toNat * 5)) + ((y1_8).toNat * 1)))))))))))))
         else (none))
        else (none)))
      else (none))
     else (none))
    else (none))
   else (none))
  else (some (.done (y1_8, r1_22)))
def Ucw:=(Uaf (codeOf Tryz.f105) [([7],[22]),([8],[22])]).1
theorem Yd7 (N:Nat) (a0 a1:Array Value) (y0_7:Int) (r0_22:Array Value):∀ t:Int×Array Value,Uag PZ Zc6 N (cAt (codeOf Tryz.f105) [1,1,1,0,1,0,0,1,0,0,1,1,0,0]) (pAt Ucw [1,1,1,0,1,0,1,0,1,1,0]) [8] [22] (Zge a0 a1 y0_7 r0_22) (Zh6 t)=mapS Zh6 Znd (Zdd PZ a0 a1 y0_7 r0_22 t):=by
 rintro ⟨y1_8,r1_22⟩
 refine Eq.trans (b:=(bif decide (y1_8<(5:Int)) then (bif (decide (0≤y0_7)&&decide (y0_7<36)) then (bif (decide (0≤(((IntKind.i8.wrap ((num a1 0)+(num a1 1)))).tmod (2:Int)))&&decide ((((IntKind.i8.wrap ((num a1 0)+(num a1 1)))).tmod (2:Int))<2)) then (bif (decide (0≤y0_7)&&decide (y0_7<36)) then (bif (decide (0≤y1_8)&&decide (y1_8<5)) then (bif decide ((Zab y0_7 y1_8 a0)<(0:Int)) then (some (.more ([.a (.i .i64 (i64.wrap (y1_8+(1:Int))))],[.row (r1_22.setIfInBounds 39 (.int .i64 (i64.wrap ((num r1_22 39)+(i64.wrap ((num a1 (3+((y0_7).toNat*1)))*(i64.wrap (num a0 (((3+((((IntKind.i8.wrap ((num a1 0)+(num a1 1)))).tmod (2:Int)).toNat*180))+((y0_7).toNat*5))+((y1_8).toNat*1)))))))))) 144])))
       else (bif (decide (0≤(Zab y0_7 y1_8 a0))&&decide ((Zab y0_7 y1_8 a0)<36)) then (bif (decide (0≤(Zab y0_7 y1_8 a0))&&decide ((Zab y0_7 y1_8 a0)<36)) then (some (.more ([.a (.i .i64 (i64.wrap (y1_8+(1:Int))))],[.row (r1_22.setIfInBounds (3+((Zab y0_7 y1_8 a0).toNat*1)) (.int .i64 (i64.wrap ((num r1_22 (3+((Zab y0_7 y1_8 a0).toNat*1)))+(i64.wrap ((num a1 (3+((y0_7).toNat*1)))*(i64.wrap (num a0 (((3+((((IntKind.i8.wrap ((num a1 0)+(num a1 1)))).tmod (2:Int)).toNat*180))+((y0_7).toNat*5))+((y1_8).toNat*1)))))))))) 144])))
         else (none))
        else (none)))
      else (none))
     else (none))
    else (none))
   else (none))
  else (some (.done ((.exit 2),([.a (.i .i64 (y1_8))],[.row r1_22 144])))))) (by kernel_rfl) ?_
 simp only [Zdd,Zaz,Zay,Za1,Za0,Zh6,Znd]
def Zgk (a0 a1:Array Value):St:=(⟨.a (.w 0) :: .a (.w 1) :: .a (.u) :: .a (.u) :: .a (.w 2) :: .a (.w 22) :: .a (.i .i8 (((IntKind.i8.wrap ((num a1 0)+(num a1 1)))).tmod (2:Int))) :: .a (.i .i64 (0:Int))::us 3 (.a (.w 1) :: .a (.w 1) :: .a (.p 1 (0) 22) :: .a (.i .i8 (num a1 0)) :: .a (.w 1) :: .a (.w 1) :: .a (.p 1 (1) 22) :: .a (.i .i8 (num a1 1)) :: .a (.i .i8 (IntKind.i8.wrap ((num a1 1)+(1:Int)))) :: .a (.w 1) :: .a (.w 1) :: .a (.p 1 (2) 2) :: .a (.i .i64 (num a1 2)) :: .a (.w 1) :: .a (.w 1) :: .a (.p 1 (39) 2) :: .a (.i .i64 (num a1 39)) :: .a (.i .i64 (i64.wrap ((num a1 39)*(12:Int)))) :: .a (.g (((((zc PZ 144).setIfInBounds 0 (.int .i8 (num a1 0))).setIfInBounds 1 (.int .i8 (IntKind.i8.wrap ((num a1 1)+(1:Int))))).setIfInBounds 2 (.int .i64 (num a1 2))).setIfInBounds 39 (.int .i64 (i64.wrap ((num a1 39)*(12:Int))))) 144) :: .a (.w 1) :: .a (.w 1) :: .a (.p 1 (0) 22) :: .a (.i .i8 (num a1 0)) :: .a (.w 1) :: .a (.w 1) :: .a (.p 1 (1) 22) :: .a (.i .i8 (num a1 1)) :: .a (.i .i8 (IntKind.i8.wrap ((num a1 0)+(num a1 1)))) :: .a (.i .i8 (((IntKind.i8.wrap ((num a1 0)+(num a1 1)))).tmod (2:Int)))::us 64 ([])),[.row a0 41,.row a1 144,.row (zc PZ 144) 144,.no,.no,.no,.no,.no,.no,.no,.no,.no,.no,.no,.no,.no,.no,.no,.no,.no,.no,.no,.row (((((zc PZ 144).setIfInBounds 0 (.int .i8 (num a1 0))).setIfInBounds 1 (.int .i8 (IntKind.i8.wrap ((num a1 1)+(1:Int))))).setIfInBounds 2 (.int .i64 (num a1 2))).setIfInBounds 39 (.int .i64 (i64.wrap ((num a1 39)*(12:Int))))) 144,.no,.no,.no,.no,.no,.no,.no,.no,.no,.no,.no,.no],[22]⟩:St)
def Zda:Int×Array Value→LS
 | (y0_7,r0_22)=>([.a (.i .i64 (y0_7))],[.row r0_22 144])
def Ze9:Int×Array Value→Exit×LS
 | t=>((.exit 0),Zda t)
def Zgj (P:Program) (N:Nat) (a0 a1:Array Value) (y0_7:Int) (r0_22:Array Value) (z1_8:Int) (q1_22:Array Value):Option (Stp (Int×Array Value) (Int×Array Value)):=some (.more ((i64.wrap (y0_7+(1:Int))),q1_22))
def Ugw (N:Nat):=(Uan 2 (Uan 1 (kSeq (veC PZ Zc6 N (cAt (codeOf Tryz.f105) [1,1,1,0,1,0,0,1,1]) (pAt Ucw [1,1,1,0,1,0,1,1]) (Stp LS (Exit×LS))) (Ue2 35 [7] [22]))))
theorem Zur (N:Nat) (a0 a1:Array Value) (y0_7:Int) (r0_22:Array Value) (z1_8:Int) (q1_22:Array Value):(Ugw N) (.exit 2) (left (writes (cAt (codeOf Tryz.f105) [1,1,1,0,1,0,0,1,0,0,1,1,0,0])) [8] [22] (Zge a0 a1 y0_7 r0_22) ([.a (.i .i64 (z1_8))],[.row q1_22 144]))=mapS Zda Ze9 (Zgj PZ N a0 a1 y0_7 r0_22 z1_8 q1_22):=by
 refine Eq.trans (b:=(some (.more ([.a (.i .i64 (i64.wrap (y0_7+(1:Int))))],[.row q1_22 144])))) (by kernel_rfl) ?_
 simp only [Zgj,Zaz,Zay,Za1,Za0,Zda,Ze9]
theorem Yd4 (N:Nat) (a0 a1:Array Value) (y0_7:Int) (r0_22:Array Value):Uah (Uaa (Uag PZ Zc6 N (cAt (codeOf Tryz.f105) [1,1,1,0,1,0,0,1,0,0,1,1,0,0]) (pAt Ucw [1,1,1,0,1,0,1,0,1,1,0]) [8] [22] (Zge a0 a1 y0_7 r0_22)) N ([.a (.i .i64 (0:Int))],[.row r0_22 144])) (fun e s=>(Ugw N) e (left (writes (cAt (codeOf Tryz.f105) [1,1,1,0,1,0,0,1,0,0,1,1,0,0])) [8] [22] (Zge a0 a1 y0_7 r0_22) s))=mapS Zda Ze9 (Uak (Uaa (Zdd PZ a0 a1 y0_7 r0_22) N ((0:Int),r0_22)) (fun x=>Zgj PZ N a0 a1 y0_7 r0_22 x.1 x.2)):=by
 have h:=Zbd (α:=Stp LS (Exit×LS)) Zh6 Znd _ _ (Yd7 N a0 a1 y0_7 r0_22) N ((0:Int),r0_22)
 rw [Ya9 Zda Ze9]
 refine h _ _ ?_
 intro x;exact Zur N a0 a1 y0_7 r0_22 x.1 x.2
def Zde (P : Program) (N : Nat) (a0 a1 : Array Value) : Int × Array Value → Option (Stp (Int × Array Value) (Int × Array Value))
 | (y0_7, r0_22) => bif decide (y0_7 < (36 : Int)) then (bif (Za3 y0_7 a0) then (bif (!((Zae y0_7 a0))) then (bif (decide (0 ≤ y0_7) && decide (y0_7 < 36)) then (bif (decide (0 ≤ y0_7) && decide (y0_7 < 36)) then (bif (decide (0 ≤ y0_7) && decide (y0_7 < 36)) then (some (.more ((i64.wrap (y0_7 + (1 : Int))), (r0_22.setIfInBounds (3 + ((y0_7).toNat * 1)) (.int .i64 (i64.wrap ((num r0_22 (3 + ((y0_7).toNat * 1))) + (i64.wrap ((num a1 (3 + ((y0_7).toNat * 1))) * (12 : Int))))))))))
       else (none))
      else (none))
     else (none))
    else (Uak (Uaa (Zdd P a0 a1 y0_7 r0_22) N ((0 : Int), r0_22)) (fun x => Zgj P N a0 a1 y0_7 r0_22 x.1 x.2)))
   else (none))
  else (some (.done (y0_7, r0_22)))
theorem Yd0 (N:Nat) (a0 a1:Array Value):∀ t:Int×Array Value,Uag PZ Zc6 N (cAt (codeOf Tryz.f105) [1,1,1,0,1,0,0]) (pAt Ucw [1,1,1,0,1,0]) [7] [22] (Zgk a0 a1) (Zda t)=mapS Zda Ze9 (Zde PZ N a0 a1 t):=by
 rintro ⟨y0_7,r0_22⟩
 refine Eq.trans (b:=(bif decide (y0_7<(36:Int)) then (bif (Za3 y0_7 a0) then (bif (!((Zae y0_7 a0))) then (bif (decide (0≤y0_7)&&decide (y0_7<36)) then (bif (decide (0≤y0_7)&&decide (y0_7<36)) then (bif (decide (0≤y0_7)&&decide (y0_7<36)) then (some (.more ([.a (.i .i64 (i64.wrap (y0_7+(1:Int))))],[.row (r0_22.setIfInBounds (3+((y0_7).toNat*1)) (.int .i64 (i64.wrap ((num r0_22 (3+((y0_7).toNat*1)))+(i64.wrap ((num a1 (3+((y0_7).toNat*1)))*(12:Int))))))) 144])))
       else (none))
      else (none))
     else (none))
    else (Uah (Uaa (Uag PZ Zc6 N (cAt (codeOf Tryz.f105) [1,1,1,0,1,0,0,1,0,0,1,1,0,0]) (pAt Ucw [1,1,1,0,1,0,1,0,1,1,0]) [8] [22] (Zge a0 a1 y0_7 r0_22)) N ([.a (.i .i64 (0:Int))],[.row r0_22 144])) (fun e s=>(Ugw N) e (left (writes (cAt (codeOf Tryz.f105) [1,1,1,0,1,0,0,1,0,0,1,1,0,0])) [8] [22] (Zge a0 a1 y0_7 r0_22) s))))
   else (none))
  else (some (.done ((.exit 0),([.a (.i .i64 (y0_7))],[.row r0_22 144])))))) (by kernel_rfl) ?_
 simp only [Yd4 N a0 a1 y0_7 r0_22,Zde,Zaz,Zay,Za1,Za0,Zda,Ze9]
def Zlh (P:Program) (N:Nat) (a0 a1:Array Value) (z0_7:Int) (q0_22:Array Value):Option (SV×Eff×Bool):=some (.a (.g q0_22 144),.none,true)
def Uhc (N:Nat) (a0 a1:Array Value):=(Uan 0 (kSeq (veC PZ Zc6 N (cAt (codeOf Tryz.f105) [1,1,1,1]) (pAt Ucw [1,1,1,1]) (SV×Eff×Bool)) (finK PZ [.row a0 41,.row a1 144] [.cell 4 144])))
theorem Zua (N:Nat) (a0 a1:Array Value) (z0_7:Int) (q0_22:Array Value):(Uhc N a0 a1) (.exit 0) (left (writes (cAt (codeOf Tryz.f105) [1,1,1,0,1,0,0])) [7] [22] (Zgk a0 a1) ([.a (.i .i64 (z0_7))],[.row q0_22 144]))=Zlh PZ N a0 a1 z0_7 q0_22:=by
 refine Eq.trans (b:=(some (.a (.g q0_22 144),.none,true))) (by kernel_rfl) ?_
 rfl
theorem Yei (N:Nat) (a0 a1:Array Value):Uah (Uaa (Uag PZ Zc6 N (cAt (codeOf Tryz.f105) [1,1,1,0,1,0,0]) (pAt Ucw [1,1,1,0,1,0]) [7] [22] (Zgk a0 a1)) N ([.a (.i .i64 (0:Int))],[.row (((((zc PZ 144).setIfInBounds 0 (.int .i8 (num a1 0))).setIfInBounds 1 (.int .i8 (IntKind.i8.wrap ((num a1 1)+(1:Int))))).setIfInBounds 2 (.int .i64 (num a1 2))).setIfInBounds 39 (.int .i64 (i64.wrap ((num a1 39)*(12:Int))))) 144])) (fun e s=>(Uhc N a0 a1) e (left (writes (cAt (codeOf Tryz.f105) [1,1,1,0,1,0,0])) [7] [22] (Zgk a0 a1) s))=Uak (Uaa (Zde PZ N a0 a1) N ((0:Int),(((((zc PZ 144).setIfInBounds 0 (.int .i8 (num a1 0))).setIfInBounds 1 (.int .i8 (IntKind.i8.wrap ((num a1 1)+(1:Int))))).setIfInBounds 2 (.int .i64 (num a1 2))).setIfInBounds 39 (.int .i64 (i64.wrap ((num a1 39)*(12:Int))))))) (fun x=>Zlh PZ N a0 a1 x.1 x.2):=by
 refine Zbd Zda Ze9 _ _ (Yd0 N a0 a1) N ((0:Int),(((((zc PZ 144).setIfInBounds 0 (.int .i8 (num a1 0))).setIfInBounds 1 (.int .i8 (IntKind.i8.wrap ((num a1 1)+(1:Int))))).setIfInBounds 2 (.int .i64 (num a1 2))).setIfInBounds 39 (.int .i64 (i64.wrap ((num a1 39)*(12:Int)))))) _ _ ?_
 intro x;exact Zua N a0 a1 x.1 x.2
theorem Yb6 (N:Nat) (a0 a1:Array Value):ansV PZ Zc6 N Tryz.f105 [([7],[22]),([8],[22])] [.w 0,.w 1] [.row a0 41,.row a1 144]=(Uak (Uaa (Zde PZ N a0 a1) N ((0:Int),(((((zc PZ 144).setIfInBounds 0 (.int .i8 (num a1 0))).setIfInBounds 1 (.int .i8 (IntKind.i8.wrap ((num a1 1)+(1:Int))))).setIfInBounds 2 (.int .i64 (num a1 2))).setIfInBounds 39 (.int .i64 (i64.wrap ((num a1 39)*(12:Int))))))) (fun x=>Zlh PZ N a0 a1 x.1 x.2)):=by
 refine Eq.trans (b:=(Uah (Uaa (Uag PZ Zc6 N (cAt (codeOf Tryz.f105) [1,1,1,0,1,0,0]) (pAt Ucw [1,1,1,0,1,0]) [7] [22] (Zgk a0 a1)) N ([.a (.i .i64 (0:Int))],[.row (((((zc PZ 144).setIfInBounds 0 (.int .i8 (num a1 0))).setIfInBounds 1 (.int .i8 (IntKind.i8.wrap ((num a1 1)+(1:Int))))).setIfInBounds 2 (.int .i64 (num a1 2))).setIfInBounds 39 (.int .i64 (i64.wrap ((num a1 39)*(12:Int))))) 144])) (fun e s=>(Uhc N a0 a1) e (left (writes (cAt (codeOf Tryz.f105) [1,1,1,0,1,0,0])) [7] [22] (Zgk a0 a1) s)))) (by kernel_rfl) ?_
 simp only [Yei N a0 a1]
theorem dec2 {a b:Int} (h1:0≤a) (h2:a<b):(decide (0≤a)&&decide (a<b))=true:=by rw [Q3 h1,Q3 h2];rfl
def adN (r:Array Value) (i:Nat) (m:Int):Array Value:=r.setIfInBounds i (.int .i64 (i64.wrap (num r i+m)))
def tdS (X:Array Value):Int:=(IntKind.i8.wrap (num X 0+num X 1)).tmod 2
def muF (S X:Array Value) (t:Int) (k w:Nat):Int:=i64.wrap (num X (3+k*1)*chW S t (k:Int) w)
def wayF (S X:Array Value) (t:Int) (k:Nat) (r:Array Value) (w:Nat):Array Value:=bif decide (Zab (k:Int) (w:Int) S<0) then adN r 39 (muF S X t k w) else adN r (3+(Zab (k:Int) (w:Int) S).toNat*1) (muF S X t k w)
def Ucn (S X:Array Value) (t:Int) (r:Array Value) (k:Nat):Array Value:=bif Zae (k:Int) S then folds (wayF S X t k) r 5 else adN r (3+k*1) (i64.wrap (num X (3+k*1)*12))
def Ubm (P:Program) (X:Array Value):Array Value:=((((zc P 144).setIfInBounds 0 (.int .i8 (num X 0))).setIfInBounds 1 (.int .i8 (IntKind.i8.wrap (num X 1+1)))).setIfInBounds 2 (.int .i64 (num X 2))).setIfInBounds 39 (.int .i64 (i64.wrap (num X 39*12)))
def Ub0 (P:Program) (S X:Array Value):Array Value:=folds (Ucn S X (tdS X)) (Ubm P X) 36
theorem Ygs {S:Array Value} (h0:1≤num S 0∧num S 0≤6∧1≤num S 1∧num S 1≤6) {k:Nat} (hk:k<36) (hi:inC (num S 0) (num S 1) k=true) {w:Nat} (hw:w<5) (hn:¬ Zab (k:Int) (w:Int) S<0):0≤Zab (k:Int) (w:Int) S∧Zab (k:Int) (w:Int) S<36:=by
 rw [Yjs h0 hk hi w hw] at hn⊢
 exact Yh0 h0 hk hi w hw (by omega)
theorem Yao (a0 a1:Array Value) (h_a0:WT PZ 41 a0) (h_a1:WT PZ 144 a1) (hg:((okS a0&&(decide (0≤tdS a1)&&decide (tdS a1<2))))=true):ansV PZ Zc6 1000 Tryz.f105 [([7],[22]),([8],[22])] [.w 0,.w 1] [.row a0 41,.row a1 144]=some (.a (.g (Ub0 PZ a0 a1) 144),.none,true):=by
 rw [Q7] at hg
 obtain ⟨hok,ht⟩:=hg
 have hdm:=Zt5 hok
 refine (Yb6 1000 a0 a1).trans ?_
 have hT:(IntKind.i8.wrap (num a1 0+num a1 1)).tmod 2=tdS a1:=rfl
 have h:=Zt3 (g:=Zde PZ 1000 a0 a1) (fun r k=>((k:Int),r)) (Ucn a0 a1 (tdS a1)) (m:=36) (t:=Ubm PZ a1) (x:=((36:Int),Ub0 PZ a0 a1)) (N:=1000) (fun k s hk _=>by
  have h1:decide ((k:Int)<36)=true:=Q3 (by omega)
  have h0:decide (0≤(k:Int))=true:=Q3 (by omega)
  have h3:i64.wrap ((k:Int)+1)=((k+1:Nat):Int):=by rw [w64 (by omega)];omega
  obtain ⟨w1,w2⟩:=Yi0 h_a0 hk
  unfold Ucn
  cases hw:Zae (k:Int) a0 with
  | false=>
   simp only [Zde,h1,h0,h3,w1,hw,Q9,Bool.and_self,Bool.not_false,Q1,Q2]
   rfl
  | true=>
   rw [hw] at w2
   have hi:inC (num a0 0) (num a0 1) k=true:=(Bool.and_eq_true_iff.1 w2.symm).1
   have hin:=Zt3 (g:=Zdd PZ a0 a1 (k:Int) s) (fun r w=>((w:Int),r)) (wayF a0 a1 (tdS a1) k) (m:=5) (t:=s) (x:=((5:Int),folds (wayF a0 a1 (tdS a1) k) s 5)) (N:=1000) (fun w r hw5 _=>by
    have e1:decide ((w:Int)<5)=true:=Q3 (by omega)
    have e0:decide (0≤(w:Int))=true:=Q3 (by omega)
    have e3:i64.wrap ((w:Int)+1)=((w+1:Nat):Int):=by rw [w64 (by omega)];omega
    have e4:i64.wrap (num a1 (3+k*1)*i64.wrap (num a0 (3+(tdS a1).toNat*180+k*5+w*1)))=muF a0 a1 (tdS a1) k w:=by unfold muF chW;rw [Q9,Nat.mul_one w]
    unfold wayF
    by_cases hg:Zab (k:Int) (w:Int) a0<0
    ·simp only [Zdd,e1,e0,e3,h1,h0,hT,ht,Q9,Bool.and_self,Q1,Q3 hg,e4]
     rfl
    ·obtain ⟨r1,r2⟩:=Ygs hdm hk hi hw5 hg
     simp only [Zdd,e1,e0,e3,h1,h0,hT,ht,Q9,Bool.and_self,Q1,Q2,Q4 hg,dec2 r1 r2,e4]
     rfl) (by
    have e1:decide (((5:Nat):Int)<5)=false:=by decide
    simp only [Zdd,e1,Q2]
    rfl) (by omega)
   have hin':Uaa (Zdd PZ a0 a1 (k:Int) s) 1000 ((0:Int),s)=some ((5:Int),folds (wayF a0 a1 (tdS a1) k) s 5):=hin
   simp only [Zde,h1,w1,hw,jB,Q1,Q2,hin',Uak,Zgj,h3]) (by
  have h1:decide (((36:Nat):Int)<36)=false:=by decide
  simp only [Zde,h1,Q2]
  rfl) (by omega)
 have h':Uaa (Zde PZ 1000 a0 a1) 1000 ((0:Int),Ubm PZ a1)=some ((36:Int),Ub0 PZ a0 a1):=h
 unfold Ubm at h'
 rw [h']
 rfl
def Zdn:Con:=fun args h=>match args,h with
 | [.w 0,.w 1],[.row a0 41,.row a1 144]=>some (.a (.g (Ub0 PZ a0 a1) 144),.none,(okS a0&&(decide (0≤tdS a1)&&decide (tdS a1<2))))
 | _,_=>none
theorem Zxd:EntX PZ 105:=Zag (fn:=Tryz.f105) (by kernel_rfl) (by kernel_rfl) (by kernel_rfl)
theorem Yef:Uab mn PZ 105 Zdn:=(Zaf (N:=1000) (by kernel_rfl) (mkΓ_consX (Zac Zo1) Zln (mkΓ_consX (Zac Yeb) Zx5 mkΓ_nilX)) (fn:=Tryz.f105) (by kernel_rfl) (by kernel_rfl) [([7],[22]),([8],[22])]).of (by
 intro ρ h w args vals r e hA hH hr
 unfold Zdn at hr
 split at hr
 ·rename_i a0 a1
  obtain ⟨rfl,rfl,hg2⟩:=BQi hr
  exact Yao a0 a1 (hH.wt 0 rfl) (hH.wt 1 rfl) hg2
 ·cases hr)
def sumI (f:Nat→Int):Nat→Int
 | 0=>0
 | n+1=>sumI f n+f n
theorem Zpb {f g:Nat→Int}:∀ n,(∀ k,k<n→f k=g k)→sumI f n=sumI g n
 | 0,_=>rfl
 | n+1,h=>by rw [sumI,sumI,Zpb n fun k hk=>h k (by omega),h n (by omega)]
theorem Yid (f g:Nat→Int):∀ n,sumI (fun k=>f k+g k) n=sumI f n+sumI g n
 | 0=>rfl
 | n+1=>by rw [sumI,sumI,sumI,Yid f g n];omega
theorem Yiz:∀ n,sumI (fun _=>0) n=0
 | 0=>rfl
 | n+1=>by rw [sumI,Yiz n];rfl
theorem Yc9 (f:Nat→Nat→Int) (m:Nat):∀ n,sumI (fun k=>sumI (fun w=>f k w) m) n=sumI (fun w=>sumI (fun k=>f k w) n) m
 | 0=>by show (0:Int)=_;exact (Yiz m).symm
 | n+1=>by
  rw [sumI,Yc9 f m n]
  exact (Yid _ _ m).symm
def cg (a b:Int):Prop:=∃ q:Int,a=b+18446744073709551616*q
theorem cg.refl (a:Int):cg a a:=⟨0,by omega⟩
theorem cg.of {a b:Int} (h:a=b):cg a b:=h ▸ .refl a
theorem cg.trans {a b c:Int} (h:cg a b) (k:cg b c):cg a c:=by
 obtain ⟨q,h⟩:=h
 obtain ⟨p,k⟩:=k
 exact ⟨q+p,by omega⟩
theorem cg.symm {a b:Int} (h:cg a b):cg b a:=by
 obtain ⟨q,h⟩:=h
 exact ⟨-q,by omega⟩
theorem cg.add {a b c d:Int} (h:cg a b) (k:cg c d):cg (a+c) (b+d):=by
 obtain ⟨q,h⟩:=h
 obtain ⟨p,k⟩:=k
 exact ⟨q+p,by omega⟩
theorem Zow (x:Int):cg (i64.wrap x) x:=⟨(i64.wrap x - x) / 18446744073709551616,by rw [IntKind.wrap_i64];omega⟩
theorem cg_eq {a b:Int} (h:cg a b) (ha: -9223372036854775808≤a∧a≤9223372036854775807) (hb: -9223372036854775808≤b∧b≤9223372036854775807):a=b:=by
 obtain ⟨q,h⟩:=h
 omega
theorem Ypa {r:Array Value} (hz:r.size=40) {i j:Nat} (hj:j<40) (m:Int):cg (num (adN r i m) j) (num r j+if i=j then m else 0):=by
 by_cases h:i=j
 ·subst h
  rw [if_pos rfl]
  have:num (adN r i m) i=i64.wrap (num r i+m):=by unfold adN num;rw [jA,if_pos rfl,if_pos (by omega)]
  rw [this]
  exact Zow _
 ·rw [if_neg h]
  refine .of ?_
  unfold adN num
  rw [jA,if_neg h];omega
theorem Zx0 (r:Array Value) (i:Nat) (m:Int):(adN r i m).size=r.size:=by unfold adN;simp
theorem Yic {f:Array Value→Nat→Array Value} {j:Nat} {c:Nat→Int}:∀ (n:Nat) {r:Array Value},r.size=40→(∀ k s,k<n→s.size=40→(f s k).size=40∧cg (num (f s k) j) (num s j+c k))→(folds f r n).size=40∧cg (num (folds f r n) j) (num r j+sumI c n)
 | 0,r,hz,_=>⟨hz,.of (by show num r j=num r j+0;omega)⟩
 | n+1,r,hz,h=>by
  obtain ⟨h1,h2⟩:=Yic n hz fun k s hk=>h k s (by omega)
  obtain ⟨h3,h4⟩:=h n (folds f r n) (by omega) h1
  rw [Zic]
  refine ⟨h3,h4.trans ?_⟩
  rw [sumI,← Int.add_assoc]
  exact h2.add (.refl _)
def Ue6 (g:Int):Nat:=if g<0 then 39 else 3+g.toNat*1
theorem wayF_cg (S X:Array Value) (t:Int) (k:Nat) {r:Array Value} (hz:r.size=40) (w:Nat) {j:Nat} (hj:j<40):(wayF S X t k r w).size=40∧cg (num (wayF S X t k r w) j) (num r j+if Ue6 (Zab (k:Int) (w:Int) S)=j then muF S X t k w else 0):=by
 unfold wayF Ue6
 by_cases h:Zab (k:Int) (w:Int) S<0
 ·rw [Q3 h,Q1,if_pos h]
  exact ⟨by rw [Zx0];exact hz,Ypa hz hj _⟩
 ·rw [Q4 h,Q2,if_neg h]
  exact ⟨by rw [Zx0];exact hz,Ypa hz hj _⟩
theorem cellF_cg (S X:Array Value) (t:Int) {r:Array Value} (hz:r.size=40) (k:Nat) {j:Nat} (hj:j<40):(Ucn S X t r k).size=40∧cg (num (Ucn S X t r k) j) (num r j+if Zae (k:Int) S=true then sumI (fun w=>if Ue6 (Zab (k:Int) (w:Int) S)=j then muF S X t k w else 0) 5 else if 3+k*1=j then num X (3+k*1)*12 else 0):=by
 unfold Ucn
 cases hw:Zae (k:Int) S with
 | true=>
  rw [Q1,if_pos rfl]
  exact Yic 5 hz fun w s _ hs=>wayF_cg S X t k hs w hj
 | false=>
  rw [Q2,if_neg (by simp)]
  refine ⟨by rw [Zx0];exact hz,(Ypa hz hj _).trans ((cg.refl _).add ?_)⟩
  split
  ·exact Zow _
  ·exact .refl _
theorem Ylb:(zc PZ 144).size=40∧∀ j,2≤j→j<40→num (zc PZ 144) j=0:=by
 have hc:(List.range 40).all (fun j=>decide (j<2) || (num (zc PZ 144) j==0))=true:=by kernel_rfl
 refine ⟨by kernel_rfl,fun j h2 hj=> ?_⟩
 have:=List.all_eq_true.1 hc j (List.mem_range.2 hj)
 rw [Bool.or_eq_true,decide_eq_true_eq,beq_iff_eq] at this
 omega
theorem Ymi {r:Array Value} {i j:Nat} (m:Int) (h:i≠j):num (adN r i m) j=num r j:=by
 unfold adN num;rw [jA,if_neg h]
theorem Ynw {Q:Array Value→Prop} (hQ:∀ r i m,Q r→Q (adN r i m)) (S X:Array Value) (t:Int) (r:Array Value) (k:Nat) (h:Q r):Q (Ucn S X t r k):=by
 unfold Ucn
 cases Zae (k:Int) S with
 | false=>exact hQ _ _ _ h
 | true=>
  refine Zke (fun _ r=>Q r) h (fun w s _ hs=> ?_) 5 (Nat.le_refl _)
  unfold wayF
  cases decide (Zab (k:Int) (w:Int) S<0)<;>exact hQ _ _ _ hs
theorem wayF_low (S X:Array Value) (t:Int) (k:Nat) (r:Array Value) (w j:Nat) (hj:j<3):num (wayF S X t k r w) j=num r j:=by
 unfold wayF
 cases decide (Zab (k:Int) (w:Int) S<0)<;>exact Ymi _ (by omega)
theorem Yjz (S X:Array Value) {j:Nat} (hj:j<3):num (Ub0 PZ S X) j=num (Ubm PZ X) j:=by
 unfold Ub0
 refine Zke (fun _ (r:Array Value)=>num r j=num (Ubm PZ X) j) rfl (fun k s _ hs=> ?_) 36 (Nat.le_refl _)
 refine Eq.trans ?_ hs
 unfold Ucn
 cases Zae (k:Int) S with
 | false=>exact Ymi _ (by omega)
 | true=>exact Zke (fun _ (r:Array Value)=>num r j=num s j) rfl (fun w r _ hr=>(wayF_low S X _ k r w j hj).trans hr) 5 (Nat.le_refl _)
theorem Ydi (X:Array Value):num (Ubm PZ X) 0=num X 0∧num (Ubm PZ X) 1=IntKind.i8.wrap (num X 1+1)∧∀ i,i<36→num (Ubm PZ X) (3+i)=0:=by
 have hz:(zc PZ 144).size=40:=by kernel_rfl
 have hc:(List.range 36).all (fun k=>match (zc PZ 144)[3+k]? with | some (.int .i64 0)=>true | _=>false)=true:=by kernel_rfl
 unfold Ubm
 refine ⟨?_, ?_,fun i hi=> ?_⟩
 ·unfold num;rw [jA,if_neg (by omega),jA,if_neg (by omega),jA,if_neg (by omega),jA,if_pos rfl,if_pos (by omega)]
 ·unfold num;rw [jA,if_neg (by omega),jA,if_neg (by omega),jA,if_pos rfl,if_pos (by simp;omega)]
 ·unfold num
  rw [jA,if_neg (by omega),jA,if_neg (by omega),jA,if_neg (by omega),jA,if_neg (by omega)]
  have:=List.all_eq_true.1 hc i (List.mem_range.2 hi)
  split at this
  ·rename_i e;rw [e]
  ·cases this
theorem wt_adN {r:Array Value} {i:Nat} {m:Int} (h:WT PZ 144 r) (hi:(lay PZ 144)[i]? = some 3):WT PZ 144 (adN r i m):=by
 have hz:=h.layLen
 unfold adN
 constructor
 ·rw [jC,List.map_set,h.1]
  refine List.ext_getElem? fun j=> ?_
  by_cases hij:i=j
  ·subst hij
   rw [List.getElem?_set_self (List.getElem?_eq_some_iff.1 hi).1,hi];rfl
  ·rw [List.getElem?_set_ne hij]
 ·intro v hv
  rw [jC] at hv
  rcases List.mem_or_eq_of_mem_set hv with h1 | rfl
  ·exact h.2 v h1
  ·exact Zjk .i64 _
theorem Yg0:(List.range 40).all (fun i=>decide (i<3) || (match (lay PZ 144)[i]? with | some 3=>true | _=>false))=true∧(lay PZ 144).length=40:=⟨by kernel_rfl,by kernel_rfl⟩
theorem Yoj {r:Array Value} {i:Nat} {m:Int} (h:WT PZ 144 r) (h3:3≤i):WT PZ 144 (adN r i m):=by
 by_cases hi:i<40
 ·refine wt_adN h ?_
  have:=List.all_eq_true.1 Yg0.1 i (List.mem_range.2 hi)
  rw [Bool.or_eq_true,decide_eq_true_eq] at this
  rcases this with h | h
  ·omega
  ·split at h
   ·assumption
   ·cases h
 ·have:adN r i m=r:=by
   unfold adN
   refine Array.ext_getElem? fun j=> ?_
   rw [jA]
   have hz:r.size=40:=by rw [h.layLen];exact Yg0.2
   by_cases hij:i=j
   ·subst hij;rw [if_pos rfl,if_neg (by omega),Array.getElem?_eq_none (by omega)]
   ·rw [if_neg hij]
  rw [this];exact h
theorem Yga {i:Nat} (h2:2≤i) (h:i<40):(lay PZ 144)[i]? = some 3:=by
 have hc:(List.range 40).all (fun i=>decide (i<2) || (match (lay PZ 144)[i]? with | some 3=>true | _=>false))=true:=by kernel_rfl
 have:=List.all_eq_true.1 hc i (List.mem_range.2 h)
 rw [Bool.or_eq_true,decide_eq_true_eq] at this
 rcases this with h | h
 ·omega
 ·split at h
  ·assumption
  ·cases h
theorem Yi9:(lay PZ 144)[0]? = some (kN .i8)∧(lay PZ 144)[1]? = some (kN .i8):=⟨by kernel_rfl,by kernel_rfl⟩
theorem Zsd {r:Array Value} (h:WT PZ 144 r) {i:Nat} {k:IntKind} {n:Int} (hi:(lay PZ 144)[i]? = some (kN k)) (hn:k.min≤n∧n≤k.max):WT PZ 144 (r.setIfInBounds i (.int k n)):=by
 constructor
 ·rw [jC,List.map_set,h.1]
  refine List.ext_getElem? fun j=> ?_
  by_cases hij:i=j
  ·subst hij
   rw [List.getElem?_set_self (List.getElem?_eq_some_iff.1 hi).1,hi];rfl
  ·rw [List.getElem?_set_ne hij]
 ·intro v hv
  rw [jC] at hv
  rcases List.mem_or_eq_of_mem_set hv with h1 | rfl
  ·exact h.2 v h1
  ·exact hn
theorem Ym4 {S X:Array Value} (hX:WT PZ 144 X):WT PZ 144 (Ub0 PZ S X):=by
 have x0:=(hX.int (o:=0) (k:=.i8) Yi9.1).2
 have x2:=(hX.int (o:=2) (k:=.i64) (Yga (by omega) (by omega))).2
 have h0:WT PZ 144 (Ubm PZ X):=by
  unfold Ubm
  exact Zsd (k:=.i64) (Zsd (k:=.i64) (Zsd (k:=.i8) (Zsd (k:=.i8) (WT.zero (by kernel_rfl)) Yi9.1 x0) Yi9.2 (Zjk .i8 _)) (Yga (by omega) (by omega)) x2) (Yga (by omega) (by omega)) (Zjk .i64 _)
 unfold Ub0
 refine Zke (fun _ r=>WT PZ 144 r) h0 (fun k r _ h=> ?_) 36 (Nat.le_refl _)
 unfold Ucn
 cases Zae (k:Int) S
 ·exact Yoj h (by omega)
 ·refine Zke (fun _ r=>WT PZ 144 r) h (fun w r _ h=> ?_) 5 (Nat.le_refl _)
  unfold wayF
  cases decide (Zab (k:Int) (w:Int) S<0)<;>exact Yoj h (by omega)
theorem Zhr (r:Array Value) (i:Nat) (k:IntKind) (n:Int) (j:Nat):num (r.setIfInBounds i (.int k n)) j=if i=j∧i<r.size then n else num r j:=by
 unfold num
 rw [jA]
 by_cases hij:i=j
 ·subst hij
  by_cases hlt:i<r.size
  ·rw [if_pos rfl,if_pos hlt,if_pos ⟨rfl,hlt⟩]
  ·rw [if_pos rfl,if_neg hlt,if_neg (fun h=>hlt h.2),Array.getElem?_eq_none (by omega)]
 ·rw [if_neg hij,if_neg (fun h=>hij h.1)]
theorem hourV_cg {S X:Array Value} (hz:(Ubm PZ X).size=40) {j:Nat} (hj:j<40):cg (num (Ub0 PZ S X) j) (num (Ubm PZ X) j+sumI (fun k=>if Zae (k:Int) S=true then sumI (fun w=>if Ue6 (Zab (k:Int) (w:Int) S)=j then muF S X (tdS X) k w else 0) 5 else if 3+k*1=j then num X (3+k*1)*12 else 0) 36):=by
 unfold Ub0
 exact (Yic 36 hz fun k s _ hs=>cellF_cg S X (tdS X) hs k hj).2
theorem Ynp (X:Array Value):(Ubm PZ X).size=40∧∀ j,2≤j→j<40→cg (num (Ubm PZ X) j) (if j=2 then num X 2 else if j=39 then num X 39*12 else 0):=by
 have hz:(zc PZ 144).size=40:=Ylb.1
 refine ⟨by unfold Ubm;simp [hz],fun j h2 hj=> ?_⟩
 by_cases e2:j=2
 ·subst e2
  rw [if_pos rfl];unfold Ubm
  rw [Zhr,if_neg (by omega),Zhr,if_pos ⟨rfl,by simp [hz]⟩]
  exact .refl _
 ·rw [if_neg e2]
  by_cases e9:j=39
  ·subst e9
   rw [if_pos rfl];unfold Ubm
   rw [Zhr,if_pos ⟨rfl,by simp [hz]⟩]
   exact Zow _
  ·rw [if_neg e9]
   have:=(Ydi X).2.2 (j - 3) (by omega)
   rw [show 3+(j - 3)=j by omega] at this
   exact .of this
theorem Znl {f:Nat→Int}:∀ n,(∀ k,k<n→0≤f k)→0≤sumI f n
 | 0,_=>Int.le_refl _
 | n+1,h=>by
  have h1:=Znl n fun k hk=>h k (by omega)
  have h2:=h n (by omega)
  rw [sumI];omega
theorem Zy9 {f:Nat→Int} {i:Nat}:∀ n,i<n→(∀ k,k<n→0≤f k)→f i≤sumI f n
 | 0,hi,_=>by omega
 | n+1,hi,h=>by
  rw [sumI]
  by_cases e:i=n
  ·subst e
   have:=Znl i fun k hk=>h k (by omega)
   omega
  ·have h1:=Zy9 (f:=f) (i:=i) n (by omega) fun k hk=>h k (by omega)
   have h2:=h n (by omega)
   omega
theorem Yhf (c:Int) (f:Nat→Int):∀ n,sumI (fun k=>c*f k) n=c*sumI f n
 | 0=>(Int.mul_zero c).symm
 | n+1=>by rw [sumI,sumI,Yhf c f n,Int.mul_add]
theorem Zyy (m:Int) {d o:Nat}:∀ n,sumI (fun i=>if d=o+i then m else 0) n=if o≤d∧d<o+n then m else 0
 | 0=>by rw [if_neg (by omega)];rfl
 | n+1=>by
  rw [sumI,Zyy m n]
  by_cases h:d=o+n
  ·rw [if_pos h,if_neg (by omega),if_pos (by omega)];omega
  ·rw [if_neg h]
   by_cases h2:o≤d∧d<o+n
   ·rw [if_pos h2,if_pos (by omega)];omega
   ·rw [if_neg h2,if_neg (by omega)];rfl
theorem Ym8 {a:Array Value} {f:Nat→Int} (hf:∀ w,w<5→num a (w*1)=f w∧0≤f w∧f w≤255):∀ n,n≤5→sumW a n=sumI f n∧0≤sumI f n∧sumI f n≤255*n
 | 0,_=>⟨rfl,Int.le_refl _,Int.le_refl _⟩
 | n+1,hn=>by
  obtain ⟨h1,h2,h3⟩:=Ym8 hf n (by omega)
  obtain ⟨q1,q2,q3⟩:=hf n (by omega)
  rw [sumW,sumI,h1,q1,w64 (n:=f n) (by omega),IntWalk.i64_in _ (by omega)]
  refine ⟨rfl,by omega,by omega⟩
def chP (S:Array Value) (t k w:Nat):Int:=num S (3+t*180+k*5+w)
theorem ch_sum {S:Array Value} (hS:WT PZ 41 S) (hok:okS S=true) {t k:Nat} (ht:t<2) (hk:k<36) (hw:(inC (num S 0) (num S 1) k && !(bitI (num S 2) k))=true):sumI (chP S t k) 5=12∧∀ w,w<5→0≤chP S t k w∧chP S t k w≤12:=by
 have hr:∀ w,w<5→0≤chP S t k w∧chP S t k w≤255:=fun w hw=>by
  have:=(sea_u8 hS (i:=t*180+k*5+w) (by omega)).2
  unfold chP
  rw [show 3+t*180+k*5+w=3+(t*180+k*5+w) by omega]
  exact this
 have hf:=okS_fit hok ht hk
 unfold fitS at hf
 rw [hw,Q1] at hf
 have hs:=(Ym8 (a:=chR S t k) (f:=chP S t k) (fun w hw=>⟨by unfold chR chP;rw [num_sub (by omega),Nat.mul_one],hr w hw⟩) 5 (Nat.le_refl _)).1
 have h12:sumI (chP S t k) 5=12:=by rw [← hs];exact eq_of_beq hf
 refine ⟨h12,fun w hw=>⟨(hr w hw).1, ?_⟩⟩
 rw [← h12]
 exact Zy9 (f:=chP S t k) 5 hw fun q hq=>(hr q hq).1
def Mass (X:Array Value) (T:Int):Prop:=(∀ i,i<37→0≤num X (3+i))∧sumI (fun i=>num X (3+i)) 37=T
theorem Mass.le {X:Array Value} {T:Int} (h:Mass X T) {i:Nat} (hi:i<37):0≤num X (3+i)∧num X (3+i)≤T:=⟨h.1 i hi,by rw [← h.2];exact Zy9 (f:=fun i=>num X (3+i)) 37 hi h.1⟩
def Uck (S X:Array Value) (j k:Nat):Int:=if Zae (k:Int) S=true then sumI (fun w=>if Ue6 (Zab (k:Int) (w:Int) S)=j then muF S X (tdS X) k w else 0) 5 else if 3+k*1=j then num X (3+k*1)*12 else 0
theorem cell_sum {S X:Array Value} (hS:WT PZ 41 S) (hok:okS S=true) {T:Int} (hM:Mass X T) (hT:T*12≤9223372036854775807) {t:Nat} (ht:t<2) (htd:tdS X=(t:Int)) {k:Nat} (hk:k<36):(∀ j,0≤Uck S X j k)∧sumI (fun i=>Uck S X (3+i) k) 37=12*num X (3+k):=by
 obtain ⟨x0,x1⟩:=hM.le (i:=k) (by omega)
 have hwet:=(Yi0 hS hk).2
 unfold Uck
 cases hw:Zae (k:Int) S with
 | false=>
  simp only [Bool.false_eq_true,if_false]
  refine ⟨fun j=> ?_, ?_⟩
  ·split
   ·rw [show 3+k*1=3+k by omega];omega
   ·exact Int.le_refl _
  ·rw [Zyy (num X (3+k*1)*12) (d:=3+k*1) (o:=3) 37,if_pos (by omega),show 3+k*1=3+k by omega,Int.mul_comm]
 | true=>
  rw [hw] at hwet
  obtain ⟨c1,c2⟩:=ch_sum hS hok ht hk hwet.symm
  have hi:inC (num S 0) (num S 1) k=true:=(Bool.and_eq_true_iff.1 hwet.symm).1
  have hmu:∀ w,w<5→muF S X (tdS X) k w=num X (3+k)*chP S t k w∧0≤num X (3+k)*chP S t k w:=fun w hw5=>by
   obtain ⟨d1,d2⟩:=c2 w hw5
   have hp:0≤num X (3+k)*chP S t k w:=Int.mul_nonneg x0 d1
   have hq:num X (3+k)*chP S t k w≤T*12:=Int.mul_le_mul x1 d2 d1 (by omega)
   refine ⟨?_,hp⟩
   unfold muF chW
   rw [htd,Q9,Q9,show 3+k*1=3+k by omega]
   have e:num S (((3+(t*180))+(k*5))+w)=chP S t k w:=rfl
   rw [e,w64 (n:=chP S t k w) (by omega),IntWalk.i64_in _ (by omega)]
  simp only [if_true]
  refine ⟨fun j=>Znl 5 fun w hw5=> ?_, ?_⟩
  ·split
   ·rw [(hmu w hw5).1];exact (hmu w hw5).2
   ·exact Int.le_refl _
  ·rw [Yc9 (fun i w=>if Ue6 (Zab (k:Int) (w:Int) S)=3+i then muF S X (tdS X) k w else 0) 5 37]
   refine (Zpb 5 (g:=fun w=>num X (3+k)*chP S t k w) fun w hw5=> ?_).trans ?_
   ·rw [Zyy (muF S X (tdS X) k w) (d:=Ue6 (Zab (k:Int) (w:Int) S)) (o:=3) 37,if_pos,(hmu w hw5).1]
    unfold Ue6
    by_cases hg:Zab (k:Int) (w:Int) S<0
    ·rw [if_pos hg];omega
    ·rw [if_neg hg]
     obtain ⟨r1,r2⟩:=Ygs (Zt5 hok) hk hi hw5 hg
     omega
   ·rw [Yhf,c1,Int.mul_comm]
theorem Yoo {S X:Array Value} (hS:WT PZ 41 S) (hX:WT PZ 144 X) (hok:okS S=true) {T:Int} (hM:Mass X T) (hT:T*12≤9223372036854775807) {t:Nat} (ht:t<2) (htd:tdS X=(t:Int)) :
  Mass (Ub0 PZ S X) (12*T)∧∀ k:Nat,k<36→Zae (k:Int) S=false→12*num X (3+k)≤num (Ub0 PZ S X) (3+k):=by
 obtain ⟨i1,i2⟩:=Ynp X
 have o1:0≤num X 39∧num X 39≤T:=hM.le (i:=36) (by omega)
 have hcell:=fun k hk=>cell_sum hS hok hM hT ht htd (k:=k) hk
 have hsum:sumI (fun i=>(if 39=3+i then num X 39*12 else 0)+sumI (fun k=>Uck S X (3+i) k) 36) 37=12*T:=by
  rw [Yid,Zyy (num X 39*12) (d:=39) (o:=3) 37,if_pos (by omega),Yc9 (fun i k=>Uck S X (3+i) k) 36 37,Zpb 36 (g:=fun k=>12*num X (3+k)) fun k hk=>(hcell k hk).2,Yhf,← hM.2]
  have e37:sumI (fun i=>num X (3+i)) 37=sumI (fun i=>num X (3+i)) 36+num X 39:=rfl
  rw [e37,Int.mul_add]
  omega
 have hnn:∀ i,i<37→0≤(if 39=3+i then num X 39*12 else 0)+sumI (fun k=>Uck S X (3+i) k) 36:=fun i hi=>by
  have h1:=Znl (f:=fun k=>Uck S X (3+i) k) 36 fun k hk=>(hcell k hk).1 (3+i)
  split
  ·have:=o1.1;omega
  ·omega
 have hval:∀ i,i<37→num (Ub0 PZ S X) (3+i)=(if 39=3+i then num X 39*12 else 0)+sumI (fun k=>Uck S X (3+i) k) 36:=fun i hi=>by
  have hw:=(Ym4 (S:=S) hX).int (o:=3+i) (k:=.i64) (Yga (by omega) (by omega))
  have hle:(if 39=3+i then num X 39*12 else 0)+sumI (fun k=>Uck S X (3+i) k) 36≤12*T:=by
   rw [← hsum]
   exact Zy9 (f:=fun i=>(if 39=3+i then num X 39*12 else 0)+sumI (fun k=>Uck S X (3+i) k) 36) 37 hi hnn
  have:=hnn i hi
  refine cg_eq ((hourV_cg i1 (j:=3+i) (by omega)).trans (((i2 (3+i) (by omega) (by omega)).add (.refl _)).trans (.of ?_))) hw.2 (by omega)
  rw [if_neg (show ¬ 3+i=2 by omega)]
  by_cases e:3+i=39
  ·rw [if_pos e,if_pos e.symm];rfl
  ·rw [if_neg e,if_neg (fun h=>e h.symm)];rfl
 refine ⟨⟨fun i hi=>by rw [hval i hi];exact hnn i hi, ?_⟩,fun k hk hd=> ?_⟩
 ·rw [← hsum]
  exact Zpb 37 hval
 ·rw [hval k (by omega)]
  have h1:=Zy9 (f:=fun q=>Uck S X (3+k) q) (i:=k) 36 hk fun q hq=>(hcell q hq).1 (3+k)
  have h2:Uck S X (3+k) k=num X (3+k)*12:=by
   unfold Uck
   rw [hd,if_neg (by simp),if_pos (by omega),show 3+k*1=3+k by omega]
  rw [if_neg (show ¬ 39=3+k by omega)]
  omega
def Uav (P:Program) (S X:Array Value):Nat→Array Value
 | 0=>X
 | n+1=>Ub0 P S (Uav P S X n)
theorem drift_wt {S X:Array Value} (hX:WT PZ 144 X) (n:Nat):WT PZ 144 (Uav PZ S X n):=by
 induction n with
 | zero=>exact hX
 | succ n ih=>rw [Uav];exact Ym4 ih
theorem Ykv {S X:Array Value} (hb:0≤num X 0∧num X 0<2) (hh:0≤num X 1∧num X 1≤14):∀ n,n≤14→num (Uav PZ S X n) 0=num X 0∧num (Uav PZ S X n) 1=num X 1+n
 | 0,_=>⟨rfl,by simp [Uav]⟩
 | n+1,hn=>by
  obtain ⟨h1,h2⟩:=Ykv hb hh n (by omega)
  obtain ⟨e1,e2,_⟩:=Ydi (Uav PZ S X n)
  constructor
  ·rw [Uav,Yjz _ _ (by omega),e1,h1]
  ·rw [Uav,Yjz _ _ (by omega),e2,h2]
   have:IntKind.i8.wrap (num X 1+(n:Int)+1)=num X 1+(n:Int)+1:=IntWalk.i8_in _ (by omega)
   rw [this];omega
theorem Yhj {S X:Array Value} (hb:0≤num X 0∧num X 0<2) (hh:0≤num X 1∧num X 1≤14) {n:Nat} (hn:n≤14):tdS (Uav PZ S X n)=(num X 0+num X 1+n) % 2:=by
 obtain ⟨h1,h2⟩:=Ykv (S:=S) hb hh n hn
 unfold tdS
 rw [h1,h2]
 have:IntKind.i8.wrap (num X 0+(num X 1+(n:Int)))=num X 0+num X 1+(n:Int):=by rw [IntWalk.i8_in _ (by omega)];omega
 rw [this,Int.tmod_eq_emod_of_nonneg (by omega)]
end
end Go.Proofs.YtohnggmlmglhmaaGreatDoor
