/- Where the ways of a cell lead, in company. -/
import Derived.Test.YtflnjkpejbohjaaGreatDoorProg
import Derived.Test.YtflnjkpejbohjaaGreatDoorCxE
namespace Go.Proofs.YtflnjkpejbohjaaGreatDoor
open Go.ChangeShapes Go.WideShapes Go.ChangeAt Go.RowKit Ve Vc
open Tryz renaming prog → PZ
open IntKind (i64)
set_option linter.unusedVariables false
set_option linter.unusedSimpArgs false
set_option maxRecDepth 100000
noncomputable section
variable {mn:Md}
theorem Zzh (N:Nat) (a1 a2:Int) (a0:Array Value):ansV PZ (mkΓ [(58,con Zcq)]) N Tryz.f63 [] [.w 0,.i .i64 (a1),.i .i64 (a2)] [.row a0 41]=(bif (a2==(1:Int)) then (bif (!((Zaa ((a1).tmod (6:Int)) (0:Int) (i64.wrap ((i64.wrap (num a0 0)) - (1:Int)))))) then (some (.a (.i .i64 (-1:Int)),.none,true))
      else (bif (!((Zaa (i64.wrap ((i64.wrap ((a1).tdiv (6:Int))) - (1:Int))) (0:Int) (i64.wrap ((i64.wrap (num a0 1)) - (1:Int)))))) then (some (.a (.i .i64 (-1:Int)),.none,true))
        else (some (.a (.i .i64 (i64.wrap (((a1).tmod (6:Int))+(i64.wrap ((6:Int)*(i64.wrap ((i64.wrap ((a1).tdiv (6:Int))) - (1:Int)))))))),.none,true))))
    else (bif (a2==(2:Int)) then (bif (!((Zaa (i64.wrap (((a1).tmod (6:Int))+(1:Int))) (0:Int) (i64.wrap ((i64.wrap (num a0 0)) - (1:Int)))))) then (some (.a (.i .i64 (-1:Int)),.none,true))
        else (bif (!((Zaa (i64.wrap ((a1).tdiv (6:Int))) (0:Int) (i64.wrap ((i64.wrap (num a0 1)) - (1:Int)))))) then (some (.a (.i .i64 (-1:Int)),.none,true))
          else (some (.a (.i .i64 (i64.wrap ((i64.wrap (((a1).tmod (6:Int))+(1:Int)))+(i64.wrap ((6:Int)*(i64.wrap ((a1).tdiv (6:Int)))))))),.none,true))))
      else (bif (a2==(3:Int)) then (bif (!((Zaa ((a1).tmod (6:Int)) (0:Int) (i64.wrap ((i64.wrap (num a0 0)) - (1:Int)))))) then (some (.a (.i .i64 (-1:Int)),.none,true))
          else (bif (!((Zaa (i64.wrap ((i64.wrap ((a1).tdiv (6:Int)))+(1:Int))) (0:Int) (i64.wrap ((i64.wrap (num a0 1)) - (1:Int)))))) then (some (.a (.i .i64 (-1:Int)),.none,true))
            else (some (.a (.i .i64 (i64.wrap (((a1).tmod (6:Int))+(i64.wrap ((6:Int)*(i64.wrap ((i64.wrap ((a1).tdiv (6:Int)))+(1:Int)))))))),.none,true))))
        else (bif (a2==(4:Int)) then (bif (!((Zaa (i64.wrap (((a1).tmod (6:Int)) - (1:Int))) (0:Int) (i64.wrap ((i64.wrap (num a0 0)) - (1:Int)))))) then (some (.a (.i .i64 (-1:Int)),.none,true))
            else (bif (!((Zaa (i64.wrap ((a1).tdiv (6:Int))) (0:Int) (i64.wrap ((i64.wrap (num a0 1)) - (1:Int)))))) then (some (.a (.i .i64 (-1:Int)),.none,true))
              else (some (.a (.i .i64 (i64.wrap ((i64.wrap (((a1).tmod (6:Int)) - (1:Int)))+(i64.wrap ((6:Int)*(i64.wrap ((a1).tdiv (6:Int)))))))),.none,true))))
          else (bif (!((Zaa ((a1).tmod (6:Int)) (0:Int) (i64.wrap ((i64.wrap (num a0 0)) - (1:Int)))))) then (some (.a (.i .i64 (-1:Int)),.none,true))
            else (bif (!((Zaa (i64.wrap ((a1).tdiv (6:Int))) (0:Int) (i64.wrap ((i64.wrap (num a0 1)) - (1:Int)))))) then (some (.a (.i .i64 (-1:Int)),.none,true))
              else (some (.a (.i .i64 (i64.wrap (((a1).tmod (6:Int))+(i64.wrap ((6:Int)*(i64.wrap ((a1).tdiv (6:Int)))))))),.none,true)))))))):=by kernel_rfl
def Zac (a1 a2:Int) (a0:Array Value):Int:=(bif (a2==(1:Int)) then (bif (!((Zaa ((a1).tmod (6:Int)) (0:Int) (i64.wrap ((i64.wrap (num a0 0)) - (1:Int)))))) then (-1:Int) else (bif (!((Zaa (i64.wrap ((i64.wrap ((a1).tdiv (6:Int))) - (1:Int))) (0:Int) (i64.wrap ((i64.wrap (num a0 1)) - (1:Int)))))) then (-1:Int) else (i64.wrap (((a1).tmod (6:Int))+(i64.wrap ((6:Int)*(i64.wrap ((i64.wrap ((a1).tdiv (6:Int))) - (1:Int))))))))) else (bif (a2==(2:Int)) then (bif (!((Zaa (i64.wrap (((a1).tmod (6:Int))+(1:Int))) (0:Int) (i64.wrap ((i64.wrap (num a0 0)) - (1:Int)))))) then (-1:Int) else (bif (!((Zaa (i64.wrap ((a1).tdiv (6:Int))) (0:Int) (i64.wrap ((i64.wrap (num a0 1)) - (1:Int)))))) then (-1:Int) else (i64.wrap ((i64.wrap (((a1).tmod (6:Int))+(1:Int)))+(i64.wrap ((6:Int)*(i64.wrap ((a1).tdiv (6:Int))))))))) else (bif (a2==(3:Int)) then (bif (!((Zaa ((a1).tmod (6:Int)) (0:Int) (i64.wrap ((i64.wrap (num a0 0)) - (1:Int)))))) then (-1:Int) else (bif (!((Zaa (i64.wrap ((i64.wrap ((a1).tdiv (6:Int)))+(1:Int))) (0:Int) (i64.wrap ((i64.wrap (num a0 1)) - (1:Int)))))) then (-1:Int) else (i64.wrap (((a1).tmod (6:Int))+(i64.wrap ((6:Int)*(i64.wrap ((i64.wrap ((a1).tdiv (6:Int)))+(1:Int))))))))) else (bif (a2==(4:Int)) then (bif (!((Zaa (i64.wrap (((a1).tmod (6:Int)) - (1:Int))) (0:Int) (i64.wrap ((i64.wrap (num a0 0)) - (1:Int)))))) then (-1:Int) else (bif (!((Zaa (i64.wrap ((a1).tdiv (6:Int))) (0:Int) (i64.wrap ((i64.wrap (num a0 1)) - (1:Int)))))) then (-1:Int) else (i64.wrap ((i64.wrap (((a1).tmod (6:Int)) - (1:Int)))+(i64.wrap ((6:Int)*(i64.wrap ((a1).tdiv (6:Int))))))))) else (bif (!((Zaa ((a1).tmod (6:Int)) (0:Int) (i64.wrap ((i64.wrap (num a0 0)) - (1:Int)))))) then (-1:Int) else (bif (!((Zaa (i64.wrap ((a1).tdiv (6:Int))) (0:Int) (i64.wrap ((i64.wrap (num a0 1)) - (1:Int)))))) then (-1:Int) else (i64.wrap (((a1).tmod (6:Int))+(i64.wrap ((6:Int)*(i64.wrap ((a1).tdiv (6:Int)))))))))))))
theorem Zxe (a1 a2:Int) (a0:Array Value) (h_a1:i64.min≤a1∧a1≤i64.max) (h_a2:i64.min≤a2∧a2≤i64.max) (h_a0:WT PZ 41 a0) (hg:(true)=true):ansV PZ (mkΓ [(58,con Zcq)]) 1000 Tryz.f63 [] [.w 0,.i .i64 (a1),.i .i64 (a2)] [.row a0 41]=some (.a (.i .i64 (Zac a1 a2 a0)),.none,true):=by
 refine (Zzh 1000 a1 a2 a0).trans ?_
 unfold Zac
 revert hg
 generalize ((a2==(1:Int)))=b2
 intro hg
 cases b2
 ·skip
  revert hg
  generalize ((a2==(2:Int)))=b4
  intro hg
  cases b4
  ·skip
   revert hg
   generalize ((a2==(3:Int)))=b6
   intro hg
   cases b6
   ·skip
    revert hg
    generalize ((a2==(4:Int)))=b8
    intro hg
    cases b8
    ·skip
     revert hg
     generalize ((!((Zaa ((a1).tmod (6:Int)) (0:Int) (i64.wrap ((i64.wrap (num a0 0)) - (1:Int)))))))=b10
     intro hg
     cases b10
     ·skip
      revert hg
      generalize ((!((Zaa (i64.wrap ((a1).tdiv (6:Int))) (0:Int) (i64.wrap ((i64.wrap (num a0 1)) - (1:Int)))))))=b12
      intro hg
      cases b12
      ·skip
       first | (simp only [cond_true,cond_false,Bool.and_true,Bool.true_and,Bool.and_false,Bool.false_and];done) | rfl | exact (nomatch (hg:false=true))
      ·skip
       first | (simp only [cond_true,cond_false,Bool.and_true,Bool.true_and,Bool.and_false,Bool.false_and];done) | rfl | exact (nomatch (hg:false=true))
     ·skip
      first | (simp only [cond_true,cond_false,Bool.and_true,Bool.true_and,Bool.and_false,Bool.false_and];done) | rfl | exact (nomatch (hg:false=true))
    ·skip
     revert hg
     generalize ((!((Zaa (i64.wrap (((a1).tmod (6:Int)) - (1:Int))) (0:Int) (i64.wrap ((i64.wrap (num a0 0)) - (1:Int)))))))=b10
     intro hg
     cases b10
     ·skip
      revert hg
      generalize ((!((Zaa (i64.wrap ((a1).tdiv (6:Int))) (0:Int) (i64.wrap ((i64.wrap (num a0 1)) - (1:Int)))))))=b12
      intro hg
      cases b12
      ·skip
       first | (simp only [cond_true,cond_false,Bool.and_true,Bool.true_and,Bool.and_false,Bool.false_and];done) | rfl | exact (nomatch (hg:false=true))
      ·skip
       first | (simp only [cond_true,cond_false,Bool.and_true,Bool.true_and,Bool.and_false,Bool.false_and];done) | rfl | exact (nomatch (hg:false=true))
     ·skip
      first | (simp only [cond_true,cond_false,Bool.and_true,Bool.true_and,Bool.and_false,Bool.false_and];done) | rfl | exact (nomatch (hg:false=true))
   ·skip
    revert hg
    generalize ((!((Zaa ((a1).tmod (6:Int)) (0:Int) (i64.wrap ((i64.wrap (num a0 0)) - (1:Int)))))))=b8
    intro hg
    cases b8
    ·skip
     revert hg
     generalize ((!((Zaa (i64.wrap ((i64.wrap ((a1).tdiv (6:Int)))+(1:Int))) (0:Int) (i64.wrap ((i64.wrap (num a0 1)) - (1:Int)))))))=b10
     intro hg
     cases b10
     ·skip
      first | (simp only [cond_true,cond_false,Bool.and_true,Bool.true_and,Bool.and_false,Bool.false_and];done) | rfl | exact (nomatch (hg:false=true))
     ·skip
      first | (simp only [cond_true,cond_false,Bool.and_true,Bool.true_and,Bool.and_false,Bool.false_and];done) | rfl | exact (nomatch (hg:false=true))
    ·skip
     first | (simp only [cond_true,cond_false,Bool.and_true,Bool.true_and,Bool.and_false,Bool.false_and];done) | rfl | exact (nomatch (hg:false=true))
  ·skip
   revert hg
   generalize ((!((Zaa (i64.wrap (((a1).tmod (6:Int))+(1:Int))) (0:Int) (i64.wrap ((i64.wrap (num a0 0)) - (1:Int)))))))=b6
   intro hg
   cases b6
   ·skip
    revert hg
    generalize ((!((Zaa (i64.wrap ((a1).tdiv (6:Int))) (0:Int) (i64.wrap ((i64.wrap (num a0 1)) - (1:Int)))))))=b8
    intro hg
    cases b8
    ·skip
     first | (simp only [cond_true,cond_false,Bool.and_true,Bool.true_and,Bool.and_false,Bool.false_and];done) | rfl | exact (nomatch (hg:false=true))
    ·skip
     first | (simp only [cond_true,cond_false,Bool.and_true,Bool.true_and,Bool.and_false,Bool.false_and];done) | rfl | exact (nomatch (hg:false=true))
   ·skip
    first | (simp only [cond_true,cond_false,Bool.and_true,Bool.true_and,Bool.and_false,Bool.false_and];done) | rfl | exact (nomatch (hg:false=true))
 ·skip
  revert hg
  generalize ((!((Zaa ((a1).tmod (6:Int)) (0:Int) (i64.wrap ((i64.wrap (num a0 0)) - (1:Int)))))))=b4
  intro hg
  cases b4
  ·skip
   revert hg
   generalize ((!((Zaa (i64.wrap ((i64.wrap ((a1).tdiv (6:Int))) - (1:Int))) (0:Int) (i64.wrap ((i64.wrap (num a0 1)) - (1:Int)))))))=b6
   intro hg
   cases b6
   ·skip
    first | (simp only [cond_true,cond_false,Bool.and_true,Bool.true_and,Bool.and_false,Bool.false_and];done) | rfl | exact (nomatch (hg:false=true))
   ·skip
    first | (simp only [cond_true,cond_false,Bool.and_true,Bool.true_and,Bool.and_false,Bool.false_and];done) | rfl | exact (nomatch (hg:false=true))
  ·skip
   first | (simp only [cond_true,cond_false,Bool.and_true,Bool.true_and,Bool.and_false,Bool.false_and];done) | rfl | exact (nomatch (hg:false=true))
def Zka:Con:=fun args h=>match args,h with
 | [.w 0,.i .i64 a1,.i .i64 a2],[.row a0 41]=>some (.a (.i .i64 (Zac a1 a2 a0)),.none,true)
 | _,_=>none
theorem Zu0:EntX PZ 63:=Zaf (fn:=Tryz.f63) (by kernel_rfl) (by kernel_rfl) (by kernel_rfl)
theorem Ybq:Uad mn PZ 63 Zka:=(Zah (N:=1000) (by kernel_rfl) (mkΓ_consX (Zad Zi7) Zf7 mkΓ_nilX) (fn:=Tryz.f63) (by kernel_rfl) (by kernel_rfl) []).of (by
 intro ρ h w args vals r e hA hH hr
 unfold Zka at hr
 split at hr
 ·rename_i a1 a2 a0
  obtain ⟨rfl,hg⟩:=Prod.mk.inj (Option.some.inj hr)
  obtain ⟨rfl,hg2⟩:=Prod.mk.inj hg
  exact Zxe a1 a2 a0 (hA.rng 1 rfl) (hA.rng 2 rfl) (hH.wt 0 rfl) hg2
 ·cases hr)
theorem Zy2 (N:Nat)  : ansV PZ (mkΓ []) N Tryz.f102 [] [] []=(some (.a (.g #[.func (.func 103) #[] #[],.func (.func 104) #[] #[],.func (.func 105) #[] #[],.func (.func 106) #[] #[],.func (.func 107) #[] #[]] 172),.none,true)):=by kernel_rfl
theorem Zw4   (hg:(true)=true):ansV PZ (mkΓ []) 1000 Tryz.f102 [] [] []=some (.a (.g #[.func (.func 103) #[] #[],.func (.func 104) #[] #[],.func (.func 105) #[] #[],.func (.func 106) #[] #[],.func (.func 107) #[] #[]] 172),.none,true):=by
 refine (Zy2 1000 ).trans ?_
 rfl
def Zj9:Con:=fun args h=>match args,h with
 | [],[]=>some (.a (.g #[.func (.func 103) #[] #[],.func (.func 104) #[] #[],.func (.func 105) #[] #[],.func (.func 106) #[] #[],.func (.func 107) #[] #[]] 172),.none,true)
 | _,_=>none
theorem Ztp:EntX PZ 102:=Zaf (fn:=Tryz.f102) (by kernel_rfl) (by kernel_rfl) (by kernel_rfl)
theorem Zz9:Uad mn PZ 102 Zj9:=(Zah (N:=1000) (by kernel_rfl) mkΓ_nilX (fn:=Tryz.f102) (by kernel_rfl) (by kernel_rfl) []).of (by
 intro ρ h w args vals r e hA hH hr
 unfold Zj9 at hr
 split at hr
 ·obtain ⟨rfl,hg⟩:=Prod.mk.inj (Option.some.inj hr)
  obtain ⟨rfl,hg2⟩:=Prod.mk.inj hg
  exact Zw4 hg2
 ·cases hr)
theorem Zs6 (N:Nat) (a0:Array Value):ansV PZ (mkΓ []) N Tryz.f103 [] [.g a0 166] []=(some (.a (.g a0 166),.none,true)):=by kernel_rfl
theorem Zro (a0:Array Value) (h_a0:WT PZ 166 a0) (hg:(true)=true):ansV PZ (mkΓ []) 1000 Tryz.f103 [] [.g a0 166] []=some (.a (.g a0 166),.none,true):=by
 refine (Zs6 1000 a0).trans ?_
 rfl
def Zig:Con:=fun args h=>match args,h with
 | [.g a0 166],[]=>some (.a (.g a0 166),.none,true)
 | _,_=>none
theorem Zpt:EntX PZ 103:=Zaf (fn:=Tryz.f103) (by kernel_rfl) (by kernel_rfl) (by kernel_rfl)
theorem Zvr:Uad mn PZ 103 Zig:=(Zah (N:=1000) (by kernel_rfl) mkΓ_nilX (fn:=Tryz.f103) (by kernel_rfl) (by kernel_rfl) []).of (by
 intro ρ h w args vals r e hA hH hr
 unfold Zig at hr
 split at hr
 ·rename_i a0
  obtain ⟨rfl,hg⟩:=Prod.mk.inj (Option.some.inj hr)
  obtain ⟨rfl,hg2⟩:=Prod.mk.inj hg
  exact Zro a0 (hA.wt 0 rfl) hg2
 ·cases hr)
theorem Zrt (N:Nat) (a0:Array Value):ansV PZ (mkΓ []) N Tryz.f104 [] [.g a0 166] []=(some (.a (.g #[.int .i64 (num a0 0),.int .i64 (i64.wrap ((num a0 1) - (1:Int)))] 166),.none,true)):=by kernel_rfl
theorem Zqz (a0:Array Value) (h_a0:WT PZ 166 a0) (hg:(true)=true):ansV PZ (mkΓ []) 1000 Tryz.f104 [] [.g a0 166] []=some (.a (.g #[.int .i64 (num a0 0),.int .i64 (i64.wrap ((num a0 1) - (1:Int)))] 166),.none,true):=by
 refine (Zrt 1000 a0).trans ?_
 rfl
def Zhs:Con:=fun args h=>match args,h with
 | [.g a0 166],[]=>some (.a (.g #[.int .i64 (num a0 0),.int .i64 (i64.wrap ((num a0 1) - (1:Int)))] 166),.none,true)
 | _,_=>none
theorem Zo5:EntX PZ 104:=Zaf (fn:=Tryz.f104) (by kernel_rfl) (by kernel_rfl) (by kernel_rfl)
theorem Zs3:Uad mn PZ 104 Zhs:=(Zah (N:=1000) (by kernel_rfl) mkΓ_nilX (fn:=Tryz.f104) (by kernel_rfl) (by kernel_rfl) []).of (by
 intro ρ h w args vals r e hA hH hr
 unfold Zhs at hr
 split at hr
 ·rename_i a0
  obtain ⟨rfl,hg⟩:=Prod.mk.inj (Option.some.inj hr)
  obtain ⟨rfl,hg2⟩:=Prod.mk.inj hg
  exact Zqz a0 (hA.wt 0 rfl) hg2
 ·cases hr)
theorem Ztc (N:Nat) (a0:Array Value):ansV PZ (mkΓ []) N Tryz.f105 [] [.g a0 166] []=(some (.a (.g #[.int .i64 (i64.wrap ((num a0 0)+(1:Int))),.int .i64 (num a0 1)] 166),.none,true)):=by kernel_rfl
theorem Zrv (a0:Array Value) (h_a0:WT PZ 166 a0) (hg:(true)=true):ansV PZ (mkΓ []) 1000 Tryz.f105 [] [.g a0 166] []=some (.a (.g #[.int .i64 (i64.wrap ((num a0 0)+(1:Int))),.int .i64 (num a0 1)] 166),.none,true):=by
 refine (Ztc 1000 a0).trans ?_
 rfl
def Zh8:Con:=fun args h=>match args,h with
 | [.g a0 166],[]=>some (.a (.g #[.int .i64 (i64.wrap ((num a0 0)+(1:Int))),.int .i64 (num a0 1)] 166),.none,true)
 | _,_=>none
theorem Zq1:EntX PZ 105:=Zaf (fn:=Tryz.f105) (by kernel_rfl) (by kernel_rfl) (by kernel_rfl)
theorem Zvd:Uad mn PZ 105 Zh8:=(Zah (N:=1000) (by kernel_rfl) mkΓ_nilX (fn:=Tryz.f105) (by kernel_rfl) (by kernel_rfl) []).of (by
 intro ρ h w args vals r e hA hH hr
 unfold Zh8 at hr
 split at hr
 ·rename_i a0
  obtain ⟨rfl,hg⟩:=Prod.mk.inj (Option.some.inj hr)
  obtain ⟨rfl,hg2⟩:=Prod.mk.inj hg
  exact Zrv a0 (hA.wt 0 rfl) hg2
 ·cases hr)
theorem Zrx (N:Nat) (a0:Array Value):ansV PZ (mkΓ []) N Tryz.f106 [] [.g a0 166] []=(some (.a (.g #[.int .i64 (num a0 0),.int .i64 (i64.wrap ((num a0 1)+(1:Int)))] 166),.none,true)):=by kernel_rfl
theorem Zpd (a0:Array Value) (h_a0:WT PZ 166 a0) (hg:(true)=true):ansV PZ (mkΓ []) 1000 Tryz.f106 [] [.g a0 166] []=some (.a (.g #[.int .i64 (num a0 0),.int .i64 (i64.wrap ((num a0 1)+(1:Int)))] 166),.none,true):=by
 refine (Zrx 1000 a0).trans ?_
 rfl
def Zho:Con:=fun args h=>match args,h with
 | [.g a0 166],[]=>some (.a (.g #[.int .i64 (num a0 0),.int .i64 (i64.wrap ((num a0 1)+(1:Int)))] 166),.none,true)
 | _,_=>none
theorem Zo9:EntX PZ 106:=Zaf (fn:=Tryz.f106) (by kernel_rfl) (by kernel_rfl) (by kernel_rfl)
theorem Zti:Uad mn PZ 106 Zho:=(Zah (N:=1000) (by kernel_rfl) mkΓ_nilX (fn:=Tryz.f106) (by kernel_rfl) (by kernel_rfl) []).of (by
 intro ρ h w args vals r e hA hH hr
 unfold Zho at hr
 split at hr
 ·rename_i a0
  obtain ⟨rfl,hg⟩:=Prod.mk.inj (Option.some.inj hr)
  obtain ⟨rfl,hg2⟩:=Prod.mk.inj hg
  exact Zpd a0 (hA.wt 0 rfl) hg2
 ·cases hr)
theorem Zs1 (N:Nat) (a0:Array Value):ansV PZ (mkΓ []) N Tryz.f107 [] [.g a0 166] []=(some (.a (.g #[.int .i64 (i64.wrap ((num a0 0) - (1:Int))),.int .i64 (num a0 1)] 166),.none,true)):=by kernel_rfl
theorem Zr8 (a0:Array Value) (h_a0:WT PZ 166 a0) (hg:(true)=true):ansV PZ (mkΓ []) 1000 Tryz.f107 [] [.g a0 166] []=some (.a (.g #[.int .i64 (i64.wrap ((num a0 0) - (1:Int))),.int .i64 (num a0 1)] 166),.none,true):=by
 refine (Zs1 1000 a0).trans ?_
 rfl
def Zid:Con:=fun args h=>match args,h with
 | [.g a0 166],[]=>some (.a (.g #[.int .i64 (i64.wrap ((num a0 0) - (1:Int))),.int .i64 (num a0 1)] 166),.none,true)
 | _,_=>none
theorem Zpy:EntX PZ 107:=Zaf (fn:=Tryz.f107) (by kernel_rfl) (by kernel_rfl) (by kernel_rfl)
theorem Zvw:Uad mn PZ 107 Zid:=(Zah (N:=1000) (by kernel_rfl) mkΓ_nilX (fn:=Tryz.f107) (by kernel_rfl) (by kernel_rfl) []).of (by
 intro ρ h w args vals r e hA hH hr
 unfold Zid at hr
 split at hr
 ·rename_i a0
  obtain ⟨rfl,hg⟩:=Prod.mk.inj (Option.some.inj hr)
  obtain ⟨rfl,hg2⟩:=Prod.mk.inj hg
  exact Zr8 a0 (hA.wt 0 rfl) hg2
 ·cases hr)
theorem Ycc (N:Nat) (a0 a1:Int):ansV PZ (mkΓ []) N Tryz.f95 [] [.i .i64 (a0),.i .i64 (a1)] []=(some (.a (.i .i64 (((i64.wrap (a0+a1))).tmod (2:Int))),.none,true)):=by kernel_rfl
theorem Zyc (a0 a1:Int) (h_a0:i64.min≤a0∧a0≤i64.max) (h_a1:i64.min≤a1∧a1≤i64.max) (hg:(true)=true):ansV PZ (mkΓ []) 1000 Tryz.f95 [] [.i .i64 (a0),.i .i64 (a1)] []=some (.a (.i .i64 (((i64.wrap (a0+a1))).tmod (2:Int))),.none,true):=by
 refine (Ycc 1000 a0 a1).trans ?_
 rfl
def Zlx:Con:=fun args h=>match args,h with
 | [.i .i64 a0,.i .i64 a1],[]=>some (.a (.i .i64 (((i64.wrap (a0+a1))).tmod (2:Int))),.none,true)
 | _,_=>none
theorem Zxg:EntX PZ 95:=Zaf (fn:=Tryz.f95) (by kernel_rfl) (by kernel_rfl) (by kernel_rfl)
theorem Ycs:Uad mn PZ 95 Zlx:=(Zah (N:=1000) (by kernel_rfl) mkΓ_nilX (fn:=Tryz.f95) (by kernel_rfl) (by kernel_rfl) []).of (by
 intro ρ h w args vals r e hA hH hr
 unfold Zlx at hr
 split at hr
 ·rename_i a0 a1
  obtain ⟨rfl,hg⟩:=Prod.mk.inj (Option.some.inj hr)
  obtain ⟨rfl,hg2⟩:=Prod.mk.inj hg
  exact Zyc a0 a1 (hA.rng 0 rfl) (hA.rng 1 rfl) hg2
 ·cases hr)
def chW (S:Array Value) (t c:Int) (w:Nat):Int:=i64.wrap (num S (((3+(t.toNat*180))+(c.toNat*5))+w))
def gw (S:Array Value) (k:Nat):Nat→Int
 | 0=>(k:Int)
 | 1=>bif decide (6≤k) then (k:Int) - 6 else -1
 | 2=>bif decide (((k % 6:Nat):Int)+1<num S 0) then (k:Int)+1 else -1
 | 3=>bif decide (((k / 6:Nat):Int)+1<num S 1) then (k:Int)+6 else -1
 | _=>bif decide (1≤k % 6) then (k:Int) - 1 else -1
theorem w64 {n:Int} (h: -1000≤n∧n≤1000):i64.wrap n=n:=IntWalk.i64_in n (by omega)
theorem in_eq (n lo hi:Int):Zaa n lo hi=decide (lo≤n∧n≤hi):=by
 unfold Zaa
 by_cases h1:lo≤n
 ·rw [decide_eq_true (show n ≥ lo from h1)]
  by_cases h2:n≤hi
  ·rw [decide_eq_true h2,decide_eq_true (And.intro h1 h2)];rfl
  ·rw [decide_eq_false h2,decide_eq_false (show ¬ (lo≤n∧n≤hi) from fun h=>h2 h.2)];rfl
 ·rw [decide_eq_false (show ¬ n ≥ lo from h1),decide_eq_false (show ¬ (lo≤n∧n≤hi) from fun h=>h1 h.1)];rfl
theorem Yj1 {w h:Int} {k:Nat} (hi:inC w h k=true):((k % 6:Nat):Int)<w∧((k / 6:Nat):Int)<h:=by
 unfold inC at hi
 simp only [Bool.and_eq_true,decide_eq_true_eq] at hi
 exact hi
theorem xy {k:Nat} (hk:k<36):((k:Int)).tmod 6=((k % 6:Nat):Int)∧((k:Int)).tdiv 6=((k / 6:Nat):Int):=by
 constructor
 ·rw [Int.tmod_eq_emod_of_nonneg (by omega)];omega
 ·rw [Int.tdiv_eq_ediv_of_nonneg (by omega)];omega
theorem Zzz {S:Array Value} (h0:1≤num S 0∧num S 0≤6∧1≤num S 1∧num S 1≤6) {k:Nat} (hk:k<36) (hi:inC (num S 0) (num S 1) k=true) (w:Nat) (hw:w<5):Zac (k:Int) (w:Int) S=gw S k w:=by
 obtain ⟨a1,a2,a3,a4⟩:=h0
 obtain ⟨hx,hy⟩:=Yj1 hi
 obtain ⟨ex,ey⟩:=xy hk
 have hxl:k % 6<6:=Nat.mod_lt _ (by omega)
 have hyl:k / 6<6:=by omega
 have hk6:k=6*(k / 6)+k % 6:=by omega
 unfold Zac
 simp only [in_eq,ex,ey]
 rw [w64 (n:=num S 0) (by omega),w64 (n:=num S 1) (by omega),w64 (n:=num S 0 - 1) (by omega),w64 (n:=num S 1 - 1) (by omega),w64 (n:=((k / 6:Nat):Int)) (by omega),w64 (n:=((k / 6:Nat):Int) - 1) (by omega),w64 (n:=((k / 6:Nat):Int)+1) (by omega),w64 (n:=((k % 6:Nat):Int) - 1) (by omega),w64 (n:=((k % 6:Nat):Int)+1) (by omega),w64 (n:=6*((k / 6:Nat):Int)) (by omega),w64 (n:=6*(((k / 6:Nat):Int) - 1)) (by omega),w64 (n:=6*(((k / 6:Nat):Int)+1)) (by omega)]
 have b0:decide (0≤((k % 6:Nat):Int)∧((k % 6:Nat):Int)≤num S 0 - 1)=true:=decide_eq_true (by omega)
 have b1:decide (0≤((k / 6:Nat):Int)∧((k / 6:Nat):Int)≤num S 1 - 1)=true:=decide_eq_true (by omega)
 generalize hX:k % 6=X at *
 generalize hY:k / 6=Y at *
 match w,hw with
 | 0,_=>
  show (bif ((0:Int)==1) then _ else (bif ((0:Int)==2) then _ else (bif ((0:Int)==3) then _ else (bif ((0:Int)==4) then _ else _))))=_
  simp only [show ((0:Int)==1)=false from rfl,show ((0:Int)==2)=false from rfl,show ((0:Int)==3)=false from rfl,show ((0:Int)==4)=false from rfl,cond_false,b0,b1,Bool.not_true]
  rw [w64 (by omega)];show _=(k:Int);omega
 | 1,_=>
  simp only [show (((1:Nat):Int)==1)=true from rfl,cond_true,b0,Bool.not_true,cond_false]
  unfold gw
  by_cases c:1≤Y
  ·rw [decide_eq_true (show 0≤((Y:Nat):Int) - 1∧((Y:Nat):Int) - 1≤num S 1 - 1 by omega),decide_eq_true (show 6≤k by omega)]
   simp only [Bool.not_true,cond_false,cond_true]
   rw [w64 (by omega)];omega
  ·rw [decide_eq_false (show ¬ (0≤((Y:Nat):Int) - 1∧((Y:Nat):Int) - 1≤num S 1 - 1) by omega),decide_eq_false (show ¬ 6≤k by omega)]
   rfl
 | 2,_=>
  simp only [show (((2:Nat):Int)==1)=false from rfl,show (((2:Nat):Int)==2)=true from rfl,cond_true,b1,Bool.not_true,cond_false]
  unfold gw
  rw [hX]
  by_cases c:((X:Nat):Int)+1<num S 0
  ·rw [decide_eq_true (show 0≤((X:Nat):Int)+1∧((X:Nat):Int)+1≤num S 0 - 1 by omega),decide_eq_true c]
   simp only [Bool.not_true,cond_false,cond_true]
   rw [w64 (by omega)];omega
  ·rw [decide_eq_false (show ¬ (0≤((X:Nat):Int)+1∧((X:Nat):Int)+1≤num S 0 - 1) by omega),decide_eq_false c]
   rfl
 | 3,_=>
  simp only [show (((3:Nat):Int)==1)=false from rfl,show (((3:Nat):Int)==2)=false from rfl,show (((3:Nat):Int)==3)=true from rfl,cond_true,b0,Bool.not_true,cond_false]
  unfold gw
  rw [hY]
  by_cases c:((Y:Nat):Int)+1<num S 1
  ·rw [decide_eq_true (show 0≤((Y:Nat):Int)+1∧((Y:Nat):Int)+1≤num S 1 - 1 by omega),decide_eq_true c]
   simp only [Bool.not_true,cond_false,cond_true]
   rw [w64 (by omega)];omega
  ·rw [decide_eq_false (show ¬ (0≤((Y:Nat):Int)+1∧((Y:Nat):Int)+1≤num S 1 - 1) by omega),decide_eq_false c]
   rfl
 | 4,_=>
  simp only [show (((4:Nat):Int)==1)=false from rfl,show (((4:Nat):Int)==2)=false from rfl,show (((4:Nat):Int)==3)=false from rfl,show (((4:Nat):Int)==4)=true from rfl,cond_true,b1,Bool.not_true,cond_false]
  unfold gw
  rw [hX]
  by_cases c:1≤X
  ·rw [decide_eq_true (show 0≤((X:Nat):Int) - 1∧((X:Nat):Int) - 1≤num S 0 - 1 by omega),decide_eq_true c]
   simp only [Bool.not_true,cond_false,cond_true]
   rw [w64 (by omega)];omega
  ·rw [decide_eq_false (show ¬ (0≤((X:Nat):Int) - 1∧((X:Nat):Int) - 1≤num S 0 - 1) by omega),decide_eq_false c]
   rfl
theorem Zzl {S:Array Value} (h0:1≤num S 0∧num S 0≤6∧1≤num S 1∧num S 1≤6) {k:Nat} (hk:k<36) (hi:inC (num S 0) (num S 1) k=true) (w:Nat) (hw:w<5) (hn:gw S k w ≠ -1):0≤gw S k w∧gw S k w<36:=by
 obtain ⟨hx,hy⟩:=Yj1 hi
 obtain ⟨a1,a2,a3,a4⟩:=h0
 have hk6:k=6*(k / 6)+k % 6:=by omega
 match w,hw with
 | 0,_=>exact ⟨by show 0≤(k:Int);omega,by show (k:Int)<36;omega⟩
 | 1,_=>
  unfold gw at hn⊢
  by_cases c:6≤k
  ·simp only [c,decide_true,cond_true];omega
  ·simp [c] at hn
 | 2,_=>
  unfold gw at hn⊢
  by_cases c:((k % 6:Nat):Int)+1<num S 0
  ·simp only [decide_eq_true c,cond_true];omega
  ·simp only [decide_eq_false c,cond_false] at hn;exact absurd rfl hn
 | 3,_=>
  unfold gw at hn⊢
  by_cases c:((k / 6:Nat):Int)+1<num S 1
  ·simp only [decide_eq_true c,cond_true];omega
  ·simp only [decide_eq_false c,cond_false] at hn;exact absurd rfl hn
 | 4,_=>
  unfold gw at hn⊢
  by_cases c:1≤k % 6
  ·simp only [c,decide_true,cond_true];omega
  ·simp [c] at hn
def Zga:Cons:=(mkΓ [(94,con Zio),(99,con Zg4),(100,con Zhz),(102,con Zj9),(103,con Zig),(104,con Zhs),(105,con Zh8),(106,con Zho),(107,con Zid)])
def toP (c:Int):Nat→Array Value
 | 0=>#[.int .i64 (c.tmod 6),.int .i64 (i64.wrap (c.tdiv 6))]
 | 1=>#[.int .i64 (c.tmod 6),.int .i64 (i64.wrap (i64.wrap (c.tdiv 6) - 1))]
 | 2=>#[.int .i64 (i64.wrap (c.tmod 6+1)),.int .i64 (i64.wrap (c.tdiv 6))]
 | 3=>#[.int .i64 (c.tmod 6),.int .i64 (i64.wrap (i64.wrap (c.tdiv 6)+1))]
 | _=>#[.int .i64 (i64.wrap (c.tmod 6 - 1)),.int .i64 (i64.wrap (c.tdiv 6))]
def Uaw (S:Array Value) (c:Int) (w:Nat):Int:=bif Zap S (toP c w) then i64.wrap (num (toP c w) 0+i64.wrap (6*num (toP c w) 1)) else -1
theorem Zwx (a0:Array Value) (a1 a2:Int) (h_a0:WT PZ 41 a0) (h_a1:i64.min≤a1∧a1≤i64.max) (h_a2:i64.min≤a2∧a2≤i64.max) (hg:((decide (0≤a2)&&decide (a2<5)))=true):ansV PZ Zga 1000 Tryz.f97 [] [.g a0 41,.i .i64 (a1),.i .i64 (a2)] []=some (.a (.i .i64 (Uaw a0 a1 a2.toNat)),.none,true):=by
 simp only [Bool.and_eq_true,decide_eq_true_eq] at hg
 obtain ⟨h0,h5⟩:=hg
 obtain ⟨w,rfl⟩:=Int.eq_ofNat_of_zero_le h0
 match w,h5 with
 | 0,_=>
  have h:ansV PZ Zga 1000 Tryz.f97 [] [.g a0 41,.i .i64 a1,.i .i64 ((0:Nat):Int)] []=(bif (!(Zap a0 (toP a1 0))) then (some (.a (.i .i64 (-1:Int)),.none,true)) else (some (.a (.i .i64 (i64.wrap (num (toP a1 0) 0+i64.wrap (6*num (toP a1 0) 1)))),.none,true))):=by kernel_rfl
  refine h.trans ?_
  rw [Int.toNat_natCast]
  unfold Uaw
  cases Zap a0 (toP a1 0)<;>rfl
 | 1,_=>
  have h:ansV PZ Zga 1000 Tryz.f97 [] [.g a0 41,.i .i64 a1,.i .i64 ((1:Nat):Int)] []=(bif (!(Zap a0 (toP a1 1))) then (some (.a (.i .i64 (-1:Int)),.none,true)) else (some (.a (.i .i64 (i64.wrap (num (toP a1 1) 0+i64.wrap (6*num (toP a1 1) 1)))),.none,true))):=by kernel_rfl
  refine h.trans ?_
  rw [Int.toNat_natCast]
  unfold Uaw
  cases Zap a0 (toP a1 1)<;>rfl
 | 2,_=>
  have h:ansV PZ Zga 1000 Tryz.f97 [] [.g a0 41,.i .i64 a1,.i .i64 ((2:Nat):Int)] []=(bif (!(Zap a0 (toP a1 2))) then (some (.a (.i .i64 (-1:Int)),.none,true)) else (some (.a (.i .i64 (i64.wrap (num (toP a1 2) 0+i64.wrap (6*num (toP a1 2) 1)))),.none,true))):=by kernel_rfl
  refine h.trans ?_
  rw [Int.toNat_natCast]
  unfold Uaw
  cases Zap a0 (toP a1 2)<;>rfl
 | 3,_=>
  have h:ansV PZ Zga 1000 Tryz.f97 [] [.g a0 41,.i .i64 a1,.i .i64 ((3:Nat):Int)] []=(bif (!(Zap a0 (toP a1 3))) then (some (.a (.i .i64 (-1:Int)),.none,true)) else (some (.a (.i .i64 (i64.wrap (num (toP a1 3) 0+i64.wrap (6*num (toP a1 3) 1)))),.none,true))):=by kernel_rfl
  refine h.trans ?_
  rw [Int.toNat_natCast]
  unfold Uaw
  cases Zap a0 (toP a1 3)<;>rfl
 | 4,_=>
  have h:ansV PZ Zga 1000 Tryz.f97 [] [.g a0 41,.i .i64 a1,.i .i64 ((4:Nat):Int)] []=(bif (!(Zap a0 (toP a1 4))) then (some (.a (.i .i64 (-1:Int)),.none,true)) else (some (.a (.i .i64 (i64.wrap (num (toP a1 4) 0+i64.wrap (6*num (toP a1 4) 1)))),.none,true))):=by kernel_rfl
  refine h.trans ?_
  rw [Int.toNat_natCast]
  unfold Uaw
  cases Zap a0 (toP a1 4)<;>rfl
 | _+5,h=>omega
def Zj6:Con:=fun args h=>match args,h with
 | [.g a0 41,.i .i64 a1,.i .i64 a2],[]=>some (.a (.i .i64 (Uaw a0 a1 a2.toNat)),.none,(decide (0≤a2)&&decide (a2<5)))
 | _,_=>none
theorem Zux:EntX PZ 97:=Zaf (fn:=Tryz.f97) (by kernel_rfl) (by kernel_rfl) (by kernel_rfl)
theorem Ybz:Uad mn PZ 97 Zj6:=(Zah (N:=1000) (by kernel_rfl) (mkΓ_consX (Zad Zsg) Znd (mkΓ_consX (Zad Zoq) Zlj (mkΓ_consX (Zad Zpu) Zmf (mkΓ_consX (Zad Zz9) Ztp (mkΓ_consX (Zad Zvr) Zpt (mkΓ_consX (Zad Zs3) Zo5 (mkΓ_consX (Zad Zvd) Zq1 (mkΓ_consX (Zad Zti) Zo9 (mkΓ_consX (Zad Zvw) Zpy mkΓ_nilX))))))))) (fn:=Tryz.f97) (by kernel_rfl) (by kernel_rfl) []).of (by
 intro ρ h w args vals r e hA hH hr
 unfold Zj6 at hr
 split at hr
 ·rename_i a0 a1 a2
  obtain ⟨rfl,hg⟩:=Prod.mk.inj (Option.some.inj hr)
  obtain ⟨rfl,hg2⟩:=Prod.mk.inj hg
  exact Zwx a0 a1 a2 (hA.wt 0 rfl) (hA.rng 1 rfl) (hA.rng 2 rfl) hg2
 ·cases hr)
theorem Ztu {S:Array Value} (h0:1≤num S 0∧num S 0≤6∧1≤num S 1∧num S 1≤6) (x y:Int) (hx: -10≤x∧x≤10) (hy: -10≤y∧y≤10):Zap S #[.int .i64 x,.int .i64 y]=decide (0≤x∧x<num S 0∧0≤y∧y<num S 1):=by
 show (bif decide (x ≥ 0) then (bif decide (x<i64.wrap (num S 0)) then (bif decide (y ≥ 0) then decide (y<i64.wrap (num S 1)) else false) else false) else false)=_
 rw [w64 (n:=num S 0) (by omega),w64 (n:=num S 1) (by omega)]
 by_cases h1:0≤x
 ·rw [decide_eq_true (show x ≥ 0 from h1)]
  by_cases h2:x<num S 0
  ·rw [decide_eq_true h2]
   by_cases h3:0≤y
   ·rw [decide_eq_true (show y ≥ 0 from h3),cond_true,cond_true,cond_true]
    exact decide_eq_decide.2 ⟨fun h=>⟨h1,h2,h3,h⟩,fun h=>h.2.2.2⟩
   ·rw [decide_eq_false (show ¬ y ≥ 0 from h3),decide_eq_false (show ¬ (0≤x∧x<num S 0∧0≤y∧y<num S 1) by omega)];rfl
  ·rw [decide_eq_false h2,decide_eq_false (show ¬ (0≤x∧x<num S 0∧0≤y∧y<num S 1) by omega)];rfl
 ·rw [decide_eq_false (show ¬ x ≥ 0 from h1),decide_eq_false (show ¬ (0≤x∧x<num S 0∧0≤y∧y<num S 1) by omega)];rfl
theorem Yll {S:Array Value} (h0:1≤num S 0∧num S 0≤6∧1≤num S 1∧num S 1≤6) {k:Nat} (hk:k<36) (hi:inC (num S 0) (num S 1) k=true) (w:Nat) (hw:w<5):Uaw S (k:Int) w=gw S k w:=by
 obtain ⟨hx,hy⟩:=Yj1 hi
 obtain ⟨ex,ey⟩:=xy hk
 have hxl:k % 6<6:=Nat.mod_lt _ (by omega)
 have hyl:k / 6<6:=by omega
 have hk6:k=6*(k / 6)+k % 6:=by omega
 unfold Uaw
 match w,hw with
 | 0,_=>
  simp only [toP]
  rw [ex,ey,w64 (n:=((k / 6:Nat):Int)) (by omega),Ztu h0 _ _ (by omega) (by omega),decide_eq_true (by omega)]
  show i64.wrap (((k % 6:Nat):Int)+i64.wrap (6*((k / 6:Nat):Int)))=(k:Int)
  rw [w64 (n:=6*((k / 6:Nat):Int)) (by omega),w64 (by omega)];omega
 | 1,_=>
  simp only [toP,gw]
  rw [ex,ey,w64 (n:=((k / 6:Nat):Int)) (by omega),w64 (n:=((k / 6:Nat):Int) - 1) (by omega),Ztu h0 _ _ (by omega) (by omega)]
  by_cases c:6≤k
  ·rw [decide_eq_true (show 0≤((k % 6:Nat):Int)∧((k % 6:Nat):Int)<num S 0∧0≤((k / 6:Nat):Int) - 1∧((k / 6:Nat):Int) - 1<num S 1 by omega),decide_eq_true c]
   show i64.wrap (((k % 6:Nat):Int)+i64.wrap (6*(((k / 6:Nat):Int) - 1)))=(k:Int) - 6
   rw [w64 (n:=6*(((k / 6:Nat):Int) - 1)) (by omega),w64 (by omega)];omega
  ·rw [decide_eq_false (show ¬ (0≤((k % 6:Nat):Int)∧((k % 6:Nat):Int)<num S 0∧0≤((k / 6:Nat):Int) - 1∧((k / 6:Nat):Int) - 1<num S 1) by omega),decide_eq_false c];rfl
 | 2,_=>
  simp only [toP,gw]
  rw [ex,ey,w64 (n:=((k / 6:Nat):Int)) (by omega),w64 (n:=((k % 6:Nat):Int)+1) (by omega),Ztu h0 _ _ (by omega) (by omega)]
  by_cases c:((k % 6:Nat):Int)+1<num S 0
  ·rw [decide_eq_true (show 0≤((k % 6:Nat):Int)+1∧((k % 6:Nat):Int)+1<num S 0∧0≤((k / 6:Nat):Int)∧((k / 6:Nat):Int)<num S 1 by omega),decide_eq_true c]
   show i64.wrap (((k % 6:Nat):Int)+1+i64.wrap (6*((k / 6:Nat):Int)))=(k:Int)+1
   rw [w64 (n:=6*((k / 6:Nat):Int)) (by omega),w64 (by omega)];omega
  ·rw [decide_eq_false (show ¬ (0≤((k % 6:Nat):Int)+1∧((k % 6:Nat):Int)+1<num S 0∧0≤((k / 6:Nat):Int)∧((k / 6:Nat):Int)<num S 1) by omega),decide_eq_false c];rfl
 | 3,_=>
  simp only [toP,gw]
  rw [ex,ey,w64 (n:=((k / 6:Nat):Int)) (by omega),w64 (n:=((k / 6:Nat):Int)+1) (by omega),Ztu h0 _ _ (by omega) (by omega)]
  by_cases c:((k / 6:Nat):Int)+1<num S 1
  ·rw [decide_eq_true (show 0≤((k % 6:Nat):Int)∧((k % 6:Nat):Int)<num S 0∧0≤((k / 6:Nat):Int)+1∧((k / 6:Nat):Int)+1<num S 1 by omega),decide_eq_true c]
   show i64.wrap (((k % 6:Nat):Int)+i64.wrap (6*(((k / 6:Nat):Int)+1)))=(k:Int)+6
   rw [w64 (n:=6*(((k / 6:Nat):Int)+1)) (by omega),w64 (by omega)];omega
  ·rw [decide_eq_false (show ¬ (0≤((k % 6:Nat):Int)∧((k % 6:Nat):Int)<num S 0∧0≤((k / 6:Nat):Int)+1∧((k / 6:Nat):Int)+1<num S 1) by omega),decide_eq_false c];rfl
 | 4,_=>
  simp only [toP,gw]
  rw [ex,ey,w64 (n:=((k / 6:Nat):Int)) (by omega),w64 (n:=((k % 6:Nat):Int) - 1) (by omega),Ztu h0 _ _ (by omega) (by omega)]
  by_cases c:1≤k % 6
  ·rw [decide_eq_true (show 0≤((k % 6:Nat):Int) - 1∧((k % 6:Nat):Int) - 1<num S 0∧0≤((k / 6:Nat):Int)∧((k / 6:Nat):Int)<num S 1 by omega),decide_eq_true c]
   show i64.wrap (((k % 6:Nat):Int) - 1+i64.wrap (6*((k / 6:Nat):Int)))=(k:Int) - 1
   rw [w64 (n:=6*((k / 6:Nat):Int)) (by omega),w64 (by omega)];omega
  ·rw [decide_eq_false (show ¬ (0≤((k % 6:Nat):Int) - 1∧((k % 6:Nat):Int) - 1<num S 0∧0≤((k / 6:Nat):Int)∧((k / 6:Nat):Int)<num S 1) by omega),decide_eq_false c];rfl
end
end Go.Proofs.YtflnjkpejbohjaaGreatDoor
