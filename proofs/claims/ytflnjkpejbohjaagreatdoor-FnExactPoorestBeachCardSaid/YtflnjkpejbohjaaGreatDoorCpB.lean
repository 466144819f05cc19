/- Plans taken, and what is released in an hour. -/
import Derived.Test.YtflnjkpejbohjaaGreatDoorProg
import Derived.Test.YtflnjkpejbohjaaGreatDoorCpA
import Derived.Test.YtflnjkpejbohjaaGreatDoorAsX
namespace Go.Proofs.YtflnjkpejbohjaaGreatDoor
open Go.ChangeShapes Go.WideShapes Go.ChangeAt Go.RowKit Ve Vc
open Tryz renaming prog → PZ
open IntKind (i64)
set_option linter.unusedVariables false
set_option linter.unusedSimpArgs false
set_option maxRecDepth 100000
noncomputable section
variable {F:Vc.Fd}
abbrev Zm9:Con:=Ues
theorem Ztg:EntX PZ 26:=Ye2
theorem Zyz:Uad (md F) PZ 26 Zm9:=Ykg
theorem Zwk (N:Nat) (a0:Array Value) (a1:Int):ansV PZ (mkΓ [(67,con Zfm)]) N Tryz.f47 [] [.g a0 41,.i .u64 (a1)] []=(bif (decide (0≤num a0 0)&&decide (num a0 0≤6)&&(decide (0≤num a0 1)&&decide (num a0 1≤6))) then (some (.a (.b (((IntKind.u64.wrap (BitVec.ofInt IntKind.u64.bits a1 &&& ~~~(BitVec.ofInt IntKind.u64.bits (Uat (num a0 0) (num a0 1) 36))).toNat)==(0:Int)))),.none,true))
  else (none)):=by kernel_rfl
def Zag (a0:Array Value) (a1:Int):Bool:=((IntKind.u64.wrap (BitVec.ofInt IntKind.u64.bits a1 &&& ~~~(BitVec.ofInt IntKind.u64.bits (Uat (num a0 0) (num a0 1) 36))).toNat)==(0:Int))
def Zc6 (a0:Array Value) (a1:Int):Bool:=(decide (0≤num a0 0)&&decide (num a0 0≤6)&&(decide (0≤num a0 1)&&decide (num a0 1≤6)))
theorem Zt5 (a0:Array Value) (a1:Int) (h_a0:WT PZ 41 a0) (h_a1:IntKind.u64.min≤a1∧a1≤IntKind.u64.max) (hg:((Zc6 a0 a1))=true):ansV PZ (mkΓ [(67,con Zfm)]) 1000 Tryz.f47 [] [.g a0 41,.i .u64 (a1)] []=some (.a (.b ((Zag a0 a1))),.none,true):=by
 refine (Zwk 1000 a0 a1).trans ?_
 unfold Zc6 at hg
 unfold Zag
 revert hg
 generalize ((decide (0≤num a0 0)&&decide (num a0 0≤6)&&(decide (0≤num a0 1)&&decide (num a0 1≤6))))=b2
 intro hg
 cases b2
 ·skip
  first | exact (nomatch (hg:false=true)) | (simp only [cond_true,cond_false,Bool.and_true,Bool.true_and,Bool.and_false,Bool.false_and];done) | rfl
 ·skip
  first | (simp only [cond_true,cond_false,Bool.and_true,Bool.true_and,Bool.and_false,Bool.false_and];done) | rfl | exact (nomatch (hg:false=true))
def Zjt:Con:=fun args h=>match args,h with
 | [.g a0 41,.i .u64 a1],[]=>some (.a (.b ((Zag a0 a1))),.none,(Zc6 a0 a1))
 | _,_=>none
theorem Zih:EntX PZ 47:=Zaf (fn:=Tryz.f47) (by kernel_rfl) (by kernel_rfl) (by kernel_rfl)
theorem Zks:Uad (md F) PZ 47 Zjt:=(Zah (N:=1000) (by kernel_rfl) (mkΓ_consX (Zad Zop) Zll mkΓ_nilX) (fn:=Tryz.f47) (by kernel_rfl) (by kernel_rfl) []).of (by
 intro ρ h w args vals r e hA hH hr
 unfold Zjt at hr
 split at hr
 ·rename_i a0 a1
  obtain ⟨rfl,hg⟩:=Prod.mk.inj (Option.some.inj hr)
  obtain ⟨rfl,hg2⟩:=Prod.mk.inj hg
  exact Zt5 a0 a1 (hA.wt 0 rfl) (hA.rng 1 rfl) hg2
 ·cases hr)
def Zmm:Cons:=(mkΓ [(65,con Zix),(66,con Zhc)])
theorem Zol (N:Nat) (a0 a1:Array Value) (bQ:Option (Option Addr)) (nQ:Nat) (aQ:Array Value):ansV PZ Zmm N Tryz.f46 [] [.g a0 41,.r a1 45 [(2,0)]] [.sl (.came bQ) nQ aQ 95]=(bif (!((okS a0&&Uar a0 a1 nQ aQ))) then (some (.t [.r (zc PZ 71) 71 [],.v (.iface 104 (.int .i64 (1:Int)))],.none,true))
  else (some (.t [.r ((spl (spl (zc PZ 71) 0 (#[.int .i64 (i64.wrap (num a1 0)),.int .i64 (i64.wrap (num a1 1))]:Array Value).toList) 2 a0.toList).setIfInBounds 365 (.slice none 0 0)) 71 [(365,0)],.v (.nilIface)],.none,true))):=by kernel_rfl
theorem Zv2 (a0 a1:Array Value) (bQ:Option (Option Addr)) (nQ:Nat) (aQ:Array Value) (h_a0:WT PZ 41 a0) (h_a1:WT PZ 45 a1) (h_a1x2:aQ.size=nQ*(lay PZ 95).length∧(∀ k,k<nQ→WT PZ 95 (aQ.extract (k*(lay PZ 95).length) (k*(lay PZ 95).length+(lay PZ 95).length)))∧nQ≤9223372036854775807) (hc0:((okS a0&&Uar a0 a1 nQ aQ))=false) (hg:(true)=true):ansV PZ Zmm 1000 Tryz.f46 [] [.g a0 41,.r a1 45 [(2,0)]] [.sl (.came bQ) nQ aQ 95]=some (.t [.r (zc PZ 71) 71 [],.v (.iface 104 (.int .i64 (1:Int)))],.none,true):=by
 refine (Zol 1000 a0 a1 bQ nQ aQ).trans ?_
 simp only [hc0,Bool.not_false,cond_true]
theorem Zvm (a0 a1:Array Value) (bQ:Option (Option Addr)) (nQ:Nat) (aQ:Array Value) (h_a0:WT PZ 41 a0) (h_a1:WT PZ 45 a1) (h_a1x2:aQ.size=nQ*(lay PZ 95).length∧(∀ k,k<nQ→WT PZ 95 (aQ.extract (k*(lay PZ 95).length) (k*(lay PZ 95).length+(lay PZ 95).length)))∧nQ≤9223372036854775807) (hc0:((okS a0&&Uar a0 a1 nQ aQ))=true) (hg:(true)=true):ansV PZ Zmm 1000 Tryz.f46 [] [.g a0 41,.r a1 45 [(2,0)]] [.sl (.came bQ) nQ aQ 95]=some (.t [.r ((spl (spl (zc PZ 71) 0 (#[.int .i64 (i64.wrap (num a1 0)),.int .i64 (i64.wrap (num a1 1))]:Array Value).toList) 2 a0.toList).setIfInBounds 365 (.slice none 0 0)) 71 [(365,0)],.v (.nilIface)],.none,true):=by
 refine (Zol 1000 a0 a1 bQ nQ aQ).trans ?_
 simp only [hc0,Bool.not_true,cond_false]
def Zjo:SCon:=fun args h=>match args,h with
 | [.g a0 41,.r a1 45 [(2,0)]],[.sl (.came bQ) nQ aQ 95]=>.two ((okS a0&&Uar a0 a1 nQ aQ)) (.one (some (.t [.r ((spl (spl (zc PZ 71) 0 (#[.int .i64 (i64.wrap (num a1 0)),.int .i64 (i64.wrap (num a1 1))]:Array Value).toList) 2 a0.toList).setIfInBounds 365 (.slice none 0 0)) 71 [(365,0)],.v (.nilIface)],.none,true))) (.one (some (.t [.r (zc PZ 71) 71 [],.v (.iface 104 (.int .i64 (1:Int)))],.none,true)))
 | _,_=>.one none
theorem Zja:EntX PZ 46:=Zaf (fn:=Tryz.f46) (by kernel_rfl) (by kernel_rfl) (by kernel_rfl)
theorem Zke:Uad (md F) PZ 46 (fun args h=>Uao (Zjo args h)):=by
 intro ρ h w args vals r e hn hr hA hH
 dsimp only at hr
 unfold Zjo at hr
 split at hr
 ·rename_i a0 a1 bQ nQ aQ
  simp only [Uao] at hr
  cases hc0:((okS a0&&Uar a0 a1 nQ aQ))
  ·rw [hc0] at hr
   simp only [Uao,cond_true,cond_false] at hr
   obtain ⟨rfl,hg⟩:=Prod.mk.inj (Option.some.inj hr)
   obtain ⟨rfl,hg2⟩:=Prod.mk.inj hg
   exact ((Zah (N:=1000) (by kernel_rfl) (mkΓ_consX (Zad Zm5) Zky (mkΓ_consX (Zad Zkv) Zib mkΓ_nilX)) (fn:=Tryz.f46) (by kernel_rfl) (by kernel_rfl) [])) ρ _ w _ vals _ _ hn ((Zv2 a0 a1 bQ nQ aQ (hA.wt 0 rfl) (hA.wtr 1 rfl) (hH.slw 0 rfl) hc0 hg2)) hA hH
  ·rw [hc0] at hr
   simp only [Uao,cond_true,cond_false] at hr
   obtain ⟨rfl,hg⟩:=Prod.mk.inj (Option.some.inj hr)
   obtain ⟨rfl,hg2⟩:=Prod.mk.inj hg
   exact ((Zah (N:=1000) (by kernel_rfl) (mkΓ_consX (Zad Zm5) Zky (mkΓ_consX (Zad Zkv) Zib mkΓ_nilX)) (fn:=Tryz.f46) (by kernel_rfl) (by kernel_rfl) [])) ρ _ w _ vals _ _ hn ((Zvm a0 a1 bQ nQ aQ (hA.wt 0 rfl) (hA.wtr 1 rfl) (hH.slw 0 rfl) hc0 hg2)) hA hH
 ·simp only [Uao] at hr
  cases hr
def Zg9:Cons:=(mkΓw [(46,conS Zjo)] [(47,con Zjt)] [] [])
theorem Zii (N:Nat) (a0 a1:Array Value) (a2:Int) (bQ:Option (Option Addr)) (nQ:Nat) (aQ:Array Value):ansV PZ Zg9 N Tryz.f25 [] [.g a0 41,.r a1 45 [(2,0)],.i .u64 (a2)] [.sl (.came bQ) nQ aQ 95]=(bif (okS a0&&Uar a0 a1 nQ aQ) then (bif (Zc6 a0 a2) then (bif (!((Zag a0 a2))) then (some (.t [.r (zc PZ 71) 71 [],.v (.iface 104 (.int .i64 (2:Int)))],.none,true))
    else (some (.t [.r ((spl (spl (zc PZ 71) 0 (#[.int .i64 (i64.wrap (num a1 0)),.int .i64 (i64.wrap (num a1 1))]:Array Value).toList) 2 a0.toList).setIfInBounds 365 (.slice none 0 0)) 71 [(365,0)],.v (.nilIface)],.none,true)))
   else (none))
  else (some (.t [.r (zc PZ 71) 71 [],.v (.iface 104 (.int .i64 (1:Int)))],.none,true))):=by kernel_rfl
theorem Ycd {S:Array Value} {c:Int} (hok:okS S=true):Zc6 S c=true:=by
 obtain ⟨h1,h2,h3,h4⟩:=Zog hok
 unfold Zc6
 rw [decide_eq_true (show 0≤num S 0 by omega),decide_eq_true (show num S 0≤6 by omega),decide_eq_true (show 0≤num S 1 by omega),decide_eq_true (show num S 1≤6 by omega)]
 rfl
theorem Zql (a0 a1:Array Value) (a2:Int) (bQ:Option (Option Addr)) (nQ:Nat) (aQ:Array Value) (h_a0:WT PZ 41 a0) (h_a1:WT PZ 45 a1) (h_a2:IntKind.u64.min≤a2∧a2≤IntKind.u64.max) (h_a1x2:aQ.size=nQ*(lay PZ 95).length∧(∀ k,k<nQ→WT PZ 95 (aQ.extract (k*(lay PZ 95).length) (k*(lay PZ 95).length+(lay PZ 95).length)))∧nQ≤9223372036854775807) (hc0:((okS a0&&Uar a0 a1 nQ aQ))=false) (hg:(true)=true):ansV PZ Zg9 1000 Tryz.f25 [] [.g a0 41,.r a1 45 [(2,0)],.i .u64 (a2)] [.sl (.came bQ) nQ aQ 95]=some (.t [.r (zc PZ 71) 71 [],.v (.iface 104 (.int .i64 (1:Int)))],.none,true):=by
 refine (Zii 1000 a0 a1 a2 bQ nQ aQ).trans ?_
 simp only [hc0,cond_false]
theorem Zpo (a0 a1:Array Value) (a2:Int) (bQ:Option (Option Addr)) (nQ:Nat) (aQ:Array Value) (h_a0:WT PZ 41 a0) (h_a1:WT PZ 45 a1) (h_a2:IntKind.u64.min≤a2∧a2≤IntKind.u64.max) (h_a1x2:aQ.size=nQ*(lay PZ 95).length∧(∀ k,k<nQ→WT PZ 95 (aQ.extract (k*(lay PZ 95).length) (k*(lay PZ 95).length+(lay PZ 95).length)))∧nQ≤9223372036854775807) (hc0:((okS a0&&Uar a0 a1 nQ aQ))=true) (hc1:((Zag a0 a2))=false) (hg:(true)=true):ansV PZ Zg9 1000 Tryz.f25 [] [.g a0 41,.r a1 45 [(2,0)],.i .u64 (a2)] [.sl (.came bQ) nQ aQ 95]=some (.t [.r (zc PZ 71) 71 [],.v (.iface 104 (.int .i64 (2:Int)))],.none,true):=by
 refine (Zii 1000 a0 a1 a2 bQ nQ aQ).trans ?_
 have hgd:Zc6 a0 a2=true:=by
  rw [Bool.and_eq_true] at hc0
  exact Ycd hc0.1
 simp only [hc0,hc1,hgd,Bool.not_false,cond_true]
theorem Zp0 (a0 a1:Array Value) (a2:Int) (bQ:Option (Option Addr)) (nQ:Nat) (aQ:Array Value) (h_a0:WT PZ 41 a0) (h_a1:WT PZ 45 a1) (h_a2:IntKind.u64.min≤a2∧a2≤IntKind.u64.max) (h_a1x2:aQ.size=nQ*(lay PZ 95).length∧(∀ k,k<nQ→WT PZ 95 (aQ.extract (k*(lay PZ 95).length) (k*(lay PZ 95).length+(lay PZ 95).length)))∧nQ≤9223372036854775807) (hc0:((okS a0&&Uar a0 a1 nQ aQ))=true) (hc1:((Zag a0 a2))=true) (hg:(true)=true):ansV PZ Zg9 1000 Tryz.f25 [] [.g a0 41,.r a1 45 [(2,0)],.i .u64 (a2)] [.sl (.came bQ) nQ aQ 95]=some (.t [.r ((spl (spl (zc PZ 71) 0 (#[.int .i64 (i64.wrap (num a1 0)),.int .i64 (i64.wrap (num a1 1))]:Array Value).toList) 2 a0.toList).setIfInBounds 365 (.slice none 0 0)) 71 [(365,0)],.v (.nilIface)],.none,true):=by
 refine (Zii 1000 a0 a1 a2 bQ nQ aQ).trans ?_
 have hgd:Zc6 a0 a2=true:=by
  rw [Bool.and_eq_true] at hc0
  exact Ycd hc0.1
 simp only [hc0,hc1,hgd,Bool.not_true,cond_false,cond_true]
def Zhu:SCon:=fun args h=>match args,h with
 | [.g a0 41,.r a1 45 [(2,0)],.i .u64 a2],[.sl (.came bQ) nQ aQ 95]=>.two ((okS a0&&Uar a0 a1 nQ aQ)) (.two ((Zag a0 a2)) (.one (some (.t [.r ((spl (spl (zc PZ 71) 0 (#[.int .i64 (i64.wrap (num a1 0)),.int .i64 (i64.wrap (num a1 1))]:Array Value).toList) 2 a0.toList).setIfInBounds 365 (.slice none 0 0)) 71 [(365,0)],.v (.nilIface)],.none,true))) (.one (some (.t [.r (zc PZ 71) 71 [],.v (.iface 104 (.int .i64 (2:Int)))],.none,true)))) (.one (some (.t [.r (zc PZ 71) 71 [],.v (.iface 104 (.int .i64 (1:Int)))],.none,true)))
 | _,_=>.one none
theorem Zp2:EntX PZ 25:=Zaf (fn:=Tryz.f25) (by kernel_rfl) (by kernel_rfl) (by kernel_rfl)
theorem Zsu:Uad (md F) PZ 25 (fun args h=>Uao (Zhu args h)):=by
 intro ρ h w args vals r e hn hr hA hH
 dsimp only at hr
 unfold Zhu at hr
 split at hr
 ·rename_i a0 a1 a2 bQ nQ aQ
  simp only [Uao] at hr
  cases hc0:((okS a0&&Uar a0 a1 nQ aQ))
  ·rw [hc0] at hr
   simp only [Uao,cond_true,cond_false] at hr
   obtain ⟨rfl,hg⟩:=Prod.mk.inj (Option.some.inj hr)
   obtain ⟨rfl,hg2⟩:=Prod.mk.inj hg
   exact ((Zah (N:=1000) (by kernel_rfl) (mkΓw_sX (Zuw Zke) Zja (mkΓw_cX (Zad Zks) Zih mkΓx_nilX)) (fn:=Tryz.f25) (by kernel_rfl) (by kernel_rfl) [])) ρ _ w _ vals _ _ hn ((Zql a0 a1 a2 bQ nQ aQ (hA.wt 0 rfl) (hA.wtr 1 rfl) (hA.rng 2 rfl) (hH.slw 0 rfl) hc0 hg2)) hA hH
  ·rw [hc0] at hr
   simp only [Uao,cond_true,cond_false] at hr
   cases hc1:((Zag a0 a2))
   ·rw [hc1] at hr
    simp only [Uao,cond_true,cond_false] at hr
    obtain ⟨rfl,hg⟩:=Prod.mk.inj (Option.some.inj hr)
    obtain ⟨rfl,hg2⟩:=Prod.mk.inj hg
    exact ((Zah (N:=1000) (by kernel_rfl) (mkΓw_sX (Zuw Zke) Zja (mkΓw_cX (Zad Zks) Zih mkΓx_nilX)) (fn:=Tryz.f25) (by kernel_rfl) (by kernel_rfl) [])) ρ _ w _ vals _ _ hn ((Zpo a0 a1 a2 bQ nQ aQ (hA.wt 0 rfl) (hA.wtr 1 rfl) (hA.rng 2 rfl) (hH.slw 0 rfl) hc0 hc1 hg2)) hA hH
   ·rw [hc1] at hr
    simp only [Uao,cond_true,cond_false] at hr
    obtain ⟨rfl,hg⟩:=Prod.mk.inj (Option.some.inj hr)
    obtain ⟨rfl,hg2⟩:=Prod.mk.inj hg
    exact ((Zah (N:=1000) (by kernel_rfl) (mkΓw_sX (Zuw Zke) Zja (mkΓw_cX (Zad Zks) Zih mkΓx_nilX)) (fn:=Tryz.f25) (by kernel_rfl) (by kernel_rfl) [])) ρ _ w _ vals _ _ hn ((Zp0 a0 a1 a2 bQ nQ aQ (hA.wt 0 rfl) (hA.wtr 1 rfl) (hA.rng 2 rfl) (hH.slw 0 rfl) hc0 hc1 hg2)) hA hH
 ·simp only [Uao] at hr
  cases hr
def put2 (X:Array Value) (c:Nat) (b m:Int):Array Value:=(X.setIfInBounds 2 (.int .i64 (i64.wrap (num X 2+b)))).setIfInBounds (3+c*1) (.int .i64 (i64.wrap (num (X.setIfInBounds 2 (.int .i64 (i64.wrap (num X 2+b)))) (3+c*1)+m)))
theorem Ym3 (X:Array Value) (c:Nat) (b m:Int):(X.setIfInBounds (3+c*1) (.int .i64 (i64.wrap (num X (3+c*1)+m)))).setIfInBounds 2 (.int .i64 (i64.wrap (num (X.setIfInBounds (3+c*1) (.int .i64 (i64.wrap (num X (3+c*1)+m)))) 2+b)))=put2 X c b m:=by
 unfold put2
 rw [Zbz,if_neg (by omega),Zbz,if_neg (by omega)]
 exact Array.setIfInBounds_comm _ _ (by omega)
def putR (h:Int) (A X:Array Value) (k:Nat):Array Value:=bif (i64.wrap (num (A.extract (k*3) (k*3+3)) 1)==h) then put2 X (num (A.extract (k*3) (k*3+3)) 0).toNat (i64.wrap (num (A.extract (k*3) (k*3+3)) 2)) (i64.wrap (i64.wrap (num (A.extract (k*3) (k*3+3)) 2)*12^h.toNat)) else X
def Uby (h:Int) (n:Nat) (A X:Array Value):Array Value:=folds (putR h A) X n
def Uc0 (n:Nat) (A:Array Value):Bool:=(List.range n).all fun k=>decide (0≤num (A.extract (k*3) (k*3+3)) 0)&&decide (num (A.extract (k*3) (k*3+3)) 0<36)
theorem Yc5 {n:Nat} {A:Array Value}:Uc0 n A=true ↔ ∀ k,k<n→0≤num (A.extract (k*3) (k*3+3)) 0∧num (A.extract (k*3) (k*3+3)) 0<36:=by
 unfold Uc0
 rw [List.all_eq_true]
 constructor
 ·intro h k hk
  have:=h k (List.mem_range.2 hk)
  rw [Bool.and_eq_true,decide_eq_true_eq,decide_eq_true_eq] at this
  exact this
 ·intro h k hk
  rw [Bool.and_eq_true,decide_eq_true_eq,decide_eq_true_eq]
  exact h k (List.mem_range.1 hk)
def Uae (P:Program) (S:Array Value) (b:Int) (n:Nat) (A:Array Value):Nat→Array Value
 | 0=>(zc P 60).setIfInBounds 0 (.int .i8 b)
 | j+1=>Ubf P S (Uby (j:Int) n A (Uae P S b n A j))
def spB (S:Array Value) (b h:Int) (n:Nat) (A:Array Value):Bool:=Zaa b 0 1&&(Zaa h 1 8&&Ub7 S h n A)
def Good (S:Array Value) (b:Int) (j:Nat) (X:Array Value):Prop:=WT PZ 60 X∧num X 0=b∧num X 1=(j:Int)∧ZO S X
theorem Yiz {S A X:Array Value} {b h:Int} {j k:Nat} (hX:Good S b j X) (hc:0≤num (A.extract (k*3) (k*3+3)) 0∧num (A.extract (k*3) (k*3+3)) 0≤35∧inC (num S 0) (num S 1) (num (A.extract (k*3) (k*3+3)) 0).toNat=true):Good S b j (putR h A X k):=by
 obtain ⟨w,n0,n1,z⟩:=hX
 unfold putR
 cases (i64.wrap (num (A.extract (k*3) (k*3+3)) 1)==h) with
 | false=>exact ⟨w,n0,n1,z⟩
 | true=>
  rw [cond_true]
  generalize i64.wrap (i64.wrap (num (A.extract (k*3) (k*3+3)) 2)*12^h.toNat)=m
  generalize i64.wrap (num (A.extract (k*3) (k*3+3)) 2)=bb
  generalize num (A.extract (k*3) (k*3+3)) 0=c at hc
  obtain ⟨c0,c1,c2⟩:=hc
  unfold put2
  have w2:=Zl0 (k:=.i64) (i:=2) w (Zj3 (by omega) (by omega)) (Zhm .i64 (num X 2+bb))
  refine ⟨Zl0 (k:=.i64) w2 (Zj3 (by omega) (by omega)) (Zhm .i64 _), ?_, ?_,fun i hi hf=> ?_⟩
  ·rw [Zbz,if_neg (by omega),Zbz,if_neg (by omega)];exact n0
  ·rw [Zbz,if_neg (by omega),Zbz,if_neg (by omega)];exact n1
  ·have hne:c.toNat≠i:=fun e=>by rw [e,hf] at c2;cases c2
   rw [Zbz,if_neg (by omega),Zbz,if_neg (by omega)]
   exact z i hi hf
theorem Yad {S A X:Array Value} {b h:Int} {j n:Nat} (hX:Good S b j X) (hc:∀ k,k<n→0≤num (A.extract (k*3) (k*3+3)) 0∧num (A.extract (k*3) (k*3+3)) 0≤35∧inC (num S 0) (num S 1) (num (A.extract (k*3) (k*3+3)) 0).toNat=true):Good S b j (Uby h n A X):=
 Ziq (fun _ X=>Good S b j X) hX (fun k s hk hs=>Yiz hs (hc k hk)) n (Nat.le_refl _)
theorem Ymr {S X:Array Value} {b:Int} {j:Nat} (hS:WT PZ 41 S) (hok:okS S=true) (hj:j≤100) (hX:Good S b j X):Good S b (j+1) (Ubf PZ S X):=by
 obtain ⟨w,n0,n1,z⟩:=hX
 obtain ⟨e0,e1,_⟩:=Zpf X
 refine ⟨Zof w, ?_, ?_,Yko w hok hS z⟩
 ·rw [Zt4 _ _ (by omega),e0,n0]
 ·rw [Zt4 _ _ (by omega),e1,n1,IntWalk.i8_in _ (by omega)];omega
theorem Yh7 {S X:Array Value} {b:Int} {j:Nat} (hok:okS S=true) (hb:0≤b∧b≤1) (hj:j≤100) (hX:Good S b j X):goG S X=true∧(0≤tdS X∧tdS X<2):=by
 obtain ⟨w,n0,n1,z⟩:=hX
 refine ⟨Ylo.2 ⟨hok,by rw [n0];omega,by rw [n1];omega,z⟩, ?_⟩
 unfold tdS
 rw [n0,n1,IntWalk.i8_in _ (by omega),Int.tmod_eq_emod_of_nonneg (by omega)]
 omega
theorem Zk9 {S A:Array Value} {b:Int} {n:Nat} (hS:WT PZ 41 S) (hok:okS S=true) (hb:0≤b∧b≤1) (hc:∀ k,k<n→0≤num (A.extract (k*3) (k*3+3)) 0∧num (A.extract (k*3) (k*3+3)) 0≤35∧inC (num S 0) (num S 1) (num (A.extract (k*3) (k*3+3)) 0).toNat=true):∀ j,j≤50→Good S b j (Uae PZ S b n A j)
 | 0,_=>by
  have i8:IntKind.i8.min = -128∧IntKind.i8.max=127:=⟨rfl,rfl⟩
  have z0:∀ i,num (zc PZ 60) i=0:=fun i=>by
   have h:∀ i,i<40→num (zc PZ 60) i=0:=by
    have:((List.range 40).all fun i=>num (zc PZ 60) i==0)=true:=by kernel_rfl
    intro i hi
    exact eq_of_beq (List.all_eq_true.1 this i (List.mem_range.2 hi))
   by_cases hi:i<40
   ·exact h i hi
   ·unfold num
    rw [Array.getElem?_eq_none (by rw [show (zc PZ 60).size=40 by kernel_rfl];omega)]
  have hsz:(zc PZ 60).size=40:=by kernel_rfl
  refine ⟨Zl0 (k:=.i8) (WT.zero (by kernel_rfl)) Yby.1 (by omega), ?_, ?_,fun i hi hf=> ?_⟩
  ·rw [Uae,Zbz,if_pos (by omega)]
  ·rw [Uae,Zbz,if_neg (by omega),z0];rfl
  ·rw [Uae,Zbz,if_neg (by omega),z0]
 | j+1,hj=>by
  rw [Uae]
  exact Ymr hS hok (by omega) (Yad (Zk9 hS hok hb hc j (by omega)) hc)
theorem Ybp {S A:Array Value} {h:Int} {n:Nat} (hS:WT PZ 41 S) (hA:∀ k,k<n→WT PZ 95 (A.extract (k*3) (k*3+3))) (hr:Ub7 S h n A=true):∀ k,k<n→0≤num (A.extract (k*3) (k*3+3)) 0∧num (A.extract (k*3) (k*3+3)) 0≤35∧inC (num S 0) (num S 1) (num (A.extract (k*3) (k*3+3)) 0).toNat=true:=by
 intro k hk
 have h1:=(Zq4 S h n A).1 hr k hk
 have h1:relB S h (A.extract (k*3) (k*3+3))=true:=h1
 obtain ⟨-,b0⟩:=(hA k hk).int (o:=0) (k:=.i8) (by kernel_rfl)
 have m8:IntKind.i8.min = -128∧IntKind.i8.max=127:=⟨rfl,rfl⟩
 unfold relB at h1
 rw [Bool.and_eq_true,IntWalk.i64_in (num (A.extract (k*3) (k*3+3)) 0) (by omega)] at h1
 have h2:=h1.1
 generalize num (A.extract (k*3) (k*3+3)) 0=c at h2 b0
 have hi:Za1 c S=true:=by
  unfold Zae at h2
  cases hi:Za1 c S with
  | true=>rfl
  | false=>rw [hi] at h2;exact nomatch h2
 have hr:=Yjl hi
 refine ⟨hr.1,hr.2, ?_⟩
 have e:((c.toNat:Nat):Int)=c:=by omega
 rw [← Yj3 hS (show c.toNat<36 by omega),e]
 exact hi
theorem cells_of {S A:Array Value} {n:Nat} (h:∀ k,k<n→0≤num (A.extract (k*3) (k*3+3)) 0∧num (A.extract (k*3) (k*3+3)) 0≤35∧inC (num S 0) (num S 1) (num (A.extract (k*3) (k*3+3)) 0).toNat=true):Uc0 n A=true:=Yc5.2 fun k hk=>⟨(h k hk).1,by have:=(h k hk).2.1;omega⟩
def Zbd (a0 a1:Array Value) (a2:Int) (bR:Option (Option Addr)) (nR:Nat) (aR:Array Value):St:=(⟨.a (.r a0 71 [(365,0)]) :: .a (.g a1 60) :: .a (.i .i64 (a2)) :: .a (.w 1) :: .a (.w 2) :: .a (.u) :: .a (.w 3) :: .a (.u) :: .a (.u) :: .a (.p 1 (365) 43) :: .a (.l 0) :: .a (.i .i64 (nR:Int)) :: .a (.i .i64 (0:Int))::us 31 ([]),[.sl (.came bR) nR aR 95,.one (.r a0 71 [(365,0)]) 71,.row a1 60,.row (zc PZ 60) 60],[]⟩:St)
def Zb3:Int×Array Value→LS
 | (y0_12,r0_2)=>([.a (.i .i64 (y0_12))],[.row r0_2 60])
def Zeo:Int×Array Value→Exit×LS
 | t=>((.exit 0),Zb3 t)
def Zar (P : Program) (a0 a1 : Array Value) (a2 : Int) (bR : Option (Option Addr)) (nR : Nat) (aR : Array Value) : Int × Array Value → Option (Stp (Int × Array Value) (Int × Array Value))
 | (y0_12, r0_2) => bif decide (y0_12 < (nR : Int)) then (bif (decide (0 ≤ y0_12) && decide (y0_12 < (nR : Int))) then (bif ((i64.wrap (num (aR.extract ((y0_12).toNat * 3) (((y0_12).toNat * 3) + 3)) 1)) == a2) then (bif (decide (0 ≤ (num (aR.extract ((y0_12).toNat * 3) (((y0_12).toNat * 3) + 3)) 0)) && decide ((num (aR.extract ((y0_12).toNat * 3) (((y0_12).toNat * 3) + 3)) 0) < 36)) then (bif (decide (0 ≤ a2) && decide (a2 ≤ 14)) then (bif (decide (0 ≤ (num (aR.extract ((y0_12).toNat * 3) (((y0_12).toNat * 3) + 3)) 0)) && decide ((num (aR.extract ((y0_12).toNat * 3) (((y0_12).toNat * 3) + 3)) 0) < 36)) then (some (.more ((i64.wrap (y0_12 + (1 : Int))), ((r0_2.setIfInBounds 2 (.int .i64 (i64.wrap ((num r0_2 2) + (i64.wrap (num (aR.extract ((y0_12).toNat * 3) (((y0_12).toNat * 3) + 3)) 2)))))).setIfInBounds (3 + ((num (aR.extract ((y0_12).toNat * 3) (((y0_12).toNat * 3) + 3)) 0).toNat * 1)) (.int .i64 (i64.wrap ((num (r0_2.setIfInBounds 2 (.int .i64 (i64.wrap ((num r0_2 2) + (i64.wrap (num (aR.extract ((y0_12).toNat * 3) (((y0_12).toNat * 3) + 3)) 2)))))) (3 + ((num (aR.extract ((y0_12).toNat * 3) (((y0_12).toNat * 3) + 3)) 0).toNat * 1))) + (i64.wrap ((i64.wrap (num (aR.extract ((y0_12).toNat * 3) (((y0_12).toNat * 3) + 3)) 2)) * (12 ^ a2.toNat))))))))))
       else (none))
      else (none))
     else (none))
    else (some (.more ((i64.wrap (y0_12 + (1 : Int))), r0_2))))
   else (none))
  else (some (.done (y0_12, r0_2)))
theorem Zln (N:Nat) (a0 a1:Array Value) (a2:Int) (bR:Option (Option Addr)) (nR:Nat) (aR:Array Value):∀ t:Int×Array Value,Uah PZ (mkΓ [(53,con Zav)]) N (cAt (codeOf Tryz.f51) [1,0,1,0,0]) (pAt (Uaa (codeOf Tryz.f51) [([12],[2])]).1 [1,0,1,0]) [12] [2] (Zbd a0 a1 a2 bR nR aR) (Zb3 t)=mapS Zb3 Zeo (Zar PZ a0 a1 a2 bR nR aR t):=by
 rintro ⟨y0_12,r0_2⟩
 refine Eq.trans (b:=(bif decide (y0_12<(nR:Int)) then (bif (decide (0≤y0_12)&&decide (y0_12<(nR:Int))) then (bif ((i64.wrap (num (aR.extract ((y0_12).toNat*3) (((y0_12).toNat*3)+3)) 1))==a2) then (bif (decide (0≤(num (aR.extract ((y0_12).toNat*3) (((y0_12).toNat*3)+3)) 0))&&decide ((num (aR.extract ((y0_12).toNat*3) (((y0_12).toNat*3)+3)) 0)<36)) then (bif (decide (0≤a2)&&decide (a2≤14)) then (bif (decide (0≤(num (aR.extract ((y0_12).toNat*3) (((y0_12).toNat*3)+3)) 0))&&decide ((num (aR.extract ((y0_12).toNat*3) (((y0_12).toNat*3)+3)) 0)<36)) then (some (.more ([.a (.i .i64 (i64.wrap (y0_12+(1:Int))))],[.row ((r0_2.setIfInBounds 2 (.int .i64 (i64.wrap ((num r0_2 2)+(i64.wrap (num (aR.extract ((y0_12).toNat*3) (((y0_12).toNat*3)+3)) 2)))))).setIfInBounds (3+((num (aR.extract ((y0_12).toNat*3) (((y0_12).toNat*3)+3)) 0).toNat*1)) (.int .i64 (i64.wrap ((num (r0_2.setIfInBounds 2 (.int .i64 (i64.wrap ((num r0_2 2)+(i64.wrap (num (aR.extract ((y0_12).toNat*3) (((y0_12).toNat*3)+3)) 2)))))) (3+((num (aR.extract ((y0_12).toNat*3) (((y0_12).toNat*3)+3)) 0).toNat*1)))+(i64.wrap ((i64.wrap (num (aR.extract ((y0_12).toNat*3) (((y0_12).toNat*3)+3)) 2))*(12^a2.toNat))))))) 60])))
       else (none))
      else (none))
     else (none))
    else (some (.more ([.a (.i .i64 (i64.wrap (y0_12+(1:Int))))],[.row r0_2 60]))))
   else (none))
  else (some (.done ((.exit 0),([.a (.i .i64 (y0_12))],[.row r0_2 60])))))) (by kernel_rfl) ?_
 simp only [Zar,Zax,Za0,Zay,Zaz,Zb3,Zeo]
def Zci (P:Program) (N:Nat) (a0 a1:Array Value) (a2:Int) (bR:Option (Option Addr)) (nR:Nat) (aR:Array Value) (z0_12:Int) (q0_2:Array Value):Option (SV×Eff×Bool):=some (.a (.g q0_2 60),.none,true)
theorem Zje (N:Nat) (a0 a1:Array Value) (a2:Int) (bR:Option (Option Addr)) (nR:Nat) (aR:Array Value) (z0_12:Int) (q0_2:Array Value):(Uac 0 (kSeq (veC PZ (mkΓ [(53,con Zav)]) N (cAt (codeOf Tryz.f51) [1,1]) (pAt (Uaa (codeOf Tryz.f51) [([12],[2])]).1 [1,1]) (SV×Eff×Bool)) (finK PZ [.sl (.came bR) nR aR 95] [.cell 6 60]))) (.exit 0) (left (writes (cAt (codeOf Tryz.f51) [1,0,1,0,0])) [12] [2] (Zbd a0 a1 a2 bR nR aR) ([.a (.i .i64 (z0_12))],[.row q0_2 60]))=Zci PZ N a0 a1 a2 bR nR aR z0_12 q0_2:=by
 refine Eq.trans (b:=(some (.a (.g q0_2 60),.none,true))) (by kernel_rfl) ?_
 rfl
theorem Zlc (N:Nat) (a0 a1:Array Value) (a2:Int) (bR:Option (Option Addr)) (nR:Nat) (aR:Array Value):Uaj (Uab (Uah PZ (mkΓ [(53,con Zav)]) N (cAt (codeOf Tryz.f51) [1,0,1,0,0]) (pAt (Uaa (codeOf Tryz.f51) [([12],[2])]).1 [1,0,1,0]) [12] [2] (Zbd a0 a1 a2 bR nR aR)) N ([.a (.i .i64 (0:Int))],[.row a1 60])) (fun e s=>(Uac 0 (kSeq (veC PZ (mkΓ [(53,con Zav)]) N (cAt (codeOf Tryz.f51) [1,1]) (pAt (Uaa (codeOf Tryz.f51) [([12],[2])]).1 [1,1]) (SV×Eff×Bool)) (finK PZ [.sl (.came bR) nR aR 95] [.cell 6 60]))) e (left (writes (cAt (codeOf Tryz.f51) [1,0,1,0,0])) [12] [2] (Zbd a0 a1 a2 bR nR aR) s))=Uak (Uab (Zar PZ a0 a1 a2 bR nR aR) N ((0:Int),a1)) (fun x=>Zci PZ N a0 a1 a2 bR nR aR x.1 x.2):=by
 refine Zbk Zb3 Zeo _ _ (Zln N a0 a1 a2 bR nR aR) N ((0:Int),a1) _ _ ?_
 intro x;exact Zje N a0 a1 a2 bR nR aR x.1 x.2
theorem Zkz (N:Nat) (a0 a1:Array Value) (a2:Int) (bR:Option (Option Addr)) (nR:Nat) (aR:Array Value):ansV PZ (mkΓ [(53,con Zav)]) N Tryz.f51 [([12],[2])] [.r a0 71 [(365,0)],.g a1 60,.i .i64 (a2)] [.sl (.came bR) nR aR 95]=(Uak (Uab (Zar PZ a0 a1 a2 bR nR aR) N ((0:Int),a1)) (fun x=>Zci PZ N a0 a1 a2 bR nR aR x.1 x.2)):=by
 refine Eq.trans (b:=(Uaj (Uab (Uah PZ (mkΓ [(53,con Zav)]) N (cAt (codeOf Tryz.f51) [1,0,1,0,0]) (pAt (Uaa (codeOf Tryz.f51) [([12],[2])]).1 [1,0,1,0]) [12] [2] (Zbd a0 a1 a2 bR nR aR)) N ([.a (.i .i64 (0:Int))],[.row a1 60])) (fun e s=>(Uac 0 (kSeq (veC PZ (mkΓ [(53,con Zav)]) N (cAt (codeOf Tryz.f51) [1,1]) (pAt (Uaa (codeOf Tryz.f51) [([12],[2])]).1 [1,1]) (SV×Eff×Bool)) (finK PZ [.sl (.came bR) nR aR 95] [.cell 6 60]))) e (left (writes (cAt (codeOf Tryz.f51) [1,0,1,0,0])) [12] [2] (Zbd a0 a1 a2 bR nR aR) s)))) (by kernel_rfl) ?_
 simp only [Zlc N a0 a1 a2 bR nR aR]
theorem Zkh (a0 a1:Array Value) (a2:Int) (bR:Option (Option Addr)) (nR:Nat) (aR:Array Value) (h_a0:WT PZ 71 a0) (h_a1:WT PZ 60 a1) (h_a2:i64.min≤a2∧a2≤i64.max) (h_a0x365:aR.size=nR*(lay PZ 95).length∧(∀ k,k<nR→WT PZ 95 (aR.extract (k*(lay PZ 95).length) (k*(lay PZ 95).length+(lay PZ 95).length)))∧nR≤9223372036854775807) (hg:(((decide (0≤a2)&&decide (a2≤14))&&Uc0 nR aR))=true):ansV PZ (mkΓ [(53,con Zav)]) 18446744073709551616 Tryz.f51 [([12],[2])] [.r a0 71 [(365,0)],.g a1 60,.i .i64 (a2)] [.sl (.came bR) nR aR 95]=some (.a (.g (Uby a2 nR aR a1) 60),.none,true):=by
 have hn:=h_a0x365.2.2
 rw [Bool.and_eq_true] at hg
 obtain ⟨hg1,hg2⟩:=hg
 refine (Zkz 18446744073709551616 a0 a1 a2 bR nR aR).trans ?_
 have hq:∀ q,Uab (Zar PZ a0 a1 a2 bR nR aR) 18446744073709551616 ((0:Int),a1)=some ((nR:Int),q)→Uak (Uab (Zar PZ a0 a1 a2 bR nR aR) 18446744073709551616 ((0:Int),a1)) (fun x=>Zci PZ 18446744073709551616 a0 a1 a2 bR nR aR x.1 x.2)=some (.a (.g q 60),.none,true):=fun q e=>by rw [e];rfl
 refine hq _ ?_
 exact Zjn (g:=Zar PZ a0 a1 a2 bR nR aR) (fun r k=>((k:Int),r)) (putR a2 aR) (m:=nR) (t:=a1) (x:=((nR:Int),Uby a2 nR aR a1)) (N:=18446744073709551616) (fun k s hk _=>by
  have h1:decide ((k:Int)<(nR:Int))=true:=decide_eq_true (by omega)
  have h0:decide (0≤(k:Int))=true:=decide_eq_true (by omega)
  have h3:i64.wrap ((k:Int)+1)=((k+1:Nat):Int):=by rw [IntWalk.i64_in _ (by omega)];omega
  have hc:=Yc5.1 hg2 k hk
  have c0:=dec2 hc.1 hc.2
  unfold putR put2
  cases he:(i64.wrap (num (aR.extract (k*3) (k*3+3)) 1)==a2)<;>simp only [Zar,h1,h0,h3,he,c0,hg1,Bool.and_self,Int.toNat_natCast,cond_true,cond_false]) (by
  have h1:decide ((nR:Int)<(nR:Int))=false:=decide_eq_false (by omega)
  simp only [Zar,h1,cond_false]
  rfl) (by omega)
def Zd5:Con:=fun args h=>match args,h with
 | [.r a0 71 [(365,0)],.g a1 60,.i .i64 a2],[.sl (.came bR) nR aR 95]=>some (.a (.g (Uby a2 nR aR a1) 60),.none,((decide (0≤a2)&&decide (a2≤14))&&Uc0 nR aR))
 | _,_=>none
theorem Zj4:EntX PZ 51:=Zaf (fn:=Tryz.f51) (by kernel_rfl) (by kernel_rfl) (by kernel_rfl)
theorem Zlp:Uad (md F) PZ 51 Zd5:=(Zah (N:=18446744073709551616) (by kernel_rfl) (mkΓ_consX (Zad Zme) Zj2 mkΓ_nilX) (fn:=Tryz.f51) (by kernel_rfl) (by kernel_rfl) [([12],[2])]).of (by
 intro ρ h w args vals r e hA hH hr
 unfold Zd5 at hr
 split at hr
 ·rename_i a0 a1 a2 bR nR aR
  obtain ⟨rfl,hg⟩:=Prod.mk.inj (Option.some.inj hr)
  obtain ⟨rfl,hg2⟩:=Prod.mk.inj hg
  exact Zkh a0 a1 a2 bR nR aR (hA.wtr 0 rfl) (hA.wt 1 rfl) (hA.rng 2 rfl) (hH.slw 0 rfl) hg2
 ·cases hr)
end
end Go.Proofs.YtflnjkpejbohjaaGreatDoor
