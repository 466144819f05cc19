/- Plans taken, and what is released in an hour. -/
import Derived.Test.YtflnjkpejbohjaaGreatDoorProg
import Derived.Test.YtflnjkpejbohjaaGreatDoorCpA
import Derived.Test.YtflnjkpejbohjaaGreatDoorAsX
namespace Go.Proofs.YtflnjkpejbohjaaGreatDoor
open Go.ChangeShapes Go.WideShapes Go.ChangeAt Go.RowKit Ve Vc
open IntKind (i64)
set_option linter.unusedVariables false
set_option linter.unusedSimpArgs false
set_option maxRecDepth 100000
noncomputable section
variable {F:Vc.Fd}
abbrev Zm6:Con:=planCon
theorem Zr5:EntX Tryz.prog 26:=Yei
theorem Zy0:ConOkX (md F) Tryz.prog 26 Zm6:=Ykg
theorem Zwo (N:Nat) (a0:Array Value) (a1:Int):ansV Tryz.prog (mkΓ [(67,con Zff)]) N Tryz.f47 [] [.g a0 41,.i .u64 (a1)] []=(bif (decide (0≤num a0 0)&&decide (num a0 0≤6)&&(decide (0≤num a0 1)&&decide (num a0 1≤6))) then (some (.a (.b (((IntKind.u64.wrap (BitVec.ofInt IntKind.u64.bits a1 &&& ~~~(BitVec.ofInt IntKind.u64.bits (gridI (num a0 0) (num a0 1) 36))).toNat)==(0:Int)))),.none,true))
  else (none)):=by kernel_rfl
def Za3 (a0:Array Value) (a1:Int):Bool:=((IntKind.u64.wrap (BitVec.ofInt IntKind.u64.bits a1 &&& ~~~(BitVec.ofInt IntKind.u64.bits (gridI (num a0 0) (num a0 1) 36))).toNat)==(0:Int))
def Zc3 (a0:Array Value) (a1:Int):Bool:=(decide (0≤num a0 0)&&decide (num a0 0≤6)&&(decide (0≤num a0 1)&&decide (num a0 1≤6)))
theorem Zvf (a0:Array Value) (a1:Int) (h_a0:WT Tryz.prog 41 a0) (h_a1:IntKind.u64.min≤a1∧a1≤IntKind.u64.max) (hg:((Zc3 a0 a1))=true):ansV Tryz.prog (mkΓ [(67,con Zff)]) 1000 Tryz.f47 [] [.g a0 41,.i .u64 (a1)] []=some (.a (.b ((Za3 a0 a1))),.none,true):=by
 refine (Zwo 1000 a0 a1).trans ?_
 unfold Zc3 at hg
 unfold Za3
 revert hg
 generalize ((decide (0≤num a0 0)&&decide (num a0 0≤6)&&(decide (0≤num a0 1)&&decide (num a0 1≤6))))=b2
 intro hg
 cases b2
 ·skip
  first | exact (nomatch (hg:false=true)) | (simp only [cond_true,cond_false,Bool.and_true,Bool.true_and,Bool.and_false,Bool.false_and];done) | rfl
 ·skip
  first | (simp only [cond_true,cond_false,Bool.and_true,Bool.true_and,Bool.and_false,Bool.false_and];done) | rfl | exact (nomatch (hg:false=true))
def Zi7:Con:=fun args h=>match args,h with
 | [.g a0 41,.i .u64 a1],[]=>some (.a (.b ((Za3 a0 a1))),.none,(Zc3 a0 a1))
 | _,_=>none
theorem Zhv:EntX Tryz.prog 47:=Zaf (fn:=Tryz.f47) (by kernel_rfl) (by kernel_rfl) (by kernel_rfl)
theorem Zjy:ConOkX (md F) Tryz.prog 47 Zi7:=(Zag (N:=1000) (by kernel_rfl) (mkΓ_consX (Zad Zn6) Zkx mkΓ_nilX) (fn:=Tryz.f47) (by kernel_rfl) (by kernel_rfl) []).of (by
 intro ρ h w args vals r e hA hH hr
 unfold Zi7 at hr
 split at hr
 ·rename_i a0 a1
  obtain ⟨rfl,hg⟩:=Prod.mk.inj (Option.some.inj hr)
  obtain ⟨rfl,hg2⟩:=Prod.mk.inj hg
  exact Zvf a0 a1 (hA.wt 0 rfl) (hA.rng 1 rfl) hg2
 ·cases hr)
def Zmb:Cons:=(mkΓ [(65,con Ziw),(66,con Zg4)])
theorem Zn2 (N:Nat) (a0 a1:Array Value) (b_a1x2:Option (Option Addr)) (n_a1x2:Nat) (a1x2:Array Value):ansV Tryz.prog Zmb N Tryz.f46 [] [.g a0 41,.r a1 45 [(2,0)]] [.sl (.came b_a1x2) n_a1x2 a1x2 95]=(bif (!((okS a0&&planB a0 a1 n_a1x2 a1x2))) then (some (.t [.r (zc Tryz.prog 71) 71 [],.v (.iface 104 (.int .i64 (1:Int)))],.none,true))
  else (some (.t [.r ((spl (spl (zc Tryz.prog 71) 0 (#[.int .i64 (i64.wrap (num a1 0)),.int .i64 (i64.wrap (num a1 1))]:Array Value).toList) 2 a0.toList).setIfInBounds 365 (.slice none 0 0)) 71 [(365,0)],.v (.nilIface)],.none,true))):=by kernel_rfl
theorem Zta (a0 a1:Array Value) (b_a1x2:Option (Option Addr)) (n_a1x2:Nat) (a1x2:Array Value) (h_a0:WT Tryz.prog 41 a0) (h_a1:WT Tryz.prog 45 a1) (h_a1x2:a1x2.size=n_a1x2*(lay Tryz.prog 95).length∧(∀ k,k<n_a1x2→WT Tryz.prog 95 (a1x2.extract (k*(lay Tryz.prog 95).length) (k*(lay Tryz.prog 95).length+(lay Tryz.prog 95).length)))∧n_a1x2≤9223372036854775807) (hc0:((okS a0&&planB a0 a1 n_a1x2 a1x2))=false) (hg:(true)=true):ansV Tryz.prog Zmb 1000 Tryz.f46 [] [.g a0 41,.r a1 45 [(2,0)]] [.sl (.came b_a1x2) n_a1x2 a1x2 95]=some (.t [.r (zc Tryz.prog 71) 71 [],.v (.iface 104 (.int .i64 (1:Int)))],.none,true):=by
 refine (Zn2 1000 a0 a1 b_a1x2 n_a1x2 a1x2).trans ?_
 simp only [hc0,Bool.not_false,cond_true]
theorem Zsz (a0 a1:Array Value) (b_a1x2:Option (Option Addr)) (n_a1x2:Nat) (a1x2:Array Value) (h_a0:WT Tryz.prog 41 a0) (h_a1:WT Tryz.prog 45 a1) (h_a1x2:a1x2.size=n_a1x2*(lay Tryz.prog 95).length∧(∀ k,k<n_a1x2→WT Tryz.prog 95 (a1x2.extract (k*(lay Tryz.prog 95).length) (k*(lay Tryz.prog 95).length+(lay Tryz.prog 95).length)))∧n_a1x2≤9223372036854775807) (hc0:((okS a0&&planB a0 a1 n_a1x2 a1x2))=true) (hg:(true)=true):ansV Tryz.prog Zmb 1000 Tryz.f46 [] [.g a0 41,.r a1 45 [(2,0)]] [.sl (.came b_a1x2) n_a1x2 a1x2 95]=some (.t [.r ((spl (spl (zc Tryz.prog 71) 0 (#[.int .i64 (i64.wrap (num a1 0)),.int .i64 (i64.wrap (num a1 1))]:Array Value).toList) 2 a0.toList).setIfInBounds 365 (.slice none 0 0)) 71 [(365,0)],.v (.nilIface)],.none,true):=by
 refine (Zn2 1000 a0 a1 b_a1x2 n_a1x2 a1x2).trans ?_
 simp only [hc0,Bool.not_true,cond_false]
def Zi4:SCon:=fun args h=>match args,h with
 | [.g a0 41,.r a1 45 [(2,0)]],[.sl (.came b_a1x2) n_a1x2 a1x2 95]=>.two ((okS a0&&planB a0 a1 n_a1x2 a1x2)) (.one (some (.t [.r ((spl (spl (zc Tryz.prog 71) 0 (#[.int .i64 (i64.wrap (num a1 0)),.int .i64 (i64.wrap (num a1 1))]:Array Value).toList) 2 a0.toList).setIfInBounds 365 (.slice none 0 0)) 71 [(365,0)],.v (.nilIface)],.none,true))) (.one (some (.t [.r (zc Tryz.prog 71) 71 [],.v (.iface 104 (.int .i64 (1:Int)))],.none,true)))
 | _,_=>.one none
theorem Zis:EntX Tryz.prog 46:=Zaf (fn:=Tryz.f46) (by kernel_rfl) (by kernel_rfl) (by kernel_rfl)
theorem Zkb:ConOkX (md F) Tryz.prog 46 (fun args h=>wayRes (Zi4 args h)):=by
 intro ρ h w args vals r e hn hr hA hH
 dsimp only at hr
 unfold Zi4 at hr
 split at hr
 ·rename_i a0 a1 b_a1x2 n_a1x2 a1x2
  simp only [wayRes] at hr
  cases hc0:((okS a0&&planB a0 a1 n_a1x2 a1x2))
  ·rw [hc0] at hr
   simp only [wayRes,cond_true,cond_false] at hr
   obtain ⟨rfl,hg⟩:=Prod.mk.inj (Option.some.inj hr)
   obtain ⟨rfl,hg2⟩:=Prod.mk.inj hg
   exact ((Zag (N:=1000) (by kernel_rfl) (mkΓ_consX (Zad Zm8) Zkk (mkΓ_consX (Zad Zjs) Zhq mkΓ_nilX)) (fn:=Tryz.f46) (by kernel_rfl) (by kernel_rfl) [])) ρ _ w _ vals _ _ hn ((Zta a0 a1 b_a1x2 n_a1x2 a1x2 (hA.wt 0 rfl) (hA.wtr 1 rfl) (hH.slw 0 rfl) hc0 hg2)) hA hH
  ·rw [hc0] at hr
   simp only [wayRes,cond_true,cond_false] at hr
   obtain ⟨rfl,hg⟩:=Prod.mk.inj (Option.some.inj hr)
   obtain ⟨rfl,hg2⟩:=Prod.mk.inj hg
   exact ((Zag (N:=1000) (by kernel_rfl) (mkΓ_consX (Zad Zm8) Zkk (mkΓ_consX (Zad Zjs) Zhq mkΓ_nilX)) (fn:=Tryz.f46) (by kernel_rfl) (by kernel_rfl) [])) ρ _ w _ vals _ _ hn ((Zsz a0 a1 b_a1x2 n_a1x2 a1x2 (hA.wt 0 rfl) (hA.wtr 1 rfl) (hH.slw 0 rfl) hc0 hg2)) hA hH
 ·simp only [wayRes] at hr
  cases hr
def Zg3:Cons:=(mkΓw [(46,conS Zi4)] [(47,con Zi7)] [] [])
theorem Zhs (N:Nat) (a0 a1:Array Value) (a2:Int) (b_a1x2:Option (Option Addr)) (n_a1x2:Nat) (a1x2:Array Value):ansV Tryz.prog Zg3 N Tryz.f25 [] [.g a0 41,.r a1 45 [(2,0)],.i .u64 (a2)] [.sl (.came b_a1x2) n_a1x2 a1x2 95]=(bif (okS a0&&planB a0 a1 n_a1x2 a1x2) then (bif (Zc3 a0 a2) then (bif (!((Za3 a0 a2))) then (some (.t [.r (zc Tryz.prog 71) 71 [],.v (.iface 104 (.int .i64 (2:Int)))],.none,true))
    else (some (.t [.r ((spl (spl (zc Tryz.prog 71) 0 (#[.int .i64 (i64.wrap (num a1 0)),.int .i64 (i64.wrap (num a1 1))]:Array Value).toList) 2 a0.toList).setIfInBounds 365 (.slice none 0 0)) 71 [(365,0)],.v (.nilIface)],.none,true)))
   else (none))
  else (some (.t [.r (zc Tryz.prog 71) 71 [],.v (.iface 104 (.int .i64 (1:Int)))],.none,true))):=by kernel_rfl
theorem Zzu {S:Array Value} {c:Int} (hok:okS S=true):Zc3 S c=true:=by
 obtain ⟨h1,h2,h3,h4⟩:=Zno hok
 unfold Zc3
 rw [decide_eq_true (show 0≤num S 0 by omega),decide_eq_true (show num S 0≤6 by omega),decide_eq_true (show 0≤num S 1 by omega),decide_eq_true (show num S 1≤6 by omega)]
 rfl
theorem Zp9 (a0 a1:Array Value) (a2:Int) (b_a1x2:Option (Option Addr)) (n_a1x2:Nat) (a1x2:Array Value) (h_a0:WT Tryz.prog 41 a0) (h_a1:WT Tryz.prog 45 a1) (h_a2:IntKind.u64.min≤a2∧a2≤IntKind.u64.max) (h_a1x2:a1x2.size=n_a1x2*(lay Tryz.prog 95).length∧(∀ k,k<n_a1x2→WT Tryz.prog 95 (a1x2.extract (k*(lay Tryz.prog 95).length) (k*(lay Tryz.prog 95).length+(lay Tryz.prog 95).length)))∧n_a1x2≤9223372036854775807) (hc0:((okS a0&&planB a0 a1 n_a1x2 a1x2))=false) (hg:(true)=true):ansV Tryz.prog Zg3 1000 Tryz.f25 [] [.g a0 41,.r a1 45 [(2,0)],.i .u64 (a2)] [.sl (.came b_a1x2) n_a1x2 a1x2 95]=some (.t [.r (zc Tryz.prog 71) 71 [],.v (.iface 104 (.int .i64 (1:Int)))],.none,true):=by
 refine (Zhs 1000 a0 a1 a2 b_a1x2 n_a1x2 a1x2).trans ?_
 simp only [hc0,cond_false]
theorem Zpg (a0 a1:Array Value) (a2:Int) (b_a1x2:Option (Option Addr)) (n_a1x2:Nat) (a1x2:Array Value) (h_a0:WT Tryz.prog 41 a0) (h_a1:WT Tryz.prog 45 a1) (h_a2:IntKind.u64.min≤a2∧a2≤IntKind.u64.max) (h_a1x2:a1x2.size=n_a1x2*(lay Tryz.prog 95).length∧(∀ k,k<n_a1x2→WT Tryz.prog 95 (a1x2.extract (k*(lay Tryz.prog 95).length) (k*(lay Tryz.prog 95).length+(lay Tryz.prog 95).length)))∧n_a1x2≤9223372036854775807) (hc0:((okS a0&&planB a0 a1 n_a1x2 a1x2))=true) (hc1:((Za3 a0 a2))=false) (hg:(true)=true):ansV Tryz.prog Zg3 1000 Tryz.f25 [] [.g a0 41,.r a1 45 [(2,0)],.i .u64 (a2)] [.sl (.came b_a1x2) n_a1x2 a1x2 95]=some (.t [.r (zc Tryz.prog 71) 71 [],.v (.iface 104 (.int .i64 (2:Int)))],.none,true):=by
 refine (Zhs 1000 a0 a1 a2 b_a1x2 n_a1x2 a1x2).trans ?_
 have hgd:Zc3 a0 a2=true:=by
  rw [Bool.and_eq_true] at hc0
  exact Zzu hc0.1
 simp only [hc0,hc1,hgd,Bool.not_false,cond_true]
theorem Zo6 (a0 a1:Array Value) (a2:Int) (b_a1x2:Option (Option Addr)) (n_a1x2:Nat) (a1x2:Array Value) (h_a0:WT Tryz.prog 41 a0) (h_a1:WT Tryz.prog 45 a1) (h_a2:IntKind.u64.min≤a2∧a2≤IntKind.u64.max) (h_a1x2:a1x2.size=n_a1x2*(lay Tryz.prog 95).length∧(∀ k,k<n_a1x2→WT Tryz.prog 95 (a1x2.extract (k*(lay Tryz.prog 95).length) (k*(lay Tryz.prog 95).length+(lay Tryz.prog 95).length)))∧n_a1x2≤9223372036854775807) (hc0:((okS a0&&planB a0 a1 n_a1x2 a1x2))=true) (hc1:((Za3 a0 a2))=true) (hg:(true)=true):ansV Tryz.prog Zg3 1000 Tryz.f25 [] [.g a0 41,.r a1 45 [(2,0)],.i .u64 (a2)] [.sl (.came b_a1x2) n_a1x2 a1x2 95]=some (.t [.r ((spl (spl (zc Tryz.prog 71) 0 (#[.int .i64 (i64.wrap (num a1 0)),.int .i64 (i64.wrap (num a1 1))]:Array Value).toList) 2 a0.toList).setIfInBounds 365 (.slice none 0 0)) 71 [(365,0)],.v (.nilIface)],.none,true):=by
 refine (Zhs 1000 a0 a1 a2 b_a1x2 n_a1x2 a1x2).trans ?_
 have hgd:Zc3 a0 a2=true:=by
  rw [Bool.and_eq_true] at hc0
  exact Zzu hc0.1
 simp only [hc0,hc1,hgd,Bool.not_true,cond_false,cond_true]
def Zha:SCon:=fun args h=>match args,h with
 | [.g a0 41,.r a1 45 [(2,0)],.i .u64 a2],[.sl (.came b_a1x2) n_a1x2 a1x2 95]=>.two ((okS a0&&planB a0 a1 n_a1x2 a1x2)) (.two ((Za3 a0 a2)) (.one (some (.t [.r ((spl (spl (zc Tryz.prog 71) 0 (#[.int .i64 (i64.wrap (num a1 0)),.int .i64 (i64.wrap (num a1 1))]:Array Value).toList) 2 a0.toList).setIfInBounds 365 (.slice none 0 0)) 71 [(365,0)],.v (.nilIface)],.none,true))) (.one (some (.t [.r (zc Tryz.prog 71) 71 [],.v (.iface 104 (.int .i64 (2:Int)))],.none,true)))) (.one (some (.t [.r (zc Tryz.prog 71) 71 [],.v (.iface 104 (.int .i64 (1:Int)))],.none,true)))
 | _,_=>.one none
theorem Zpk:EntX Tryz.prog 25:=Zaf (fn:=Tryz.f25) (by kernel_rfl) (by kernel_rfl) (by kernel_rfl)
theorem Zsv:ConOkX (md F) Tryz.prog 25 (fun args h=>wayRes (Zha args h)):=by
 intro ρ h w args vals r e hn hr hA hH
 dsimp only at hr
 unfold Zha at hr
 split at hr
 ·rename_i a0 a1 a2 b_a1x2 n_a1x2 a1x2
  simp only [wayRes] at hr
  cases hc0:((okS a0&&planB a0 a1 n_a1x2 a1x2))
  ·rw [hc0] at hr
   simp only [wayRes,cond_true,cond_false] at hr
   obtain ⟨rfl,hg⟩:=Prod.mk.inj (Option.some.inj hr)
   obtain ⟨rfl,hg2⟩:=Prod.mk.inj hg
   exact ((Zag (N:=1000) (by kernel_rfl) (mkΓw_sX (Zy5 Zkb) Zis (mkΓw_cX (Zad Zjy) Zhv mkΓx_nilX)) (fn:=Tryz.f25) (by kernel_rfl) (by kernel_rfl) [])) ρ _ w _ vals _ _ hn ((Zp9 a0 a1 a2 b_a1x2 n_a1x2 a1x2 (hA.wt 0 rfl) (hA.wtr 1 rfl) (hA.rng 2 rfl) (hH.slw 0 rfl) hc0 hg2)) hA hH
  ·rw [hc0] at hr
   simp only [wayRes,cond_true,cond_false] at hr
   cases hc1:((Za3 a0 a2))
   ·rw [hc1] at hr
    simp only [wayRes,cond_true,cond_false] at hr
    obtain ⟨rfl,hg⟩:=Prod.mk.inj (Option.some.inj hr)
    obtain ⟨rfl,hg2⟩:=Prod.mk.inj hg
    exact ((Zag (N:=1000) (by kernel_rfl) (mkΓw_sX (Zy5 Zkb) Zis (mkΓw_cX (Zad Zjy) Zhv mkΓx_nilX)) (fn:=Tryz.f25) (by kernel_rfl) (by kernel_rfl) [])) ρ _ w _ vals _ _ hn ((Zpg a0 a1 a2 b_a1x2 n_a1x2 a1x2 (hA.wt 0 rfl) (hA.wtr 1 rfl) (hA.rng 2 rfl) (hH.slw 0 rfl) hc0 hc1 hg2)) hA hH
   ·rw [hc1] at hr
    simp only [wayRes,cond_true,cond_false] at hr
    obtain ⟨rfl,hg⟩:=Prod.mk.inj (Option.some.inj hr)
    obtain ⟨rfl,hg2⟩:=Prod.mk.inj hg
    exact ((Zag (N:=1000) (by kernel_rfl) (mkΓw_sX (Zy5 Zkb) Zis (mkΓw_cX (Zad Zjy) Zhv mkΓx_nilX)) (fn:=Tryz.f25) (by kernel_rfl) (by kernel_rfl) [])) ρ _ w _ vals _ _ hn ((Zo6 a0 a1 a2 b_a1x2 n_a1x2 a1x2 (hA.wt 0 rfl) (hA.wtr 1 rfl) (hA.rng 2 rfl) (hH.slw 0 rfl) hc0 hc1 hg2)) hA hH
 ·simp only [wayRes] at hr
  cases hr
def put2 (X:Array Value) (c:Nat) (b m:Int):Array Value:=(X.setIfInBounds 2 (.int .i64 (i64.wrap (num X 2+b)))).setIfInBounds (3+c*1) (.int .i64 (i64.wrap (num (X.setIfInBounds 2 (.int .i64 (i64.wrap (num X 2+b)))) (3+c*1)+m)))
theorem Ymb (X:Array Value) (c:Nat) (b m:Int):(X.setIfInBounds (3+c*1) (.int .i64 (i64.wrap (num X (3+c*1)+m)))).setIfInBounds 2 (.int .i64 (i64.wrap (num (X.setIfInBounds (3+c*1) (.int .i64 (i64.wrap (num X (3+c*1)+m)))) 2+b)))=put2 X c b m:=by
 unfold put2
 rw [Zbt,if_neg (by omega),Zbt,if_neg (by omega)]
 exact Array.setIfInBounds_comm _ _ (by omega)
def putR (h:Int) (A X:Array Value) (k:Nat):Array Value:=bif (i64.wrap (num (A.extract (k*3) (k*3+3)) 1)==h) then put2 X (num (A.extract (k*3) (k*3+3)) 0).toNat (i64.wrap (num (A.extract (k*3) (k*3+3)) 2)) (i64.wrap (i64.wrap (num (A.extract (k*3) (k*3+3)) 2)*12^h.toNat)) else X
def withV (h:Int) (n:Nat) (A X:Array Value):Array Value:=folds (putR h A) X n
def cellsB (n:Nat) (A:Array Value):Bool:=(List.range n).all fun k=>decide (0≤num (A.extract (k*3) (k*3+3)) 0)&&decide (num (A.extract (k*3) (k*3+3)) 0<36)
theorem Yc3 {n:Nat} {A:Array Value}:cellsB n A=true ↔ ∀ k,k<n→0≤num (A.extract (k*3) (k*3+3)) 0∧num (A.extract (k*3) (k*3+3)) 0<36:=by
 unfold cellsB
 rw [List.all_eq_true]
 constructor
 ·intro h k hk
  have:=h k (List.mem_range.2 hk)
  rw [Bool.and_eq_true,decide_eq_true_eq,decide_eq_true_eq] at this
  exact this
 ·intro h k hk
  rw [Bool.and_eq_true,decide_eq_true_eq,decide_eq_true_eq]
  exact h k (List.mem_range.1 hk)
def spreadV (P:Program) (S:Array Value) (b:Int) (n:Nat) (A:Array Value):Nat→Array Value
 | 0=>(zc P 60).setIfInBounds 0 (.int .i8 b)
 | j+1=>hourV P S (withV (j:Int) n A (spreadV P S b n A j))
def spB (S:Array Value) (b h:Int) (n:Nat) (A:Array Value):Bool:=Zaa b 0 1&&(Zaa h 1 8&&relAll S h n A)
def Good (S:Array Value) (b:Int) (j:Nat) (X:Array Value):Prop:=WT Tryz.prog 60 X∧num X 0=b∧num X 1=(j:Int)∧ZO S X
theorem Yis {S A X:Array Value} {b h:Int} {j k:Nat} (hX:Good S b j X) (hc:0≤num (A.extract (k*3) (k*3+3)) 0∧num (A.extract (k*3) (k*3+3)) 0≤35∧inC (num S 0) (num S 1) (num (A.extract (k*3) (k*3+3)) 0).toNat=true):Good S b j (putR h A X k):=by
 obtain ⟨w,n0,n1,z⟩:=hX
 unfold putR
 cases (i64.wrap (num (A.extract (k*3) (k*3+3)) 1)==h) with
 | false=>exact ⟨w,n0,n1,z⟩
 | true=>
  rw [cond_true]
  generalize i64.wrap (i64.wrap (num (A.extract (k*3) (k*3+3)) 2)*12^h.toNat)=m
  generalize i64.wrap (num (A.extract (k*3) (k*3+3)) 2)=bb
  generalize num (A.extract (k*3) (k*3+3)) 0=c at hc
  obtain ⟨c0,c1,c2⟩:=hc
  unfold put2
  have w2:=Zlc (k:=.i64) (i:=2) w (Zjo (by omega) (by omega)) (Zgl .i64 (num X 2+bb))
  refine ⟨Zlc (k:=.i64) w2 (Zjo (by omega) (by omega)) (Zgl .i64 _), ?_, ?_,fun i hi hf=> ?_⟩
  ·rw [Zbt,if_neg (by omega),Zbt,if_neg (by omega)];exact n0
  ·rw [Zbt,if_neg (by omega),Zbt,if_neg (by omega)];exact n1
  ·have hne:c.toNat≠i:=fun e=>by rw [e,hf] at c2;cases c2
   rw [Zbt,if_neg (by omega),Zbt,if_neg (by omega)]
   exact z i hi hf
theorem Ya4 {S A X:Array Value} {b h:Int} {j n:Nat} (hX:Good S b j X) (hc:∀ k,k<n→0≤num (A.extract (k*3) (k*3+3)) 0∧num (A.extract (k*3) (k*3+3)) 0≤35∧inC (num S 0) (num S 1) (num (A.extract (k*3) (k*3+3)) 0).toNat=true):Good S b j (withV h n A X):=
 Zh7 (fun _ X=>Good S b j X) hX (fun k s hk hs=>Yis hs (hc k hk)) n (Nat.le_refl _)
theorem Ymk {S X:Array Value} {b:Int} {j:Nat} (hS:WT Tryz.prog 41 S) (hok:okS S=true) (hj:j≤100) (hX:Good S b j X):Good S b (j+1) (hourV Tryz.prog S X):=by
 obtain ⟨w,n0,n1,z⟩:=hX
 obtain ⟨e0,e1,_⟩:=Zp2 X
 refine ⟨Znt w, ?_, ?_,Yjs w hok hS z⟩
 ·rw [Zt7 _ _ (by omega),e0,n0]
 ·rw [Zt7 _ _ (by omega),e1,n1,IntWalk.i8_in _ (by omega)];omega
theorem Yhh {S X:Array Value} {b:Int} {j:Nat} (hok:okS S=true) (hb:0≤b∧b≤1) (hj:j≤100) (hX:Good S b j X):goG S X=true∧(0≤tdS X∧tdS X<2):=by
 obtain ⟨w,n0,n1,z⟩:=hX
 refine ⟨Ymj.2 ⟨hok,by rw [n0];omega,by rw [n1];omega,z⟩, ?_⟩
 unfold tdS
 rw [n0,n1,IntWalk.i8_in _ (by omega),Int.tmod_eq_emod_of_nonneg (by omega)]
 omega
theorem Zkw {S A:Array Value} {b:Int} {n:Nat} (hS:WT Tryz.prog 41 S) (hok:okS S=true) (hb:0≤b∧b≤1) (hc:∀ k,k<n→0≤num (A.extract (k*3) (k*3+3)) 0∧num (A.extract (k*3) (k*3+3)) 0≤35∧inC (num S 0) (num S 1) (num (A.extract (k*3) (k*3+3)) 0).toNat=true):∀ j,j≤50→Good S b j (spreadV Tryz.prog S b n A j)
 | 0,_=>by
  have i8:IntKind.i8.min = -128∧IntKind.i8.max=127:=⟨rfl,rfl⟩
  have z0:∀ i,num (zc Tryz.prog 60) i=0:=fun i=>by
   have h:∀ i,i<40→num (zc Tryz.prog 60) i=0:=by
    have:((List.range 40).all fun i=>num (zc Tryz.prog 60) i==0)=true:=by kernel_rfl
    intro i hi
    exact eq_of_beq (List.all_eq_true.1 this i (List.mem_range.2 hi))
   by_cases hi:i<40
   ·exact h i hi
   ·unfold num
    rw [Array.getElem?_eq_none (by rw [show (zc Tryz.prog 60).size=40 by kernel_rfl];omega)]
  have hsz:(zc Tryz.prog 60).size=40:=by kernel_rfl
  refine ⟨Zlc (k:=.i8) (WT.zero (by kernel_rfl)) Ybp.1 (by omega), ?_, ?_,fun i hi hf=> ?_⟩
  ·rw [spreadV,Zbt,if_pos (by omega)]
  ·rw [spreadV,Zbt,if_neg (by omega),z0];rfl
  ·rw [spreadV,Zbt,if_neg (by omega),z0]
 | j+1,hj=>by
  rw [spreadV]
  exact Ymk hS hok (by omega) (Ya4 (Zkw hS hok hb hc j (by omega)) hc)
theorem Ya2 {S A:Array Value} {h:Int} {n:Nat} (hS:WT Tryz.prog 41 S) (hA:∀ k,k<n→WT Tryz.prog 95 (A.extract (k*3) (k*3+3))) (hr:relAll S h n A=true):∀ k,k<n→0≤num (A.extract (k*3) (k*3+3)) 0∧num (A.extract (k*3) (k*3+3)) 0≤35∧inC (num S 0) (num S 1) (num (A.extract (k*3) (k*3+3)) 0).toNat=true:=by
 intro k hk
 have h1:=(Zqd S h n A).1 hr k hk
 have h1:relB S h (A.extract (k*3) (k*3+3))=true:=h1
 obtain ⟨-,b0⟩:=(hA k hk).int (o:=0) (k:=.i8) (by kernel_rfl)
 have m8:IntKind.i8.min = -128∧IntKind.i8.max=127:=⟨rfl,rfl⟩
 unfold relB at h1
 rw [Bool.and_eq_true,IntWalk.i64_in (num (A.extract (k*3) (k*3+3)) 0) (by omega)] at h1
 have h2:=h1.1
 generalize num (A.extract (k*3) (k*3+3)) 0=c at h2 b0
 have hi:Za0 c S=true:=by
  unfold Zae at h2
  cases hi:Za0 c S with
  | true=>rfl
  | false=>rw [hi] at h2;exact nomatch h2
 have hr:=Yi0 hi
 refine ⟨hr.1,hr.2, ?_⟩
 have e:((c.toNat:Nat):Int)=c:=by omega
 rw [← Yh7 hS (show c.toNat<36 by omega),e]
 exact hi
theorem cells_of {S A:Array Value} {n:Nat} (h:∀ k,k<n→0≤num (A.extract (k*3) (k*3+3)) 0∧num (A.extract (k*3) (k*3+3)) 0≤35∧inC (num S 0) (num S 1) (num (A.extract (k*3) (k*3+3)) 0).toNat=true):cellsB n A=true:=Yc3.2 fun k hk=>⟨(h k hk).1,by have:=(h k hk).2.1;omega⟩
def Zbb (a0 a1:Array Value) (a2:Int) (b_a0x365:Option (Option Addr)) (n_a0x365:Nat) (a0x365:Array Value):St:=(⟨.a (.r a0 71 [(365,0)]) :: .a (.g a1 60) :: .a (.i .i64 (a2)) :: .a (.w 1) :: .a (.w 2) :: .a (.u) :: .a (.w 3) :: .a (.u) :: .a (.u) :: .a (.p 1 (365) 43) :: .a (.l 0) :: .a (.i .i64 (n_a0x365:Int)) :: .a (.i .i64 (0:Int))::us 31 ([]),[.sl (.came b_a0x365) n_a0x365 a0x365 95,.one (.r a0 71 [(365,0)]) 71,.row a1 60,.row (zc Tryz.prog 60) 60],[]⟩:St)
def Zbu:Int×Array Value→LS
 | (y0_12,r0_2)=>([.a (.i .i64 (y0_12))],[.row r0_2 60])
def Zeg:Int×Array Value→Exit×LS
 | t=>((.exit 0),Zbu t)
def Zal (P : Program) (a0 a1 : Array Value) (a2 : Int) (b_a0x365 : Option (Option Addr)) (n_a0x365 : Nat) (a0x365 : Array Value) : Int × Array Value → Option (Stp (Int × Array Value) (Int × Array Value))
 | (y0_12, r0_2) => bif decide (y0_12 < (n_a0x365 : Int)) then (bif (decide (0 ≤ y0_12) && decide (y0_12 < (n_a0x365 : Int))) then (bif ((i64.wrap (num (a0x365.extract ((y0_12).toNat * 3) (((y0_12).toNat * 3) + 3)) 1)) == a2) then (bif (decide (0 ≤ (num (a0x365.extract ((y0_12).toNat * 3) (((y0_12).toNat * 3) + 3)) 0)) && decide ((num (a0x365.extract ((y0_12).toNat * 3) (((y0_12).toNat * 3) + 3)) 0) < 36)) then (bif (decide (0 ≤ a2) && decide (a2 ≤ 14)) then (bif (decide (0 ≤ (num (a0x365.extract ((y0_12).toNat * 3) (((y0_12).toNat * 3) + 3)) 0)) && decide ((num (a0x365.extract ((y0_12).toNat * 3) (((y0_12).toNat * 3) + 3)) 0) < 36)) then (some (.more ((i64.wrap (y0_12 + (1 : Int))), ((r0_2.setIfInBounds 2 (.int .i64 (i64.wrap ((num r0_2 2) + (i64.wrap (num (a0x365.extract ((y0_12).toNat * 3) (((y0_12).toNat * 3) + 3)) 2)))))).setIfInBounds (3 + ((num (a0x365.extract ((y0_12).toNat * 3) (((y0_12).toNat * 3) + 3)) 0).toNat * 1)) (.int .i64 (i64.wrap ((num (r0_2.setIfInBounds 2 (.int .i64 (i64.wrap ((num r0_2 2) + (i64.wrap (num (a0x365.extract ((y0_12).toNat * 3) (((y0_12).toNat * 3) + 3)) 2)))))) (3 + ((num (a0x365.extract ((y0_12).toNat * 3) (((y0_12).toNat * 3) + 3)) 0).toNat * 1))) + (i64.wrap ((i64.wrap (num (a0x365.extract ((y0_12).toNat * 3) (((y0_12).toNat * 3) + 3)) 2)) * (12 ^ a2.toNat))))))))))
       else (none))
      else (none))
     else (none))
    else (some (.more ((i64.wrap (y0_12 + (1 : Int))), r0_2))))
   else (none))
  else (some (.done (y0_12, r0_2)))
theorem Zlp (N:Nat) (a0 a1:Array Value) (a2:Int) (b_a0x365:Option (Option Addr)) (n_a0x365:Nat) (a0x365:Array Value):∀ t:Int×Array Value,stepV Tryz.prog (mkΓ [(53,con Zav)]) N (cAt (codeOf Tryz.f51) [1,0,1,0,0]) (pAt (mkPlan (codeOf Tryz.f51) [([12],[2])]).1 [1,0,1,0]) [12] [2] (Zbb a0 a1 a2 b_a0x365 n_a0x365 a0x365) (Zbu t)=mapS Zbu Zeg (Zal Tryz.prog a0 a1 a2 b_a0x365 n_a0x365 a0x365 t):=by
 rintro ⟨y0_12,r0_2⟩
 refine Eq.trans (b:=(bif decide (y0_12<(n_a0x365:Int)) then (bif (decide (0≤y0_12)&&decide (y0_12<(n_a0x365:Int))) then (bif ((i64.wrap (num (a0x365.extract ((y0_12).toNat*3) (((y0_12).toNat*3)+3)) 1))==a2) then (bif (decide (0≤(num (a0x365.extract ((y0_12).toNat*3) (((y0_12).toNat*3)+3)) 0))&&decide ((num (a0x365.extract ((y0_12).toNat*3) (((y0_12).toNat*3)+3)) 0)<36)) then (bif (decide (0≤a2)&&decide (a2≤14)) then (bif (decide (0≤(num (a0x365.extract ((y0_12).toNat*3) (((y0_12).toNat*3)+3)) 0))&&decide ((num (a0x365.extract ((y0_12).toNat*3) (((y0_12).toNat*3)+3)) 0)<36)) then (some (.more ([.a (.i .i64 (i64.wrap (y0_12+(1:Int))))],[.row ((r0_2.setIfInBounds 2 (.int .i64 (i64.wrap ((num r0_2 2)+(i64.wrap (num (a0x365.extract ((y0_12).toNat*3) (((y0_12).toNat*3)+3)) 2)))))).setIfInBounds (3+((num (a0x365.extract ((y0_12).toNat*3) (((y0_12).toNat*3)+3)) 0).toNat*1)) (.int .i64 (i64.wrap ((num (r0_2.setIfInBounds 2 (.int .i64 (i64.wrap ((num r0_2 2)+(i64.wrap (num (a0x365.extract ((y0_12).toNat*3) (((y0_12).toNat*3)+3)) 2)))))) (3+((num (a0x365.extract ((y0_12).toNat*3) (((y0_12).toNat*3)+3)) 0).toNat*1)))+(i64.wrap ((i64.wrap (num (a0x365.extract ((y0_12).toNat*3) (((y0_12).toNat*3)+3)) 2))*(12^a2.toNat))))))) 60])))
       else (none))
      else (none))
     else (none))
    else (some (.more ([.a (.i .i64 (i64.wrap (y0_12+(1:Int))))],[.row r0_2 60]))))
   else (none))
  else (some (.done ((.exit 0),([.a (.i .i64 (y0_12))],[.row r0_2 60])))))) (by kernel_rfl) ?_
 simp only [Zal,Zay,Zaz,Zax,Zaw,Zbu,Zeg]
def Zcd (P:Program) (N:Nat) (a0 a1:Array Value) (a2:Int) (b_a0x365:Option (Option Addr)) (n_a0x365:Nat) (a0x365:Array Value) (z0_12:Int) (q0_2:Array Value):Option (SV×Eff×Bool):=some (.a (.g q0_2 60),.none,true)
theorem Ziy (N:Nat) (a0 a1:Array Value) (a2:Int) (b_a0x365:Option (Option Addr)) (n_a0x365:Nat) (a0x365:Array Value) (z0_12:Int) (q0_2:Array Value):(kBlock 0 (kSeq (veC Tryz.prog (mkΓ [(53,con Zav)]) N (cAt (codeOf Tryz.f51) [1,1]) (pAt (mkPlan (codeOf Tryz.f51) [([12],[2])]).1 [1,1]) (SV×Eff×Bool)) (finK Tryz.prog [.sl (.came b_a0x365) n_a0x365 a0x365 95] [.cell 6 60]))) (.exit 0) (left (writes (cAt (codeOf Tryz.f51) [1,0,1,0,0])) [12] [2] (Zbb a0 a1 a2 b_a0x365 n_a0x365 a0x365) ([.a (.i .i64 (z0_12))],[.row q0_2 60]))=Zcd Tryz.prog N a0 a1 a2 b_a0x365 n_a0x365 a0x365 z0_12 q0_2:=by
 refine Eq.trans (b:=(some (.a (.g q0_2 60),.none,true))) (by kernel_rfl) ?_
 rfl
theorem Zlj (N:Nat) (a0 a1:Array Value) (a2:Int) (b_a0x365:Option (Option Addr)) (n_a0x365:Nat) (a0x365:Array Value):bindX (iterO (stepV Tryz.prog (mkΓ [(53,con Zav)]) N (cAt (codeOf Tryz.f51) [1,0,1,0,0]) (pAt (mkPlan (codeOf Tryz.f51) [([12],[2])]).1 [1,0,1,0]) [12] [2] (Zbb a0 a1 a2 b_a0x365 n_a0x365 a0x365)) N ([.a (.i .i64 (0:Int))],[.row a1 60])) (fun e s=>(kBlock 0 (kSeq (veC Tryz.prog (mkΓ [(53,con Zav)]) N (cAt (codeOf Tryz.f51) [1,1]) (pAt (mkPlan (codeOf Tryz.f51) [([12],[2])]).1 [1,1]) (SV×Eff×Bool)) (finK Tryz.prog [.sl (.came b_a0x365) n_a0x365 a0x365 95] [.cell 6 60]))) e (left (writes (cAt (codeOf Tryz.f51) [1,0,1,0,0])) [12] [2] (Zbb a0 a1 a2 b_a0x365 n_a0x365 a0x365) s))=nodeX (iterO (Zal Tryz.prog a0 a1 a2 b_a0x365 n_a0x365 a0x365) N ((0:Int),a1)) (fun x=>Zcd Tryz.prog N a0 a1 a2 b_a0x365 n_a0x365 a0x365 x.1 x.2):=by
 refine Zbc Zbu Zeg _ _ (Zlp N a0 a1 a2 b_a0x365 n_a0x365 a0x365) N ((0:Int),a1) _ _ ?_
 intro x;exact Ziy N a0 a1 a2 b_a0x365 n_a0x365 a0x365 x.1 x.2
theorem Zkm (N:Nat) (a0 a1:Array Value) (a2:Int) (b_a0x365:Option (Option Addr)) (n_a0x365:Nat) (a0x365:Array Value):ansV Tryz.prog (mkΓ [(53,con Zav)]) N Tryz.f51 [([12],[2])] [.r a0 71 [(365,0)],.g a1 60,.i .i64 (a2)] [.sl (.came b_a0x365) n_a0x365 a0x365 95]=(nodeX (iterO (Zal Tryz.prog a0 a1 a2 b_a0x365 n_a0x365 a0x365) N ((0:Int),a1)) (fun x=>Zcd Tryz.prog N a0 a1 a2 b_a0x365 n_a0x365 a0x365 x.1 x.2)):=by
 refine Eq.trans (b:=(bindX (iterO (stepV Tryz.prog (mkΓ [(53,con Zav)]) N (cAt (codeOf Tryz.f51) [1,0,1,0,0]) (pAt (mkPlan (codeOf Tryz.f51) [([12],[2])]).1 [1,0,1,0]) [12] [2] (Zbb a0 a1 a2 b_a0x365 n_a0x365 a0x365)) N ([.a (.i .i64 (0:Int))],[.row a1 60])) (fun e s=>(kBlock 0 (kSeq (veC Tryz.prog (mkΓ [(53,con Zav)]) N (cAt (codeOf Tryz.f51) [1,1]) (pAt (mkPlan (codeOf Tryz.f51) [([12],[2])]).1 [1,1]) (SV×Eff×Bool)) (finK Tryz.prog [.sl (.came b_a0x365) n_a0x365 a0x365 95] [.cell 6 60]))) e (left (writes (cAt (codeOf Tryz.f51) [1,0,1,0,0])) [12] [2] (Zbb a0 a1 a2 b_a0x365 n_a0x365 a0x365) s)))) (by kernel_rfl) ?_
 simp only [Zlj N a0 a1 a2 b_a0x365 n_a0x365 a0x365]
theorem Zjv (a0 a1:Array Value) (a2:Int) (b_a0x365:Option (Option Addr)) (n_a0x365:Nat) (a0x365:Array Value) (h_a0:WT Tryz.prog 71 a0) (h_a1:WT Tryz.prog 60 a1) (h_a2:i64.min≤a2∧a2≤i64.max) (h_a0x365:a0x365.size=n_a0x365*(lay Tryz.prog 95).length∧(∀ k,k<n_a0x365→WT Tryz.prog 95 (a0x365.extract (k*(lay Tryz.prog 95).length) (k*(lay Tryz.prog 95).length+(lay Tryz.prog 95).length)))∧n_a0x365≤9223372036854775807) (hg:(((decide (0≤a2)&&decide (a2≤14))&&cellsB n_a0x365 a0x365))=true):ansV Tryz.prog (mkΓ [(53,con Zav)]) 18446744073709551616 Tryz.f51 [([12],[2])] [.r a0 71 [(365,0)],.g a1 60,.i .i64 (a2)] [.sl (.came b_a0x365) n_a0x365 a0x365 95]=some (.a (.g (withV a2 n_a0x365 a0x365 a1) 60),.none,true):=by
 have hn:=h_a0x365.2.2
 rw [Bool.and_eq_true] at hg
 obtain ⟨hg1,hg2⟩:=hg
 refine (Zkm 18446744073709551616 a0 a1 a2 b_a0x365 n_a0x365 a0x365).trans ?_
 have hq:∀ q,iterO (Zal Tryz.prog a0 a1 a2 b_a0x365 n_a0x365 a0x365) 18446744073709551616 ((0:Int),a1)=some ((n_a0x365:Int),q)→nodeX (iterO (Zal Tryz.prog a0 a1 a2 b_a0x365 n_a0x365 a0x365) 18446744073709551616 ((0:Int),a1)) (fun x=>Zcd Tryz.prog 18446744073709551616 a0 a1 a2 b_a0x365 n_a0x365 a0x365 x.1 x.2)=some (.a (.g q 60),.none,true):=fun q e=>by rw [e];rfl
 refine hq _ ?_
 exact Zja (g:=Zal Tryz.prog a0 a1 a2 b_a0x365 n_a0x365 a0x365) (fun r k=>((k:Int),r)) (putR a2 a0x365) (m:=n_a0x365) (t:=a1) (x:=((n_a0x365:Int),withV a2 n_a0x365 a0x365 a1)) (N:=18446744073709551616) (fun k s hk _=>by
  have h1:decide ((k:Int)<(n_a0x365:Int))=true:=decide_eq_true (by omega)
  have h0:decide (0≤(k:Int))=true:=decide_eq_true (by omega)
  have h3:i64.wrap ((k:Int)+1)=((k+1:Nat):Int):=by rw [IntWalk.i64_in _ (by omega)];omega
  have hc:=Yc3.1 hg2 k hk
  have c0:=dec2 hc.1 hc.2
  unfold putR put2
  cases he:(i64.wrap (num (a0x365.extract (k*3) (k*3+3)) 1)==a2)<;>simp only [Zal,h1,h0,h3,he,c0,hg1,Bool.and_self,Int.toNat_natCast,cond_true,cond_false]) (by
  have h1:decide ((n_a0x365:Int)<(n_a0x365:Int))=false:=decide_eq_false (by omega)
  simp only [Zal,h1,cond_false]
  rfl) (by omega)
def Zd4:Con:=fun args h=>match args,h with
 | [.r a0 71 [(365,0)],.g a1 60,.i .i64 a2],[.sl (.came b_a0x365) n_a0x365 a0x365 95]=>some (.a (.g (withV a2 n_a0x365 a0x365 a1) 60),.none,((decide (0≤a2)&&decide (a2≤14))&&cellsB n_a0x365 a0x365))
 | _,_=>none
theorem Zjj:EntX Tryz.prog 51:=Zaf (fn:=Tryz.f51) (by kernel_rfl) (by kernel_rfl) (by kernel_rfl)
theorem Zk0:ConOkX (md F) Tryz.prog 51 Zd4:=(Zag (N:=18446744073709551616) (by kernel_rfl) (mkΓ_consX (Zad Zl1) Zjk mkΓ_nilX) (fn:=Tryz.f51) (by kernel_rfl) (by kernel_rfl) [([12],[2])]).of (by
 intro ρ h w args vals r e hA hH hr
 unfold Zd4 at hr
 split at hr
 ·rename_i a0 a1 a2 b_a0x365 n_a0x365 a0x365
  obtain ⟨rfl,hg⟩:=Prod.mk.inj (Option.some.inj hr)
  obtain ⟨rfl,hg2⟩:=Prod.mk.inj hg
  exact Zjv a0 a1 a2 b_a0x365 n_a0x365 a0x365 (hA.wtr 0 rfl) (hA.wt 1 rfl) (hA.rng 2 rfl) (hH.slw 0 rfl) hg2
 ·cases hr)
end
end Go.Proofs.YtflnjkpejbohjaaGreatDoor
