/- The prospects of some cells, and their sources, in company. -/
import Derived.Test.YtdhckffhnkeogaaDoorProg
import Derived.Test.YtdhckffhnkeogaaDoorCmD
set_option linter.unusedVariables false
set_option linter.unusedSimpArgs false
namespace Go.Proofs.YtdhckffhnkeogaaDoor
open Go.ChangeShapes Go.WideShapes Go.ChangeAt Go.RowKit Ve Vc
open Tryd (prog)
set_option maxRecDepth 100000
noncomputable section
variable {mn:Md}
abbrev Zh3:Con:=Ueh
theorem Zgw:EntX prog 21:=Zxa
theorem Zip:Uab mn prog 21 Zh3:=Yc6
def Zgt (a0:Array Value) (a1:Int):Bool:=((IntKind.u64.wrap (BitVec.ofInt IntKind.u64.bits a1 &&& ~~~(BitVec.ofInt IntKind.u64.bits (Uay (num a0 0) (num a0 1) 36))).toNat)==(0:Int))
theorem Zja (N:Nat) (a0:Array Value):ansV prog (mkΓ [(68,con Zgq)]) N Tryd.f46 [] [.g a0 62] []=(bif (Zdd (num a0 0)) then (bif decide ((num a0 1) ≥ (1:Int)) then (some (.a (.b (decide ((num a0 1)≤(8:Int)))),.none,true))
   else (some (.a (.b (false)),.none,true)))
  else (some (.a (.b (false)),.none,true))):=by kernel_rfl
def Zan (a0:Array Value):Bool:=(bif (Zdd (num a0 0)) then (bif decide ((num a0 1) ≥ (1:Int)) then decide ((num a0 1)≤(8:Int)) else false) else false)
theorem Ziu (a0:Array Value) (h_a0:WT prog 62 a0) (hg:(true)=true):ansV prog (mkΓ [(68,con Zgq)]) 1000 Tryd.f46 [] [.g a0 62] []=some (.a (.b ((Zan a0))),.none,true):=by
 refine (Zja 1000 a0).trans ?_
 unfold Zan
 revert hg
 generalize ((Zdd (num a0 0)))=b2
 intro hg
 cases b2
 ·skip
  first | (simp only [Q1,Q2,BQ6];done) | rfl | exact (nomatch (hg:false=true))
 ·skip
  revert hg
  generalize (decide ((num a0 1) ≥ (1:Int)))=b4
  intro hg
  cases b4
  ·skip
   first | (simp only [Q1,Q2,BQ6];done) | rfl | exact (nomatch (hg:false=true))
  ·skip
   first | (simp only [Q1,Q2,BQ6];done) | rfl | exact (nomatch (hg:false=true))
def Zd1:Con:=fun args h=>match args,h with
 | [.g a0 62],[]=>some (.a (.b ((Zan a0))),.none,true)
 | _,_=>none
theorem Zin:EntX prog 46:=Zap (fn:=Tryd.f46)
theorem Zjp:Uab mn prog 46 Zd1:=(ansY (N:=1000) (mkΓ_consX (Zam Zus) Zq3 mkΓ_nilX) Tryd.f46 []).of (by
 intro ρ h w args vals r e hA hH hr
 unfold Zd1 at hr
 split at hr
 ·rename_i a0
  obtain ⟨rfl,rfl,hg2⟩:=BQi hr
  exact Ziu a0 (hA.wt 0 rfl) hg2
 ·cases hr)
def Zrs (a0:Array Value):Int:=(IntKind.u64.wrap (BitVec.ofInt IntKind.u64.bits (Uay (num a0 0) (num a0 1) 36) &&& ~~~(BitVec.ofInt IntKind.u64.bits (num a0 2))).toNat)
def rowC (P:Program) (c:Int):Array Value:=folds (fun r k=>if bitI c k then r.setIfInBounds (k*1) (.int .i64 (1:Int)) else r) (zc P 133) 36
def srcV (P:Program) (S:Array Value) (b h c:Int):Int:=IntKind.u64.wrap (BitVec.ofInt IntKind.u64.bits (Zrs S) &&& BitVec.ofInt IntKind.u64.bits (folds (fbF (rowR P sumL S (rowC P c) b h h.toNat)) 0 36)).toNat
end
end Go.Proofs.YtdhckffhnkeogaaDoor
