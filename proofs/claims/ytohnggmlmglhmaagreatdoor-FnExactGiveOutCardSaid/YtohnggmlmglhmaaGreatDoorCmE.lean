/- The prospects of some cells, and their sources, in company. -/
import Derived.Test.YtohnggmlmglhmaaGreatDoorProg
import Derived.Test.YtohnggmlmglhmaaGreatDoorCmD
namespace Go.Proofs.YtohnggmlmglhmaaGreatDoor
open Go.ChangeShapes Go.WideShapes Go.ChangeAt Go.RowKit Ve Vc
open Tryz renaming prog → PZ
set_option linter.unusedVariables false
set_option linter.unusedSimpArgs false
set_option maxRecDepth 100000
noncomputable section
variable {mn:Md}
abbrev Zlo:Con:=Ufx
theorem Zj1:EntX PZ 32:=Yig
theorem Zmi:Uab mn PZ 32 Zlo:=Ynx
theorem Zzv (N:Nat) (a0:Array Value) (a1:Int):ansV PZ (mkΓ [(67,con Zf4)]) N Tryz.f60 [] [.g a0 41,.i .u64 (a1)] []=(bif (decide (0≤num a0 0)&&decide (num a0 0≤6)&&(decide (0≤num a0 1)&&decide (num a0 1≤6))) then (some (.a (.b (((IntKind.u64.wrap (BitVec.ofInt IntKind.u64.bits a1 &&& ~~~(BitVec.ofInt IntKind.u64.bits (Uaz (num a0 0) (num a0 1) 36))).toNat)==(0:Int)))),.none,true))
  else (none)):=by kernel_rfl
def Zad (a0:Array Value) (a1:Int):Bool:=((IntKind.u64.wrap (BitVec.ofInt IntKind.u64.bits a1 &&& ~~~(BitVec.ofInt IntKind.u64.bits (Uaz (num a0 0) (num a0 1) 36))).toNat)==(0:Int))
def Zdu (a0:Array Value) (a1:Int):Bool:=(decide (0≤num a0 0)&&decide (num a0 0≤6)&&(decide (0≤num a0 1)&&decide (num a0 1≤6)))
theorem Zxa (a0:Array Value) (a1:Int) (h_a0:WT PZ 41 a0) (h_a1:IntKind.u64.min≤a1∧a1≤IntKind.u64.max) (hg:((Zdu a0 a1))=true):ansV PZ (mkΓ [(67,con Zf4)]) 1000 Tryz.f60 [] [.g a0 41,.i .u64 (a1)] []=some (.a (.b ((Zad a0 a1))),.none,true):=by
 refine (Zzv 1000 a0 a1).trans ?_
 unfold Zdu at hg
 unfold Zad
 revert hg
 generalize ((decide (0≤num a0 0)&&decide (num a0 0≤6)&&(decide (0≤num a0 1)&&decide (num a0 1≤6))))=b2
 intro hg
 cases b2
 ·skip
  first | exact (nomatch (hg:false=true)) | (simp only [Q1,Q2,BQ6];done) | rfl
 ·skip
  first | (simp only [Q1,Q2,BQ6];done) | rfl | exact (nomatch (hg:false=true))
def Zla:Con:=fun args h=>match args,h with
 | [.g a0 41,.i .u64 a1],[]=>some (.a (.b ((Zad a0 a1))),.none,(Zdu a0 a1))
 | _,_=>none
theorem Zjw:EntX PZ 60:=Zag (fn:=Tryz.f60) (by kernel_rfl) (by kernel_rfl) (by kernel_rfl)
theorem Zmo:Uab mn PZ 60 Zla:=(Zaf (N:=1000) (by kernel_rfl) (mkΓ_consX (Zac Zrd) Znp mkΓ_nilX) (fn:=Tryz.f60) (by kernel_rfl) (by kernel_rfl) []).of (by
 intro ρ h w args vals r e hA hH hr
 unfold Zla at hr
 split at hr
 ·rename_i a0 a1
  obtain ⟨rfl,rfl,hg2⟩:=BQi hr
  exact Zxa a0 a1 (hA.wt 0 rfl) (hA.rng 1 rfl) hg2
 ·cases hr)
theorem Znw (N:Nat) (a0:Array Value):ansV PZ (mkΓ [(97,con Zjb)]) N Tryz.f71 [] [.g a0 71] []=(bif (Zed (num a0 0)) then (bif decide ((num a0 1) ≥ (1:Int)) then (some (.a (.b (decide ((num a0 1)≤(8:Int)))),.none,true))
   else (some (.a (.b (false)),.none,true)))
  else (some (.a (.b (false)),.none,true))):=by kernel_rfl
def Zau (a0:Array Value):Bool:=(bif (Zed (num a0 0)) then (bif decide ((num a0 1) ≥ (1:Int)) then decide ((num a0 1)≤(8:Int)) else false) else false)
theorem Zms (a0:Array Value) (h_a0:WT PZ 71 a0) (hg:(true)=true):ansV PZ (mkΓ [(97,con Zjb)]) 1000 Tryz.f71 [] [.g a0 71] []=some (.a (.b ((Zau a0))),.none,true):=by
 refine (Znw 1000 a0).trans ?_
 unfold Zau
 revert hg
 generalize ((Zed (num a0 0)))=b2
 intro hg
 cases b2
 ·skip
  first | (simp only [Q1,Q2,BQ6];done) | rfl | exact (nomatch (hg:false=true))
 ·skip
  revert hg
  generalize (decide ((num a0 1) ≥ (1:Int)))=b4
  intro hg
  cases b4
  ·skip
   first | (simp only [Q1,Q2,BQ6];done) | rfl | exact (nomatch (hg:false=true))
  ·skip
   first | (simp only [Q1,Q2,BQ6];done) | rfl | exact (nomatch (hg:false=true))
def Ze6:Con:=fun args h=>match args,h with
 | [.g a0 71],[]=>some (.a (.b ((Zau a0))),.none,true)
 | _,_=>none
theorem Zma:EntX PZ 71:=Zag (fn:=Tryz.f71) (by kernel_rfl) (by kernel_rfl) (by kernel_rfl)
theorem Zn5:Uab mn PZ 71 Ze6:=(Zaf (N:=1000) (by kernel_rfl) (mkΓ_consX (Zac Yeg) Zxu mkΓ_nilX) (fn:=Tryz.f71) (by kernel_rfl) (by kernel_rfl) []).of (by
 intro ρ h w args vals r e hA hH hr
 unfold Ze6 at hr
 split at hr
 ·rename_i a0
  obtain ⟨rfl,rfl,hg2⟩:=BQi hr
  exact Zms a0 (hA.wt 0 rfl) hg2
 ·cases hr)
def Zz9 (a0:Array Value):Int:=(IntKind.u64.wrap (BitVec.ofInt IntKind.u64.bits (Uaz (num a0 0) (num a0 1) 36) &&& ~~~(BitVec.ofInt IntKind.u64.bits (num a0 2))).toNat)
theorem low_bits {c:Int} (hU:U64 c) (h:c<68719476736):∀ j,36≤j→bitI c j=false:=fun j hj=>by
 rw [Zjl hU]
 have h1:2^36≤2^j:=Nat.pow_le_pow_right (by omega) hj
 have h2:(2:Nat)^36=68719476736:=by decide
 unfold U64 at hU
 exact Nat.testBit_lt_two_pow (by omega)
theorem low_of {c:Int} (hU:U64 c) (h:∀ j,36≤j→bitI c j=false):c<68719476736:=by
 have h2:(2:Nat)^36=68719476736:=by decide
 have h1:c.toNat<2^36:=Nat.lt_pow_two_of_testBit _ fun j hj=>by rw [← Zjl hU];exact h j hj
 unfold U64 at hU
 omega
theorem Yn4 {T X:Type} {g:Int→T→Option (Stp T X)} (f:T→Nat→T) {c:Int} (hU:U64 c) (hh:∀ j,36≤j→bitI c j=false) (hg:∀ (t:T) (k:Nat),k<36→bitI c k=true→g (k:Int) t=some (.more (f t k))) (t:T) :
  Uau g (Ubl c.toNat) t=some (.more (folds (fun t k=>if bitI c k then f t k else t) t 36)):=by
 have key:∀ n,n≤36→Uau g (((List.range n).filter fun k=>c.toNat.testBit k).map fun (k:Nat)=>(k:Int)) t=some (.more (folds (fun t k=>if bitI c k then f t k else t) t n)):=by
  intro n
  induction n with
  | zero=>intro _;rfl
  | succ n ih=>
   intro hn
   rw [List.range_succ,List.filter_append,List.map_append,Zka,ih (by omega),Zic]
   dsimp only
   cases hb:bitI c n with
   | false=>
    have hb':c.toNat.testBit n=false:=by rw [← Zjl hU];exact hb
    rw [show (List.filter (fun k=>c.toNat.testBit k) [n])=[] by simp [hb']]
    rfl
   | true=>
    have hb':c.toNat.testBit n=true:=by rw [← Zjl hU];exact hb
    rw [show (List.filter (fun k=>c.toNat.testBit k) [n])=[n] by simp [hb']]
    simp only [List.map_cons,List.map_nil,Uau,hg _ n (by omega) hb]
    rfl
 have e:Ubl c.toNat=((List.range 36).filter fun k=>c.toNat.testBit k).map fun (k:Nat)=>(k:Int):=by
  unfold Ubl
  rw [show (64:Nat)=36+28 from rfl,List.range_add,List.filter_append]
  have:List.filter (fun k=>c.toNat.testBit k) (List.map (fun x=>36+x) (List.range 28))=[]:=by
   rw [List.filter_eq_nil_iff]
   intro k hk
   obtain ⟨i,_,rfl⟩:=List.mem_map.1 hk
   rw [← Zjl hU,hh _ (by omega)]
   simp
  rw [this,List.append_nil]
 rw [e]
 exact key 36 (Nat.le_refl _)
def rowC (P:Program) (c:Int):Array Value:=folds (fun r k=>if bitI c k then r.setIfInBounds (k*1) (.int .i64 (1:Int)) else r) (zc P 142) 36
theorem Yc0 (c:Int):(rowC PZ c).size=36∧∀ k,k<36→num (rowC PZ c) k=if bitI c k then 1 else 0:=by
 have h:=Zke (f:=fun (r:Array Value) k=>if bitI c k then r.setIfInBounds (k*1) (.int .i64 (1:Int)) else r) (t:=zc PZ 142) (n:=36) (fun n r=>r.size=36∧∀ k,k<36→num r k=if k<n∧bitI c k=true then 1 else 0) ⟨Yjb,fun k hk=>by
   rw [if_neg (by omega)]
   unfold num;rw [zc_at k hk]⟩ (fun n r hn hr=>by
  obtain ⟨h1,h2⟩:=hr
  cases hb:bitI c n with
  | false=>
   rw [if_neg (by simp)]
   refine ⟨h1,fun k hk=> ?_⟩
   rw [h2 k hk]
   by_cases e:k=n
   ·subst e;rw [if_neg (by omega),if_neg (by rw [hb];simp)]
   ·by_cases q:k<n∧bitI c k=true
    ·rw [if_pos q,if_pos ⟨by omega,q.2⟩]
    ·rw [if_neg q,if_neg (fun x=>q ⟨by omega,x.2⟩)]
  | true=>
   rw [if_pos rfl]
   refine ⟨by rw [Array.size_setIfInBounds];exact h1,fun k hk=> ?_⟩
   by_cases e:k=n
   ·subst e
    rw [Nat.mul_one,Yp6 (by omega),if_pos ⟨by omega,hb⟩]
   ·unfold num
    rw [Array.getElem?_setIfInBounds,if_neg (by omega)]
    have:=h2 k hk
    unfold num at this
    rw [this]
    by_cases q:k<n∧bitI c k=true
    ·rw [if_pos q,if_pos ⟨by omega,q.2⟩]
    ·rw [if_neg q,if_neg (fun x=>q ⟨by omega,x.2⟩)]) 36 (Nat.le_refl _)
 refine ⟨h.1,fun k hk=> ?_⟩
 have:=h.2 k hk
 unfold rowC
 rw [this]
 by_cases q:bitI c k=true
 ·rw [if_pos ⟨hk,q⟩,if_pos q]
 ·rw [if_neg (fun x=>q x.2),if_neg q]
def srcV (P:Program) (S:Array Value) (b h c:Int):Int:=IntKind.u64.wrap (BitVec.ofInt IntKind.u64.bits (Zz9 S) &&& BitVec.ofInt IntKind.u64.bits (folds (fbF (rowR P sumL S (rowC P c) b h h.toNat)) 0 36)).toNat
theorem Yfd {S:Array Value} {c:Int} (hok:okS S=true):Zdu S c=true:=by
 unfold Zdu
 exact Yms hok
end
end Go.Proofs.YtohnggmlmglhmaaGreatDoor
