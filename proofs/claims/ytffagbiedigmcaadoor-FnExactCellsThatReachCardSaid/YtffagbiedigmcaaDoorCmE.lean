/- The prospects of some cells, and their sources, in company. -/
import Derived.Test.YtffagbiedigmcaaDoorProg
import Derived.Test.YtffagbiedigmcaaDoorCmD
namespace Go.Proofs.YtffagbiedigmcaaDoor
open Go.ChangeShapes Go.WideShapes Go.ChangeAt Go.RowKit Ve Vc
open Tryd (prog)
open IntKind (i64)
set_option linter.unusedVariables false
set_option linter.unusedSimpArgs false
set_option maxRecDepth 100000
noncomputable section
variable {mn:Md}
abbrev Zkq:Con:=planCon
theorem Zo5:EntX prog 23:=Zz4
theorem Zuq:ConOkX mn prog 23 Zkq:=Yfb
theorem Ztd (N:Nat) (a0:Array Value) (a1:Int):ansV prog (mkΓ [(66,con Zc1)]) N Tryd.f47 [] [.g a0 35,.i .u64 (a1)] []=(bif (decide (0≤num a0 0)&&decide (num a0 0≤6)&&(decide (0≤num a0 1)&&decide (num a0 1≤6))) then (some (.a (.b (((IntKind.u64.wrap (BitVec.ofInt IntKind.u64.bits a1 &&& ~~~(BitVec.ofInt IntKind.u64.bits (gridI (num a0 0) (num a0 1) 36))).toNat)==(0:Int)))),.none,true))
  else (none)):=by kernel_rfl
def Zai (a0:Array Value) (a1:Int):Bool:=((IntKind.u64.wrap (BitVec.ofInt IntKind.u64.bits a1 &&& ~~~(BitVec.ofInt IntKind.u64.bits (gridI (num a0 0) (num a0 1) 36))).toNat)==(0:Int))
def Zdz (a0:Array Value) (a1:Int):Bool:=(decide (0≤num a0 0)&&decide (num a0 0≤6)&&(decide (0≤num a0 1)&&decide (num a0 1≤6)))
theorem Zqv (a0:Array Value) (a1:Int) (h_a0:WT prog 35 a0) (h_a1:IntKind.u64.min≤a1∧a1≤IntKind.u64.max) (hg:((Zdz a0 a1))=true):ansV prog (mkΓ [(66,con Zc1)]) 1000 Tryd.f47 [] [.g a0 35,.i .u64 (a1)] []=some (.a (.b ((Zai a0 a1))),.none,true):=by
 refine (Ztd 1000 a0 a1).trans ?_
 unfold Zdz at hg
 unfold Zai
 revert hg
 generalize ((decide (0≤num a0 0)&&decide (num a0 0≤6)&&(decide (0≤num a0 1)&&decide (num a0 1≤6))))=b2
 intro hg
 cases b2
 ·skip
  first | exact (nomatch (hg:false=true)) | (simp only [cond_true,cond_false,Bool.and_true,Bool.true_and,Bool.and_false,Bool.false_and];done) | rfl
 ·skip
  first | (simp only [cond_true,cond_false,Bool.and_true,Bool.true_and,Bool.and_false,Bool.false_and];done) | rfl | exact (nomatch (hg:false=true))
def Zh0:Con:=fun args h=>match args,h with
 | [.g a0 35,.i .u64 a1],[]=>some (.a (.b ((Zai a0 a1))),.none,(Zdz a0 a1))
 | _,_=>none
theorem Zg2:EntX prog 47:=Zam (fn:=Tryd.f47) (by kernel_rfl) (by kernel_rfl) (by kernel_rfl)
theorem Zii:ConOkX mn prog 47 Zh0:=(Zat (N:=1000) (by kernel_rfl) (mkΓ_consX (Zag Zid) Zgr mkΓ_nilX) (fn:=Tryd.f47) (by kernel_rfl) (by kernel_rfl) []).of (by
 intro ρ h w args vals r e hA hH hr
 unfold Zh0 at hr
 split at hr
 ·rename_i a0 a1
  obtain ⟨rfl,hg⟩:=Prod.mk.inj (Option.some.inj hr)
  obtain ⟨rfl,hg2⟩:=Prod.mk.inj hg
  exact Zqv a0 a1 (hA.wt 0 rfl) (hA.rng 1 rfl) hg2
 ·cases hr)
theorem Zjf (N:Nat) (a0:Array Value):ansV prog (mkΓ [(68,con Zgn)]) N Tryd.f46 [] [.g a0 58] []=(bif (Zch (num a0 0)) then (bif decide ((num a0 1) ≥ (1:Int)) then (some (.a (.b (decide ((num a0 1)≤(8:Int)))),.none,true))
   else (some (.a (.b (false)),.none,true)))
  else (some (.a (.b (false)),.none,true))):=by kernel_rfl
def Zb1 (a0:Array Value):Bool:=(bif (Zch (num a0 0)) then (bif decide ((num a0 1) ≥ (1:Int)) then decide ((num a0 1)≤(8:Int)) else false) else false)
theorem Zix (a0:Array Value) (h_a0:WT prog 58 a0) (hg:(true)=true):ansV prog (mkΓ [(68,con Zgn)]) 1000 Tryd.f46 [] [.g a0 58] []=some (.a (.b ((Zb1 a0))),.none,true):=by
 refine (Zjf 1000 a0).trans ?_
 unfold Zb1
 revert hg
 generalize ((Zch (num a0 0)))=b2
 intro hg
 cases b2
 ·skip
  first | (simp only [cond_true,cond_false,Bool.and_true,Bool.true_and,Bool.and_false,Bool.false_and];done) | rfl | exact (nomatch (hg:false=true))
 ·skip
  revert hg
  generalize (decide ((num a0 1) ≥ (1:Int)))=b4
  intro hg
  cases b4
  ·skip
   first | (simp only [cond_true,cond_false,Bool.and_true,Bool.true_and,Bool.and_false,Bool.false_and];done) | rfl | exact (nomatch (hg:false=true))
  ·skip
   first | (simp only [cond_true,cond_false,Bool.and_true,Bool.true_and,Bool.and_false,Bool.false_and];done) | rfl | exact (nomatch (hg:false=true))
def Zdt:Con:=fun args h=>match args,h with
 | [.g a0 58],[]=>some (.a (.b ((Zb1 a0))),.none,true)
 | _,_=>none
theorem Zde:EntX prog 46:=Zam (fn:=Tryd.f46) (by kernel_rfl) (by kernel_rfl) (by kernel_rfl)
theorem Zdx:ConOkX mn prog 46 Zdt:=(Zat (N:=1000) (by kernel_rfl) (mkΓ_consX (Zag Zvq) Zqu mkΓ_nilX) (fn:=Tryd.f46) (by kernel_rfl) (by kernel_rfl) []).of (by
 intro ρ h w args vals r e hA hH hr
 unfold Zdt at hr
 split at hr
 ·rename_i a0
  obtain ⟨rfl,hg⟩:=Prod.mk.inj (Option.some.inj hr)
  obtain ⟨rfl,hg2⟩:=Prod.mk.inj hg
  exact Zix a0 (hA.wt 0 rfl) hg2
 ·cases hr)
theorem Zqm (N:Nat) (a0:Array Value):ansV prog (mkΓ [(66,con Zc1)]) N Tryd.f49 [] [.g a0 35] []=(bif (decide (0≤num a0 0)&&decide (num a0 0≤6)&&(decide (0≤num a0 1)&&decide (num a0 1≤6))) then (some (.a (.i .u64 (IntKind.u64.wrap (BitVec.ofInt IntKind.u64.bits (gridI (num a0 0) (num a0 1) 36) &&& ~~~(BitVec.ofInt IntKind.u64.bits (num a0 2))).toNat)),.none,true))
  else (none)):=by kernel_rfl
def Zeu (a0:Array Value):Int:=(IntKind.u64.wrap (BitVec.ofInt IntKind.u64.bits (gridI (num a0 0) (num a0 1) 36) &&& ~~~(BitVec.ofInt IntKind.u64.bits (num a0 2))).toNat)
def Zdq (a0:Array Value):Bool:=(decide (0≤num a0 0)&&decide (num a0 0≤6)&&(decide (0≤num a0 1)&&decide (num a0 1≤6)))
theorem Zo6 (a0:Array Value) (h_a0:WT prog 35 a0) (hg:((Zdq a0))=true):ansV prog (mkΓ [(66,con Zc1)]) 1000 Tryd.f49 [] [.g a0 35] []=some (.a (.i .u64 (Zeu a0)),.none,true):=by
 refine (Zqm 1000 a0).trans ?_
 unfold Zdq at hg
 unfold Zeu
 revert hg
 generalize ((decide (0≤num a0 0)&&decide (num a0 0≤6)&&(decide (0≤num a0 1)&&decide (num a0 1≤6))))=b2
 intro hg
 cases b2
 ·skip
  first | exact (nomatch (hg:false=true)) | (simp only [cond_true,cond_false,Bool.and_true,Bool.true_and,Bool.and_false,Bool.false_and];done) | rfl
 ·skip
  first | (simp only [cond_true,cond_false,Bool.and_true,Bool.true_and,Bool.and_false,Bool.false_and];done) | rfl | exact (nomatch (hg:false=true))
def Zht:Con:=fun args h=>match args,h with
 | [.g a0 35],[]=>some (.a (.i .u64 (Zeu a0)),.none,(Zdq a0))
 | _,_=>none
theorem Zos:EntX prog 49:=Zam (fn:=Tryd.f49) (by kernel_rfl) (by kernel_rfl) (by kernel_rfl)
theorem Zsi:ConOkX mn prog 49 Zht:=(Zat (N:=1000) (by kernel_rfl) (mkΓ_consX (Zag Zid) Zgr mkΓ_nilX) (fn:=Tryd.f49) (by kernel_rfl) (by kernel_rfl) []).of (by
 intro ρ h w args vals r e hA hH hr
 unfold Zht at hr
 split at hr
 ·rename_i a0
  obtain ⟨rfl,hg⟩:=Prod.mk.inj (Option.some.inj hr)
  obtain ⟨rfl,hg2⟩:=Prod.mk.inj hg
  exact Zo6 a0 (hA.wt 0 rfl) hg2
 ·cases hr)
def Zmr:Cons:=(mkΓ [(37,con Zj4),(38,con Zij),(39,con Zcg),(40,con Zf0)])
theorem Zsh (N:Nat) (a1 a2 a3:Int) (a0:Array Value):ansV prog Zmr N Tryd.f18 [] [.w 0,.i .i64 (a1),.i .i64 (a2),.i .u64 (a3)] [.row a0 35]=(bif (!((okS a0))) then (some (.a (.i .i64 (1:Int)),.none,true))
    else (bif (!((Zaa a1 (0:Int) (1:Int)))) then (some (.a (.i .i64 (2:Int)),.none,true))
      else (bif (!((Zaa a2 (1:Int) (8:Int)))) then (some (.a (.i .i64 (2:Int)),.none,true))
        else (bif ((IntKind.u64.wrap (BitVec.ofInt IntKind.u64.bits a3 &&& ~~~(BitVec.ofInt IntKind.u64.bits (gridI (num a0 0) (num a0 1) 36))).toNat) != (0:Int)) then (some (.a (.i .i64 (2:Int)),.none,true))
          else (some (.a (.i .i64 (0:Int)),.none,true)))))):=by kernel_rfl
def Za1 (a1 a2 a3:Int) (a0:Array Value):Int:=(bif (!((okS a0))) then (1:Int) else (bif (!((Zaa a1 (0:Int) (1:Int)))) then (2:Int) else (bif (!((Zaa a2 (1:Int) (8:Int)))) then (2:Int) else (bif ((IntKind.u64.wrap (BitVec.ofInt IntKind.u64.bits a3 &&& ~~~(BitVec.ofInt IntKind.u64.bits (gridI (num a0 0) (num a0 1) 36))).toNat) != (0:Int)) then (2:Int) else (0:Int)))))
theorem Zr5 (a1 a2 a3:Int) (a0:Array Value) (h_a1:i64.min≤a1∧a1≤i64.max) (h_a2:i64.min≤a2∧a2≤i64.max) (h_a3:IntKind.u64.min≤a3∧a3≤IntKind.u64.max) (h_a0:WT prog 35 a0) (hg:(true)=true):ansV prog Zmr 1000 Tryd.f18 [] [.w 0,.i .i64 (a1),.i .i64 (a2),.i .u64 (a3)] [.row a0 35]=some (.a (.i .i64 (Za1 a1 a2 a3 a0)),.none,true):=by
 refine (Zsh 1000 a1 a2 a3 a0).trans ?_
 unfold Za1
 revert hg
 generalize ((!((okS a0))))=b2
 intro hg
 cases b2
 ·skip
  revert hg
  generalize ((!((Zaa a1 (0:Int) (1:Int)))))=b4
  intro hg
  cases b4
  ·skip
   revert hg
   generalize ((!((Zaa a2 (1:Int) (8:Int)))))=b6
   intro hg
   cases b6
   ·skip
    revert hg
    generalize (((IntKind.u64.wrap (BitVec.ofInt IntKind.u64.bits a3 &&& ~~~(BitVec.ofInt IntKind.u64.bits (gridI (num a0 0) (num a0 1) 36))).toNat) != (0:Int)))=b8
    intro hg
    cases b8
    ·skip
     first | (simp only [cond_true,cond_false,Bool.and_true,Bool.true_and,Bool.and_false,Bool.false_and];done) | rfl | exact (nomatch (hg:false=true))
    ·skip
     first | (simp only [cond_true,cond_false,Bool.and_true,Bool.true_and,Bool.and_false,Bool.false_and];done) | rfl | exact (nomatch (hg:false=true))
   ·skip
    first | (simp only [cond_true,cond_false,Bool.and_true,Bool.true_and,Bool.and_false,Bool.false_and];done) | rfl | exact (nomatch (hg:false=true))
  ·skip
   first | (simp only [cond_true,cond_false,Bool.and_true,Bool.true_and,Bool.and_false,Bool.false_and];done) | rfl | exact (nomatch (hg:false=true))
 ·skip
  first | (simp only [cond_true,cond_false,Bool.and_true,Bool.true_and,Bool.and_false,Bool.false_and];done) | rfl | exact (nomatch (hg:false=true))
def Zhw:Con:=fun args h=>match args,h with
 | [.w 0,.i .i64 a1,.i .i64 a2,.i .u64 a3],[.row a0 35]=>some (.a (.i .i64 (Za1 a1 a2 a3 a0)),.none,true)
 | _,_=>none
theorem Zpy:EntX prog 18:=Zam (fn:=Tryd.f18) (by kernel_rfl) (by kernel_rfl) (by kernel_rfl)
theorem Zuh:ConOkX mn prog 18 Zhw:=(Zat (N:=1000) (by kernel_rfl) (mkΓ_consX (Zag Zzs) Zud (mkΓ_consX (Zag Zw5) Zq6 (mkΓ_consX (Zag Zhl) Ze9 (mkΓ_consX (Zag Zlz) Zjc mkΓ_nilX)))) (fn:=Tryd.f18) (by kernel_rfl) (by kernel_rfl) []).of (by
 intro ρ h w args vals r e hA hH hr
 unfold Zhw at hr
 split at hr
 ·rename_i a1 a2 a3 a0
  obtain ⟨rfl,hg⟩:=Prod.mk.inj (Option.some.inj hr)
  obtain ⟨rfl,hg2⟩:=Prod.mk.inj hg
  exact Zr5 a1 a2 a3 a0 (hA.rng 1 rfl) (hA.rng 2 rfl) (hA.rng 3 rfl) (hH.wt 0 rfl) hg2
 ·cases hr)
theorem Zuk (N:Nat) (a1 a2 a3 a4:Int) (a0:Array Value):ansV prog (mkΓ [(43,con Zew)]) N Tryd.f20 [] [.w 0,.i .i64 (a1),.i .i64 (a2),.i .i64 (a3),.i .u64 (a4)] [.row a0 35]=(bif (okS a0&&planB a0 (#[.int .i8 (IntKind.i8.wrap a2),.int .i8 (IntKind.i8.wrap a3),.slice none 0 0]:Array Value) 1 (#[.int .i8 (IntKind.i8.wrap a1),.int .i8 (0:Int),.int .i16 (1:Int)]:Array Value)) then (some (.a (.i .u64 (reaV prog a0 (#[.int .i8 (IntKind.i8.wrap a2),.int .i8 (IntKind.i8.wrap a3),.slice none 0 0]:Array Value) 1 (#[.int .i8 (IntKind.i8.wrap a1),.int .i8 (0:Int),.int .i16 (1:Int)]:Array Value) a4)),.none,true))
  else (none)):=by kernel_rfl
def Zcj (P:Program) (a1 a2 a3 a4:Int) (a0:Array Value):Int:=(reaV P a0 (#[.int .i8 (IntKind.i8.wrap a2),.int .i8 (IntKind.i8.wrap a3),.slice none 0 0]:Array Value) 1 (#[.int .i8 (IntKind.i8.wrap a1),.int .i8 (0:Int),.int .i16 (1:Int)]:Array Value) a4)
def Zdv (a1 a2 a3 a4:Int) (a0:Array Value):Bool:=(okS a0&&planB a0 (#[.int .i8 (IntKind.i8.wrap a2),.int .i8 (IntKind.i8.wrap a3),.slice none 0 0]:Array Value) 1 (#[.int .i8 (IntKind.i8.wrap a1),.int .i8 (0:Int),.int .i16 (1:Int)]:Array Value))
theorem Zti (a1 a2 a3 a4:Int) (a0:Array Value) (h_a1:i64.min≤a1∧a1≤i64.max) (h_a2:i64.min≤a2∧a2≤i64.max) (h_a3:i64.min≤a3∧a3≤i64.max) (h_a4:IntKind.u64.min≤a4∧a4≤IntKind.u64.max) (h_a0:WT prog 35 a0) (hg:((Zdv a1 a2 a3 a4 a0))=true):ansV prog (mkΓ [(43,con Zew)]) 1000 Tryd.f20 [] [.w 0,.i .i64 (a1),.i .i64 (a2),.i .i64 (a3),.i .u64 (a4)] [.row a0 35]=some (.a (.i .u64 (Zcj prog a1 a2 a3 a4 a0)),.none,true):=by
 refine (Zuk 1000 a1 a2 a3 a4 a0).trans ?_
 unfold Zdv at hg
 unfold Zcj
 revert hg
 generalize ((okS a0&&planB a0 (#[.int .i8 (IntKind.i8.wrap a2),.int .i8 (IntKind.i8.wrap a3),.slice none 0 0]:Array Value) 1 (#[.int .i8 (IntKind.i8.wrap a1),.int .i8 (0:Int),.int .i16 (1:Int)]:Array Value)))=b2
 intro hg
 cases b2
 ·skip
  first | exact (nomatch (hg:false=true)) | (simp only [cond_true,cond_false,Bool.and_true,Bool.true_and,Bool.and_false,Bool.false_and];done) | rfl
 ·skip
  first | (simp only [cond_true,cond_false,Bool.and_true,Bool.true_and,Bool.and_false,Bool.false_and];done) | rfl | exact (nomatch (hg:false=true))
def Zil:Con:=fun args h=>match args,h with
 | [.w 0,.i .i64 a1,.i .i64 a2,.i .i64 a3,.i .u64 a4],[.row a0 35]=>some (.a (.i .u64 (Zcj prog a1 a2 a3 a4 a0)),.none,(Zdv a1 a2 a3 a4 a0))
 | _,_=>none
theorem Zqo:EntX prog 20:=Zam (fn:=Tryd.f20) (by kernel_rfl) (by kernel_rfl) (by kernel_rfl)
theorem Zw6:ConOkX mn prog 20 Zil:=(Zat (N:=1000) (by kernel_rfl) (mkΓ_consX (Zag Zqh) Zne mkΓ_nilX) (fn:=Tryd.f20) (by kernel_rfl) (by kernel_rfl) []).of (by
 intro ρ h w args vals r e hA hH hr
 unfold Zil at hr
 split at hr
 ·rename_i a1 a2 a3 a4 a0
  obtain ⟨rfl,hg⟩:=Prod.mk.inj (Option.some.inj hr)
  obtain ⟨rfl,hg2⟩:=Prod.mk.inj hg
  exact Zti a1 a2 a3 a4 a0 (hA.rng 1 rfl) (hA.rng 2 rfl) (hA.rng 3 rfl) (hA.rng 4 rfl) (hH.wt 0 rfl) hg2
 ·cases hr)
theorem low_bits {c:Int} (hU:U64 c) (h:c<68719476736):∀ j,36≤j→bitI c j=false:=fun j hj=>by
 rw [Zgu hU]
 have h1:2^36≤2^j:=Nat.pow_le_pow_right (by omega) hj
 have h2:(2:Nat)^36=68719476736:=by decide
 unfold U64 at hU
 exact Nat.testBit_lt_two_pow (by omega)
theorem low_of {c:Int} (hU:U64 c) (h:∀ j,36≤j→bitI c j=false):c<68719476736:=by
 have h2:(2:Nat)^36=68719476736:=by decide
 have h1:c.toNat<2^36:=Nat.lt_pow_two_of_testBit _ fun j hj=>by rw [← Zgu hU];exact h j hj
 unfold U64 at hU
 omega
theorem Ye8 {T X:Type} {g:Int→T→Option (Stp T X)} (f:T→Nat→T) {c:Int} (hU:U64 c) (hh:∀ j,36≤j→bitI c j=false) (hg:∀ (t:T) (k:Nat),k<36→bitI c k=true→g (k:Int) t=some (.more (f t k))) (t:T) :
  foldI g (bitsL c.toNat) t=some (.more (folds (fun t k=>if bitI c k then f t k else t) t 36)):=by
 have key:∀ n,n≤36→foldI g (((List.range n).filter fun k=>c.toNat.testBit k).map fun (k:Nat)=>(k:Int)) t=some (.more (folds (fun t k=>if bitI c k then f t k else t) t n)):=by
  intro n
  induction n with
  | zero=>intro _;rfl
  | succ n ih=>
   intro hn
   rw [List.range_succ,List.filter_append,List.map_append,Zky,ih (by omega),Zd0]
   dsimp only
   cases hb:bitI c n with
   | false=>
    have hb':c.toNat.testBit n=false:=by rw [← Zgu hU];exact hb
    rw [show (List.filter (fun k=>c.toNat.testBit k) [n])=[] by simp [hb']]
    rfl
   | true=>
    have hb':c.toNat.testBit n=true:=by rw [← Zgu hU];exact hb
    rw [show (List.filter (fun k=>c.toNat.testBit k) [n])=[n] by simp [hb']]
    simp only [List.map_cons,List.map_nil,foldI,hg _ n (by omega) hb]
    rfl
 have e:bitsL c.toNat=((List.range 36).filter fun k=>c.toNat.testBit k).map fun (k:Nat)=>(k:Int):=by
  unfold bitsL
  rw [show (64:Nat)=36+28 from rfl,List.range_add,List.filter_append]
  have:List.filter (fun k=>c.toNat.testBit k) (List.map (fun x=>36+x) (List.range 28))=[]:=by
   rw [List.filter_eq_nil_iff]
   intro k hk
   obtain ⟨i,_,rfl⟩:=List.mem_map.1 hk
   rw [← Zgu hU,hh _ (by omega)]
   simp
  rw [this,List.append_nil]
 rw [e]
 exact key 36 (Nat.le_refl _)
def rowC (P:Program) (c:Int):Array Value:=folds (fun r k=>if bitI c k then r.setIfInBounds (k*1) (.int .i64 (1:Int)) else r) (zc P 98) 36
theorem Znx (c:Int):(rowC prog c).size=36∧∀ k,k<36→num (rowC prog c) k=if bitI c k then 1 else 0:=by
 have h:=Zgg (f:=fun (r:Array Value) k=>if bitI c k then r.setIfInBounds (k*1) (.int .i64 (1:Int)) else r) (t:=zc prog 98) (n:=36) (fun n r=>r.size=36∧∀ k,k<36→num r k=if k<n∧bitI c k=true then 1 else 0) ⟨Yak,fun k hk=>by
   rw [if_neg (by omega)]
   unfold num;rw [zc_at k hk]⟩ (fun n r hn hr=>by
  obtain ⟨h1,h2⟩:=hr
  cases hb:bitI c n with
  | false=>
   rw [if_neg (by simp)]
   refine ⟨h1,fun k hk=> ?_⟩
   rw [h2 k hk]
   by_cases e:k=n
   ·subst e;rw [if_neg (by omega),if_neg (by rw [hb];simp)]
   ·by_cases q:k<n∧bitI c k=true
    ·rw [if_pos q,if_pos ⟨by omega,q.2⟩]
    ·rw [if_neg q,if_neg (fun x=>q ⟨by omega,x.2⟩)]
  | true=>
   rw [if_pos rfl]
   refine ⟨by rw [Array.size_setIfInBounds];exact h1,fun k hk=> ?_⟩
   by_cases e:k=n
   ·subst e
    rw [Nat.mul_one,Yfy (by omega),if_pos ⟨by omega,hb⟩]
   ·unfold num
    rw [Array.getElem?_setIfInBounds,if_neg (by omega)]
    have:=h2 k hk
    unfold num at this
    rw [this]
    by_cases q:k<n∧bitI c k=true
    ·rw [if_pos q,if_pos ⟨by omega,q.2⟩]
    ·rw [if_neg q,if_neg (fun x=>q ⟨by omega,x.2⟩)]) 36 (Nat.le_refl _)
 refine ⟨h.1,fun k hk=> ?_⟩
 have:=h.2 k hk
 unfold rowC
 rw [this]
 by_cases q:bitI c k=true
 ·rw [if_pos ⟨hk,q⟩,if_pos q]
 ·rw [if_neg (fun x=>q x.2),if_neg q]
def Zav:Cons:=(mkΓx [(73,con Zfy)] [(53,Zkh)] [(75,Zgl)])
def Zaz (a0:Array Value) (a1:Int) (g_et:Addr) (g_tb:Addr):St:=(⟨.a (.r a0 60 []) :: .a (.i .u64 (a1)) :: .a (.w 2) :: .a (.u) :: .a (.w 3) :: .a (.w 4) :: .a (.u) :: .a (.i .u64 (a1)) :: .a (.c 75 [8])::us 16 ([]),[.gl 0 154 g_et 3000062,.gl 1 0 g_tb 1000000000,.one (.r a0 60 []) 60,.one (.r #[.int .i64 (0:Int),.int .i64 (0:Int),.slice none 0 0] 101 []) 101,.row (zc prog 98) 98,.no,.no,.no,.row #[.int .u64 (a1)] 23,.no,.no,.no,.no],[]⟩:St)
def Zdd:Array Value→BS
 | r0_4=>([.row r0_4 98]:BS)
def Zej:Empty→Exit×BS:=fun x=>nomatch x
def Zbs (P:Program) (a0:Array Value) (a1:Int) (g_et:Addr) (g_tb:Addr) (x0:Int):Array Value→Option (Stp (Array Value) Empty)
 | r0_4=>bif (decide (0≤x0)&&decide (x0<36)) then (some (.more (r0_4.setIfInBounds ((x0).toNat*1) (.int .i64 (1:Int)))))
  else (none)
theorem Zk0 (N:Nat) (a0:Array Value) (a1:Int) (g_et:Addr) (g_tb:Addr) (x0:Int):∀ t:Array Value,stepI prog Zav N (cAt (codeOf Tryd.f51) [1,1,0,1,0,0]) (pAt (mkPlan (codeOf Tryd.f51) [([],[4])]).1 [1,1,0,1,0]) 13 [4] [9] [(6,9)] (Zaz a0 a1 g_et g_tb) [.i .i64 (x0)] (Zdd t)=mapS Zdd Zej (Zbs prog a0 a1 g_et g_tb x0 t):=by
 rintro r0_4
 refine Eq.trans (b:=(bif (decide (0≤x0)&&decide (x0<36)) then (some (.more ([.row (r0_4.setIfInBounds ((x0).toNat*1) (.int .i64 (1:Int))) 98]:BS)))
  else (none))) (by kernel_rfl) ?_
 simp only [Zbs,Zbe,Zbc,Zbb,Zbf,Zdd,Zej]
def Zb2 (P:Program) (N:Nat) (a0:Array Value) (a1:Int) (g_et:Addr) (g_tb:Addr) (q0_4:Array Value):Option (SV×Eff×Bool):=bif ((okS (a0.extract 2 (2+363))&&(decide (0≤(num a0 0))&&decide ((num a0 0)<2)))&&(decide (0≤(num a0 1))&&decide ((num a0 1)≤14))) then (some (.a (.r ((spl (#[.int .i64 (0:Int),.int .i64 (0:Int),.slice none 0 0]:Array Value) 0 (a0.extract 0 (0+2)).toList).setIfInBounds 2 (.slice none 0 0)) 101 [(2,HOLE)]),.newS (some 1000000) (((num a0 1).toNat+1)) (catR prog sumL (a0.extract 2 (2+363)) q0_4 (num a0 0) (num a0 1) ((num a0 1).toNat+1)) 98,true))
  else (none)
theorem Ziq (N:Nat) (a0:Array Value) (a1:Int) (g_et:Addr) (g_tb:Addr) (q0_4:Array Value):(kBlock 0 (kSeq (veC prog Zav N (cAt (codeOf Tryd.f51) [1,1,1]) (pAt (mkPlan (codeOf Tryd.f51) [([],[4])]).1 [1,1,1]) (SV×Eff×Bool)) (finK prog [.gl 0 154 g_et 3000062,.gl 1 0 g_tb 1000000000] [.cell 4 101]))) .normal (leftI [4] (Zaz a0 a1 g_et g_tb) ([.row q0_4 98]:BS))=Zb2 prog N a0 a1 g_et g_tb q0_4:=by
 refine Eq.trans (b:=(bif ((okS (a0.extract 2 (2+363))&&(decide (0≤(num a0 0))&&decide ((num a0 0)<2)))&&(decide (0≤(num a0 1))&&decide ((num a0 1)≤14))) then (some (.a (.r ((spl (#[.int .i64 (0:Int),.int .i64 (0:Int),.slice none 0 0]:Array Value) 0 (a0.extract 0 (0+2)).toList).setIfInBounds 2 (.slice none 0 0)) 101 [(2,HOLE)]),.newS (some 1000000) (((num a0 1).toNat+1)) (catR prog sumL (a0.extract 2 (2+363)) q0_4 (num a0 0) (num a0 1) ((num a0 1).toNat+1)) 98,true))
  else (none))) (by kernel_rfl) ?_
 rfl
theorem Zkp (N:Nat) (a0:Array Value) (a1:Int) (g_et:Addr) (g_tb:Addr):bindI (foldI (fun (x0:Int) (hb:BS)=>stepI prog Zav N (cAt (codeOf Tryd.f51) [1,1,0,1,0,0]) (pAt (mkPlan (codeOf Tryd.f51) [([],[4])]).1 [1,1,0,1,0]) 13 [4] [9] [(6,9)] (Zaz a0 a1 g_et g_tb) [.i .i64 (x0)] hb) (bitsL (a1).toNat) ([.row (zc prog 98) 98]:BS)) (fun hb=>(kBlock 0 (kSeq (veC prog Zav N (cAt (codeOf Tryd.f51) [1,1,1]) (pAt (mkPlan (codeOf Tryd.f51) [([],[4])]).1 [1,1,1]) (SV×Eff×Bool)) (finK prog [.gl 0 154 g_et 3000062,.gl 1 0 g_tb 1000000000] [.cell 4 101]))) .normal (leftI [4] (Zaz a0 a1 g_et g_tb) hb)) (fun e hb=>(kBlock 0 (kSeq (veC prog Zav N (cAt (codeOf Tryd.f51) [1,1,1]) (pAt (mkPlan (codeOf Tryd.f51) [([],[4])]).1 [1,1,1]) (SV×Eff×Bool)) (finK prog [.gl 0 154 g_et 3000062,.gl 1 0 g_tb 1000000000] [.cell 4 101]))) e (leftI [4] (Zaz a0 a1 g_et g_tb) hb))=nodeI (foldI (Zbs prog a0 a1 g_et g_tb) (bitsL (a1).toNat) (zc prog 98)) (fun x=>Zb2 prog N a0 a1 g_et g_tb x) (fun x:Empty=>nomatch x):=by
 refine Zv1 Zdd Zej _ _ (fun y t=>Zk0 N a0 a1 g_et g_tb y t) _ (zc prog 98) _ _ _ _ ?_ ?_
 ·intro x;exact Ziq N a0 a1 g_et g_tb x
 ·intro x;exact nomatch x
theorem Zj9 (N:Nat) (a0:Array Value) (a1:Int) (g_et:Addr) (g_tb:Addr):ansV prog Zav N Tryd.f51 [([],[4])] [.r a0 60 [],.i .u64 (a1)] [.gl 0 154 g_et 3000062,.gl 1 0 g_tb 1000000000]=(nodeI (foldI (Zbs prog a0 a1 g_et g_tb) (bitsL (a1).toNat) (zc prog 98)) (fun x=>Zb2 prog N a0 a1 g_et g_tb x) (fun x:Empty=>nomatch x)):=by
 refine Eq.trans (b:=(bindI (foldI (fun (x0:Int) (hb:BS)=>stepI prog Zav N (cAt (codeOf Tryd.f51) [1,1,0,1,0,0]) (pAt (mkPlan (codeOf Tryd.f51) [([],[4])]).1 [1,1,0,1,0]) 13 [4] [9] [(6,9)] (Zaz a0 a1 g_et g_tb) [.i .i64 (x0)] hb) (bitsL (a1).toNat) ([.row (zc prog 98) 98]:BS)) (fun hb=>(kBlock 0 (kSeq (veC prog Zav N (cAt (codeOf Tryd.f51) [1,1,1]) (pAt (mkPlan (codeOf Tryd.f51) [([],[4])]).1 [1,1,1]) (SV×Eff×Bool)) (finK prog [.gl 0 154 g_et 3000062,.gl 1 0 g_tb 1000000000] [.cell 4 101]))) .normal (leftI [4] (Zaz a0 a1 g_et g_tb) hb)) (fun e hb=>(kBlock 0 (kSeq (veC prog Zav N (cAt (codeOf Tryd.f51) [1,1,1]) (pAt (mkPlan (codeOf Tryd.f51) [([],[4])]).1 [1,1,1]) (SV×Eff×Bool)) (finK prog [.gl 0 154 g_et 3000062,.gl 1 0 g_tb 1000000000] [.cell 4 101]))) e (leftI [4] (Zaz a0 a1 g_et g_tb) hb)))) (by kernel_rfl) ?_
 simp only [Zkp N a0 a1 g_et g_tb]
theorem Zjq (a0:Array Value) (a1:Int) (g_et:Addr) (g_tb:Addr) (h_a0:WT prog 60 a0) (h_a1:IntKind.u64.min≤a1∧a1≤IntKind.u64.max) (hg:((((okS (a0.extract 2 (2+363))&&(decide (0≤(num a0 0))&&decide ((num a0 0)<2)))&&(decide (0≤(num a0 1))&&decide ((num a0 1)≤14)))&&decide (a1<68719476736)))=true):ansV prog Zav 1000 Tryd.f51 [([],[4])] [.r a0 60 [],.i .u64 (a1)] [.gl 0 154 g_et 3000062,.gl 1 0 g_tb 1000000000]=some (.a (.r ((spl (#[.int .i64 (0:Int),.int .i64 (0:Int),.slice none 0 0]:Array Value) 0 (a0.extract 0 (0+2)).toList).setIfInBounds 2 (.slice none 0 0)) 101 [(2,HOLE)]),.newS (some 1000000) ((num a0 1).toNat+1) (catR prog sumL (a0.extract 2 (2+363)) (rowC prog a1) (num a0 0) (num a0 1) ((num a0 1).toNat+1)) 98,true):=by
 rw [Bool.and_eq_true] at hg
 obtain ⟨hg,hlow⟩:=hg
 have hU:U64 a1:=h_a1
 have hh:=low_bits hU (of_decide_eq_true hlow)
 refine (Zj9 1000 a0 a1 g_et g_tb).trans ?_
 rw [Ye8 (X:=Empty) (g:=Zbs prog a0 a1 g_et g_tb) (fun (r:Array Value) k=>r.setIfInBounds (k*1) (.int .i64 (1:Int))) hU hh (fun t k hk hb=>by
  simp only [Zbs,dec2 (show 0≤(k:Int) by omega) (show (k:Int)<36 by omega),Int.toNat_natCast,cond_true])]
 show Zb2 prog 1000 a0 a1 g_et g_tb (rowC prog a1)=_
 unfold Zb2
 rw [hg,cond_true]
def Zee:Con:=fun args h=>match args,h with
 | [.r a0 60 [],.i .u64 a1],[.gl 0 154 g_et 3000062,.gl 1 0 g_tb 1000000000]=>some (.a (.r ((spl (#[.int .i64 (0:Int),.int .i64 (0:Int),.slice none 0 0]:Array Value) 0 (a0.extract 0 (0+2)).toList).setIfInBounds 2 (.slice none 0 0)) 101 [(2,HOLE)]),.newS (some 1000000) ((num a0 1).toNat+1) (catR prog sumL (a0.extract 2 (2+363)) (rowC prog a1) (num a0 0) (num a0 1) ((num a0 1).toNat+1)) 98,(((okS (a0.extract 2 (2+363))&&(decide (0≤(num a0 0))&&decide ((num a0 0)<2)))&&(decide (0≤(num a0 1))&&decide ((num a0 1)≤14)))&&decide (a1<68719476736)))
 | _,_=>none
theorem Zi0:EntX prog 51:=Zam (fn:=Tryd.f51) (by kernel_rfl) (by kernel_rfl) (by kernel_rfl)
theorem Zkx:ConOkX mn prog 51 Zee:=(Zat (N:=1000) (by kernel_rfl) (mkΓx_cX (Zag Zol) Zlm (mkΓx_nX Zvk Ztl (mkΓx_iX Zth Zo8 mkΓx_nilX))) (fn:=Tryd.f51) (by kernel_rfl) (by kernel_rfl) [([],[4])]).of (by
 intro ρ h w args vals r e hA hH hr
 unfold Zee at hr
 split at hr
 ·rename_i a0 a1 g_et g_tb
  obtain ⟨rfl,hg⟩:=Prod.mk.inj (Option.some.inj hr)
  obtain ⟨rfl,hg2⟩:=Prod.mk.inj hg
  exact Zjq a0 a1 g_et g_tb (hA.wtr 0 rfl) (hA.rng 1 rfl) hg2
 ·cases hr)
def srcV (P:Program) (S:Array Value) (b h c:Int):Int:=IntKind.u64.wrap (BitVec.ofInt IntKind.u64.bits (Zeu S) &&& BitVec.ofInt IntKind.u64.bits (folds (fbF (rowR P sumL S (rowC P c) b h h.toNat)) 0 36)).toNat
theorem Zwk {S:Array Value} {c:Int} (hok:okS S=true):Zdz S c=true:=by
 unfold Zdz
 exact Zzk hok
theorem Ydo (b h:Int):Zb1 #[.int .i64 b,.int .i64 h]=(Zaa b 0 1&&Zaa h 1 8):=by
 show (bif Zch b then (bif decide (h ≥ 1) then decide (h≤8) else false) else false)=_
 rw [tide_eq]
 unfold Zaa
 cases decide (b ≥ 0)<;>cases decide (b≤1)<;>cases decide (h ≥ 1)<;>cases decide (h≤8)<;>rfl
theorem Zns {S:Array Value} {b h:Int} (hS:S.size=363):(spl (spl (zc prog 60) 0 (#[.int .i64 b,.int .i64 h]:Array Value).toList) 2 S.toList).extract 2 (2+363)=S∧(spl (spl (zc prog 60) 0 (#[.int .i64 b,.int .i64 h]:Array Value).toList) 2 S.toList).extract 0 (0+2)=#[.int .i64 b,.int .i64 h]:=by
 have hz:(zc prog 60).size=366:=by kernel_rfl
 generalize (zc prog 60)=Z at hz
 have hl:S.toList.length=363:=by rw [Array.length_toList,hS]
 constructor
 ·refine Array.ext_getElem? fun i=> ?_
  rw [Array.getElem?_extract,Ze6 _ _ _ (by rw [Zfz,hz,hl];omega),Zfz,Zfz,hz,hl]
  by_cases hi:i<363
  ·rw [if_pos (by omega),if_pos (by omega),Array.getElem?_toList,show 2+i - 2=i by omega]
  ·rw [if_neg (by omega),Array.getElem?_eq_none (by omega)]
 ·refine Array.ext_getElem? fun i=> ?_
  rw [Array.getElem?_extract,Ze6 _ _ _ (by rw [Zfz,hz,hl];omega),Ze6 _ _ _ (by rw [hz];simp),Zfz,Zfz,hz,hl]
  by_cases hi:i<2
  ·rw [if_pos (by omega),if_neg (by omega),if_pos (by simp;omega),Array.getElem?_toList,show 0+i - 0=i by omega]
  ·rw [if_neg (by omega),Array.getElem?_eq_none (by simp;omega)]
theorem Yde {S:Array Value} {b h:Int} (hS:S.size=363):num (spl (spl (zc prog 60) 0 (#[.int .i64 b,.int .i64 h]:Array Value).toList) 2 S.toList) 0=b∧num (spl (spl (zc prog 60) 0 (#[.int .i64 b,.int .i64 h]:Array Value).toList) 2 S.toList) 1=h:=by
 have h2:=(Zns (b:=b) (h:=h) hS).2
 generalize (spl (spl (zc prog 60) 0 (#[.int .i64 b,.int .i64 h]:Array Value).toList) 2 S.toList)=V at h2⊢
 have e:∀ i,i<2→num V i=num (V.extract 0 (0+2)) i:=fun i hi=>by
  have hz:(V.extract 0 (0+2)).size=2:=by rw [h2];rfl
  rw [Array.size_extract] at hz
  unfold num
  rw [Array.getElem?_extract,if_pos (by omega),Nat.zero_add]
 exact ⟨(e 0 (by omega)).trans (by rw [h2];rfl),(e 1 (by omega)).trans (by rw [h2];rfl)⟩
def Zh9:Cons:=(mkΓ [(49,con Zht),(50,con Zg5),(51,conG Zee)])
theorem Zlv (N:Nat) (a0:Array Value) (a1:Int) (g_et:Addr) (g_tb:Addr):ansV prog Zh9 N Tryd.f24 [] [.r a0 60 [],.i .u64 (a1)] [.gl 0 154 g_et 3000062,.gl 1 0 g_tb 1000000000]=(bif (Zdq (a0.extract 2 (2+363))) then (bif (((okS (a0.extract 2 (2+363))&&(decide (0≤(num a0 0))&&decide ((num a0 0)<2)))&&(decide (0≤(num a0 1))&&decide ((num a0 1)≤14)))&&decide (a1<68719476736)) then (bif (decide (0≤(num a0 1))&&decide ((num a0 1)<((((num a0 1).toNat+1)):Int))) then (some (.a (.i .u64 (IntKind.u64.wrap (BitVec.ofInt IntKind.u64.bits (Zeu (a0.extract 2 (2+363))) &&& BitVec.ofInt IntKind.u64.bits (folds (fbF ((catR prog sumL (a0.extract 2 (2+363)) (rowC prog a1) (num a0 0) (num a0 1) ((num a0 1).toNat+1)).extract ((num a0 1).toNat*36) (((num a0 1).toNat*36)+36))) 0 36)).toNat)),.none,true))
    else (none))
   else (none))
  else (none)):=by kernel_rfl
theorem Zki (a0:Array Value) (a1:Int) (g_et:Addr) (g_tb:Addr) (h_a0:WT prog 60 a0) (h_a1:IntKind.u64.min≤a1∧a1≤IntKind.u64.max) (hg:((((okS (a0.extract 2 (2+363))&&(decide (0≤(num a0 0))&&decide ((num a0 0)<2)))&&(decide (0≤(num a0 1))&&decide ((num a0 1)≤14)))&&decide (a1<68719476736)))=true):ansV prog Zh9 1000 Tryd.f24 [] [.r a0 60 [],.i .u64 (a1)] [.gl 0 154 g_et 3000062,.gl 1 0 g_tb 1000000000]=some (.a (.i .u64 (srcV prog (a0.extract 2 (2+363)) (num a0 0) (num a0 1) a1)),.none,true):=by
 have hq:=hg
 simp only [Bool.and_eq_true,decide_eq_true_eq] at hq
 obtain ⟨⟨⟨hok,-⟩,h0,h14⟩,-⟩:=hq
 refine (Zlv 1000 a0 a1 g_et g_tb).trans ?_
 have hw:Zdq (a0.extract 2 (2+363))=true:=by unfold Zdq;exact Zzk hok
 have hL:=(Znx a1).1
 rw [hw,cond_true,hg,cond_true,decide_eq_true h0,decide_eq_true (by omega),Yb3 sumL (a0.extract 2 (2+363)) hL (num a0 0) (num a0 1) ((num a0 1).toNat+1) (show (num a0 1).toNat<(num a0 1).toNat+1 by omega)]
 rfl
def Ze2:Con:=fun args h=>match args,h with
 | [.r a0 60 [],.i .u64 a1],[.gl 0 154 g_et 3000062,.gl 1 0 g_tb 1000000000]=>some (.a (.i .u64 (srcV prog (a0.extract 2 (2+363)) (num a0 0) (num a0 1) a1)),.none,(((okS (a0.extract 2 (2+363))&&(decide (0≤(num a0 0))&&decide ((num a0 0)<2)))&&(decide (0≤(num a0 1))&&decide ((num a0 1)≤14)))&&decide (a1<68719476736)))
 | _,_=>none
theorem Zkd:EntX prog 24:=Zam (fn:=Tryd.f24) (by kernel_rfl) (by kernel_rfl) (by kernel_rfl)
theorem Zl5:ConOkX mn prog 24 Ze2:=(Zat (N:=1000) (by kernel_rfl) (mkΓ_consX (Zag Zsi) Zos (mkΓ_consX (Zag Zr1) Zm6 (mkΓ_consX (Zu3 Zkx) Zi0 mkΓ_nilX))) (fn:=Tryd.f24) (by kernel_rfl) (by kernel_rfl) []).of (by
 intro ρ h w args vals r e hA hH hr
 unfold Ze2 at hr
 split at hr
 ·rename_i a0 a1 g_et g_tb
  obtain ⟨rfl,hg⟩:=Prod.mk.inj (Option.some.inj hr)
  obtain ⟨rfl,hg2⟩:=Prod.mk.inj hg
  exact Zki a0 a1 g_et g_tb (hA.wtr 0 rfl) (hA.rng 1 rfl) hg2
 ·cases hr)
def Zgm:Cons:=(mkΓ [(45,con Zhu),(46,con Zdt),(47,con Zh0)])
theorem Zho (N:Nat) (a0:Array Value) (a1 a2 a3:Int):ansV prog Zgm N Tryd.f22 [] [.g a0 35,.i .i64 (a1),.i .i64 (a2),.i .u64 (a3)] []=(bif (!((okS a0))) then (some (.t [.r (zc prog 60) 60 [],.v (.iface 91 (.int .i64 (1:Int)))],.none,true))
    else (bif (!((Zb1 ((spl (spl (zc prog 60) 0 (#[.int .i64 (a1),.int .i64 (a2)]:Array Value).toList) 2 a0.toList).extract 0 (0+2))))) then (some (.t [.r (zc prog 60) 60 [],.v (.iface 91 (.int .i64 (2:Int)))],.none,true))
      else (bif (Zdz a0 a3) then (bif (!((Zai a0 a3))) then (some (.t [.r (zc prog 60) 60 [],.v (.iface 91 (.int .i64 (2:Int)))],.none,true))
          else (some (.t [.r (spl (spl (zc prog 60) 0 (#[.int .i64 (a1),.int .i64 (a2)]:Array Value).toList) 2 a0.toList) 60 [],.v (.nilIface)],.none,true)))
        else (none)))):=by kernel_rfl
theorem Zod (a0:Array Value) (a1 a2 a3:Int) (h_a0:WT prog 35 a0) (h_a1:i64.min≤a1∧a1≤i64.max) (h_a2:i64.min≤a2∧a2≤i64.max) (h_a3:IntKind.u64.min≤a3∧a3≤IntKind.u64.max) (hc0:(okS a0)=false) (hg:(true)=true):ansV prog Zgm 1000 Tryd.f22 [] [.g a0 35,.i .i64 (a1),.i .i64 (a2),.i .u64 (a3)] []=some (.t [.r (zc prog 60) 60 [],.v (.iface 91 (.int .i64 (1:Int)))],.none,true):=by
 refine (Zho 1000 a0 a1 a2 a3).trans ?_
 simp only [hc0,Bool.not_false,cond_true]
theorem Zn7 (a0:Array Value) (a1 a2 a3:Int) (h_a0:WT prog 35 a0) (h_a1:i64.min≤a1∧a1≤i64.max) (h_a2:i64.min≤a2∧a2≤i64.max) (h_a3:IntKind.u64.min≤a3∧a3≤IntKind.u64.max) (hc0:(okS a0)=true) (hc1:((Zaa a1 0 1&&(Zaa a2 1 8&&Zai a0 a3)))=false) (hg:(true)=true):ansV prog Zgm 1000 Tryd.f22 [] [.g a0 35,.i .i64 (a1),.i .i64 (a2),.i .u64 (a3)] []=some (.t [.r (zc prog 60) 60 [],.v (.iface 91 (.int .i64 (2:Int)))],.none,true):=by
 refine (Zho 1000 a0 a1 a2 a3).trans ?_
 have hz:a0.size=363:=Zvz h_a0
 rw [(Zns hz).2,Ydo,Zwk hc0,hc0]
 generalize Zaa a1 0 1=x1 at hc1⊢
 generalize Zaa a2 1 8=x2 at hc1⊢
 generalize Zai a0 a3=x3 at hc1⊢
 cases x1<;>cases x2<;>cases x3<;>first | rfl | exact absurd hc1 (by decide)
theorem Zn6 (a0:Array Value) (a1 a2 a3:Int) (h_a0:WT prog 35 a0) (h_a1:i64.min≤a1∧a1≤i64.max) (h_a2:i64.min≤a2∧a2≤i64.max) (h_a3:IntKind.u64.min≤a3∧a3≤IntKind.u64.max) (hc0:(okS a0)=true) (hc1:((Zaa a1 0 1&&(Zaa a2 1 8&&Zai a0 a3)))=true) (hg:(true)=true):ansV prog Zgm 1000 Tryd.f22 [] [.g a0 35,.i .i64 (a1),.i .i64 (a2),.i .u64 (a3)] []=some (.t [.r (spl (spl (zc prog 60) 0 (#[.int .i64 (a1),.int .i64 (a2)]:Array Value).toList) 2 a0.toList) 60 [],.v (.nilIface)],.none,true):=by
 refine (Zho 1000 a0 a1 a2 a3).trans ?_
 have hz:a0.size=363:=Zvz h_a0
 rw [(Zns hz).2,Ydo,Zwk hc0,hc0]
 generalize Zaa a1 0 1=x1 at hc1⊢
 generalize Zaa a2 1 8=x2 at hc1⊢
 generalize Zai a0 a3=x3 at hc1⊢
 cases x1<;>cases x2<;>cases x3<;>first | rfl | exact absurd hc1 (by decide)
def Zgv:SCon:=fun args h=>match args,h with
 | [.g a0 35,.i .i64 a1,.i .i64 a2,.i .u64 a3],[]=>.two (okS a0) (.two ((Zaa a1 0 1&&(Zaa a2 1 8&&Zai a0 a3))) (.one (some (.t [.r (spl (spl (zc prog 60) 0 (#[.int .i64 (a1),.int .i64 (a2)]:Array Value).toList) 2 a0.toList) 60 [],.v (.nilIface)],.none,true))) (.one (some (.t [.r (zc prog 60) 60 [],.v (.iface 91 (.int .i64 (2:Int)))],.none,true)))) (.one (some (.t [.r (zc prog 60) 60 [],.v (.iface 91 (.int .i64 (1:Int)))],.none,true)))
 | _,_=>.one none
theorem Zn5:EntX prog 22:=Zam (fn:=Tryd.f22) (by kernel_rfl) (by kernel_rfl) (by kernel_rfl)
theorem Zq3:ConOkX mn prog 22 (fun args h=>wayRes (Zgv args h)):=by
 intro ρ h w args vals r e hn hr hA hH
 dsimp only at hr
 unfold Zgv at hr
 split at hr
 ·rename_i a0 a1 a2 a3
  simp only [wayRes] at hr
  cases hc0:(okS a0)
  ·rw [hc0] at hr
   simp only [wayRes,cond_true,cond_false] at hr
   obtain ⟨rfl,hg⟩:=Prod.mk.inj (Option.some.inj hr)
   obtain ⟨rfl,hg2⟩:=Prod.mk.inj hg
   exact ((Zat (N:=1000) (by kernel_rfl) (mkΓ_consX (Zag Zis) Zgw (mkΓ_consX (Zag Zdx) Zde (mkΓ_consX (Zag Zii) Zg2 mkΓ_nilX))) (fn:=Tryd.f22) (by kernel_rfl) (by kernel_rfl) [])) ρ _ w _ vals _ _ hn ((Zod a0 a1 a2 a3 (hA.wt 0 rfl) (hA.rng 1 rfl) (hA.rng 2 rfl) (hA.rng 3 rfl) hc0 hg2)) hA hH
  ·rw [hc0] at hr
   simp only [wayRes,cond_true,cond_false] at hr
   cases hc1:((Zaa a1 0 1&&(Zaa a2 1 8&&Zai a0 a3)))
   ·rw [hc1] at hr
    simp only [wayRes,cond_true,cond_false] at hr
    obtain ⟨rfl,hg⟩:=Prod.mk.inj (Option.some.inj hr)
    obtain ⟨rfl,hg2⟩:=Prod.mk.inj hg
    exact ((Zat (N:=1000) (by kernel_rfl) (mkΓ_consX (Zag Zis) Zgw (mkΓ_consX (Zag Zdx) Zde (mkΓ_consX (Zag Zii) Zg2 mkΓ_nilX))) (fn:=Tryd.f22) (by kernel_rfl) (by kernel_rfl) [])) ρ _ w _ vals _ _ hn ((Zn7 a0 a1 a2 a3 (hA.wt 0 rfl) (hA.rng 1 rfl) (hA.rng 2 rfl) (hA.rng 3 rfl) hc0 hc1 hg2)) hA hH
   ·rw [hc1] at hr
    simp only [wayRes,cond_true,cond_false] at hr
    obtain ⟨rfl,hg⟩:=Prod.mk.inj (Option.some.inj hr)
    obtain ⟨rfl,hg2⟩:=Prod.mk.inj hg
    exact ((Zat (N:=1000) (by kernel_rfl) (mkΓ_consX (Zag Zis) Zgw (mkΓ_consX (Zag Zdx) Zde (mkΓ_consX (Zag Zii) Zg2 mkΓ_nilX))) (fn:=Tryd.f22) (by kernel_rfl) (by kernel_rfl) [])) ρ _ w _ vals _ _ hn ((Zn6 a0 a1 a2 a3 (hA.wt 0 rfl) (hA.rng 1 rfl) (hA.rng 2 rfl) (hA.rng 3 rfl) hc0 hc1 hg2)) hA hH
 ·simp only [wayRes] at hr
  cases hr
end
end Go.Proofs.YtffagbiedigmcaaDoor
