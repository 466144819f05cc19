/- For every sea and plan spec and program tell the same spread at the end. -/
import Derived.Test.YtflnjkpejbohjaaDoorRows
import Derived.Test.YtflnjkpejbohjaaDoorChecked
import Derived.Test.YtflnjkpejbohjaaDoorCpD
import Derived.Test.YtflnjkpejbohjaaDoorVcG
import Derived.Test.YtflnjkpejbohjaaDoorCards
import Derived.Test.YtflnjkpejbohjaaDoorTie
namespace Go.Proofs.YtflnjkpejbohjaaDoor
open Go.ChangeShapes Go.WideShapes Go.ChangeAt Go.RowKit Ve Vc
open Go.Proofs.Tryd (prog)
set_option linter.unusedVariables false
set_option linter.unusedSimpArgs false
set_option maxRecDepth 100000
noncomputable section
variable {F:Vc.Fd}
def Zc4 (a0 a1:Array Value):St:=(⟨.a (.g a0 33) :: .a (.g a1 33) :: .a (.w 0) :: .a (.w 1) :: .a (.b (false)) :: .a (.i .i64 (0:Int))::us 11 ([]),[.row a0 33,.row a1 33,.no],[]⟩:St)
def Zdx:Bool×Int→LS
 | (y0_4,y0_5)=>([.a (.b (y0_4)),.a (.i .i64 (y0_5))],[])
def Ziw:(Stp (Bool×Int) (Bool×Int))→Exit×LS
 | .more t=>(.ret,Zdx t)
 | .done t=>((.exit 0),Zdx t)
def Zcc (P : Program) (a0 a1 : Array Value) : Bool × Int → Option (Stp (Bool × Int) (Stp (Bool × Int) (Bool × Int)))
 | (y0_4, y0_5) => bif decide (y0_5 < (36 : Int)) then (bif (decide (0 ≤ y0_5) && decide (y0_5 < 36)) then (bif (decide (0 ≤ y0_5) && decide (y0_5 < 36)) then (bif ((num a0 ((y0_5).toNat * 1)) != (num a1 ((y0_5).toNat * 1))) then (some (.done (.more (false, y0_5))))
     else (some (.more (y0_4, (IntKind.i64.wrap (y0_5 + (1 : Int)))))))
    else (none))
   else (none))
  else (some (.done (.done (y0_4, y0_5))))
theorem Zva (N:Nat) (a0 a1:Array Value):∀ t:Bool×Int,stepV prog (mkΓ []) N (cAt (codeOf Tryd.f28) [1,0,1,0,0]) (pAt (mkPlan (codeOf Tryd.f28) [([4,5],[])]).1 [1,0,1,0]) [4,5] [] (Zc4 a0 a1) (Zdx t)=mapS Zdx Ziw (Zcc prog a0 a1 t):=by
 rintro ⟨y0_4,y0_5⟩
 refine Eq.trans (b:=(bif decide (y0_5<(36:Int)) then (bif (decide (0≤y0_5)&&decide (y0_5<36)) then (bif (decide (0≤y0_5)&&decide (y0_5<36)) then (bif ((num a0 ((y0_5).toNat*1)) != (num a1 ((y0_5).toNat*1))) then (some (.done (.ret,([.a (.b (false)),.a (.i .i64 (y0_5))],[]))))
     else (some (.more ([.a (.b (y0_4)),.a (.i .i64 (IntKind.i64.wrap (y0_5+(1:Int))))],[]))))
    else (none))
   else (none))
  else (some (.done ((.exit 0),([.a (.b (y0_4)),.a (.i .i64 (y0_5))],[])))))) (by kernel_rfl) ?_
 simp only [Zcc,Za0,Zay,Za1,Zaz,Zdx,Ziw]
def Zhm (P:Program) (N:Nat) (a0 a1:Array Value) (z0_4:Bool) (z0_5:Int):Option (SV×Eff×Bool):=some (.a (.b (z0_4)),.none,true)
theorem Zoh (N:Nat) (a0 a1:Array Value) (z0_4:Bool) (z0_5:Int):(kBlock 0 (kSeq (veC prog (mkΓ []) N (cAt (codeOf Tryd.f28) [1,1]) (pAt (mkPlan (codeOf Tryd.f28) [([4,5],[])]).1 [1,1]) (SV×Eff×Bool)) (finK prog [] [.tmp 4]))) .ret (left (writes (cAt (codeOf Tryd.f28) [1,0,1,0,0])) [4,5] [] (Zc4 a0 a1) ([.a (.b (z0_4)),.a (.i .i64 (z0_5))],[]))=Zhm prog N a0 a1 z0_4 z0_5:=by
 refine Eq.trans (b:=(some (.a (.b (z0_4)),.none,true))) (by kernel_rfl) ?_
 rfl
def Zhv (P:Program) (N:Nat) (a0 a1:Array Value) (z0_4:Bool) (z0_5:Int):Option (SV×Eff×Bool):=some (.a (.b (true)),.none,true)
theorem Zou (N:Nat) (a0 a1:Array Value) (z0_4:Bool) (z0_5:Int):(kBlock 0 (kSeq (veC prog (mkΓ []) N (cAt (codeOf Tryd.f28) [1,1]) (pAt (mkPlan (codeOf Tryd.f28) [([4,5],[])]).1 [1,1]) (SV×Eff×Bool)) (finK prog [] [.tmp 4]))) (.exit 0) (left (writes (cAt (codeOf Tryd.f28) [1,0,1,0,0])) [4,5] [] (Zc4 a0 a1) ([.a (.b (z0_4)),.a (.i .i64 (z0_5))],[]))=Zhv prog N a0 a1 z0_4 z0_5:=by
 refine Eq.trans (b:=(some (.a (.b (true)),.none,true))) (by kernel_rfl) ?_
 rfl
theorem Zw6 (N:Nat) (a0 a1:Array Value):bindX (iterO (stepV prog (mkΓ []) N (cAt (codeOf Tryd.f28) [1,0,1,0,0]) (pAt (mkPlan (codeOf Tryd.f28) [([4,5],[])]).1 [1,0,1,0]) [4,5] [] (Zc4 a0 a1)) N ([.a (.b (false)),.a (.i .i64 (0:Int))],[])) (fun e s=>(kBlock 0 (kSeq (veC prog (mkΓ []) N (cAt (codeOf Tryd.f28) [1,1]) (pAt (mkPlan (codeOf Tryd.f28) [([4,5],[])]).1 [1,1]) (SV×Eff×Bool)) (finK prog [] [.tmp 4]))) e (left (writes (cAt (codeOf Tryd.f28) [1,0,1,0,0])) [4,5] [] (Zc4 a0 a1) s))=nodeX (iterO (Zcc prog a0 a1) N (false,(0:Int))) (st2 (fun x=>Zhm prog N a0 a1 x.1 x.2) (fun x=>Zhv prog N a0 a1 x.1 x.2)):=by
 refine Zbg Zdx Ziw _ _ (Zva N a0 a1) N (false,(0:Int)) _ _ ?_
 intro x
 cases x with
 | more x=>exact Zoh N a0 a1 x.1 x.2
 | done x=>exact Zou N a0 a1 x.1 x.2
theorem Ztk (N:Nat) (a0 a1:Array Value):ansV prog (mkΓ []) N Tryd.f28 [([4,5],[])] [.g a0 33,.g a1 33] []=(nodeX (iterO (Zcc prog a0 a1) N (false,(0:Int))) (st2 (fun x=>Zhm prog N a0 a1 x.1 x.2) (fun x=>Zhv prog N a0 a1 x.1 x.2))):=by
 refine Eq.trans (b:=(bindX (iterO (stepV prog (mkΓ []) N (cAt (codeOf Tryd.f28) [1,0,1,0,0]) (pAt (mkPlan (codeOf Tryd.f28) [([4,5],[])]).1 [1,0,1,0]) [4,5] [] (Zc4 a0 a1)) N ([.a (.b (false)),.a (.i .i64 (0:Int))],[])) (fun e s=>(kBlock 0 (kSeq (veC prog (mkΓ []) N (cAt (codeOf Tryd.f28) [1,1]) (pAt (mkPlan (codeOf Tryd.f28) [([4,5],[])]).1 [1,1]) (SV×Eff×Bool)) (finK prog [] [.tmp 4]))) e (left (writes (cAt (codeOf Tryd.f28) [1,0,1,0,0])) [4,5] [] (Zc4 a0 a1) s)))) (by kernel_rfl) ?_
 simp only [Zw6 N a0 a1]
theorem Zsx (a0 a1:Array Value) (h_a0:WT prog 33 a0) (h_a1:WT prog 33 a1) (hg:(true)=true):ansV prog (mkΓ []) 1000 Tryd.f28 [([4,5],[])] [.g a0 33,.g a1 33] []=some (.a (.b (sameB a0 a1)),.none,true):=by
 have hz:a0.size=36*1:=by rw [h_a0.layLen];kernel_rfl
 have hy:a1.size=36*1:=by rw [h_a1.layLen];kernel_rfl
 have hL:∀ k,k<36→(lay prog 33)[k*1]? = some 3:=by
  intro k hk
  have h:(List.range 36).all (fun k=>(lay prog 33)[k*1]? == some 3)=true:=by kernel_rfl
  exact eq_of_beq (List.all_eq_true.1 h k (List.mem_range.2 hk))
 have hb:sameB a0 a1=true ↔ ∀ k,k<36→(fun k=>(num a0 (k*1)==num a1 (k*1))) k=true:=by
  constructor
  ·intro h k hk
   rw [Zh1.1 h]
   exact beq_self_eq_true _
  ·intro h
   refine Zh1.2 ?_
   refine Yam (n:=36) (m:=1) (by omega) hz hy (fun k hk=> ?_)
   have e0:=(h_a0.int (k:=.i64) (hL k hk)).1
   have e1:=(h_a1.int (k:=.i64) (hL k hk)).1
   rw [eq_of_beq (h k hk)] at e0
   refine Zgl fun i=> ?_
   rw [Array.getElem?_extract,Array.getElem?_extract,hz,hy]
   by_cases hi:i=0
   ·subst hi;simp only [Nat.add_zero];rw [e0,e1]
   ·rw [if_neg (by omega),if_neg (by omega)]
 refine (Ztk 1000 a0 a1).trans ?_
 refine (Zrp (g:=Zcc prog a0 a1) (fun k=>(false,(k:Int))) (fun k=>(num a0 (k*1)==num a1 (k*1))) 36 (N:=1000) (xd:=.done (false,((36:Nat):Int))) (by omega) (fun k hk hp=>by
  have h1:decide ((k:Int)<36)=true:=decide_eq_true (by omega)
  have h0:decide (0≤(k:Int))=true:=decide_eq_true (by omega)
  have h3:IntKind.i64.wrap ((k:Int)+1)=((k+1:Nat):Int):=by rw [IntWalk.i64_in _ (by omega)];omega
  have h4:((k:Int)).toNat=k:=Int.toNat_natCast k
  have hp':(num a0 (k*1)==num a1 (k*1))=true:=hp
  simp only [Zcc,h1,h0,Bool.and_self,h4,cond_true,h3,bne,hp',Bool.not_true,cond_false]) (by
  have h1:decide (((36:Nat):Int)<36)=false:=by decide
  simp only [Zcc,h1,cond_false]) (sameB a0 a1) hb (some (.a (.b true),.none,true)) (some (.a (.b false),.none,true)) rfl (fun k hk hp=>by
  refine ⟨.more (false,(k:Int)), ?_,rfl⟩
  have h1:decide ((k:Int)<36)=true:=decide_eq_true (by omega)
  have h0:decide (0≤(k:Int))=true:=decide_eq_true (by omega)
  have h4:((k:Int)).toNat=k:=Int.toNat_natCast k
  have hp':(num a0 (k*1)==num a1 (k*1))=false:=hp
  simp only [Zcc,h1,h0,Bool.and_self,h4,cond_true,bne,hp',Bool.not_false])).trans ?_
 cases sameB a0 a1<;>rfl
def Zf5:Con:=fun args h=>match args,h with
 | [.g a0 33,.g a1 33],[]=>some (.a (.b (sameB a0 a1)),.none,true)
 | _,_=>none
theorem Zri:EntX prog 28:=Zag (fn:=Tryd.f28) (by kernel_rfl) (by kernel_rfl) (by kernel_rfl)
theorem Zv0:ConOkX (md F) prog 28 Zf5:=(Zah (N:=1000) (by kernel_rfl) mkΓ_nilX (fn:=Tryd.f28) (by kernel_rfl) (by kernel_rfl) [([4,5],[])]).of (by
 intro ρ h w args vals r e hA hH hr
 unfold Zf5 at hr
 split at hr
 ·rename_i a0 a1
  obtain ⟨rfl,hg⟩:=Prod.mk.inj (Option.some.inj hr)
  obtain ⟨rfl,hg2⟩:=Prod.mk.inj hg
  exact Zsx a0 a1 (hA.wt 0 rfl) (hA.wt 1 rfl) hg2
 ·cases hr)
theorem Zxw (N:Nat) (a0 a1:Array Value):ansV prog (mkΓ [(28,con Zf5)]) N Tryd.f12 [] [.g a0 35,.g a1 35] []=(bif ((num a0 0) != (num a1 0)) then (some (.a (.b (false)),.none,true))
    else (bif ((num a0 1) != (num a1 1)) then (some (.a (.b (false)),.none,true))
      else (bif ((num a0 2) != (num a1 2)) then (some (.a (.b (false)),.none,true))
        else (bif (!(sameB (a0.extract 3 (3+36)) (a1.extract 3 (3+36)))) then (some (.a (.b (false)),.none,true))
          else (bif ((num a0 39) != (num a1 39)) then (some (.a (.b (false)),.none,true))
            else (some (.a (.b (true)),.none,true))))))):=by kernel_rfl
def Zc9 (a0 a1:Array Value):Bool:=(bif ((num a0 0) != (num a1 0)) then false else (bif ((num a0 1) != (num a1 1)) then false else (bif ((num a0 2) != (num a1 2)) then false else (bif (!(sameB (a0.extract 3 (3+36)) (a1.extract 3 (3+36)))) then false else (bif ((num a0 39) != (num a1 39)) then false else true)))))
theorem Zu2 (a0 a1:Array Value) (h_a0:WT prog 35 a0) (h_a1:WT prog 35 a1) (hg:(true)=true):ansV prog (mkΓ [(28,con Zf5)]) 1000 Tryd.f12 [] [.g a0 35,.g a1 35] []=some (.a (.b ((Zc9 a0 a1))),.none,true):=by
 refine (Zxw 1000 a0 a1).trans ?_
 unfold Zc9
 revert hg
 generalize (((num a0 0) != (num a1 0)))=b2
 intro hg
 cases b2
 ·skip
  revert hg
  generalize (((num a0 1) != (num a1 1)))=b4
  intro hg
  cases b4
  ·skip
   revert hg
   generalize (((num a0 2) != (num a1 2)))=b6
   intro hg
   cases b6
   ·skip
    revert hg
    generalize ((!(sameB (a0.extract 3 (3+36)) (a1.extract 3 (3+36)))))=b8
    intro hg
    cases b8
    ·skip
     revert hg
     generalize (((num a0 39) != (num a1 39)))=b10
     intro hg
     cases b10
     ·skip
      first | (simp only [cond_true,cond_false,Bool.and_true,Bool.true_and,Bool.and_false,Bool.false_and];done) | rfl | exact (nomatch (hg:false=true))
     ·skip
      first | (simp only [cond_true,cond_false,Bool.and_true,Bool.true_and,Bool.and_false,Bool.false_and];done) | rfl | exact (nomatch (hg:false=true))
    ·skip
     first | (simp only [cond_true,cond_false,Bool.and_true,Bool.true_and,Bool.and_false,Bool.false_and];done) | rfl | exact (nomatch (hg:false=true))
   ·skip
    first | (simp only [cond_true,cond_false,Bool.and_true,Bool.true_and,Bool.and_false,Bool.false_and];done) | rfl | exact (nomatch (hg:false=true))
  ·skip
   first | (simp only [cond_true,cond_false,Bool.and_true,Bool.true_and,Bool.and_false,Bool.false_and];done) | rfl | exact (nomatch (hg:false=true))
 ·skip
  first | (simp only [cond_true,cond_false,Bool.and_true,Bool.true_and,Bool.and_false,Bool.false_and];done) | rfl | exact (nomatch (hg:false=true))
def Zj6:Con:=fun args h=>match args,h with
 | [.g a0 35,.g a1 35],[]=>some (.a (.b ((Zc9 a0 a1))),.none,true)
 | _,_=>none
theorem Ztn:EntX prog 12:=Zag (fn:=Tryd.f12) (by kernel_rfl) (by kernel_rfl) (by kernel_rfl)
theorem Zzs:ConOkX (md F) prog 12 Zj6:=(Zah (N:=1000) (by kernel_rfl) (mkΓ_consX (Zad Zv0) Zri mkΓ_nilX) (fn:=Tryd.f12) (by kernel_rfl) (by kernel_rfl) []).of (by
 intro ρ h w args vals r e hA hH hr
 unfold Zj6 at hr
 split at hr
 ·rename_i a0 a1
  obtain ⟨rfl,hg⟩:=Prod.mk.inj (Option.some.inj hr)
  obtain ⟨rfl,hg2⟩:=Prod.mk.inj hg
  exact Zu2 a0 a1 (hA.wt 0 rfl) (hA.wt 1 rfl) hg2
 ·cases hr)
def Zhj:Cons:=(mkΓ [(7,con Zg2),(8,con Zg0),(9,con Zhz),(10,con Zgy),(11,conG Zgu),(12,con Zj6),(13,con Zgv)])
theorem Zla (N:Nat) (a0 a1:Array Value) (g_et:Addr) (b_a1x2:Option (Option Addr)) (n_a1x2:Nat) (a1x2:Array Value):ansV prog Zhj N Tryd.f3 [] [.g a0 28,.r a1 31 [(2,1)]] [.gl 5 166 g_et 7000071,.sl (.came b_a1x2) n_a1x2 a1x2 103]=(bif decide ((Zam a1 (1048576:Int) b_a1x2 n_a1x2 a1x2)<(0:Int)) then (some (.a (.b (true)),.none,true))
    else (bif decide (n_a1x2≤1048576) then (bif decide (n_a1x2≤1048576) then (bif (!((Zc9 (spoV prog a0 a1 n_a1x2 a1x2) (spoV prog a0 a1 n_a1x2 a1x2)))) then (some (.a (.b (false)),.none,true))
          else (bif ((spoC a0 a1 n_a1x2 a1x2) != (spoC a0 a1 n_a1x2 a1x2)) then (some (.a (.b (false)),.none,true))
            else (bif decide (n_a1x2≤1048576) then (bif (!((Zax a1 a1 none n_a1x2 a1x2 none n_a1x2 a1x2))) then (some (.a (.b (false)),.none,true))
                else (some (.a (.b (true)),.none,true)))
              else (none))))
        else (none))
      else (none))):=by kernel_rfl
def Zbh (P:Program) (a0 a1:Array Value) (g_et:Addr) (b_a1x2:Option (Option Addr)) (n_a1x2:Nat) (a1x2:Array Value):Bool:=(bif decide ((Zam a1 (1048576:Int) b_a1x2 n_a1x2 a1x2)<(0:Int)) then true else (bif (!((Zc9 (spoV P a0 a1 n_a1x2 a1x2) (spoV P a0 a1 n_a1x2 a1x2)))) then false else (bif ((spoC a0 a1 n_a1x2 a1x2) != (spoC a0 a1 n_a1x2 a1x2)) then false else (bif (!((Zax a1 a1 none n_a1x2 a1x2 none n_a1x2 a1x2))) then false else true))))
def Zbi (a0 a1:Array Value) (g_et:Addr) (b_a1x2:Option (Option Addr)) (n_a1x2:Nat) (a1x2:Array Value):Bool:=(bif decide ((Zam a1 (1048576:Int) b_a1x2 n_a1x2 a1x2)<(0:Int)) then true else (bif decide (n_a1x2≤1048576) then (bif decide (n_a1x2≤1048576) then (bif (!((Zc9 (spoV prog a0 a1 n_a1x2 a1x2) (spoV prog a0 a1 n_a1x2 a1x2)))) then true else (bif ((spoC a0 a1 n_a1x2 a1x2) != (spoC a0 a1 n_a1x2 a1x2)) then true else decide (n_a1x2≤1048576))) else false) else false))
theorem Zk5 (a0 a1:Array Value) (g_et:Addr) (b_a1x2:Option (Option Addr)) (n_a1x2:Nat) (a1x2:Array Value) (h_a0:WT prog 28 a0) (h_a1:WT prog 31 a1) (h_a1x2:a1x2.size=n_a1x2*(lay prog 103).length∧(∀ k,k<n_a1x2→WT prog 103 (a1x2.extract (k*(lay prog 103).length) (k*(lay prog 103).length+(lay prog 103).length)))∧n_a1x2≤9223372036854775807) (hg:((Zbi a0 a1 g_et b_a1x2 n_a1x2 a1x2))=true):ansV prog Zhj 1000 Tryd.f3 [] [.g a0 28,.r a1 31 [(2,1)]] [.gl 5 166 g_et 7000071,.sl (.came b_a1x2) n_a1x2 a1x2 103]=some (.a (.b ((Zbh prog a0 a1 g_et b_a1x2 n_a1x2 a1x2))),.none,true):=by
 refine (Zla 1000 a0 a1 g_et b_a1x2 n_a1x2 a1x2).trans ?_
 unfold Zbi at hg
 unfold Zbh
 revert hg
 generalize (decide ((Zam a1 (1048576:Int) b_a1x2 n_a1x2 a1x2)<(0:Int)))=b2
 intro hg
 cases b2
 ·skip
  revert hg
  generalize (decide (n_a1x2≤1048576))=b4
  intro hg
  cases b4
  ·skip
   first | exact (nomatch (hg:false=true)) | (simp only [cond_true,cond_false,Bool.and_true,Bool.true_and,Bool.and_false,Bool.false_and];done) | rfl
  ·skip
   revert hg
   generalize ((!((Zc9 (spoV prog a0 a1 n_a1x2 a1x2) (spoV prog a0 a1 n_a1x2 a1x2)))))=b6
   intro hg
   cases b6
   ·skip
    revert hg
    generalize (((spoC a0 a1 n_a1x2 a1x2) != (spoC a0 a1 n_a1x2 a1x2)))=b8
    intro hg
    cases b8
    ·skip
     revert hg
     generalize ((!((Zax a1 a1 none n_a1x2 a1x2 none n_a1x2 a1x2))))=b10
     intro hg
     cases b10
     ·skip
      first | (simp only [cond_true,cond_false,Bool.and_true,Bool.true_and,Bool.and_false,Bool.false_and];done) | rfl | exact (nomatch (hg:false=true))
     ·skip
      first | (simp only [cond_true,cond_false,Bool.and_true,Bool.true_and,Bool.and_false,Bool.false_and];done) | rfl | exact (nomatch (hg:false=true))
    ·skip
     first | (simp only [cond_true,cond_false,Bool.and_true,Bool.true_and,Bool.and_false,Bool.false_and];done) | rfl | exact (nomatch (hg:false=true))
   ·skip
    first | (simp only [cond_true,cond_false,Bool.and_true,Bool.true_and,Bool.and_false,Bool.false_and];done) | rfl | exact (nomatch (hg:false=true))
 ·skip
  first | (simp only [cond_true,cond_false,Bool.and_true,Bool.true_and,Bool.and_false,Bool.false_and];done) | rfl | exact (nomatch (hg:false=true))
def Zeb:Con:=fun args h=>match args,h with
 | [.g a0 28,.r a1 31 [(2,1)]],[.gl 5 166 g_et 7000071,.sl (.came b_a1x2) n_a1x2 a1x2 103]=>some (.a (.b ((Zbh prog a0 a1 g_et b_a1x2 n_a1x2 a1x2))),.none,(Zbi a0 a1 g_et b_a1x2 n_a1x2 a1x2))
 | _,_=>none
theorem Zmb:ConOkX (md F) prog 3 Zeb:=(Zah (N:=1000) (by kernel_rfl) (mkΓ_consX (Zad Zmy) Zjw (mkΓ_consX (Zad Zsu) Zop (mkΓ_consX (Zad Zog) Zk0 (mkΓ_consX (Zad Zna) Zjy (mkΓ_consX (Zrw Zr5) Zn8 (mkΓ_consX (Zad Zzs) Ztn (mkΓ_consX (Zad Znd) Zj2 mkΓ_nilX))))))) (fn:=Tryd.f3) (by kernel_rfl) (by kernel_rfl) []).of (by
 intro ρ h w args vals r e hA hH hr
 unfold Zeb at hr
 split at hr
 ·rename_i a0 a1 g_et b_a1x2 n_a1x2 a1x2
  obtain ⟨rfl,hg⟩:=Prod.mk.inj (Option.some.inj hr)
  obtain ⟨rfl,hg2⟩:=Prod.mk.inj hg
  exact Zk5 a0 a1 g_et b_a1x2 n_a1x2 a1x2 (hA.wt 0 rfl) (hA.wtr 1 rfl) (hH.slw 1 rfl) hg2
 ·cases hr)
theorem szP (b:Int) (p:Array Value) (bb:Option (Option Addr)) (n:Nat) (A:Array Value) (h1: -1≤b) (h2:b≤1048576) (h3:n≤9223372036854775807):Zam p b bb n A=if b - (n:Int)<0 then -1 else b - (n:Int):=by
 unfold Zam Za8
 rw [IntWalk.i64_in (b - (n:Int)) (by omega)]
 by_cases h:b - (n:Int)<0
 ·rw [if_pos h,decide_eq_true h];rfl
 ·rw [if_neg h,decide_eq_false h]
  simp only [cond_false,decide_eq_false h]
theorem eqP (p:Array Value) (n:Nat) (A:Array Value):Zax p p none n A none n A=true:=by
 unfold Zax
 simp only [bne_self_eq_false,cond_false,Zit,decide_true,Bool.and_self,Bool.not_true]
theorem Zkl (a0 a1:Array Value) (g_et:Addr) (b_a1x2:Option (Option Addr)) (n_a1x2:Nat) (a1x2:Array Value) (h_a0:WT prog 28 a0) (h_a1:WT prog 31 a1) (h_a1x2:n_a1x2≤9223372036854775807):((Zbi a0 a1 g_et b_a1x2 n_a1x2 a1x2))=true∧((Zbh prog a0 a1 g_et b_a1x2 n_a1x2 a1x2))=true:=by
 unfold Zbi
 unfold Zbh
 rw [szP 1048576 a1 b_a1x2 n_a1x2 a1x2 (by omega) (by omega) h_a1x2,eqP]
 by_cases h:(1048576:Int) - (n_a1x2:Int)<0
 ·rw [if_pos h];exact ⟨rfl,rfl⟩
 ·rw [if_neg h,decide_eq_false h,decide_eq_true (show n_a1x2≤1048576 by omega)]
  simp only [Zc9,Zit,bne_self_eq_false,Bool.not_true,cond_false,cond_true,Bool.and_self,and_self,Bool.not_false]
namespace lawFnExactSpreadOfPlan
theorem Zpw (Lk:Looks) (g:Bool) {p:Pinned} {s:OpenSpec} {c:OpenClaim} (kinds:List LaidKind) (tests:Bool) (har:Bool×String) (lk:Bool)
  (hc:c.holds p s) (hw:c.wfByText s=true)
  (htie:c.laidByTextAt Lk p kinds tests)
  (hst:c.start = .entering) (hnb:c.noBlocks=false∧c.again=false) (hm:p.checked.prog.mainIs=some (har.1,har.2.toList)) (hn:(!har.1&&har.2.isEmpty && !lk)=false)
  (hl:∀ f fn,p.checked.prog.funcNamed c.func=some f→p.checked.prog.funcs[f]? = some fn→lk=p.checked.prog.looks []∧∀ (j:Nat) t,fn.params[j]? = some t→p.checked.prog.wantsStandIn t=false)
  (hg:g=c.goesBy p.checked.prog) :
  Claim7.holds p (.plain s) { stood:={ row:=c,standIns:=[],harness:=har,looks:=lk },kinds:=[],alts:=[],goes:=g,laidByText:=true,laidKinds:=kinds,laidTests:=tests,laidLooks:=Lk }:=by
 have h6:∀ r:OpenClaim,Claim7.isSixth { stood:={ row:=r,standIns:=[],harness:=har,looks:=lk },kinds:=[] }=false:=fun r=>by simpa [Claim7.isSixth] using hn
 exact ⟨Claim7.tied_new_at Lk kinds tests (Claim7.new_of_sixth hc har lk hst hnb hm (h6 c) hl) hw,(fun D hD=>by cases hD),htie,(fun h=>by cases h),hg⟩
theorem own:ownKnob prog.godebug=none:=by kernel_rfl
theorem Zvo {W:World} (h:laidMetH prog Rows.fnExactSpreadOfPlanRow.laid W):BIs prog idA [] W ⟨0,0⟩ (.gl 5 166 ⟨5,0,none⟩ 7000071):=by
 have h' : laidMet prog [] W ∧ handlesMet prog [("errors.errorType", Rows.laid_errors_errorType)] W := h
 exact Ztb (nm:=[101,114,114,111,114]) (E:=71) (NG:=6) h'.2 (List.Mem.head _) (by kernel_rfl) (by kernel_rfl) (by kernel_rfl) (by kernel_rfl) (by kernel_rfl) (by kernel_rfl) (by decide)
def laidWorld (os:Os):World:=
 let w0:=World.holding prog os ⟨#[],#[],[]⟩
 { w0 with heap:=w0.heap.modify 5 fun
   | .cells _ t frozen=>.cells #[.iface 166 (.agg #[typeHandle prog 71])] t frozen
   | o=>o }
theorem Zu1 (os:Os) (args:Array Value):laidMetH prog Rows.fnExactSpreadOfPlanRow.laid ((laidWorld os).forCall (fun _ _=>0) ⟨#[],args,[]⟩).memory:=
 laidMetH_of_parts (laidMet_of_run' 8 (by kernel_rfl) (by kernel_rfl)) (by kernel_rfl)
theorem reads (os:Os) {H:Type} (enc:TypeId×Value→H):∃ x,DataW.whole enc prog ((laidWorld os).forCall (fun _ _=>0) ⟨#[],#[.agg (zc prog 28),.agg (zc prog 31)],[]⟩).memory Tryd.f3.params.toList Rows.fnExactSpreadOfPlanSpec.vars false (#[.agg (zc prog 28),.agg (zc prog 31)]:Array Value).toList 8=some x:=
 Option.isSome_iff_exists.1 (by kernel_rfl)
set_option maxRecDepth 100000 in
theorem lifted (os:Os) (started:os.Started) (H:Type) (enc:TypeId×Value→H) :
  ReturnsInLeavingWide {} Tryd.checked os 3 .any ((OpenSpec.ofChange Rows.fnExactSpreadOfPlanSpec).preRow enc prog Tryd.f3 Rows.fnExactSpreadOfPlanRow.domain false Rows.fnExactSpreadOfPlanRow.laid) (Rows.fnExactSpreadOfPlanSpec.post enc prog Tryd.f3 false true false false):=by
 obtain ⟨x,hx⟩:=reads os enc
 refine Zku (C:=Tryd.checked) (tb:=4) own (by kernel_rfl) Tryd.func3 (by kernel_rfl) Tryd.underlying4 (of_decide_eq_true (by kernel_rfl)) (by kernel_rfl) ?_ os started H enc
  (witness_row_at (enc:=enc) (C:=Tryd.checked) false (laidWorld os) #[.agg (zc prog 28),.agg (zc prog 31)] rfl (by kernel_rfl) (by kernel_rfl) (by kernel_rfl)
   (OpenSpec.preRow_of_cond 8 hx (by kernel_rfl) (fun k hk=>by cases hk) (by kernel_rfl) (Zu1 os _))) ?_
 ·intro H ds gs hds hgs
  rw [show Tryd.f3.params.toList.length=2 by kernel_rfl] at hds
  rw [show Rows.fnExactSpreadOfPlanSpec.vars.length=0 by kernel_rfl] at hgs
  match ds,hds,gs,hgs with
  | [_,_],_,[],_=>rfl
 ·intro W base args ds ps hval hA hL
  have k0:=Zvo hL
  rw [Tryd.params3] at hA hval
  obtain ⟨v0,vs0,d0,ds0,p0,q0,ha0,rfl,rfl,h0,r0⟩:=trodAll_cons hA
  obtain ⟨v1,vs1,d1,ds1,p1,q1,rfl,rfl,rfl,h1,r1⟩:=trodAll_cons r0
  obtain ⟨rfl,rfl,rfl⟩:=trodAll_nil r1
  have hargs:args=#[v0,v1]:=by cases args;simp_all
  obtain ⟨a0,e0,w0⟩:=Ybx (t:=28) 8 (by kernel_rfl) (by kernel_rfl) (hval 0 28 v0 rfl (by rw [hargs];rfl)) h0
  obtain ⟨x_a1x2,n_a1x2,c_a1x2,a1x2,a1,D_a1,e1,s1,w1,z11,z12,z13,z14⟩:=Yfe (P:=prog) (t:=31) (e:=103) (ts:=29) 8 2 2 Tryd.underlying31 (by kernel_rfl) (by kernel_rfl) (by kernel_rfl) (by kernel_rfl) Tryd.underlying29 (by kernel_rfl) (by kernel_rfl) (Nat.lt_of_lt_of_eq (by decide:0<3) (by kernel_rfl)) (hval 1 31 v1 rfl (by rw [hargs];rfl)) h1
  obtain rfl:args=#[.agg a0,.agg D_a1]:=by rw [hargs,e0,e1]
  obtain ⟨hg,hv⟩:=Zkl a0 a1 ⟨5,0,none⟩ (some x_a1x2) n_a1x2 a1x2 w0 w1 s1.2.2.1
  have hr:Zeb [.g a0 28,.r a1 31 [(2,1)]] [.gl 5 166 ⟨5,0,none⟩ 7000071,.sl (.came (some x_a1x2)) n_a1x2 a1x2 103]=some (.a (.b true),.none,true):=by
   show (some (SV.a (SA.b ((Zbh prog a0 a1 ⟨5,0,none⟩ (some x_a1x2) n_a1x2 a1x2))),Eff.none,(Zbi a0 a1 ⟨5,0,none⟩ (some x_a1x2) n_a1x2 a1x2)):Option (SV×Eff×Bool))=_
   rw [hg,hv]
  exact Ybe (by kernel_rfl) Zmb (hh:=[.gl 5 166 ⟨5,0,none⟩ 7000071,.sl (.came (some x_a1x2)) n_a1x2 a1x2 103]) (by kernel_rfl) hr W (vals:=[.agg a0,.agg D_a1]) (.gl k0 (.cons s1 .nil)) (allCons2 ⟨rfl,w0⟩ (allCons2 (Ykx rfl w1 z11 z12 z13 z14) (allNil2 _)))
theorem said:Rows.FnExactSpreadOfPlanSaid:=
 OpenClaim.holds_of_wide_leaving 3 Tryd.f3 rfl rfl rfl rfl rfl rfl rfl ⟨rfl,rfl,rfl,rfl,rfl⟩ rfl rfl rfl rfl rfl (by kernel_rfl) Tryd.func3 (by kernel_rfl)
  (of_decide_eq_true (by kernel_rfl)) (by unfold Func.isWrapper;first | (rw [if_pos (by decide +kernel)];kernel_rfl) | (rw [if_neg (by decide +kernel)];exact ⟨rfl,rfl⟩))
  (fun os started H enc _=>by rw [OpenClaim.pre_eq_preRow];exact lifted os started H enc)
theorem plain (f:FuncId) (fn:Func) (hf:Tryd.pinned.checked.prog.funcNamed Rows.fnExactSpreadOfPlanRow.func=some f) (hfn:Tryd.pinned.checked.prog.funcs[f]? = some fn) :
  Rows.fnExactSpreadOfPlanCard.stood.looks=Tryd.pinned.checked.prog.looks []∧∀ (j:Nat) t,fn.params[j]? = some t→Tryd.pinned.checked.prog.wantsStandIn t=false:=by
 obtain rfl:f=3:=Option.some.inj ((show prog.funcNamed Rows.fnExactSpreadOfPlanRow.func=some 3 by kernel_rfl).symm.trans hf) |>.symm
 obtain rfl:fn=Tryd.f3:=(Option.some.inj (Tryd.func3.symm.trans hfn)).symm
 refine ⟨by kernel_rfl,fun j t ht=> ?_⟩
 have hall:∀ t ∈ Tryd.f3.params.toList,prog.wantsStandIn t=false:=of_decide_eq_true (by kernel_rfl)
 exact hall t (by simpa using Array.mem_of_getElem? ht)
theorem proved:Rows.FnExactSpreadOfPlanCardSaid:=
 Zpw .later true _ _ _ _ said (by kernel_rfl) fnExactSpreadOfPlan_row_tie rfl ⟨rfl,rfl⟩ (by kernel_rfl) rfl plain (by kernel_rfl)
#print axioms proved
end lawFnExactSpreadOfPlan
end
end Go.Proofs.YtflnjkpejbohjaaDoor
