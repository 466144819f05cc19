/- Shares in lowest terms; what is found of a plan: both sides. -/
import Derived.Test.YtflnjkpejbohjaaGreatDoorProg
import Derived.Test.YtflnjkpejbohjaaGreatDoorCpE
namespace Go.Proofs.YtflnjkpejbohjaaGreatDoor
open Go.ChangeShapes Go.WideShapes Go.ChangeAt Go.RowKit Ve Vc
open IntKind (i64)
set_option linter.unusedVariables false
set_option linter.unusedSimpArgs false
set_option maxRecDepth 100000
noncomputable section
variable {F:Vc.Fd}
def gcdW (a b:Int):Int:=(Int.gcd a b:Int)
theorem Ygz {a b:Int} (ha:0≤a) (hb:0<b):gcdW b (a.tmod b)=gcdW a b:=by
 unfold gcdW
 obtain ⟨m,rfl⟩:=Int.eq_ofNat_of_zero_le ha
 obtain ⟨n,rfl⟩:=Int.eq_ofNat_of_zero_le (Int.le_of_lt hb)
 rw [Int.tmod_eq_emod_of_nonneg ha,← Int.natCast_emod,Int.gcd_natCast_natCast,Int.gcd_natCast_natCast,Nat.gcd_comm m n,Nat.gcd_rec n m,Nat.gcd_comm]
theorem Ygl (a b:Int):gcdW a b=gcdW b a:=by unfold gcdW;rw [Int.gcd_comm]
theorem gcdW_ne {a b:Int} (hb:0<b):(gcdW a b != 0)=true:=by
 unfold gcdW
 rw [bne_iff_ne]
 intro h
 have h':Int.gcd a b=0:=by omega
 have:=Int.gcd_eq_zero_iff.1 h'
 omega
theorem Ygy {a:Int} (ha:0≤a):gcdW a 0=a:=by
 unfold gcdW;rw [Int.gcd_zero_right];omega
def Zhh (m:Nat):Con:=fun args h=>match args,h with
 | [.i .i64 a0,.i .i64 a1],[]=>some (.a (.i .i64 (gcdW a0 a1)),.none,(decide (0≤a0)&&(decide (0≤a1)&&decide (a1<m))))
 | _,_=>none
theorem Zm9:EntX Tryz.prog 43:=Zaf (fn:=Tryz.f43) (by kernel_rfl) (by kernel_rfl) (by kernel_rfl)
theorem Zz3 (m:Nat) (N:Nat) (a0 a1:Int):ansV Tryz.prog (mkΓ [(43,con (Zhh m))]) N Tryz.f43 [] [.i .i64 (a0),.i .i64 (a1)] []=(bif (a1==(0:Int)) then (some (.a (.i .i64 (a0)),.none,true))
  else (bif (a1 != 0) then (bif (decide (0≤a1)&&(decide (0≤((a0).tmod a1))&&decide (((a0).tmod a1)<m))) then (some (.a (.i .i64 (gcdW a1 ((a0).tmod a1))),.none,true))
    else (none))
   else (none))):=by kernel_rfl
theorem Zyk (m:Nat) (a0 a1:Int) (hg:(decide (0≤a0)&&(decide (0≤a1)&&decide (a1<((m+1:Nat):Int))))=true):ansV Tryz.prog (mkΓ [(43,con (Zhh m))]) 1000 Tryz.f43 [] [.i .i64 (a0),.i .i64 (a1)] []=some (.a (.i .i64 (gcdW a0 a1)),.none,true):=by
 simp only [Bool.and_eq_true,decide_eq_true_eq] at hg
 obtain ⟨g0,g1,g2⟩:=hg
 refine (Zz3 m 1000 a0 a1).trans ?_
 by_cases h:a1=0
 ·subst h;rw [Ygy g0];rfl
 ·have hp:0<a1:=by omega
  have ht:=Int.tmod_lt_of_pos a0 hp
  have h0:0≤a0.tmod a1:=Int.tmod_nonneg _ g0
  rw [show (a1==(0:Int))=false from beq_eq_false_iff_ne.2 h,show (a1 != 0)=true from bne_iff_ne.2 h,decide_eq_true g1,decide_eq_true h0,decide_eq_true (show a0.tmod a1<(m:Int) by omega),Ygz g0 hp]
  rfl
theorem Zps:∀ m,ConOkX (md F) Tryz.prog 43 (Zhh m)
 | 0=>by
  intro ρ h w args vals r e hn hr hA hH
  unfold Zhh at hr
  split at hr
  ·obtain ⟨_,hg⟩:=Prod.mk.inj (Option.some.inj hr)
   obtain ⟨_,hg⟩:=Prod.mk.inj hg
   simp only [Bool.and_eq_true,decide_eq_true_eq] at hg
   omega
  ·cases hr
 | m+1=>(Zag (N:=1000) (by kernel_rfl) (mkΓ_consX (Zad (Zps m)) Zm9 mkΓ_nilX) (fn:=Tryz.f43) (by kernel_rfl) (by kernel_rfl) []).of (by
  intro ρ h w args vals r e hA hH hr
  unfold Zhh at hr
  split at hr
  ·rename_i a0 a1
   obtain ⟨rfl,hg⟩:=Prod.mk.inj (Option.some.inj hr)
   obtain ⟨rfl,hg2⟩:=Prod.mk.inj hg
   exact Zyk m a0 a1 hg2
  ·cases hr)
def Zh8:Con:=fun args h=>match args,h with
 | [.i .i64 a0,.i .i64 a1],[]=>some (.a (.i .i64 (gcdW a0 a1)),.none,(decide (0≤a0)&&decide (0≤a1)))
 | _,_=>none
theorem Yb8:ConOkX (md F) Tryz.prog 43 Zh8:=by
 intro ρ h w args vals r e hn hr hA hH
 unfold Zh8 at hr
 split at hr
 ·rename_i a0 a1
  obtain ⟨rfl,hg⟩:=Prod.mk.inj (Option.some.inj hr)
  obtain ⟨rfl,hg2⟩:=Prod.mk.inj hg
  refine Zps (a1.toNat+1) ρ _ w _ vals _ _ hn ?_ hA hH
  show (some (SV.a (SA.i .i64 (gcdW a0 a1)),Eff.none,(decide (0≤a0)&&(decide (0≤a1)&&decide (a1<((a1.toNat+1:Nat):Int))))):Option (SV×Eff×Bool))=_
  simp only [Bool.and_eq_true,decide_eq_true_eq] at hg2
  rw [decide_eq_true hg2.1,decide_eq_true hg2.2,decide_eq_true (show a1<((a1.toNat+1:Nat):Int) by omega)]
  rfl
 ·cases hr
def Za4 (a0:Array Value):St:=(⟨.a (.g a0 107) :: .a (.w 0) :: .a (.w 1) :: .a (.i .i64 (num a0 1)) :: .a (.i .i64 (num a0 0)) :: .a (.p 0 (1) 2) :: .a (.i .i64 (num a0 1)) :: .a (.p 0 (0) 2) :: .a (.i .i64 (num a0 0))::us 15 ([]),[.row a0 107,.row #[.int .i64 (0:Int),.int .i64 (0:Int)] 107,.no,.no,.no,.no,.no,.no],[]⟩:St)
def Zbh:Int×Int→LS
 | (y0_3,y0_4)=>([.a (.i .i64 (y0_3)),.a (.i .i64 (y0_4))],[])
def Zdu:Int×Int→Exit×LS
 | t=>((.exit 0),Zbh t)
def Zau (P:Program) (a0:Array Value):Int×Int→Option (Stp (Int×Int) (Int×Int))
 | (y0_3,y0_4)=>bif (y0_4 != (0:Int)) then (bif (y0_4 != 0) then (some (.more (y0_4,((y0_3).tmod y0_4))))
   else (none))
  else (some (.done (y0_3,y0_4)))
theorem Zj2 (N:Nat) (a0:Array Value):∀ t:Int×Int,stepV Tryz.prog (mkΓ []) N (cAt (codeOf Tryz.f49) [1,1,0,0,0]) (pAt (mkPlan (codeOf Tryz.f49) [([3,4],[])]).1 [1,1,0,0]) [3,4] [] (Za4 a0) (Zbh t)=mapS Zbh Zdu (Zau Tryz.prog a0 t):=by
 rintro ⟨y0_3,y0_4⟩
 refine Eq.trans (b:=(bif (y0_4 != (0:Int)) then (bif (y0_4 != 0) then (some (.more ([.a (.i .i64 (y0_4)),.a (.i .i64 ((y0_3).tmod y0_4))],[])))
   else (none))
  else (some (.done ((.exit 0),([.a (.i .i64 (y0_3)),.a (.i .i64 (y0_4))],[])))))) (by kernel_rfl) ?_
 simp only [Zau,Zay,Zaz,Zax,Zaw,Zbh,Zdu]
def Zbd (P:Program) (N:Nat) (a0:Array Value) (z0_3:Int) (z0_4:Int):Option (SV×Eff×Bool):=bif (z0_3 != 0) then (bif (z0_3 != 0) then (some (.a (.g #[.int .i64 (i64.wrap (((num a0 0)).tdiv z0_3)),.int .i64 (i64.wrap (((num a0 1)).tdiv z0_3))] 107),.none,true))
   else (none))
  else (none)
theorem Zh6 (N:Nat) (a0:Array Value) (z0_3:Int) (z0_4:Int):(kBlock 0 (kSeq (veC Tryz.prog (mkΓ []) N (cAt (codeOf Tryz.f49) [1,1,1]) (pAt (mkPlan (codeOf Tryz.f49) [([3,4],[])]).1 [1,1,1]) (SV×Eff×Bool)) (finK Tryz.prog [] [.cell 2 107]))) (.exit 0) (left (writes (cAt (codeOf Tryz.f49) [1,1,0,0,0])) [3,4] [] (Za4 a0) ([.a (.i .i64 (z0_3)),.a (.i .i64 (z0_4))],[]))=Zbd Tryz.prog N a0 z0_3 z0_4:=by
 refine Eq.trans (b:=(bif (z0_3 != 0) then (bif (z0_3 != 0) then (some (.a (.g #[.int .i64 (i64.wrap (((num a0 0)).tdiv z0_3)),.int .i64 (i64.wrap (((num a0 1)).tdiv z0_3))] 107),.none,true))
   else (none))
  else (none))) (by kernel_rfl) ?_
 rfl
theorem Zkh (N:Nat) (a0:Array Value):bindX (iterO (stepV Tryz.prog (mkΓ []) N (cAt (codeOf Tryz.f49) [1,1,0,0,0]) (pAt (mkPlan (codeOf Tryz.f49) [([3,4],[])]).1 [1,1,0,0]) [3,4] [] (Za4 a0)) N ([.a (.i .i64 (num a0 1)),.a (.i .i64 (num a0 0))],[])) (fun e s=>(kBlock 0 (kSeq (veC Tryz.prog (mkΓ []) N (cAt (codeOf Tryz.f49) [1,1,1]) (pAt (mkPlan (codeOf Tryz.f49) [([3,4],[])]).1 [1,1,1]) (SV×Eff×Bool)) (finK Tryz.prog [] [.cell 2 107]))) e (left (writes (cAt (codeOf Tryz.f49) [1,1,0,0,0])) [3,4] [] (Za4 a0) s))=nodeX (iterO (Zau Tryz.prog a0) N ((num a0 1),(num a0 0))) (fun x=>Zbd Tryz.prog N a0 x.1 x.2):=by
 refine Zbc Zbh Zdu _ _ (Zj2 N a0) N ((num a0 1),(num a0 0)) _ _ ?_
 intro x;exact Zh6 N a0 x.1 x.2
theorem Zjl (N:Nat) (a0:Array Value):ansV Tryz.prog (mkΓ []) N Tryz.f49 [([3,4],[])] [.g a0 107] []=(nodeX (iterO (Zau Tryz.prog a0) N ((num a0 1),(num a0 0))) (fun x=>Zbd Tryz.prog N a0 x.1 x.2)):=by
 refine Eq.trans (b:=(bindX (iterO (stepV Tryz.prog (mkΓ []) N (cAt (codeOf Tryz.f49) [1,1,0,0,0]) (pAt (mkPlan (codeOf Tryz.f49) [([3,4],[])]).1 [1,1,0,0]) [3,4] [] (Za4 a0)) N ([.a (.i .i64 (num a0 1)),.a (.i .i64 (num a0 0))],[])) (fun e s=>(kBlock 0 (kSeq (veC Tryz.prog (mkΓ []) N (cAt (codeOf Tryz.f49) [1,1,1]) (pAt (mkPlan (codeOf Tryz.f49) [([3,4],[])]).1 [1,1,1]) (SV×Eff×Bool)) (finK Tryz.prog [] [.cell 2 107]))) e (left (writes (cAt (codeOf Tryz.f49) [1,1,0,0,0])) [3,4] [] (Za4 a0) s)))) (by kernel_rfl) ?_
 simp only [Zkh N a0]
theorem Yit (a0:Array Value):∀ (n:Nat) (x y:Int),0≤x→0≤y→y.toNat<n→iterO (Zau Tryz.prog a0) n (x,y)=some (gcdW x y,0)
 | 0,x,y,_,_,h=>by omega
 | n+1,x,y,hx,hy,h=>by
  by_cases e:y=0
  ·subst e
   rw [Ygy hx]
   exact Yfv (by simp only [Zau];rfl) n
  ·have hp:0<y:=by omega
   have ht:=Int.tmod_lt_of_pos x hp
   have h0:0≤x.tmod y:=Int.tmod_nonneg _ hx
   rw [Yfg (t':=(y,x.tmod y)) (by simp only [Zau];rw [show (y != (0:Int))=true from bne_iff_ne.2 e];rfl) n,Yit a0 n y (x.tmod y) hy h0 (by omega),Ygz hx hp]
theorem Zjb (a0:Array Value) (h_a0:WT Tryz.prog 107 a0) (hg:((decide (0≤num a0 0)&&(decide (0≤num a0 1)&&(gcdW (num a0 1) (num a0 0) != 0))))=true):ansV Tryz.prog (mkΓ []) 18446744073709551616 Tryz.f49 [([3,4],[])] [.g a0 107] []=some (.a (.g #[.int .i64 (i64.wrap ((num a0 0).tdiv (gcdW (num a0 1) (num a0 0)))),.int .i64 (i64.wrap ((num a0 1).tdiv (gcdW (num a0 1) (num a0 0))))] 107),.none,true):=by
 simp only [Bool.and_eq_true,decide_eq_true_eq] at hg
 obtain ⟨g0,g1,g2⟩:=hg
 have hr:=(h_a0.int (k:=.i64) (o:=0) (by kernel_rfl)).2
 have hm:num a0 0≤9223372036854775807:=hr.2
 refine (Zjl 18446744073709551616 a0).trans ?_
 rw [Yit a0 18446744073709551616 (num a0 1) (num a0 0) g1 g0 (by omega)]
 generalize gcdW (num a0 1) (num a0 0)=q at g2
 show Zbd Tryz.prog 18446744073709551616 a0 q 0=_
 unfold Zbd
 rw [g2]
 rfl
def Zdn:Con:=fun args h=>match args,h with
 | [.g a0 107],[]=>some (.a (.g #[.int .i64 (i64.wrap ((num a0 0).tdiv (gcdW (num a0 1) (num a0 0)))),.int .i64 (i64.wrap ((num a0 1).tdiv (gcdW (num a0 1) (num a0 0))))] 107),.none,(decide (0≤num a0 0)&&(decide (0≤num a0 1)&&(gcdW (num a0 1) (num a0 0) != 0))))
 | _,_=>none
theorem Zix:EntX Tryz.prog 49:=Zaf (fn:=Tryz.f49) (by kernel_rfl) (by kernel_rfl) (by kernel_rfl)
theorem Zkj:ConOkX (md F) Tryz.prog 49 Zdn:=(Zag (N:=18446744073709551616) (by kernel_rfl) mkΓ_nilX (fn:=Tryz.f49) (by kernel_rfl) (by kernel_rfl) [([3,4],[])]).of (by
 intro ρ h w args vals r e hA hH hr
 unfold Zdn at hr
 split at hr
 ·rename_i a0
  obtain ⟨rfl,hg⟩:=Prod.mk.inj (Option.some.inj hr)
  obtain ⟨rfl,hg2⟩:=Prod.mk.inj hg
  exact Zjb a0 (hA.wt 0 rfl) hg2
 ·cases hr)
theorem Zvp (N:Nat) (a0 a1:Int):ansV Tryz.prog (mkΓ [(43,con Zh8)]) N Tryz.f20 [] [.i .i64 (a0),.i .i64 (a1)] []=(bif (decide (0≤a0)&&decide (0≤a1)) then (bif ((gcdW a0 a1) != 0) then (bif ((gcdW a0 a1) != 0) then (some (.a (.g #[.int .i64 (i64.wrap ((a0).tdiv (gcdW a0 a1))),.int .i64 (i64.wrap ((a1).tdiv (gcdW a0 a1)))] 34),.none,true))
    else (none))
   else (none))
  else (none)):=by kernel_rfl
def Zen (a0 a1:Int):Bool:=(bif (decide (0≤a0)&&decide (0≤a1)) then (bif ((gcdW a0 a1) != 0) then ((gcdW a0 a1) != 0) else false) else false)
theorem Zur (a0 a1:Int) (h_a0:i64.min≤a0∧a0≤i64.max) (h_a1:i64.min≤a1∧a1≤i64.max) (hg:((Zen a0 a1))=true):ansV Tryz.prog (mkΓ [(43,con Zh8)]) 1000 Tryz.f20 [] [.i .i64 (a0),.i .i64 (a1)] []=some (.a (.g #[.int .i64 (i64.wrap ((a0).tdiv (gcdW a0 a1))),.int .i64 (i64.wrap ((a1).tdiv (gcdW a0 a1)))] 34),.none,true):=by
 refine (Zvp 1000 a0 a1).trans ?_
 unfold Zen at hg
 revert hg
 generalize (decide (0≤a0))=b2
 intro hg
 cases b2
 ·skip
  first | exact (nomatch (hg:false=true)) | (simp only [cond_true,cond_false,Bool.and_true,Bool.true_and,Bool.and_false,Bool.false_and];done) | rfl
 ·skip
  revert hg
  generalize (decide (0≤a1))=b4
  intro hg
  cases b4
  ·skip
   first | exact (nomatch (hg:false=true)) | (simp only [cond_true,cond_false,Bool.and_true,Bool.true_and,Bool.and_false,Bool.false_and];done) | rfl
  ·skip
   revert hg
   generalize (((gcdW a0 a1) != 0))=b6
   intro hg
   cases b6
   ·skip
    first | exact (nomatch (hg:false=true)) | (simp only [cond_true,cond_false,Bool.and_true,Bool.true_and,Bool.and_false,Bool.false_and];done) | rfl
   ·skip
    first | (simp only [cond_true,cond_false,Bool.and_true,Bool.true_and,Bool.and_false,Bool.false_and];done) | rfl | exact (nomatch (hg:false=true))
def Zi2:Con:=fun args h=>match args,h with
 | [.i .i64 a0,.i .i64 a1],[]=>some (.a (.g #[.int .i64 (i64.wrap ((a0).tdiv (gcdW a0 a1))),.int .i64 (i64.wrap ((a1).tdiv (gcdW a0 a1)))] 34),.none,(Zen a0 a1))
 | _,_=>none
theorem Zsk:EntX Tryz.prog 20:=Zaf (fn:=Tryz.f20) (by kernel_rfl) (by kernel_rfl) (by kernel_rfl)
theorem Zxu:ConOkX (md F) Tryz.prog 20 Zi2:=(Zag (N:=1000) (by kernel_rfl) (mkΓ_consX (Zad Yb8) Zm9 mkΓ_nilX) (fn:=Tryz.f20) (by kernel_rfl) (by kernel_rfl) []).of (by
 intro ρ h w args vals r e hA hH hr
 unfold Zi2 at hr
 split at hr
 ·rename_i a0 a1
  obtain ⟨rfl,hg⟩:=Prod.mk.inj (Option.some.inj hr)
  obtain ⟨rfl,hg2⟩:=Prod.mk.inj hg
  exact Zur a0 a1 (hA.rng 0 rfl) (hA.rng 1 rfl) hg2
 ·cases hr)
def Zrn:Cons:=(mkΓ [(49,con Zdn)])
theorem Zyz (N:Nat) (a0 a1:Int):ansV Tryz.prog Zrn N Tryz.f27 [] [.i .i64 (a0),.i .i64 (a1)] []=(bif (decide (0≤num (#[.int .i64 (a0),.int .i64 (a1)]:Array Value) 0)&&(decide (0≤num (#[.int .i64 (a0),.int .i64 (a1)]:Array Value) 1)&&(gcdW (num (#[.int .i64 (a0),.int .i64 (a1)]:Array Value) 1) (num (#[.int .i64 (a0),.int .i64 (a1)]:Array Value) 0) != 0))) then (some (.a (.g #[.int .i64 (i64.wrap ((num (#[.int .i64 (a0),.int .i64 (a1)]:Array Value) 0).tdiv (gcdW (num (#[.int .i64 (a0),.int .i64 (a1)]:Array Value) 1) (num (#[.int .i64 (a0),.int .i64 (a1)]:Array Value) 0)))),.int .i64 (i64.wrap ((num (#[.int .i64 (a0),.int .i64 (a1)]:Array Value) 1).tdiv (gcdW (num (#[.int .i64 (a0),.int .i64 (a1)]:Array Value) 1) (num (#[.int .i64 (a0),.int .i64 (a1)]:Array Value) 0))))] 34),.none,true))
  else (none)):=by kernel_rfl
def Zdm (a0 a1:Int):Array Value:=#[.int .i64 (i64.wrap ((num (#[.int .i64 (a0),.int .i64 (a1)]:Array Value) 0).tdiv (gcdW (num (#[.int .i64 (a0),.int .i64 (a1)]:Array Value) 1) (num (#[.int .i64 (a0),.int .i64 (a1)]:Array Value) 0)))),.int .i64 (i64.wrap ((num (#[.int .i64 (a0),.int .i64 (a1)]:Array Value) 1).tdiv (gcdW (num (#[.int .i64 (a0),.int .i64 (a1)]:Array Value) 1) (num (#[.int .i64 (a0),.int .i64 (a1)]:Array Value) 0))))]
def Zdk (a0 a1:Int):Bool:=(decide (0≤num (#[.int .i64 (a0),.int .i64 (a1)]:Array Value) 0)&&(decide (0≤num (#[.int .i64 (a0),.int .i64 (a1)]:Array Value) 1)&&(gcdW (num (#[.int .i64 (a0),.int .i64 (a1)]:Array Value) 1) (num (#[.int .i64 (a0),.int .i64 (a1)]:Array Value) 0) != 0)))
theorem Zwm (a0 a1:Int) (h_a0:i64.min≤a0∧a0≤i64.max) (h_a1:i64.min≤a1∧a1≤i64.max) (hg:((Zdk a0 a1))=true):ansV Tryz.prog Zrn 1000 Tryz.f27 [] [.i .i64 (a0),.i .i64 (a1)] []=some (.a (.g (Zdm a0 a1) 34),.none,true):=by
 refine (Zyz 1000 a0 a1).trans ?_
 unfold Zdk at hg
 unfold Zdm
 revert hg
 generalize ((decide (0≤num (#[.int .i64 (a0),.int .i64 (a1)]:Array Value) 0)&&(decide (0≤num (#[.int .i64 (a0),.int .i64 (a1)]:Array Value) 1)&&(gcdW (num (#[.int .i64 (a0),.int .i64 (a1)]:Array Value) 1) (num (#[.int .i64 (a0),.int .i64 (a1)]:Array Value) 0) != 0))))=b2
 intro hg
 cases b2
 ·skip
  first | exact (nomatch (hg:false=true)) | (simp only [cond_true,cond_false,Bool.and_true,Bool.true_and,Bool.and_false,Bool.false_and];done) | rfl
 ·skip
  first | (simp only [cond_true,cond_false,Bool.and_true,Bool.true_and,Bool.and_false,Bool.false_and];done) | rfl | exact (nomatch (hg:false=true))
def Zj4:Con:=fun args h=>match args,h with
 | [.i .i64 a0,.i .i64 a1],[]=>some (.a (.g (Zdm a0 a1) 34),.none,(Zdk a0 a1))
 | _,_=>none
theorem Zvb:EntX Tryz.prog 27:=Zaf (fn:=Tryz.f27) (by kernel_rfl) (by kernel_rfl) (by kernel_rfl)
theorem Zz1:ConOkX (md F) Tryz.prog 27 Zj4:=(Zag (N:=1000) (by kernel_rfl) (mkΓ_consX (Zad Zkj) Zix mkΓ_nilX) (fn:=Tryz.f27) (by kernel_rfl) (by kernel_rfl) []).of (by
 intro ρ h w args vals r e hA hH hr
 unfold Zj4 at hr
 split at hr
 ·rename_i a0 a1
  obtain ⟨rfl,hg⟩:=Prod.mk.inj (Option.some.inj hr)
  obtain ⟨rfl,hg2⟩:=Prod.mk.inj hg
  exact Zwm a0 a1 (hA.rng 0 rfl) (hA.rng 1 rfl) hg2
 ·cases hr)
theorem Zxn (N:Nat) (a0 a1:Array Value):ansV Tryz.prog (mkΓ []) N Tryz.f11 [] [.g a0 34,.g a1 34] []=(bif ((num a0 0) != (num a1 0)) then (some (.a (.b (false)),.none,true))
  else (bif ((num a0 1) != (num a1 1)) then (some (.a (.b (false)),.none,true))
   else (some (.a (.b (true)),.none,true)))):=by kernel_rfl
def Zdo (a0 a1:Array Value):Bool:=(bif ((num a0 0) != (num a1 0)) then false else (bif ((num a0 1) != (num a1 1)) then false else true))
theorem Zv0 (a0 a1:Array Value) (h_a0:WT Tryz.prog 34 a0) (h_a1:WT Tryz.prog 34 a1) (hg:(true)=true):ansV Tryz.prog (mkΓ []) 1000 Tryz.f11 [] [.g a0 34,.g a1 34] []=some (.a (.b ((Zdo a0 a1))),.none,true):=by
 refine (Zxn 1000 a0 a1).trans ?_
 unfold Zdo
 revert hg
 generalize (((num a0 0) != (num a1 0)))=b2
 intro hg
 cases b2
 ·skip
  revert hg
  generalize (((num a0 1) != (num a1 1)))=b4
  intro hg
  cases b4
  ·skip
   first | (simp only [cond_true,cond_false,Bool.and_true,Bool.true_and,Bool.and_false,Bool.false_and];done) | rfl | exact (nomatch (hg:false=true))
  ·skip
   first | (simp only [cond_true,cond_false,Bool.and_true,Bool.true_and,Bool.and_false,Bool.false_and];done) | rfl | exact (nomatch (hg:false=true))
 ·skip
  first | (simp only [cond_true,cond_false,Bool.and_true,Bool.true_and,Bool.and_false,Bool.false_and];done) | rfl | exact (nomatch (hg:false=true))
def Zkc:Con:=fun args h=>match args,h with
 | [.g a0 34,.g a1 34],[]=>some (.a (.b ((Zdo a0 a1))),.none,true)
 | _,_=>none
theorem Zt8:EntX Tryz.prog 11:=Zaf (fn:=Tryz.f11) (by kernel_rfl) (by kernel_rfl) (by kernel_rfl)
theorem Yax:ConOkX (md F) Tryz.prog 11 Zkc:=(Zag (N:=1000) (by kernel_rfl) mkΓ_nilX (fn:=Tryz.f11) (by kernel_rfl) (by kernel_rfl) []).of (by
 intro ρ h w args vals r e hA hH hr
 unfold Zkc at hr
 split at hr
 ·rename_i a0 a1
  obtain ⟨rfl,hg⟩:=Prod.mk.inj (Option.some.inj hr)
  obtain ⟨rfl,hg2⟩:=Prod.mk.inj hg
  exact Zv0 a0 a1 (hA.wt 0 rfl) (hA.wt 1 rfl) hg2
 ·cases hr)
theorem Yet {p w:Int} (hp:0≤p) (hw:0<w):Zdm p w=#[.int .i64 (i64.wrap (p.tdiv (gcdW p w))),.int .i64 (i64.wrap (w.tdiv (gcdW p w)))]∧Zdk p w=true∧Zen p w=true:=by
 have hn:=gcdW_ne (a:=p) hw
 refine ⟨?_, ?_, ?_⟩
 ·unfold Zdm
  show #[_,_]=_
  rw [Ygl p w];rfl
 ·unfold Zdk
  show (decide (0≤p)&&(decide (0≤w)&&(gcdW w p != 0)))=true
  rw [Ygl w p,hn,decide_eq_true hp,decide_eq_true (Int.le_of_lt hw)];rfl
 ·unfold Zen
  rw [hn,decide_eq_true hp,decide_eq_true (Int.le_of_lt hw)];rfl
def shareW (p w:Int):Array Value:=#[.int .i64 (i64.wrap (p.tdiv (gcdW p w))),.int .i64 (i64.wrap (w.tdiv (gcdW p w)))]
theorem Yiw:Zdm 0 1=#[.int .i64 0,.int .i64 1]∧Zdk 0 1=true:=by
 have e:gcdW 0 1=1:=by unfold gcdW;decide
 have h:=Yet (p:=0) (w:=1) (by omega) (by omega)
 refine ⟨h.1.trans ?_,h.2.1⟩
 rw [e];rfl
def allV (X:Array Value):Int:=Zd1 X
theorem Yfr {S p:Array Value} (hS:WT Tryz.prog 41 S) (b0:IntKind.i8.min≤num p 0∧num p 0≤IntKind.i8.max) (b1:IntKind.i8.min≤num p 1∧num p 1≤IntKind.i8.max) {n:Nat} {A:Array Value} (hA:∀ k,k<n→WT Tryz.prog 95 (A.extract (k*3) (k*3+3))) (hp:(okS S&&planB S p n A)=true) (hn:0<n) :
  (∃ T,Mass (endV Tryz.prog S p n A) T∧0≤T∧T≤9000000000000000)∧0<allV (endV Tryz.prog S p n A)∧Zg0 (endV Tryz.prog S p n A)=true∧Zf3 (endV Tryz.prog S p n A)=true∧Zdh (endV Tryz.prog S p n A)=allV (endV Tryz.prog S p n A):=by
 have m8:IntKind.i8.min = -128∧IntKind.i8.max=127:=⟨rfl,rfl⟩
 rw [Bool.and_eq_true] at hp
 obtain ⟨hok,hp⟩:=hp
 unfold planB at hp
 rw [IntWalk.i64_in (num p 0) (by omega),IntWalk.i64_in (num p 1) (by omega)] at hp
 simp only [Bool.and_eq_true] at hp
 obtain ⟨g0,g1,gn,g2,-⟩:=hp
 have r0:=Zl6 g0
 have r1:=Zl6 g1
 have hn12:n≤12:=by
  by_cases c:(n:Int) > 12
  ·rw [decide_eq_true c] at gn;exact nomatch gn
  ·omega
 have hr:=Ylc (by omega) hS hA g2
 obtain ⟨j,hj⟩:=Int.eq_ofNat_of_zero_le (show 0≤num p 1 by omega)
 obtain ⟨M,e2,t0,t1⟩:=Ybm hS hok r0 hr (by omega) hn12 j (by omega)
 have hG:=Zkw (A:=A) (n:=n) hS hok r0 (fun k hk=>(hr k hk).1) j (by omega)
 have hpos:=Ymd hr hn j (by have:=(hr 0 hn).2.1;omega)
 have eX:endV Tryz.prog S p n A=spreadV Tryz.prog S (num p 0) n A j:=by unfold endV;rw [hj,Int.toNat_natCast]
 have hp12:=Zo7 j
 have hp8:=Yez (show j≤8 by omega)
 rw [Yhr] at hp8
 have q0:(0:Int)≤12^j*relT A n j:=Int.mul_nonneg (Int.le_of_lt hp12) t0
 have q1:(12:Int)^j*relT A n j≤429981696*19200:=Int.mul_le_mul hp8 (by omega) t0 (by omega)
 rw [eX]
 have n1:=hG.2.2.1
 generalize spreadV Tryz.prog S (num p 0) n A j=X at M e2 n1⊢
 have ew:i64.wrap (num X 1)=(j:Int):=by rw [n1];exact w64 (by omega)
 have ea:allV X=relT A n j*12^j:=by
  unfold allV Zd1
  rw [ew,e2,Int.toNat_natCast,Int.mul_comm]
  exact IntWalk.i64_in _ (by omega)
 have gj:(decide (0≤(j:Int))&&decide ((j:Int)≤14))=true:=by rw [decide_eq_true (show 0≤(j:Int) by omega),decide_eq_true (show (j:Int)≤14 by omega)];rfl
 refine ⟨⟨_,M,q0,by omega⟩, ?_, ?_, ?_, ?_⟩
 ·rw [ea]
  exact Int.mul_pos (by omega) hp12
 ·unfold Zg0;rw [ew];exact gj
 ·unfold Zf3;rw [ew];exact gj
 ·unfold allV Zdh Zd1;rfl
def fouV (P:Program) (S p:Array Value) (n:Nat) (A:Array Value) (c:Int):Array Value:=bif (okS S&&planB S p n A) then (bif Za3 S c then (bif ((n:Int)==(0:Int)) then #[.int .i64 (0:Int),.int .i64 (1:Int)] else shareW (maskV c (endV P S p n A) 36) (allV (endV P S p n A))) else #[.int .i64 (0:Int),.int .i64 (0:Int)]) else #[.int .i64 (0:Int),.int .i64 (0:Int)]
def Zrs:Cons:=(mkΓw [(25,conS Zha)] [(26,conG Zm6),(27,con Zj4),(28,con Zga),(29,con Zi3),(30,con Zml)] [] [])
theorem Zyc (N:Nat) (a0 a1:Array Value) (a2:Int) (g_et:Addr) (b_a1x2:Option (Option Addr)) (n_a1x2:Nat) (a1x2:Array Value):ansV Tryz.prog Zrs N Tryz.f10 [] [.g a0 41,.r a1 45 [(2,1)],.i .u64 (a2)] [.gl 0 148 g_et 3000073,.sl (.came b_a1x2) n_a1x2 a1x2 95]=(bif (okS a0&&planB a0 a1 n_a1x2 a1x2) then (bif (Za3 a0 a2) then (bif ((n_a1x2:Int)==(0:Int)) then (bif (Zdk (0:Int) (1:Int)) then (some (.t [.g (Zdm (0:Int) (1:Int)) 34,.i .i64 (0:Int)],.none,true))
          else (none))
        else (bif (okS (((spl (spl (zc Tryz.prog 71) 0 (#[.int .i64 (i64.wrap (num a1 0)),.int .i64 (i64.wrap (num a1 1))]:Array Value).toList) 2 a0.toList).setIfInBounds 365 (.slice none 0 0)).extract 2 (2+363))&&spB (((spl (spl (zc Tryz.prog 71) 0 (#[.int .i64 (i64.wrap (num a1 0)),.int .i64 (i64.wrap (num a1 1))]:Array Value).toList) 2 a0.toList).setIfInBounds 365 (.slice none 0 0)).extract 2 (2+363)) (num ((spl (spl (zc Tryz.prog 71) 0 (#[.int .i64 (i64.wrap (num a1 0)),.int .i64 (i64.wrap (num a1 1))]:Array Value).toList) 2 a0.toList).setIfInBounds 365 (.slice none 0 0)) 0) (num ((spl (spl (zc Tryz.prog 71) 0 (#[.int .i64 (i64.wrap (num a1 0)),.int .i64 (i64.wrap (num a1 1))]:Array Value).toList) 2 a0.toList).setIfInBounds 365 (.slice none 0 0)) 1) n_a1x2 a1x2) then (bif (Zg0 (spreadV Tryz.prog (((spl (spl (zc Tryz.prog 71) 0 (#[.int .i64 (i64.wrap (num a1 0)),.int .i64 (i64.wrap (num a1 1))]:Array Value).toList) 2 a0.toList).setIfInBounds 365 (.slice none 0 0)).extract 2 (2+363)) (IntKind.i8.wrap (num ((spl (spl (zc Tryz.prog 71) 0 (#[.int .i64 (i64.wrap (num a1 0)),.int .i64 (i64.wrap (num a1 1))]:Array Value).toList) 2 a0.toList).setIfInBounds 365 (.slice none 0 0)) 0)) n_a1x2 a1x2 (num ((spl (spl (zc Tryz.prog 71) 0 (#[.int .i64 (i64.wrap (num a1 0)),.int .i64 (i64.wrap (num a1 1))]:Array Value).toList) 2 a0.toList).setIfInBounds 365 (.slice none 0 0)) 1).toNat)) then (bif (Zdk (maskV a2 (spreadV Tryz.prog (((spl (spl (zc Tryz.prog 71) 0 (#[.int .i64 (i64.wrap (num a1 0)),.int .i64 (i64.wrap (num a1 1))]:Array Value).toList) 2 a0.toList).setIfInBounds 365 (.slice none 0 0)).extract 2 (2+363)) (IntKind.i8.wrap (num ((spl (spl (zc Tryz.prog 71) 0 (#[.int .i64 (i64.wrap (num a1 0)),.int .i64 (i64.wrap (num a1 1))]:Array Value).toList) 2 a0.toList).setIfInBounds 365 (.slice none 0 0)) 0)) n_a1x2 a1x2 (num ((spl (spl (zc Tryz.prog 71) 0 (#[.int .i64 (i64.wrap (num a1 0)),.int .i64 (i64.wrap (num a1 1))]:Array Value).toList) 2 a0.toList).setIfInBounds 365 (.slice none 0 0)) 1).toNat) 36) (Zd1 (spreadV Tryz.prog (((spl (spl (zc Tryz.prog 71) 0 (#[.int .i64 (i64.wrap (num a1 0)),.int .i64 (i64.wrap (num a1 1))]:Array Value).toList) 2 a0.toList).setIfInBounds 365 (.slice none 0 0)).extract 2 (2+363)) (IntKind.i8.wrap (num ((spl (spl (zc Tryz.prog 71) 0 (#[.int .i64 (i64.wrap (num a1 0)),.int .i64 (i64.wrap (num a1 1))]:Array Value).toList) 2 a0.toList).setIfInBounds 365 (.slice none 0 0)) 0)) n_a1x2 a1x2 (num ((spl (spl (zc Tryz.prog 71) 0 (#[.int .i64 (i64.wrap (num a1 0)),.int .i64 (i64.wrap (num a1 1))]:Array Value).toList) 2 a0.toList).setIfInBounds 365 (.slice none 0 0)) 1).toNat))) then (some (.t [.g (Zdm (maskV a2 (spreadV Tryz.prog (((spl (spl (zc Tryz.prog 71) 0 (#[.int .i64 (i64.wrap (num a1 0)),.int .i64 (i64.wrap (num a1 1))]:Array Value).toList) 2 a0.toList).setIfInBounds 365 (.slice none 0 0)).extract 2 (2+363)) (IntKind.i8.wrap (num ((spl (spl (zc Tryz.prog 71) 0 (#[.int .i64 (i64.wrap (num a1 0)),.int .i64 (i64.wrap (num a1 1))]:Array Value).toList) 2 a0.toList).setIfInBounds 365 (.slice none 0 0)) 0)) n_a1x2 a1x2 (num ((spl (spl (zc Tryz.prog 71) 0 (#[.int .i64 (i64.wrap (num a1 0)),.int .i64 (i64.wrap (num a1 1))]:Array Value).toList) 2 a0.toList).setIfInBounds 365 (.slice none 0 0)) 1).toNat) 36) (Zd1 (spreadV Tryz.prog (((spl (spl (zc Tryz.prog 71) 0 (#[.int .i64 (i64.wrap (num a1 0)),.int .i64 (i64.wrap (num a1 1))]:Array Value).toList) 2 a0.toList).setIfInBounds 365 (.slice none 0 0)).extract 2 (2+363)) (IntKind.i8.wrap (num ((spl (spl (zc Tryz.prog 71) 0 (#[.int .i64 (i64.wrap (num a1 0)),.int .i64 (i64.wrap (num a1 1))]:Array Value).toList) 2 a0.toList).setIfInBounds 365 (.slice none 0 0)) 0)) n_a1x2 a1x2 (num ((spl (spl (zc Tryz.prog 71) 0 (#[.int .i64 (i64.wrap (num a1 0)),.int .i64 (i64.wrap (num a1 1))]:Array Value).toList) 2 a0.toList).setIfInBounds 365 (.slice none 0 0)) 1).toNat))) 34,.i .i64 (0:Int)],.none,true))
              else (none))
            else (none))
          else (none)))
      else (some (.t [.g #[.int .i64 (0:Int),.int .i64 (0:Int)] 34,.i .i64 (2:Int)],.none,true)))
    else (some (.t [.g #[.int .i64 (0:Int),.int .i64 (0:Int)] 34,.i .i64 (1:Int)],.none,true))):=by kernel_rfl
theorem Zw4 (a0 a1:Array Value) (a2:Int) (g_et:Addr) (b_a1x2:Option (Option Addr)) (n_a1x2:Nat) (a1x2:Array Value) (h_a0:WT Tryz.prog 41 a0) (h_a1:WT Tryz.prog 45 a1) (h_a2:IntKind.u64.min≤a2∧a2≤IntKind.u64.max) (h_a1x2:a1x2.size=n_a1x2*(lay Tryz.prog 95).length∧(∀ k,k<n_a1x2→WT Tryz.prog 95 (a1x2.extract (k*(lay Tryz.prog 95).length) (k*(lay Tryz.prog 95).length+(lay Tryz.prog 95).length)))∧n_a1x2≤9223372036854775807) (hg:(true)=true):ansV Tryz.prog Zrs 1000 Tryz.f10 [] [.g a0 41,.r a1 45 [(2,1)],.i .u64 (a2)] [.gl 0 148 g_et 3000073,.sl (.came b_a1x2) n_a1x2 a1x2 95]=some (.t [.g (fouV Tryz.prog a0 a1 n_a1x2 a1x2 a2) 34,.i .i64 (askC a0 a1 n_a1x2 a1x2 a2)],.none,true):=by
 unfold fouV askC
 refine (Zyc 1000 a0 a1 a2 g_et b_a1x2 n_a1x2 a1x2).trans ?_
 obtain ⟨-,b0⟩:=h_a1.int (o:=0) (k:=.i8) (by kernel_rfl)
 obtain ⟨-,b1⟩:=h_a1.int (o:=1) (k:=.i8) (by kernel_rfl)
 have hAw:∀ k,k<n_a1x2→WT Tryz.prog 95 (a1x2.extract (k*3) (k*3+3)):=fun k hk=>by have:=h_a1x2.2.1 k hk;rw [Yh4] at this;exact this
 cases hp:(okS a0&&planB a0 a1 n_a1x2 a1x2) with
 | false=>simp only [cond_true,cond_false]
 | true=>
  cases hc:(Za3 a0 a2) with
  | false=>simp only [cond_true,cond_false,show ((2:Int) != 0)=true from rfl]
  | true=>
   simp only [cond_true,cond_false,show ((0:Int) != 0)=false from rfl]
   by_cases hn:n_a1x2=0
   ·subst hn
    rw [show (((0:Nat):Int)==(0:Int))=true from rfl]
    simp only [cond_true,Yiw.1,Yiw.2]
   ·rw [show ((n_a1x2:Int)==(0:Int))=false from beq_eq_false_iff_ne.2 (by omega)]
    simp only [cond_false]
    obtain ⟨⟨T,hM,t0,t1⟩,ap,e1,e2,e3⟩:=Yfr h_a0 b0 b1 hAw hp (by omega)
    obtain ⟨q1,q2⟩:=voy_end h_a0 b0 b1 hp
    rw [q1,q2]
    generalize endV Tryz.prog a0 a1 n_a1x2 a1x2=X at hM ap e1 e2 e3⊢
    have sh:=Yet (Ybn hM (by omega) a2 36 (by omega)).1 ap
    have ea:Zd1 X=allV X:=rfl
    rw [ea,e1,sh.1,sh.2.1]
    simp only [cond_true]
    rfl
def Zkg:Con:=fun args h=>match args,h with
 | [.g a0 41,.r a1 45 [(2,1)],.i .u64 a2],[.gl 0 148 g_et 3000073,.sl (.came b_a1x2) n_a1x2 a1x2 95]=>some (.t [.g (fouV Tryz.prog a0 a1 n_a1x2 a1x2 a2) 34,.i .i64 (askC a0 a1 n_a1x2 a1x2 a2)],.none,true)
 | _,_=>none
theorem Zt6:EntX Tryz.prog 10:=Zaf (fn:=Tryz.f10) (by kernel_rfl) (by kernel_rfl) (by kernel_rfl)
theorem Yad:ConOkX (md F) Tryz.prog 10 Zkg:=(Zag (N:=1000) (by kernel_rfl) (mkΓw_sX (Zy5 Zsv) Zpk (mkΓw_cX (Yh8 Zy0) Zr5 (mkΓw_cX (Zad Zz1) Zvb (mkΓw_cX (Zad Zpj) Zms (mkΓw_cX (Zad Zyp) Zsh (mkΓw_cX (Zad Yd7) Zyn mkΓx_nilX)))))) (fn:=Tryz.f10) (by kernel_rfl) (by kernel_rfl) []).of (by
 intro ρ h w args vals r e hA hH hr
 unfold Zkg at hr
 split at hr
 ·rename_i a0 a1 a2 g_et b_a1x2 n_a1x2 a1x2
  obtain ⟨rfl,hg⟩:=Prod.mk.inj (Option.some.inj hr)
  obtain ⟨rfl,hg2⟩:=Prod.mk.inj hg
  exact Zw4 a0 a1 a2 g_et b_a1x2 n_a1x2 a1x2 (hA.wt 0 rfl) (hA.wtr 1 rfl) (hA.rng 2 rfl) (hH.slw 1 rfl) hg2
 ·cases hr)
def Zrt:Cons:=(mkΓ [(18,con Ziz),(19,con Zim),(20,con Zi2),(21,con Zlf),(22,con Zle)])
theorem Zxv (N:Nat) (a0 a1:Array Value) (a2:Int) (b_a1x2:Option (Option Addr)) (n_a1x2:Nat) (a1x2:Array Value):ansV Tryz.prog Zrt N Tryz.f7 [] [.g a0 41,.r a1 45 [(2,0)],.i .u64 (a2)] [.sl (.came b_a1x2) n_a1x2 a1x2 95]=(bif ((Zdw a2 a0 a1 b_a1x2 n_a1x2 a1x2) != (0:Int)) then (some (.t [.g #[.int .i64 (0:Int),.int .i64 (0:Int)] 34,.i .i64 (Zdw a2 a0 a1 b_a1x2 n_a1x2 a1x2)],.none,true))
    else (bif ((n_a1x2:Int)==(0:Int)) then (some (.t [.g #[.int .i64 (0:Int),.int .i64 (1:Int)] 34,.i .i64 (0:Int)],.none,true))
      else (bif (okS a0&&planB a0 a1 n_a1x2 a1x2) then (bif (Zf3 (spreadV Tryz.prog a0 (num a1 0) n_a1x2 a1x2 (num a1 1).toNat)) then (bif (Zen (maskV a2 (spreadV Tryz.prog a0 (num a1 0) n_a1x2 a1x2 (num a1 1).toNat) 36) (Zdh (spreadV Tryz.prog a0 (num a1 0) n_a1x2 a1x2 (num a1 1).toNat))) then (some (.t [.g #[.int .i64 (i64.wrap (((maskV a2 (spreadV Tryz.prog a0 (num a1 0) n_a1x2 a1x2 (num a1 1).toNat) 36)).tdiv (gcdW (maskV a2 (spreadV Tryz.prog a0 (num a1 0) n_a1x2 a1x2 (num a1 1).toNat) 36) (Zdh (spreadV Tryz.prog a0 (num a1 0) n_a1x2 a1x2 (num a1 1).toNat))))),.int .i64 (i64.wrap (((Zdh (spreadV Tryz.prog a0 (num a1 0) n_a1x2 a1x2 (num a1 1).toNat))).tdiv (gcdW (maskV a2 (spreadV Tryz.prog a0 (num a1 0) n_a1x2 a1x2 (num a1 1).toNat) 36) (Zdh (spreadV Tryz.prog a0 (num a1 0) n_a1x2 a1x2 (num a1 1).toNat)))))] 34,.i .i64 (0:Int)],.none,true))
            else (none))
          else (none))
        else (none)))):=by kernel_rfl
theorem Zw3 (a0 a1:Array Value) (a2:Int) (b_a1x2:Option (Option Addr)) (n_a1x2:Nat) (a1x2:Array Value) (h_a0:WT Tryz.prog 41 a0) (h_a1:WT Tryz.prog 45 a1) (h_a2:IntKind.u64.min≤a2∧a2≤IntKind.u64.max) (h_a1x2:a1x2.size=n_a1x2*(lay Tryz.prog 95).length∧(∀ k,k<n_a1x2→WT Tryz.prog 95 (a1x2.extract (k*(lay Tryz.prog 95).length) (k*(lay Tryz.prog 95).length+(lay Tryz.prog 95).length)))∧n_a1x2≤9223372036854775807) (hg:(true)=true):ansV Tryz.prog Zrt 1000 Tryz.f7 [] [.g a0 41,.r a1 45 [(2,0)],.i .u64 (a2)] [.sl (.came b_a1x2) n_a1x2 a1x2 95]=some (.t [.g (fouV Tryz.prog a0 a1 n_a1x2 a1x2 a2) 34,.i .i64 (askC a0 a1 n_a1x2 a1x2 a2)],.none,true):=by
 have eE:spreadV Tryz.prog a0 (num a1 0) n_a1x2 a1x2 (num a1 1).toNat=endV Tryz.prog a0 a1 n_a1x2 a1x2:=rfl
 unfold fouV
 refine (Zxv 1000 a0 a1 a2 b_a1x2 n_a1x2 a1x2).trans ?_
 obtain ⟨-,b0⟩:=h_a1.int (o:=0) (k:=.i8) (by kernel_rfl)
 obtain ⟨-,b1⟩:=h_a1.int (o:=1) (k:=.i8) (by kernel_rfl)
 have hAw:∀ k,k<n_a1x2→WT Tryz.prog 95 (a1x2.extract (k*3) (k*3+3)):=fun k hk=>by have:=h_a1x2.2.1 k hk;rw [Yh4] at this;exact this
 rw [ask_eq,eE]
 unfold askC
 cases hp:(okS a0&&planB a0 a1 n_a1x2 a1x2) with
 | false=>simp only [cond_true,cond_false,show ((1:Int) != 0)=true from rfl]
 | true=>
  cases hc:(Za3 a0 a2) with
  | false=>simp only [cond_true,cond_false,show ((2:Int) != 0)=true from rfl]
  | true=>
   simp only [cond_true,cond_false,show ((0:Int) != 0)=false from rfl]
   by_cases hn:n_a1x2=0
   ·subst hn
    rw [show (((0:Nat):Int)==(0:Int))=true from rfl]
    simp only [cond_true]
   ·rw [show ((n_a1x2:Int)==(0:Int))=false from beq_eq_false_iff_ne.2 (by omega)]
    simp only [cond_false]
    obtain ⟨⟨T,hM,t0,t1⟩,ap,e1,e2,e3⟩:=Yfr h_a0 b0 b1 hAw hp (by omega)
    generalize endV Tryz.prog a0 a1 n_a1x2 a1x2=X at hM ap e1 e2 e3⊢
    have sh:=Yet (Ybn hM (by omega) a2 36 (by omega)).1 ap
    rw [e2,e3,sh.2.2]
    simp only [cond_true]
    rfl
def Zka:Con:=fun args h=>match args,h with
 | [.g a0 41,.r a1 45 [(2,0)],.i .u64 a2],[.sl (.came b_a1x2) n_a1x2 a1x2 95]=>some (.t [.g (fouV Tryz.prog a0 a1 n_a1x2 a1x2 a2) 34,.i .i64 (askC a0 a1 n_a1x2 a1x2 a2)],.none,true)
 | _,_=>none
theorem Zuv:EntX Tryz.prog 7:=Zaf (fn:=Tryz.f7) (by kernel_rfl) (by kernel_rfl) (by kernel_rfl)
theorem Ybj:ConOkX (md F) Tryz.prog 7 Zka:=(Zag (N:=1000) (by kernel_rfl) (mkΓ_consX (Zad Zyg) Zsd (mkΓ_consX (Zad Zw1) Zq5 (mkΓ_consX (Zad Zxu) Zsk (mkΓ_consX (Zad Yb3) Zv4 (mkΓ_consX (Zad Yb0) Zvl mkΓ_nilX))))) (fn:=Tryz.f7) (by kernel_rfl) (by kernel_rfl) []).of (by
 intro ρ h w args vals r e hA hH hr
 unfold Zka at hr
 split at hr
 ·rename_i a0 a1 a2 b_a1x2 n_a1x2 a1x2
  obtain ⟨rfl,hg⟩:=Prod.mk.inj (Option.some.inj hr)
  obtain ⟨rfl,hg2⟩:=Prod.mk.inj hg
  exact Zw3 a0 a1 a2 b_a1x2 n_a1x2 a1x2 (hA.wt 0 rfl) (hA.wtr 1 rfl) (hA.rng 2 rfl) (hH.slw 0 rfl) hg2
 ·cases hr)
end
end Go.Proofs.YtflnjkpejbohjaaGreatDoor
