/- Shares in lowest terms; what is found of a plan: both sides. -/
import Derived.Test.YtflnjkpejbohjaaGreatDoorProg
import Derived.Test.YtflnjkpejbohjaaGreatDoorCpE
namespace Go.Proofs.YtflnjkpejbohjaaGreatDoor
open Go.ChangeShapes Go.WideShapes Go.ChangeAt Go.RowKit Ve Vc
open Tryz renaming prog → PZ
open IntKind (i64)
set_option linter.unusedVariables false
set_option linter.unusedSimpArgs false
set_option maxRecDepth 100000
noncomputable section
variable {F:Vc.Fd}
def gcdW (a b:Int):Int:=(Int.gcd a b:Int)
theorem Yhb {a b:Int} (ha:0≤a) (hb:0<b):gcdW b (a.tmod b)=gcdW a b:=by
 unfold gcdW
 obtain ⟨m,rfl⟩:=Int.eq_ofNat_of_zero_le ha
 obtain ⟨n,rfl⟩:=Int.eq_ofNat_of_zero_le (Int.le_of_lt hb)
 rw [Int.tmod_eq_emod_of_nonneg ha,← Int.natCast_emod,Int.gcd_natCast_natCast,Int.gcd_natCast_natCast,Nat.gcd_comm m n,Nat.gcd_rec n m,Nat.gcd_comm]
theorem Yhj (a b:Int):gcdW a b=gcdW b a:=by unfold gcdW;rw [Int.gcd_comm]
theorem gcdW_ne {a b:Int} (hb:0<b):(gcdW a b != 0)=true:=by
 unfold gcdW
 rw [bne_iff_ne]
 intro h
 have h':Int.gcd a b=0:=by omega
 have:=Int.gcd_eq_zero_iff.1 h'
 omega
theorem Ygv {a:Int} (ha:0≤a):gcdW a 0=a:=by
 unfold gcdW;rw [Int.gcd_zero_right];omega
def Zhy (m:Nat):Con:=fun args h=>match args,h with
 | [.i .i64 a0,.i .i64 a1],[]=>some (.a (.i .i64 (gcdW a0 a1)),.none,(decide (0≤a0)&&(decide (0≤a1)&&decide (a1<m))))
 | _,_=>none
theorem Zm3:EntX PZ 43:=Zaf (fn:=Tryz.f43) (by kernel_rfl) (by kernel_rfl) (by kernel_rfl)
theorem Ybs (m:Nat) (N:Nat) (a0 a1:Int):ansV PZ (mkΓ [(43,con (Zhy m))]) N Tryz.f43 [] [.i .i64 (a0),.i .i64 (a1)] []=(bif (a1==(0:Int)) then (some (.a (.i .i64 (a0)),.none,true))
  else (bif (a1 != 0) then (bif (decide (0≤a1)&&(decide (0≤((a0).tmod a1))&&decide (((a0).tmod a1)<m))) then (some (.a (.i .i64 (gcdW a1 ((a0).tmod a1))),.none,true))
    else (none))
   else (none))):=by kernel_rfl
theorem Zyh (m:Nat) (a0 a1:Int) (hg:(decide (0≤a0)&&(decide (0≤a1)&&decide (a1<((m+1:Nat):Int))))=true):ansV PZ (mkΓ [(43,con (Zhy m))]) 1000 Tryz.f43 [] [.i .i64 (a0),.i .i64 (a1)] []=some (.a (.i .i64 (gcdW a0 a1)),.none,true):=by
 simp only [Bool.and_eq_true,decide_eq_true_eq] at hg
 obtain ⟨g0,g1,g2⟩:=hg
 refine (Ybs m 1000 a0 a1).trans ?_
 by_cases h:a1=0
 ·subst h;rw [Ygv g0];rfl
 ·have hp:0<a1:=by omega
  have ht:=Int.tmod_lt_of_pos a0 hp
  have h0:0≤a0.tmod a1:=Int.tmod_nonneg _ g0
  rw [show (a1==(0:Int))=false from beq_eq_false_iff_ne.2 h,show (a1 != 0)=true from bne_iff_ne.2 h,decide_eq_true g1,decide_eq_true h0,decide_eq_true (show a0.tmod a1<(m:Int) by omega),Yhb g0 hp]
  rfl
theorem Zqg:∀ m,Uad (md F) PZ 43 (Zhy m)
 | 0=>by
  intro ρ h w args vals r e hn hr hA hH
  unfold Zhy at hr
  split at hr
  ·obtain ⟨_,hg⟩:=Prod.mk.inj (Option.some.inj hr)
   obtain ⟨_,hg⟩:=Prod.mk.inj hg
   simp only [Bool.and_eq_true,decide_eq_true_eq] at hg
   omega
  ·cases hr
 | m+1=>(Zah (N:=1000) (by kernel_rfl) (mkΓ_consX (Zad (Zqg m)) Zm3 mkΓ_nilX) (fn:=Tryz.f43) (by kernel_rfl) (by kernel_rfl) []).of (by
  intro ρ h w args vals r e hA hH hr
  unfold Zhy at hr
  split at hr
  ·rename_i a0 a1
   obtain ⟨rfl,hg⟩:=Prod.mk.inj (Option.some.inj hr)
   obtain ⟨rfl,hg2⟩:=Prod.mk.inj hg
   exact Zyh m a0 a1 hg2
  ·cases hr)
def Zi2:Con:=fun args h=>match args,h with
 | [.i .i64 a0,.i .i64 a1],[]=>some (.a (.i .i64 (gcdW a0 a1)),.none,(decide (0≤a0)&&decide (0≤a1)))
 | _,_=>none
theorem Yct:Uad (md F) PZ 43 Zi2:=by
 intro ρ h w args vals r e hn hr hA hH
 unfold Zi2 at hr
 split at hr
 ·rename_i a0 a1
  obtain ⟨rfl,hg⟩:=Prod.mk.inj (Option.some.inj hr)
  obtain ⟨rfl,hg2⟩:=Prod.mk.inj hg
  refine Zqg (a1.toNat+1) ρ _ w _ vals _ _ hn ?_ hA hH
  show (some (SV.a (SA.i .i64 (gcdW a0 a1)),Eff.none,(decide (0≤a0)&&(decide (0≤a1)&&decide (a1<((a1.toNat+1:Nat):Int))))):Option (SV×Eff×Bool))=_
  simp only [Bool.and_eq_true,decide_eq_true_eq] at hg2
  rw [decide_eq_true hg2.1,decide_eq_true hg2.2,decide_eq_true (show a1<((a1.toNat+1:Nat):Int) by omega)]
  rfl
 ·cases hr
def Za4 (a0:Array Value):St:=(⟨.a (.g a0 107) :: .a (.w 0) :: .a (.w 1) :: .a (.i .i64 (num a0 1)) :: .a (.i .i64 (num a0 0)) :: .a (.p 0 (1) 2) :: .a (.i .i64 (num a0 1)) :: .a (.p 0 (0) 2) :: .a (.i .i64 (num a0 0))::us 15 ([]),[.row a0 107,.row #[.int .i64 (0:Int),.int .i64 (0:Int)] 107,.no,.no,.no,.no,.no,.no],[]⟩:St)
def Zbl:Int×Int→LS
 | (y0_3,y0_4)=>([.a (.i .i64 (y0_3)),.a (.i .i64 (y0_4))],[])
def Zd0:Int×Int→Exit×LS
 | t=>((.exit 0),Zbl t)
def Zaw (P:Program) (a0:Array Value):Int×Int→Option (Stp (Int×Int) (Int×Int))
 | (y0_3,y0_4)=>bif (y0_4 != (0:Int)) then (bif (y0_4 != 0) then (some (.more (y0_4,((y0_3).tmod y0_4))))
   else (none))
  else (some (.done (y0_3,y0_4)))
theorem Zkp (N:Nat) (a0:Array Value):∀ t:Int×Int,Uah PZ (mkΓ []) N (cAt (codeOf Tryz.f49) [1,1,0,0,0]) (pAt (Uaa (codeOf Tryz.f49) [([3,4],[])]).1 [1,1,0,0]) [3,4] [] (Za4 a0) (Zbl t)=mapS Zbl Zd0 (Zaw PZ a0 t):=by
 rintro ⟨y0_3,y0_4⟩
 refine Eq.trans (b:=(bif (y0_4 != (0:Int)) then (bif (y0_4 != 0) then (some (.more ([.a (.i .i64 (y0_4)),.a (.i .i64 ((y0_3).tmod y0_4))],[])))
   else (none))
  else (some (.done ((.exit 0),([.a (.i .i64 (y0_3)),.a (.i .i64 (y0_4))],[])))))) (by kernel_rfl) ?_
 simp only [Zaw,Zax,Za0,Zay,Zaz,Zbl,Zd0]
def Zbe (P:Program) (N:Nat) (a0:Array Value) (z0_3:Int) (z0_4:Int):Option (SV×Eff×Bool):=bif (z0_3 != 0) then (bif (z0_3 != 0) then (some (.a (.g #[.int .i64 (i64.wrap (((num a0 0)).tdiv z0_3)),.int .i64 (i64.wrap (((num a0 1)).tdiv z0_3))] 107),.none,true))
   else (none))
  else (none)
theorem Zim (N:Nat) (a0:Array Value) (z0_3:Int) (z0_4:Int):(Uac 0 (kSeq (veC PZ (mkΓ []) N (cAt (codeOf Tryz.f49) [1,1,1]) (pAt (Uaa (codeOf Tryz.f49) [([3,4],[])]).1 [1,1,1]) (SV×Eff×Bool)) (finK PZ [] [.cell 2 107]))) (.exit 0) (left (writes (cAt (codeOf Tryz.f49) [1,1,0,0,0])) [3,4] [] (Za4 a0) ([.a (.i .i64 (z0_3)),.a (.i .i64 (z0_4))],[]))=Zbe PZ N a0 z0_3 z0_4:=by
 refine Eq.trans (b:=(bif (z0_3 != 0) then (bif (z0_3 != 0) then (some (.a (.g #[.int .i64 (i64.wrap (((num a0 0)).tdiv z0_3)),.int .i64 (i64.wrap (((num a0 1)).tdiv z0_3))] 107),.none,true))
   else (none))
  else (none))) (by kernel_rfl) ?_
 rfl
theorem Zkr (N:Nat) (a0:Array Value):Uaj (Uab (Uah PZ (mkΓ []) N (cAt (codeOf Tryz.f49) [1,1,0,0,0]) (pAt (Uaa (codeOf Tryz.f49) [([3,4],[])]).1 [1,1,0,0]) [3,4] [] (Za4 a0)) N ([.a (.i .i64 (num a0 1)),.a (.i .i64 (num a0 0))],[])) (fun e s=>(Uac 0 (kSeq (veC PZ (mkΓ []) N (cAt (codeOf Tryz.f49) [1,1,1]) (pAt (Uaa (codeOf Tryz.f49) [([3,4],[])]).1 [1,1,1]) (SV×Eff×Bool)) (finK PZ [] [.cell 2 107]))) e (left (writes (cAt (codeOf Tryz.f49) [1,1,0,0,0])) [3,4] [] (Za4 a0) s))=Uak (Uab (Zaw PZ a0) N ((num a0 1),(num a0 0))) (fun x=>Zbe PZ N a0 x.1 x.2):=by
 refine Zbk Zbl Zd0 _ _ (Zkp N a0) N ((num a0 1),(num a0 0)) _ _ ?_
 intro x;exact Zim N a0 x.1 x.2
theorem Zjz (N:Nat) (a0:Array Value):ansV PZ (mkΓ []) N Tryz.f49 [([3,4],[])] [.g a0 107] []=(Uak (Uab (Zaw PZ a0) N ((num a0 1),(num a0 0))) (fun x=>Zbe PZ N a0 x.1 x.2)):=by
 refine Eq.trans (b:=(Uaj (Uab (Uah PZ (mkΓ []) N (cAt (codeOf Tryz.f49) [1,1,0,0,0]) (pAt (Uaa (codeOf Tryz.f49) [([3,4],[])]).1 [1,1,0,0]) [3,4] [] (Za4 a0)) N ([.a (.i .i64 (num a0 1)),.a (.i .i64 (num a0 0))],[])) (fun e s=>(Uac 0 (kSeq (veC PZ (mkΓ []) N (cAt (codeOf Tryz.f49) [1,1,1]) (pAt (Uaa (codeOf Tryz.f49) [([3,4],[])]).1 [1,1,1]) (SV×Eff×Bool)) (finK PZ [] [.cell 2 107]))) e (left (writes (cAt (codeOf Tryz.f49) [1,1,0,0,0])) [3,4] [] (Za4 a0) s)))) (by kernel_rfl) ?_
 simp only [Zkr N a0]
theorem Yi5 (a0:Array Value):∀ (n:Nat) (x y:Int),0≤x→0≤y→y.toNat<n→Uab (Zaw PZ a0) n (x,y)=some (gcdW x y,0)
 | 0,x,y,_,_,h=>by omega
 | n+1,x,y,hx,hy,h=>by
  by_cases e:y=0
  ·subst e
   rw [Ygv hx]
   exact Yg9 (by simp only [Zaw];rfl) n
  ·have hp:0<y:=by omega
   have ht:=Int.tmod_lt_of_pos x hp
   have h0:0≤x.tmod y:=Int.tmod_nonneg _ hx
   rw [Yf8 (t':=(y,x.tmod y)) (by simp only [Zaw];rw [show (y != (0:Int))=true from bne_iff_ne.2 e];rfl) n,Yi5 a0 n y (x.tmod y) hy h0 (by omega),Yhb hx hp]
theorem Zjg (a0:Array Value) (h_a0:WT PZ 107 a0) (hg:((decide (0≤num a0 0)&&(decide (0≤num a0 1)&&(gcdW (num a0 1) (num a0 0) != 0))))=true):ansV PZ (mkΓ []) 18446744073709551616 Tryz.f49 [([3,4],[])] [.g a0 107] []=some (.a (.g #[.int .i64 (i64.wrap ((num a0 0).tdiv (gcdW (num a0 1) (num a0 0)))),.int .i64 (i64.wrap ((num a0 1).tdiv (gcdW (num a0 1) (num a0 0))))] 107),.none,true):=by
 simp only [Bool.and_eq_true,decide_eq_true_eq] at hg
 obtain ⟨g0,g1,g2⟩:=hg
 have hr:=(h_a0.int (k:=.i64) (o:=0) (by kernel_rfl)).2
 have hm:num a0 0≤9223372036854775807:=hr.2
 refine (Zjz 18446744073709551616 a0).trans ?_
 rw [Yi5 a0 18446744073709551616 (num a0 1) (num a0 0) g1 g0 (by omega)]
 generalize gcdW (num a0 1) (num a0 0)=q at g2
 show Zbe PZ 18446744073709551616 a0 q 0=_
 unfold Zbe
 rw [g2]
 rfl
def Zds:Con:=fun args h=>match args,h with
 | [.g a0 107],[]=>some (.a (.g #[.int .i64 (i64.wrap ((num a0 0).tdiv (gcdW (num a0 1) (num a0 0)))),.int .i64 (i64.wrap ((num a0 1).tdiv (gcdW (num a0 1) (num a0 0))))] 107),.none,(decide (0≤num a0 0)&&(decide (0≤num a0 1)&&(gcdW (num a0 1) (num a0 0) != 0))))
 | _,_=>none
theorem Zjf:EntX PZ 49:=Zaf (fn:=Tryz.f49) (by kernel_rfl) (by kernel_rfl) (by kernel_rfl)
theorem Zkq:Uad (md F) PZ 49 Zds:=(Zah (N:=18446744073709551616) (by kernel_rfl) mkΓ_nilX (fn:=Tryz.f49) (by kernel_rfl) (by kernel_rfl) [([3,4],[])]).of (by
 intro ρ h w args vals r e hA hH hr
 unfold Zds at hr
 split at hr
 ·rename_i a0
  obtain ⟨rfl,hg⟩:=Prod.mk.inj (Option.some.inj hr)
  obtain ⟨rfl,hg2⟩:=Prod.mk.inj hg
  exact Zjg a0 (hA.wt 0 rfl) hg2
 ·cases hr)
theorem Zwy (N:Nat) (a0 a1:Int):ansV PZ (mkΓ [(43,con Zi2)]) N Tryz.f20 [] [.i .i64 (a0),.i .i64 (a1)] []=(bif (decide (0≤a0)&&decide (0≤a1)) then (bif ((gcdW a0 a1) != 0) then (bif ((gcdW a0 a1) != 0) then (some (.a (.g #[.int .i64 (i64.wrap ((a0).tdiv (gcdW a0 a1))),.int .i64 (i64.wrap ((a1).tdiv (gcdW a0 a1)))] 34),.none,true))
    else (none))
   else (none))
  else (none)):=by kernel_rfl
def Zdy (a0 a1:Int):Bool:=(bif (decide (0≤a0)&&decide (0≤a1)) then (bif ((gcdW a0 a1) != 0) then ((gcdW a0 a1) != 0) else false) else false)
theorem Ztz (a0 a1:Int) (h_a0:i64.min≤a0∧a0≤i64.max) (h_a1:i64.min≤a1∧a1≤i64.max) (hg:((Zdy a0 a1))=true):ansV PZ (mkΓ [(43,con Zi2)]) 1000 Tryz.f20 [] [.i .i64 (a0),.i .i64 (a1)] []=some (.a (.g #[.int .i64 (i64.wrap ((a0).tdiv (gcdW a0 a1))),.int .i64 (i64.wrap ((a1).tdiv (gcdW a0 a1)))] 34),.none,true):=by
 refine (Zwy 1000 a0 a1).trans ?_
 unfold Zdy at hg
 revert hg
 generalize (decide (0≤a0))=b2
 intro hg
 cases b2
 ·skip
  first | exact (nomatch (hg:false=true)) | (simp only [cond_true,cond_false,Bool.and_true,Bool.true_and,Bool.and_false,Bool.false_and];done) | rfl
 ·skip
  revert hg
  generalize (decide (0≤a1))=b4
  intro hg
  cases b4
  ·skip
   first | exact (nomatch (hg:false=true)) | (simp only [cond_true,cond_false,Bool.and_true,Bool.true_and,Bool.and_false,Bool.false_and];done) | rfl
  ·skip
   revert hg
   generalize (((gcdW a0 a1) != 0))=b6
   intro hg
   cases b6
   ·skip
    first | exact (nomatch (hg:false=true)) | (simp only [cond_true,cond_false,Bool.and_true,Bool.true_and,Bool.and_false,Bool.false_and];done) | rfl
   ·skip
    first | (simp only [cond_true,cond_false,Bool.and_true,Bool.true_and,Bool.and_false,Bool.false_and];done) | rfl | exact (nomatch (hg:false=true))
def Zjm:Con:=fun args h=>match args,h with
 | [.i .i64 a0,.i .i64 a1],[]=>some (.a (.g #[.int .i64 (i64.wrap ((a0).tdiv (gcdW a0 a1))),.int .i64 (i64.wrap ((a1).tdiv (gcdW a0 a1)))] 34),.none,(Zdy a0 a1))
 | _,_=>none
theorem Zsy:EntX PZ 20:=Zaf (fn:=Tryz.f20) (by kernel_rfl) (by kernel_rfl) (by kernel_rfl)
theorem Zyj:Uad (md F) PZ 20 Zjm:=(Zah (N:=1000) (by kernel_rfl) (mkΓ_consX (Zad Yct) Zm3 mkΓ_nilX) (fn:=Tryz.f20) (by kernel_rfl) (by kernel_rfl) []).of (by
 intro ρ h w args vals r e hA hH hr
 unfold Zjm at hr
 split at hr
 ·rename_i a0 a1
  obtain ⟨rfl,hg⟩:=Prod.mk.inj (Option.some.inj hr)
  obtain ⟨rfl,hg2⟩:=Prod.mk.inj hg
  exact Ztz a0 a1 (hA.rng 0 rfl) (hA.rng 1 rfl) hg2
 ·cases hr)
def Zsk:Cons:=(mkΓ [(49,con Zds)])
theorem Zyu (N:Nat) (a0 a1:Int):ansV PZ Zsk N Tryz.f27 [] [.i .i64 (a0),.i .i64 (a1)] []=(bif (decide (0≤num (#[.int .i64 (a0),.int .i64 (a1)]:Array Value) 0)&&(decide (0≤num (#[.int .i64 (a0),.int .i64 (a1)]:Array Value) 1)&&(gcdW (num (#[.int .i64 (a0),.int .i64 (a1)]:Array Value) 1) (num (#[.int .i64 (a0),.int .i64 (a1)]:Array Value) 0) != 0))) then (some (.a (.g #[.int .i64 (i64.wrap ((num (#[.int .i64 (a0),.int .i64 (a1)]:Array Value) 0).tdiv (gcdW (num (#[.int .i64 (a0),.int .i64 (a1)]:Array Value) 1) (num (#[.int .i64 (a0),.int .i64 (a1)]:Array Value) 0)))),.int .i64 (i64.wrap ((num (#[.int .i64 (a0),.int .i64 (a1)]:Array Value) 1).tdiv (gcdW (num (#[.int .i64 (a0),.int .i64 (a1)]:Array Value) 1) (num (#[.int .i64 (a0),.int .i64 (a1)]:Array Value) 0))))] 34),.none,true))
  else (none)):=by kernel_rfl
def Zek (a0 a1:Int):Array Value:=#[.int .i64 (i64.wrap ((num (#[.int .i64 (a0),.int .i64 (a1)]:Array Value) 0).tdiv (gcdW (num (#[.int .i64 (a0),.int .i64 (a1)]:Array Value) 1) (num (#[.int .i64 (a0),.int .i64 (a1)]:Array Value) 0)))),.int .i64 (i64.wrap ((num (#[.int .i64 (a0),.int .i64 (a1)]:Array Value) 1).tdiv (gcdW (num (#[.int .i64 (a0),.int .i64 (a1)]:Array Value) 1) (num (#[.int .i64 (a0),.int .i64 (a1)]:Array Value) 0))))]
def Zeq (a0 a1:Int):Bool:=(decide (0≤num (#[.int .i64 (a0),.int .i64 (a1)]:Array Value) 0)&&(decide (0≤num (#[.int .i64 (a0),.int .i64 (a1)]:Array Value) 1)&&(gcdW (num (#[.int .i64 (a0),.int .i64 (a1)]:Array Value) 1) (num (#[.int .i64 (a0),.int .i64 (a1)]:Array Value) 0) != 0)))
theorem Zwp (a0 a1:Int) (h_a0:i64.min≤a0∧a0≤i64.max) (h_a1:i64.min≤a1∧a1≤i64.max) (hg:((Zeq a0 a1))=true):ansV PZ Zsk 1000 Tryz.f27 [] [.i .i64 (a0),.i .i64 (a1)] []=some (.a (.g (Zek a0 a1) 34),.none,true):=by
 refine (Zyu 1000 a0 a1).trans ?_
 unfold Zeq at hg
 unfold Zek
 revert hg
 generalize ((decide (0≤num (#[.int .i64 (a0),.int .i64 (a1)]:Array Value) 0)&&(decide (0≤num (#[.int .i64 (a0),.int .i64 (a1)]:Array Value) 1)&&(gcdW (num (#[.int .i64 (a0),.int .i64 (a1)]:Array Value) 1) (num (#[.int .i64 (a0),.int .i64 (a1)]:Array Value) 0) != 0))))=b2
 intro hg
 cases b2
 ·skip
  first | exact (nomatch (hg:false=true)) | (simp only [cond_true,cond_false,Bool.and_true,Bool.true_and,Bool.and_false,Bool.false_and];done) | rfl
 ·skip
  first | (simp only [cond_true,cond_false,Bool.and_true,Bool.true_and,Bool.and_false,Bool.false_and];done) | rfl | exact (nomatch (hg:false=true))
def Zj8:Con:=fun args h=>match args,h with
 | [.i .i64 a0,.i .i64 a1],[]=>some (.a (.g (Zek a0 a1) 34),.none,(Zeq a0 a1))
 | _,_=>none
theorem Zt8:EntX PZ 27:=Zaf (fn:=Tryz.f27) (by kernel_rfl) (by kernel_rfl) (by kernel_rfl)
theorem Ya9:Uad (md F) PZ 27 Zj8:=(Zah (N:=1000) (by kernel_rfl) (mkΓ_consX (Zad Zkq) Zjf mkΓ_nilX) (fn:=Tryz.f27) (by kernel_rfl) (by kernel_rfl) []).of (by
 intro ρ h w args vals r e hA hH hr
 unfold Zj8 at hr
 split at hr
 ·rename_i a0 a1
  obtain ⟨rfl,hg⟩:=Prod.mk.inj (Option.some.inj hr)
  obtain ⟨rfl,hg2⟩:=Prod.mk.inj hg
  exact Zwp a0 a1 (hA.rng 0 rfl) (hA.rng 1 rfl) hg2
 ·cases hr)
theorem Zyp (N:Nat) (a0 a1:Array Value):ansV PZ (mkΓ []) N Tryz.f11 [] [.g a0 34,.g a1 34] []=(bif ((num a0 0) != (num a1 0)) then (some (.a (.b (false)),.none,true))
  else (bif ((num a0 1) != (num a1 1)) then (some (.a (.b (false)),.none,true))
   else (some (.a (.b (true)),.none,true)))):=by kernel_rfl
def Zdp (a0 a1:Array Value):Bool:=(bif ((num a0 0) != (num a1 0)) then false else (bif ((num a0 1) != (num a1 1)) then false else true))
theorem Zxm (a0 a1:Array Value) (h_a0:WT PZ 34 a0) (h_a1:WT PZ 34 a1) (hg:(true)=true):ansV PZ (mkΓ []) 1000 Tryz.f11 [] [.g a0 34,.g a1 34] []=some (.a (.b ((Zdp a0 a1))),.none,true):=by
 refine (Zyp 1000 a0 a1).trans ?_
 unfold Zdp
 revert hg
 generalize (((num a0 0) != (num a1 0)))=b2
 intro hg
 cases b2
 ·skip
  revert hg
  generalize (((num a0 1) != (num a1 1)))=b4
  intro hg
  cases b4
  ·skip
   first | (simp only [cond_true,cond_false,Bool.and_true,Bool.true_and,Bool.and_false,Bool.false_and];done) | rfl | exact (nomatch (hg:false=true))
  ·skip
   first | (simp only [cond_true,cond_false,Bool.and_true,Bool.true_and,Bool.and_false,Bool.false_and];done) | rfl | exact (nomatch (hg:false=true))
 ·skip
  first | (simp only [cond_true,cond_false,Bool.and_true,Bool.true_and,Bool.and_false,Bool.false_and];done) | rfl | exact (nomatch (hg:false=true))
def Zkb:Con:=fun args h=>match args,h with
 | [.g a0 34,.g a1 34],[]=>some (.a (.b ((Zdp a0 a1))),.none,true)
 | _,_=>none
theorem Zt1:EntX PZ 11:=Zaf (fn:=Tryz.f11) (by kernel_rfl) (by kernel_rfl) (by kernel_rfl)
theorem Zz2:Uad (md F) PZ 11 Zkb:=(Zah (N:=1000) (by kernel_rfl) mkΓ_nilX (fn:=Tryz.f11) (by kernel_rfl) (by kernel_rfl) []).of (by
 intro ρ h w args vals r e hA hH hr
 unfold Zkb at hr
 split at hr
 ·rename_i a0 a1
  obtain ⟨rfl,hg⟩:=Prod.mk.inj (Option.some.inj hr)
  obtain ⟨rfl,hg2⟩:=Prod.mk.inj hg
  exact Zxm a0 a1 (hA.wt 0 rfl) (hA.wt 1 rfl) hg2
 ·cases hr)
theorem Yj4 {p w:Int} (hp:0≤p) (hw:0<w):Zek p w=#[.int .i64 (i64.wrap (p.tdiv (gcdW p w))),.int .i64 (i64.wrap (w.tdiv (gcdW p w)))]∧Zeq p w=true∧Zdy p w=true:=by
 have hn:=gcdW_ne (a:=p) hw
 refine ⟨?_, ?_, ?_⟩
 ·unfold Zek
  show #[_,_]=_
  rw [Yhj p w];rfl
 ·unfold Zeq
  show (decide (0≤p)&&(decide (0≤w)&&(gcdW w p != 0)))=true
  rw [Yhj w p,hn,decide_eq_true hp,decide_eq_true (Int.le_of_lt hw)];rfl
 ·unfold Zdy
  rw [hn,decide_eq_true hp,decide_eq_true (Int.le_of_lt hw)];rfl
def shareW (p w:Int):Array Value:=#[.int .i64 (i64.wrap (p.tdiv (gcdW p w))),.int .i64 (i64.wrap (w.tdiv (gcdW p w)))]
def allV (X:Array Value):Int:=Zcs X
theorem Yg7 {S p:Array Value} (hS:WT PZ 41 S) (b0:IntKind.i8.min≤num p 0∧num p 0≤IntKind.i8.max) (b1:IntKind.i8.min≤num p 1∧num p 1≤IntKind.i8.max) {n:Nat} {A:Array Value} (hA:∀ k,k<n→WT PZ 95 (A.extract (k*3) (k*3+3))) (hp:(okS S&&Uar S p n A)=true) (hn:0<n) :
  (∃ T,Mass (endV PZ S p n A) T∧0≤T∧T≤9000000000000000)∧0<allV (endV PZ S p n A)∧Zfs (endV PZ S p n A)=true∧Ze9 (endV PZ S p n A)=true∧Zbp (endV PZ S p n A)=allV (endV PZ S p n A):=by
 have m8:IntKind.i8.min = -128∧IntKind.i8.max=127:=⟨rfl,rfl⟩
 rw [Bool.and_eq_true] at hp
 obtain ⟨hok,hp⟩:=hp
 unfold Uar at hp
 rw [IntWalk.i64_in (num p 0) (by omega),IntWalk.i64_in (num p 1) (by omega)] at hp
 simp only [Bool.and_eq_true] at hp
 obtain ⟨g0,g1,gn,g2,-⟩:=hp
 have r0:=Zl9 g0
 have r1:=Zl9 g1
 have hn12:n≤12:=by
  by_cases c:(n:Int) > 12
  ·rw [decide_eq_true c] at gn;exact nomatch gn
  ·omega
 have hr:=Ym6 (by omega) hS hA g2
 obtain ⟨j,hj⟩:=Int.eq_ofNat_of_zero_le (show 0≤num p 1 by omega)
 obtain ⟨M,e2,t0,t1⟩:=Ybd hS hok r0 hr (by omega) hn12 j (by omega)
 have hG:=Zk9 (A:=A) (n:=n) hS hok r0 (fun k hk=>(hr k hk).1) j (by omega)
 have hpos:=Ymo hr hn j (by have:=(hr 0 hn).2.1;omega)
 have eX:endV PZ S p n A=Uae PZ S (num p 0) n A j:=by unfold endV;rw [hj,Int.toNat_natCast]
 have hp12:=Zqn j
 have hp8:=Yey (show j≤8 by omega)
 rw [Yh4] at hp8
 have q0:(0:Int)≤12^j*relT A n j:=Int.mul_nonneg (Int.le_of_lt hp12) t0
 have q1:(12:Int)^j*relT A n j≤429981696*19200:=Int.mul_le_mul hp8 (by omega) t0 (by omega)
 rw [eX]
 have n1:=hG.2.2.1
 generalize Uae PZ S (num p 0) n A j=X at M e2 n1⊢
 have ew:i64.wrap (num X 1)=(j:Int):=by rw [n1];exact w64 (by omega)
 have ea:allV X=relT A n j*12^j:=by
  unfold allV Zcs
  rw [ew,e2,Int.toNat_natCast,Int.mul_comm]
  exact IntWalk.i64_in _ (by omega)
 have gj:(decide (0≤(j:Int))&&decide ((j:Int)≤14))=true:=by rw [decide_eq_true (show 0≤(j:Int) by omega),decide_eq_true (show (j:Int)≤14 by omega)];rfl
 refine ⟨⟨_,M,q0,by omega⟩, ?_, ?_, ?_, ?_⟩
 ·rw [ea]
  exact Int.mul_pos (by omega) hp12
 ·unfold Zfs;rw [ew];exact gj
 ·unfold Ze9;rw [ew];exact gj
 ·unfold allV Zbp Zcs;rfl
end
end Go.Proofs.YtflnjkpejbohjaaGreatDoor
