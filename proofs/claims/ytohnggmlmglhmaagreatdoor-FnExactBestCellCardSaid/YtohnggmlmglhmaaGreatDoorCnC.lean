/- Shares that are compared, and the best one of some releases. -/
import Derived.Test.YtohnggmlmglhmaaGreatDoorProg
import Derived.Test.YtohnggmlmglhmaaGreatDoorCnB
namespace Go.Proofs.YtohnggmlmglhmaaGreatDoor
open Go.ChangeShapes Go.WideShapes Go.ChangeAt Go.RowKit Ve Vc
open Tryz renaming prog → PZ
open IntKind (i64)
set_option linter.unusedVariables false
set_option linter.unusedSimpArgs false
set_option maxRecDepth 100000
noncomputable section
variable {mn:Md}
def gcdW (a b:Int):Int:=(Int.gcd a b:Int)
theorem Yjk {a b:Int} (ha:0≤a) (hb:0<b):gcdW b (a.tmod b)=gcdW a b:=by
 unfold gcdW
 obtain ⟨m,rfl⟩:=Int.eq_ofNat_of_zero_le ha
 obtain ⟨n,rfl⟩:=Int.eq_ofNat_of_zero_le (Int.le_of_lt hb)
 rw [Int.tmod_eq_emod_of_nonneg ha,← Int.natCast_emod,Int.gcd_natCast_natCast,Int.gcd_natCast_natCast,Nat.gcd_comm m n,Nat.gcd_rec n m,Nat.gcd_comm]
theorem Yi0 (a b:Int):gcdW a b=gcdW b a:=by unfold gcdW;rw [Int.gcd_comm]
theorem Yn6 {a b:Int} (hb:0<b):(gcdW a b != 0)=true:=by
 unfold gcdW
 rw [bne_iff_ne]
 intro h
 have h':Int.gcd a b=0:=by omega
 have:=Int.gcd_eq_zero_iff.1 h'
 omega
theorem Yi8 {a:Int} (ha:0≤a):gcdW a 0=a:=by
 unfold gcdW;rw [Int.gcd_zero_right];omega
def Zin (m:Nat):Con:=fun args h=>match args,h with
 | [.i .i64 a0,.i .i64 a1],[]=>some (.a (.i .i64 (gcdW a0 a1)),.none,(decide (0≤a0)&&(decide (0≤a1)&&decide (a1<m))))
 | _,_=>none
theorem Zoh:EntX PZ 56:=Zag (fn:=Tryz.f56) (by kernel_rfl) (by kernel_rfl) (by kernel_rfl)
theorem Yd6 (m:Nat) (N:Nat) (a0 a1:Int):ansV PZ (mkΓ [(56,con (Zin m))]) N Tryz.f56 [] [.i .i64 (a0),.i .i64 (a1)] []=(bif (a1==(0:Int)) then (some (.a (.i .i64 (a0)),.none,true))
  else (bif (a1 != 0) then (bif (decide (0≤a1)&&(decide (0≤((a0).tmod a1))&&decide (((a0).tmod a1)<m))) then (some (.a (.i .i64 (gcdW a1 ((a0).tmod a1))),.none,true))
    else (none))
   else (none))):=by kernel_rfl
theorem Ya8 (m:Nat) (a0 a1:Int) (hg:(decide (0≤a0)&&(decide (0≤a1)&&decide (a1<((m+1:Nat):Int))))=true):ansV PZ (mkΓ [(56,con (Zin m))]) 1000 Tryz.f56 [] [.i .i64 (a0),.i .i64 (a1)] []=some (.a (.i .i64 (gcdW a0 a1)),.none,true):=by
 simp only [Q7,decide_eq_true_eq] at hg
 obtain ⟨g0,g1,g2⟩:=hg
 refine (Yd6 m 1000 a0 a1).trans ?_
 by_cases h:a1=0
 ·subst h;rw [Yi8 g0];rfl
 ·have hp:0<a1:=by omega
  have ht:=Int.tmod_lt_of_pos a0 hp
  have h0:0≤a0.tmod a1:=Int.tmod_nonneg _ g0
  rw [show (a1==(0:Int))=false from beq_eq_false_iff_ne.2 h,show (a1 != 0)=true from bne_iff_ne.2 h,Q3 g1,Q3 h0,Q3 (show a0.tmod a1<(m:Int) by omega),Yjk g0 hp]
  rfl
theorem Zrp:∀ m,Uad mn PZ 56 (Zin m)
 | 0=>by
  intro ρ h w args vals r e hn hr hA hH
  unfold Zin at hr
  split at hr
  ·obtain ⟨_,hg⟩:=Q6 (Q5 hr)
   obtain ⟨_,hg⟩:=Q6 hg
   simp only [Q7,decide_eq_true_eq] at hg
   omega
  ·cases hr
 | m+1=>(Zai (N:=1000) (by kernel_rfl) (mkΓ_consX (Zad (Zrp m)) Zoh mkΓ_nilX) (fn:=Tryz.f56) (by kernel_rfl) (by kernel_rfl) []).of (by
  intro ρ h w args vals r e hA hH hr
  unfold Zin at hr
  split at hr
  ·rename_i a0 a1
   obtain ⟨rfl,rfl,hg2⟩:=BQi hr
   exact Ya8 m a0 a1 hg2
  ·cases hr)
def Zjq:Con:=fun args h=>match args,h with
 | [.i .i64 a0,.i .i64 a1],[]=>some (.a (.i .i64 (gcdW a0 a1)),.none,(decide (0≤a0)&&decide (0≤a1)))
 | _,_=>none
theorem Yev:Uad mn PZ 56 Zjq:=by
 intro ρ h w args vals r e hn hr hA hH
 unfold Zjq at hr
 split at hr
 ·rename_i a0 a1
  obtain ⟨rfl,rfl,hg2⟩:=BQi hr
  refine Zrp (a1.toNat+1) ρ _ w _ vals _ _ hn ?_ hA hH
  show (some (SV.a (SA.i .i64 (gcdW a0 a1)),Eff.none,(decide (0≤a0)&&(decide (0≤a1)&&decide (a1<((a1.toNat+1:Nat):Int))))):Option (SV×Eff×Bool))=_
  simp only [Q7,decide_eq_true_eq] at hg2
  rw [Q3 hg2.1,Q3 hg2.2,Q3 (show a1<((a1.toNat+1:Nat):Int) by omega)]
  rfl
 ·cases hr
def Zbc (a0:Array Value):St:=(⟨.a (.g a0 197) :: .a (.w 0) :: .a (.w 1) :: .a (.i .i64 (num a0 1)) :: .a (.i .i64 (num a0 0)) :: .a (.p 0 (1) 2) :: .a (.i .i64 (num a0 1)) :: .a (.p 0 (0) 2) :: .a (.i .i64 (num a0 0))::us 15 ([]),[.row a0 197,.row #[.int .i64 (0:Int),.int .i64 (0:Int)] 197,.no,.no,.no,.no,.no,.no],[]⟩:St)
def Zbu:Int×Int→LS
 | (y0_3,y0_4)=>([.a (.i .i64 (y0_3)),.a (.i .i64 (y0_4))],[])
def Zej:Int×Int→Exit×LS
 | t=>((.exit 0),Zbu t)
def Za6 (P:Program) (a0:Array Value):Int×Int→Option (Stp (Int×Int) (Int×Int))
 | (y0_3,y0_4)=>bif (y0_4 != (0:Int)) then (bif (y0_4 != 0) then (some (.more (y0_4,((y0_3).tmod y0_4))))
   else (none))
  else (some (.done (y0_3,y0_4)))
theorem Zld (N:Nat) (a0:Array Value):∀ t:Int×Int,Uai PZ (mkΓ []) N (cAt (codeOf Tryz.f113) [1,1,0,0,0]) (pAt (Uaa (codeOf Tryz.f113) [([3,4],[])]).1 [1,1,0,0]) [3,4] [] (Zbc a0) (Zbu t)=mapS Zbu Zej (Za6 PZ a0 t):=by
 rintro ⟨y0_3,y0_4⟩
 refine Eq.trans (b:=(bif (y0_4 != (0:Int)) then (bif (y0_4 != 0) then (some (.more ([.a (.i .i64 (y0_4)),.a (.i .i64 ((y0_3).tmod y0_4))],[])))
   else (none))
  else (some (.done ((.exit 0),([.a (.i .i64 (y0_3)),.a (.i .i64 (y0_4))],[])))))) (by kernel_rfl) ?_
 simp only [Za6,Za3,Za4,Za5,Za2,Zbu,Zej]
def Zbk (P:Program) (N:Nat) (a0:Array Value) (z0_3:Int) (z0_4:Int):Option (SV×Eff×Bool):=bif (z0_3 != 0) then (bif (z0_3 != 0) then (some (.a (.g #[.int .i64 (i64.wrap (((num a0 0)).tdiv z0_3)),.int .i64 (i64.wrap (((num a0 1)).tdiv z0_3))] 197),.none,true))
   else (none))
  else (none)
theorem Zji (N:Nat) (a0:Array Value) (z0_3:Int) (z0_4:Int):(Uab 0 (kSeq (veC PZ (mkΓ []) N (cAt (codeOf Tryz.f113) [1,1,1]) (pAt (Uaa (codeOf Tryz.f113) [([3,4],[])]).1 [1,1,1]) (SV×Eff×Bool)) (finK PZ [] [.cell 2 197]))) (.exit 0) (left (writes (cAt (codeOf Tryz.f113) [1,1,0,0,0])) [3,4] [] (Zbc a0) ([.a (.i .i64 (z0_3)),.a (.i .i64 (z0_4))],[]))=Zbk PZ N a0 z0_3 z0_4:=by
 refine Eq.trans (b:=(bif (z0_3 != 0) then (bif (z0_3 != 0) then (some (.a (.g #[.int .i64 (i64.wrap (((num a0 0)).tdiv z0_3)),.int .i64 (i64.wrap (((num a0 1)).tdiv z0_3))] 197),.none,true))
   else (none))
  else (none))) (by kernel_rfl) ?_
 rfl
theorem Zls (N:Nat) (a0:Array Value):Uag (Uac (Uai PZ (mkΓ []) N (cAt (codeOf Tryz.f113) [1,1,0,0,0]) (pAt (Uaa (codeOf Tryz.f113) [([3,4],[])]).1 [1,1,0,0]) [3,4] [] (Zbc a0)) N ([.a (.i .i64 (num a0 1)),.a (.i .i64 (num a0 0))],[])) (fun e s=>(Uab 0 (kSeq (veC PZ (mkΓ []) N (cAt (codeOf Tryz.f113) [1,1,1]) (pAt (Uaa (codeOf Tryz.f113) [([3,4],[])]).1 [1,1,1]) (SV×Eff×Bool)) (finK PZ [] [.cell 2 197]))) e (left (writes (cAt (codeOf Tryz.f113) [1,1,0,0,0])) [3,4] [] (Zbc a0) s))=Ual (Uac (Za6 PZ a0) N ((num a0 1),(num a0 0))) (fun x=>Zbk PZ N a0 x.1 x.2):=by
 refine Zbg Zbu Zej _ _ (Zld N a0) N ((num a0 1),(num a0 0)) _ _ ?_
 intro x;exact Zji N a0 x.1 x.2
theorem Zk6 (N:Nat) (a0:Array Value):ansV PZ (mkΓ []) N Tryz.f113 [([3,4],[])] [.g a0 197] []=(Ual (Uac (Za6 PZ a0) N ((num a0 1),(num a0 0))) (fun x=>Zbk PZ N a0 x.1 x.2)):=by
 refine Eq.trans (b:=(Uag (Uac (Uai PZ (mkΓ []) N (cAt (codeOf Tryz.f113) [1,1,0,0,0]) (pAt (Uaa (codeOf Tryz.f113) [([3,4],[])]).1 [1,1,0,0]) [3,4] [] (Zbc a0)) N ([.a (.i .i64 (num a0 1)),.a (.i .i64 (num a0 0))],[])) (fun e s=>(Uab 0 (kSeq (veC PZ (mkΓ []) N (cAt (codeOf Tryz.f113) [1,1,1]) (pAt (Uaa (codeOf Tryz.f113) [([3,4],[])]).1 [1,1,1]) (SV×Eff×Bool)) (finK PZ [] [.cell 2 197]))) e (left (writes (cAt (codeOf Tryz.f113) [1,1,0,0,0])) [3,4] [] (Zbc a0) s)))) (by kernel_rfl) ?_
 simp only [Zls N a0]
theorem Ylz (a0:Array Value):∀ (n:Nat) (x y:Int),0≤x→0≤y→y.toNat<n→Uac (Za6 PZ a0) n (x,y)=some (gcdW x y,0)
 | 0,x,y,_,_,h=>by omega
 | n+1,x,y,hx,hy,h=>by
  by_cases e:y=0
  ·subst e
   rw [Yi8 hx]
   exact Yd7 (by simp only [Za6];rfl) n
  ·have hp:0<y:=by omega
   have ht:=Int.tmod_lt_of_pos x hp
   have h0:0≤x.tmod y:=Int.tmod_nonneg _ hx
   rw [Zmm (t':=(y,x.tmod y)) (by simp only [Za6];rw [show (y != (0:Int))=true from bne_iff_ne.2 e];rfl) n,Ylz a0 n y (x.tmod y) hy h0 (by omega),Yjk hx hp]
theorem Zku (a0:Array Value) (h_a0:WT PZ 197 a0) (hg:((decide (0≤num a0 0)&&(decide (0≤num a0 1)&&(gcdW (num a0 1) (num a0 0) != 0))))=true):ansV PZ (mkΓ []) 18446744073709551616 Tryz.f113 [([3,4],[])] [.g a0 197] []=some (.a (.g #[.int .i64 (i64.wrap ((num a0 0).tdiv (gcdW (num a0 1) (num a0 0)))),.int .i64 (i64.wrap ((num a0 1).tdiv (gcdW (num a0 1) (num a0 0))))] 197),.none,true):=by
 simp only [Q7,decide_eq_true_eq] at hg
 obtain ⟨g0,g1,g2⟩:=hg
 have hr:=(h_a0.int (k:=.i64) (o:=0) (by kernel_rfl)).2
 have hm:num a0 0≤9223372036854775807:=hr.2
 refine (Zk6 18446744073709551616 a0).trans ?_
 rw [Ylz a0 18446744073709551616 (num a0 1) (num a0 0) g1 g0 (by omega)]
 generalize gcdW (num a0 1) (num a0 0)=q at g2
 show Zbk PZ 18446744073709551616 a0 q 0=_
 unfold Zbk
 rw [g2]
 rfl
def Zd9:Con:=fun args h=>match args,h with
 | [.g a0 197],[]=>some (.a (.g #[.int .i64 (i64.wrap ((num a0 0).tdiv (gcdW (num a0 1) (num a0 0)))),.int .i64 (i64.wrap ((num a0 1).tdiv (gcdW (num a0 1) (num a0 0))))] 197),.none,(decide (0≤num a0 0)&&(decide (0≤num a0 1)&&(gcdW (num a0 1) (num a0 0) != 0))))
 | _,_=>none
theorem Zke:EntX PZ 113:=Zag (fn:=Tryz.f113) (by kernel_rfl) (by kernel_rfl) (by kernel_rfl)
theorem Zlb:Uad mn PZ 113 Zd9:=(Zai (N:=18446744073709551616) (by kernel_rfl) mkΓ_nilX (fn:=Tryz.f113) (by kernel_rfl) (by kernel_rfl) [([3,4],[])]).of (by
 intro ρ h w args vals r e hA hH hr
 unfold Zd9 at hr
 split at hr
 ·rename_i a0
  obtain ⟨rfl,rfl,hg2⟩:=BQi hr
  exact Zku a0 (hA.wt 0 rfl) hg2
 ·cases hr)
theorem Zy2 (N:Nat) (a0 a1:Int):ansV PZ (mkΓ [(56,con Zjq)]) N Tryz.f27 [] [.i .i64 (a0),.i .i64 (a1)] []=(bif (decide (0≤a0)&&decide (0≤a1)) then (bif ((gcdW a0 a1) != 0) then (bif ((gcdW a0 a1) != 0) then (some (.a (.g #[.int .i64 (i64.wrap ((a0).tdiv (gcdW a0 a1))),.int .i64 (i64.wrap ((a1).tdiv (gcdW a0 a1)))] 34),.none,true))
    else (none))
   else (none))
  else (none)):=by kernel_rfl
def Zem (a0 a1:Int):Bool:=(bif (decide (0≤a0)&&decide (0≤a1)) then (bif ((gcdW a0 a1) != 0) then ((gcdW a0 a1) != 0) else false) else false)
theorem Zw0 (a0 a1:Int) (h_a0:i64.min≤a0∧a0≤i64.max) (h_a1:i64.min≤a1∧a1≤i64.max) (hg:((Zem a0 a1))=true):ansV PZ (mkΓ [(56,con Zjq)]) 1000 Tryz.f27 [] [.i .i64 (a0),.i .i64 (a1)] []=some (.a (.g #[.int .i64 (i64.wrap ((a0).tdiv (gcdW a0 a1))),.int .i64 (i64.wrap ((a1).tdiv (gcdW a0 a1)))] 34),.none,true):=by
 refine (Zy2 1000 a0 a1).trans ?_
 unfold Zem at hg
 revert hg
 generalize (decide (0≤a0))=b2
 intro hg
 cases b2
 ·skip
  first | exact (nomatch (hg:false=true)) | (simp only [Q1,Q2,BQ6];done) | rfl
 ·skip
  revert hg
  generalize (decide (0≤a1))=b4
  intro hg
  cases b4
  ·skip
   first | exact (nomatch (hg:false=true)) | (simp only [Q1,Q2,BQ6];done) | rfl
  ·skip
   revert hg
   generalize (((gcdW a0 a1) != 0))=b6
   intro hg
   cases b6
   ·skip
    first | exact (nomatch (hg:false=true)) | (simp only [Q1,Q2,BQ6];done) | rfl
   ·skip
    first | (simp only [Q1,Q2,BQ6];done) | rfl | exact (nomatch (hg:false=true))
def Zkv:Con:=fun args h=>match args,h with
 | [.i .i64 a0,.i .i64 a1],[]=>some (.a (.g #[.int .i64 (i64.wrap ((a0).tdiv (gcdW a0 a1))),.int .i64 (i64.wrap ((a1).tdiv (gcdW a0 a1)))] 34),.none,(Zem a0 a1))
 | _,_=>none
theorem Zui:EntX PZ 27:=Zag (fn:=Tryz.f27) (by kernel_rfl) (by kernel_rfl) (by kernel_rfl)
theorem Yay:Uad mn PZ 27 Zkv:=(Zai (N:=1000) (by kernel_rfl) (mkΓ_consX (Zad Yev) Zoh mkΓ_nilX) (fn:=Tryz.f27) (by kernel_rfl) (by kernel_rfl) []).of (by
 intro ρ h w args vals r e hA hH hr
 unfold Zkv at hr
 split at hr
 ·rename_i a0 a1
  obtain ⟨rfl,rfl,hg2⟩:=BQi hr
  exact Zw0 a0 a1 (hA.rng 0 rfl) (hA.rng 1 rfl) hg2
 ·cases hr)
def Zt4:Cons:=(mkΓ [(113,con Zd9)])
theorem Yax (N:Nat) (a0 a1:Int):ansV PZ Zt4 N Tryz.f92 [] [.i .i64 (a0),.i .i64 (a1)] []=(bif (decide (0≤num (#[.int .i64 (a0),.int .i64 (a1)]:Array Value) 0)&&(decide (0≤num (#[.int .i64 (a0),.int .i64 (a1)]:Array Value) 1)&&(gcdW (num (#[.int .i64 (a0),.int .i64 (a1)]:Array Value) 1) (num (#[.int .i64 (a0),.int .i64 (a1)]:Array Value) 0) != 0))) then (some (.a (.g #[.int .i64 (i64.wrap ((num (#[.int .i64 (a0),.int .i64 (a1)]:Array Value) 0).tdiv (gcdW (num (#[.int .i64 (a0),.int .i64 (a1)]:Array Value) 1) (num (#[.int .i64 (a0),.int .i64 (a1)]:Array Value) 0)))),.int .i64 (i64.wrap ((num (#[.int .i64 (a0),.int .i64 (a1)]:Array Value) 1).tdiv (gcdW (num (#[.int .i64 (a0),.int .i64 (a1)]:Array Value) 1) (num (#[.int .i64 (a0),.int .i64 (a1)]:Array Value) 0))))] 34),.none,true))
  else (none)):=by kernel_rfl
def Zbl (a0 a1:Int):Array Value:=#[.int .i64 (i64.wrap ((num (#[.int .i64 (a0),.int .i64 (a1)]:Array Value) 0).tdiv (gcdW (num (#[.int .i64 (a0),.int .i64 (a1)]:Array Value) 1) (num (#[.int .i64 (a0),.int .i64 (a1)]:Array Value) 0)))),.int .i64 (i64.wrap ((num (#[.int .i64 (a0),.int .i64 (a1)]:Array Value) 1).tdiv (gcdW (num (#[.int .i64 (a0),.int .i64 (a1)]:Array Value) 1) (num (#[.int .i64 (a0),.int .i64 (a1)]:Array Value) 0))))]
def Zd6 (a0 a1:Int):Bool:=(decide (0≤num (#[.int .i64 (a0),.int .i64 (a1)]:Array Value) 0)&&(decide (0≤num (#[.int .i64 (a0),.int .i64 (a1)]:Array Value) 1)&&(gcdW (num (#[.int .i64 (a0),.int .i64 (a1)]:Array Value) 1) (num (#[.int .i64 (a0),.int .i64 (a1)]:Array Value) 0) != 0)))
theorem Zzt (a0 a1:Int) (h_a0:i64.min≤a0∧a0≤i64.max) (h_a1:i64.min≤a1∧a1≤i64.max) (hg:((Zd6 a0 a1))=true):ansV PZ Zt4 1000 Tryz.f92 [] [.i .i64 (a0),.i .i64 (a1)] []=some (.a (.g (Zbl a0 a1) 34),.none,true):=by
 refine (Yax 1000 a0 a1).trans ?_
 unfold Zd6 at hg
 unfold Zbl
 revert hg
 generalize ((decide (0≤num (#[.int .i64 (a0),.int .i64 (a1)]:Array Value) 0)&&(decide (0≤num (#[.int .i64 (a0),.int .i64 (a1)]:Array Value) 1)&&(gcdW (num (#[.int .i64 (a0),.int .i64 (a1)]:Array Value) 1) (num (#[.int .i64 (a0),.int .i64 (a1)]:Array Value) 0) != 0))))=b2
 intro hg
 cases b2
 ·skip
  first | exact (nomatch (hg:false=true)) | (simp only [Q1,Q2,BQ6];done) | rfl
 ·skip
  first | (simp only [Q1,Q2,BQ6];done) | rfl | exact (nomatch (hg:false=true))
def Zlt:Con:=fun args h=>match args,h with
 | [.i .i64 a0,.i .i64 a1],[]=>some (.a (.g (Zbl a0 a1) 34),.none,(Zd6 a0 a1))
 | _,_=>none
theorem Zws:EntX PZ 92:=Zag (fn:=Tryz.f92) (by kernel_rfl) (by kernel_rfl) (by kernel_rfl)
theorem Yda:Uad mn PZ 92 Zlt:=(Zai (N:=1000) (by kernel_rfl) (mkΓ_consX (Zad Zlb) Zke mkΓ_nilX) (fn:=Tryz.f92) (by kernel_rfl) (by kernel_rfl) []).of (by
 intro ρ h w args vals r e hA hH hr
 unfold Zlt at hr
 split at hr
 ·rename_i a0 a1
  obtain ⟨rfl,rfl,hg2⟩:=BQi hr
  exact Zzt a0 a1 (hA.rng 0 rfl) (hA.rng 1 rfl) hg2
 ·cases hr)
theorem Ybh (N:Nat) (a0 a1:Array Value):ansV PZ (mkΓ []) N Tryz.f12 [] [.g a0 34,.g a1 34] []=(bif ((num a0 0) != (num a1 0)) then (some (.a (.b (false)),.none,true))
  else (bif ((num a0 1) != (num a1 1)) then (some (.a (.b (false)),.none,true))
   else (some (.a (.b (true)),.none,true)))):=by kernel_rfl
def Zd7 (a0 a1:Array Value):Bool:=(bif ((num a0 0) != (num a1 0)) then false else (bif ((num a0 1) != (num a1 1)) then false else true))
theorem Zy5 (a0 a1:Array Value) (h_a0:WT PZ 34 a0) (h_a1:WT PZ 34 a1) (hg:(true)=true):ansV PZ (mkΓ []) 1000 Tryz.f12 [] [.g a0 34,.g a1 34] []=some (.a (.b ((Zd7 a0 a1))),.none,true):=by
 refine (Ybh 1000 a0 a1).trans ?_
 unfold Zd7
 revert hg
 generalize (((num a0 0) != (num a1 0)))=b2
 intro hg
 cases b2
 ·skip
  revert hg
  generalize (((num a0 1) != (num a1 1)))=b4
  intro hg
  cases b4
  ·skip
   first | (simp only [Q1,Q2,BQ6];done) | rfl | exact (nomatch (hg:false=true))
  ·skip
   first | (simp only [Q1,Q2,BQ6];done) | rfl | exact (nomatch (hg:false=true))
 ·skip
  first | (simp only [Q1,Q2,BQ6];done) | rfl | exact (nomatch (hg:false=true))
def Zlk:Con:=fun args h=>match args,h with
 | [.g a0 34,.g a1 34],[]=>some (.a (.b ((Zd7 a0 a1))),.none,true)
 | _,_=>none
theorem Zxs:EntX PZ 12:=Zag (fn:=Tryz.f12) (by kernel_rfl) (by kernel_rfl) (by kernel_rfl)
theorem Yed:Uad mn PZ 12 Zlk:=(Zai (N:=1000) (by kernel_rfl) mkΓ_nilX (fn:=Tryz.f12) (by kernel_rfl) (by kernel_rfl) []).of (by
 intro ρ h w args vals r e hA hH hr
 unfold Zlk at hr
 split at hr
 ·rename_i a0 a1
  obtain ⟨rfl,rfl,hg2⟩:=BQi hr
  exact Zy5 a0 a1 (hA.wt 0 rfl) (hA.wt 1 rfl) hg2
 ·cases hr)
theorem Zx1 {p w:Int} (hp:0≤p) (hw:0<w):Zbl p w=#[.int .i64 (i64.wrap (p.tdiv (gcdW p w))),.int .i64 (i64.wrap (w.tdiv (gcdW p w)))]∧Zd6 p w=true∧Zem p w=true:=by
 have hn:=Yn6 (a:=p) hw
 refine ⟨?_, ?_, ?_⟩
 ·unfold Zbl
  show #[_,_]=_
  rw [Yi0 p w];rfl
 ·unfold Zd6
  show (decide (0≤p)&&(decide (0≤w)&&(gcdW w p != 0)))=true
  rw [Yi0 w p,hn,Q3 hp,Q3 (Int.le_of_lt hw)];rfl
 ·unfold Zem
  rw [hn,Q3 hp,Q3 (Int.le_of_lt hw)];rfl
theorem Zpd (N:Nat) (a0:Array Value) (a1:Int):ansV PZ (mkΓ []) N Tryz.f91 [] [.g a0 71,.i .i64 (a1)] []=(some (.a (.i .i64 (i64.wrap ((num a0 1) - a1))),.none,true)):=by kernel_rfl
theorem Zow (a0:Array Value) (a1:Int) (h_a0:WT PZ 71 a0) (h_a1:i64.min≤a1∧a1≤i64.max) (hg:(true)=true):ansV PZ (mkΓ []) 1000 Tryz.f91 [] [.g a0 71,.i .i64 (a1)] []=some (.a (.i .i64 (i64.wrap ((num a0 1) - a1))),.none,true):=by
 refine (Zpd 1000 a0 a1).trans ?_
 rfl
def Zgd:Con:=fun args h=>match args,h with
 | [.g a0 71,.i .i64 a1],[]=>some (.a (.i .i64 (i64.wrap ((num a0 1) - a1))),.none,true)
 | _,_=>none
theorem Znz:EntX PZ 91:=Zag (fn:=Tryz.f91) (by kernel_rfl) (by kernel_rfl) (by kernel_rfl)
theorem Zq1:Uad mn PZ 91 Zgd:=(Zai (N:=1000) (by kernel_rfl) mkΓ_nilX (fn:=Tryz.f91) (by kernel_rfl) (by kernel_rfl) []).of (by
 intro ρ h w args vals r e hA hH hr
 unfold Zgd at hr
 split at hr
 ·rename_i a0 a1
  obtain ⟨rfl,rfl,hg2⟩:=BQi hr
  exact Zow a0 a1 (hA.wt 0 rfl) (hA.rng 1 rfl) hg2
 ·cases hr)
def Zkh:Cons:=(mkΓ [(91,con Zgd),(92,con Zlt),(93,con Zi6)])
theorem Zou (N:Nat) (a0 a1:Array Value) (bR:Option (Option Addr)) (nR:Nat) (aR:Array Value):ansV PZ Zkh N Tryz.f65 [] [.r a0 105 [(2,0)],.g a1 82] [.sl (.came bR) nR aR 142]=(bif (decide (0≤(i64.wrap ((num (a0.extract 0 (0+2)) 1) - (i64.wrap (num a1 1)))))&&decide ((i64.wrap ((num (a0.extract 0 (0+2)) 1) - (i64.wrap (num a1 1))))<(nR:Int))) then (bif (decide (0≤(num a1 0))&&decide ((num a1 0)<36)) then (bif (decide (0≤(i64.wrap ((num (a0.extract 0 (0+2)) 1) - (i64.wrap (num a1 1)))))&&decide ((i64.wrap ((num (a0.extract 0 (0+2)) 1) - (i64.wrap (num a1 1))))≤14)) then (bif (Zd6 (num aR (((i64.wrap ((num (a0.extract 0 (0+2)) 1) - (i64.wrap (num a1 1)))).toNat*36)+((num a1 0).toNat*1))) (12^(i64.wrap ((num (a0.extract 0 (0+2)) 1) - (i64.wrap (num a1 1)))).toNat)) then (some (.a (.g (Zbl (num aR (((i64.wrap ((num (a0.extract 0 (0+2)) 1) - (i64.wrap (num a1 1)))).toNat*36)+((num a1 0).toNat*1))) (12^(i64.wrap ((num (a0.extract 0 (0+2)) 1) - (i64.wrap (num a1 1)))).toNat)) 34),.none,true))
     else (none))
    else (none))
   else (none))
  else (none)):=by kernel_rfl
def Zae (a0 a1:Array Value) (bR:Option (Option Addr)) (nR:Nat) (aR:Array Value):Array Value:=(Zbl (num aR (((i64.wrap ((num (a0.extract 0 (0+2)) 1) - (i64.wrap (num a1 1)))).toNat*36)+((num a1 0).toNat*1))) (12^(i64.wrap ((num (a0.extract 0 (0+2)) 1) - (i64.wrap (num a1 1)))).toNat))
def Za1 (a0 a1:Array Value) (bR:Option (Option Addr)) (nR:Nat) (aR:Array Value):Bool:=(bif (decide (0≤(i64.wrap ((num (a0.extract 0 (0+2)) 1) - (i64.wrap (num a1 1)))))&&decide ((i64.wrap ((num (a0.extract 0 (0+2)) 1) - (i64.wrap (num a1 1))))<(nR:Int))) then (bif (decide (0≤(num a1 0))&&decide ((num a1 0)<36)) then (bif (decide (0≤(i64.wrap ((num (a0.extract 0 (0+2)) 1) - (i64.wrap (num a1 1)))))&&decide ((i64.wrap ((num (a0.extract 0 (0+2)) 1) - (i64.wrap (num a1 1))))≤14)) then (Zd6 (num aR (((i64.wrap ((num (a0.extract 0 (0+2)) 1) - (i64.wrap (num a1 1)))).toNat*36)+((num a1 0).toNat*1))) (12^(i64.wrap ((num (a0.extract 0 (0+2)) 1) - (i64.wrap (num a1 1)))).toNat)) else false) else false) else false)
theorem Znv (a0 a1:Array Value) (bR:Option (Option Addr)) (nR:Nat) (aR:Array Value) (h_a0:WT PZ 105 a0) (h_a1:WT PZ 82 a1) (h_a0x2:aR.size=nR*(lay PZ 142).length∧(∀ k,k<nR→WT PZ 142 (aR.extract (k*(lay PZ 142).length) (k*(lay PZ 142).length+(lay PZ 142).length)))∧nR≤9223372036854775807) (hg:((Za1 a0 a1 bR nR aR))=true):ansV PZ Zkh 1000 Tryz.f65 [] [.r a0 105 [(2,0)],.g a1 82] [.sl (.came bR) nR aR 142]=some (.a (.g (Zae a0 a1 bR nR aR) 34),.none,true):=by
 refine (Zou 1000 a0 a1 bR nR aR).trans ?_
 unfold Za1 at hg
 unfold Zae
 revert hg
 generalize (decide (0≤(i64.wrap ((num (a0.extract 0 (0+2)) 1) - (i64.wrap (num a1 1))))))=b2
 intro hg
 cases b2
 ·skip
  first | exact (nomatch (hg:false=true)) | (simp only [Q1,Q2,BQ6];done) | rfl
 ·skip
  revert hg
  generalize (decide ((i64.wrap ((num (a0.extract 0 (0+2)) 1) - (i64.wrap (num a1 1))))<(nR:Int)))=b4
  intro hg
  cases b4
  ·skip
   first | exact (nomatch (hg:false=true)) | (simp only [Q1,Q2,BQ6];done) | rfl
  ·skip
   revert hg
   generalize (decide (0≤(num a1 0)))=b6
   intro hg
   cases b6
   ·skip
    first | exact (nomatch (hg:false=true)) | (simp only [Q1,Q2,BQ6];done) | rfl
   ·skip
    revert hg
    generalize (decide ((num a1 0)<36))=b8
    intro hg
    cases b8
    ·skip
     first | exact (nomatch (hg:false=true)) | (simp only [Q1,Q2,BQ6];done) | rfl
    ·skip
     revert hg
     generalize (decide ((i64.wrap ((num (a0.extract 0 (0+2)) 1) - (i64.wrap (num a1 1))))≤14))=b10
     intro hg
     cases b10
     ·skip
      first | exact (nomatch (hg:false=true)) | (simp only [Q1,Q2,BQ6];done) | rfl
     ·skip
      revert hg
      generalize ((Zd6 (num aR (((i64.wrap ((num (a0.extract 0 (0+2)) 1) - (i64.wrap (num a1 1)))).toNat*36)+((num a1 0).toNat*1))) (12^(i64.wrap ((num (a0.extract 0 (0+2)) 1) - (i64.wrap (num a1 1)))).toNat)))=b12
      intro hg
      cases b12
      ·skip
       first | exact (nomatch (hg:false=true)) | (simp only [Q1,Q2,BQ6];done) | rfl
      ·skip
       first | (simp only [Q1,Q2,BQ6];done) | rfl | exact (nomatch (hg:false=true))
def Zed:Con:=fun args h=>match args,h with
 | [.r a0 105 [(2,0)],.g a1 82],[.sl (.came bR) nR aR 142]=>some (.a (.g (Zae a0 a1 bR nR aR) 34),.none,(Za1 a0 a1 bR nR aR))
 | _,_=>none
theorem Zds:EntX PZ 65:=Zag (fn:=Tryz.f65) (by kernel_rfl) (by kernel_rfl) (by kernel_rfl)
theorem Zet:Uad mn PZ 65 Zed:=(Zai (N:=1000) (by kernel_rfl) (mkΓ_consX (Zad Zq1) Znz (mkΓ_consX (Zad Yda) Zws (mkΓ_consX (Zad Zwi) Zsc mkΓ_nilX))) (fn:=Tryz.f65) (by kernel_rfl) (by kernel_rfl) []).of (by
 intro ρ h w args vals r e hA hH hr
 unfold Zed at hr
 split at hr
 ·rename_i a0 a1 bR nR aR
  obtain ⟨rfl,rfl,hg2⟩:=BQi hr
  exact Znv a0 a1 bR nR aR (hA.wtr 0 rfl) (hA.wt 1 rfl) (hH.slw 0 rfl) hg2
 ·cases hr)
theorem Zu5 (N:Nat) (a0:Int):ansV PZ (mkΓ []) N Tryz.f129 [] [.i .i64 (a0)] []=(some (.a (.b ((a0 != a0))),.none,true)):=by kernel_rfl
theorem Ztk (a0:Int) (h_a0:i64.min≤a0∧a0≤i64.max) (hg:(true)=true):ansV PZ (mkΓ []) 1000 Tryz.f129 [] [.i .i64 (a0)] []=some (.a (.b ((a0 != a0))),.none,true):=by
 refine (Zu5 1000 a0).trans ?_
 rfl
def Zgn:Con:=fun args h=>match args,h with
 | [.i .i64 a0],[]=>some (.a (.b ((a0 != a0))),.none,true)
 | _,_=>none
theorem Zrq:EntX PZ 129:=Zag (fn:=Tryz.f129) (by kernel_rfl) (by kernel_rfl) (by kernel_rfl)
theorem Zxm:Uad mn PZ 129 Zgn:=(Zai (N:=1000) (by kernel_rfl) mkΓ_nilX (fn:=Tryz.f129) (by kernel_rfl) (by kernel_rfl) []).of (by
 intro ρ h w args vals r e hA hH hr
 unfold Zgn at hr
 split at hr
 ·rename_i a0
  obtain ⟨rfl,rfl,hg2⟩:=BQi hr
  exact Ztk a0 (hA.rng 0 rfl) hg2
 ·cases hr)
theorem Zsa (N:Nat) (a0 a1:Int):ansV PZ (mkΓ [(129,con Zgn)]) N Tryz.f125 [] [.i .i64 (a0),.i .i64 (a1)] []=(bif (a0 != a0) then (bif (a1 != a1) then (some (.a (.i .i64 (0:Int)),.none,true))
      else (some (.a (.i .i64 (-1:Int)),.none,true)))
    else (bif (a1 != a1) then (some (.a (.i .i64 (1:Int)),.none,true))
      else (bif decide (a0<a1) then (some (.a (.i .i64 (-1:Int)),.none,true))
        else (bif decide (a0 > a1) then (some (.a (.i .i64 (1:Int)),.none,true))
          else (some (.a (.i .i64 (0:Int)),.none,true)))))):=by kernel_rfl
def Zam (a0 a1:Int):Int:=(bif (a0 != a0) then (bif (a1 != a1) then (0:Int) else (-1:Int)) else (bif (a1 != a1) then (1:Int) else (bif decide (a0<a1) then (-1:Int) else (bif decide (a0 > a1) then (1:Int) else (0:Int)))))
theorem Zqk (a0 a1:Int) (h_a0:i64.min≤a0∧a0≤i64.max) (h_a1:i64.min≤a1∧a1≤i64.max) (hg:(true)=true):ansV PZ (mkΓ [(129,con Zgn)]) 1000 Tryz.f125 [] [.i .i64 (a0),.i .i64 (a1)] []=some (.a (.i .i64 (Zam a0 a1)),.none,true):=by
 refine (Zsa 1000 a0 a1).trans ?_
 unfold Zam
 revert hg
 generalize ((a0 != a0))=b2
 intro hg
 cases b2
 ·skip
  revert hg
  generalize ((a1 != a1))=b4
  intro hg
  cases b4
  ·skip
   revert hg
   generalize (decide (a0<a1))=b6
   intro hg
   cases b6
   ·skip
    revert hg
    generalize (decide (a0 > a1))=b8
    intro hg
    cases b8
    ·skip
     first | (simp only [Q1,Q2,BQ6];done) | rfl | exact (nomatch (hg:false=true))
    ·skip
     first | (simp only [Q1,Q2,BQ6];done) | rfl | exact (nomatch (hg:false=true))
   ·skip
    first | (simp only [Q1,Q2,BQ6];done) | rfl | exact (nomatch (hg:false=true))
  ·skip
   first | (simp only [Q1,Q2,BQ6];done) | rfl | exact (nomatch (hg:false=true))
 ·skip
  revert hg
  generalize ((a1 != a1))=b4
  intro hg
  cases b4
  ·skip
   first | (simp only [Q1,Q2,BQ6];done) | rfl | exact (nomatch (hg:false=true))
  ·skip
   first | (simp only [Q1,Q2,BQ6];done) | rfl | exact (nomatch (hg:false=true))
def Zfb:Con:=fun args h=>match args,h with
 | [.i .i64 a0,.i .i64 a1],[]=>some (.a (.i .i64 (Zam a0 a1)),.none,true)
 | _,_=>none
theorem Zpo:EntX PZ 125:=Zag (fn:=Tryz.f125) (by kernel_rfl) (by kernel_rfl) (by kernel_rfl)
theorem Zte:Uad mn PZ 125 Zfb:=(Zai (N:=1000) (by kernel_rfl) (mkΓ_consX (Zad Zxm) Zrq mkΓ_nilX) (fn:=Tryz.f125) (by kernel_rfl) (by kernel_rfl) []).of (by
 intro ρ h w args vals r e hA hH hr
 unfold Zfb at hr
 split at hr
 ·rename_i a0 a1
  obtain ⟨rfl,rfl,hg2⟩:=BQi hr
  exact Zqk a0 a1 (hA.rng 0 rfl) (hA.rng 1 rfl) hg2
 ·cases hr)
theorem Zkr (N:Nat) (a0 a1:Array Value):ansV PZ (mkΓ [(125,con Zfb)]) N Tryz.f112 [] [.g a0 197,.g a1 197] []=(some (.a (.i .i64 (Zam (i64.wrap ((num a0 0)*(num a1 1))) (i64.wrap ((num a1 0)*(num a0 1))))),.none,true)):=by kernel_rfl
theorem Zkd (a0 a1:Array Value) (h_a0:WT PZ 197 a0) (h_a1:WT PZ 197 a1) (hg:(true)=true):ansV PZ (mkΓ [(125,con Zfb)]) 1000 Tryz.f112 [] [.g a0 197,.g a1 197] []=some (.a (.i .i64 (Zam (i64.wrap ((num a0 0)*(num a1 1))) (i64.wrap ((num a1 0)*(num a0 1))))),.none,true):=by
 refine (Zkr 1000 a0 a1).trans ?_
 rfl
def Zdx:Con:=fun args h=>match args,h with
 | [.g a0 197,.g a1 197],[]=>some (.a (.i .i64 (Zam (i64.wrap ((num a0 0)*(num a1 1))) (i64.wrap ((num a1 0)*(num a0 1))))),.none,true)
 | _,_=>none
theorem Zj1:EntX PZ 112:=Zag (fn:=Tryz.f112) (by kernel_rfl) (by kernel_rfl) (by kernel_rfl)
theorem Zk5:Uad mn PZ 112 Zdx:=(Zai (N:=1000) (by kernel_rfl) (mkΓ_consX (Zad Zte) Zpo mkΓ_nilX) (fn:=Tryz.f112) (by kernel_rfl) (by kernel_rfl) []).of (by
 intro ρ h w args vals r e hA hH hr
 unfold Zdx at hr
 split at hr
 ·rename_i a0 a1
  obtain ⟨rfl,rfl,hg2⟩:=BQi hr
  exact Zkd a0 a1 (hA.wt 0 rfl) (hA.wt 1 rfl) hg2
 ·cases hr)
def Zp6:Cons:=(mkΓ [(112,con (rel PZ [197,197] Zdx))])
theorem Zwd (N:Nat) (a0 a1:Array Value):ansV PZ Zp6 N Tryz.f90 [] [.g a0 34,.g a1 34] []=(some (.a (.b (decide ((Zam (i64.wrap ((num a0 0)*(num a1 1))) (i64.wrap ((num a1 0)*(num a0 1)))) > (0:Int)))),.none,true)):=by kernel_rfl
theorem Zu0 (a0 a1:Array Value) (h_a0:WT PZ 34 a0) (h_a1:WT PZ 34 a1) (hg:(true)=true):ansV PZ Zp6 1000 Tryz.f90 [] [.g a0 34,.g a1 34] []=some (.a (.b (decide ((Zam (i64.wrap ((num a0 0)*(num a1 1))) (i64.wrap ((num a1 0)*(num a0 1)))) > (0:Int)))),.none,true):=by
 refine (Zwd 1000 a0 a1).trans ?_
 rfl
def Zjw:Con:=fun args h=>match args,h with
 | [.g a0 34,.g a1 34],[]=>some (.a (.b (decide ((Zam (i64.wrap ((num a0 0)*(num a1 1))) (i64.wrap ((num a1 0)*(num a0 1)))) > (0:Int)))),.none,true)
 | _,_=>none
theorem Zlv:EntX PZ 90:=Zag (fn:=Tryz.f90) (by kernel_rfl) (by kernel_rfl) (by kernel_rfl)
theorem Zoz:Uad mn PZ 90 Zjw:=(Zai (N:=1000) (by kernel_rfl) (mkΓ_consX (Zad (rel_okX [197,197] Zk5)) Zj1 mkΓ_nilX) (fn:=Tryz.f90) (by kernel_rfl) (by kernel_rfl) []).of (by
 intro ρ h w args vals r e hA hH hr
 unfold Zjw at hr
 split at hr
 ·rename_i a0 a1
  obtain ⟨rfl,rfl,hg2⟩:=BQi hr
  exact Zu0 a0 a1 (hA.wt 0 rfl) (hA.wt 1 rfl) hg2
 ·cases hr)
def Ud5 (p w:Int):Array Value:=#[.int .i64 (i64.wrap (p.tdiv (gcdW p w))),.int .i64 (i64.wrap (w.tdiv (gcdW p w)))]
theorem Yic {p w:Int} (hp:0≤p) (hw:0<w):∃ g p' w',gcdW p w=g∧0<g∧p=g*p'∧w=g*w'∧0≤p'∧0<w'∧p'≤p∧w'≤w∧p.tdiv (gcdW p w)=p'∧w.tdiv (gcdW p w)=w':=by
 obtain ⟨p',e1⟩:=Int.gcd_dvd_left p w
 obtain ⟨w',e2⟩:=Int.gcd_dvd_right p w
 have hg:gcdW p w=(Int.gcd p w:Int):=rfl
 have h0:0<gcdW p w:=by
  have:=Yn6 (a:=p) hw
  rw [bne_iff_ne] at this
  have:0≤gcdW p w:=by rw [hg];exact Int.natCast_nonneg _
  omega
 rw [← hg] at e1 e2
 generalize gcdW p w=g at *
 have hw':0<w':=by
  by_cases h:0<w'
  ·exact h
  ·have:=Int.mul_nonneg (Int.le_of_lt h0) (show 0 ≤ -w' by omega)
   rw [Int.mul_neg] at this
   omega
 have hp':0≤p':=by
  by_cases h:0≤p'
  ·exact h
  ·have:=Int.mul_pos h0 (show 0 < -p' by omega)
   rw [Int.mul_neg] at this
   omega
 have l1:p'≤g*p':=by
  have:=Int.mul_le_mul_of_nonneg_right (show 1≤g by omega) hp'
  omega
 have l2:w'≤g*w':=by
  have:=Int.mul_le_mul_of_nonneg_right (show 1≤g by omega) (Int.le_of_lt hw')
  omega
 refine ⟨g,p',w',rfl,h0,e1,e2,hp',hw',by omega,by omega, ?_, ?_⟩
 ·rw [e1];exact Int.mul_tdiv_cancel_left _ (by omega)
 ·rw [e2];exact Int.mul_tdiv_cancel_left _ (by omega)
theorem cmp_gt (x y:Int):decide (Zam x y > (0:Int))=decide (y<x):=by
 unfold Zam
 rw [show (x != x)=false from bne_self_eq_false _,show (y != y)=false from bne_self_eq_false _,Q2,Q2]
 by_cases h:y<x
 ·rw [Q4 (show ¬ x<y by omega),Q3 (show x > y by omega)];rfl
 ·rw [Q4 (show ¬ x > y by omega)]
  cases decide (x<y)<;>rfl
theorem share_gt {p w q v:Int} (hp:0≤p∧p≤429981696) (hw:0<w∧w≤429981696) (hq:0≤q∧q≤429981696) (hv:0<v∧v≤429981696) :
  decide (Zam (i64.wrap (num (Zbl p w) 0*num (Zbl q v) 1)) (i64.wrap (num (Zbl q v) 0*num (Zbl p w) 1)) > (0:Int))=decide (q*w<p*v):=by
 rw [(Zx1 hp.1 hw.1).1,(Zx1 hq.1 hv.1).1]
 obtain ⟨g,p',w',-,g0,ep,ew,p0,w0,pl,wl,tp,tw⟩:=Yic hp.1 hw.1
 obtain ⟨k,q',v',-,k0,eq,ev,q0,v0,ql,vl,tq,tv⟩:=Yic hq.1 hv.1
 rw [tp,tw,tq,tv]
 show decide (Zam (i64.wrap (i64.wrap p'*i64.wrap v')) (i64.wrap (i64.wrap q'*i64.wrap w')) > (0:Int))=_
 rw [IntWalk.i64_in p' (by omega),IntWalk.i64_in v' (by omega),IntWalk.i64_in q' (by omega),IntWalk.i64_in w' (by omega)]
 have b1:0≤p'*v'∧p'*v'≤429981696*429981696:=⟨Int.mul_nonneg p0 (Int.le_of_lt v0),Int.mul_le_mul (by omega) (by omega) (Int.le_of_lt v0) (by omega)⟩
 have b2:0≤q'*w'∧q'*w'≤429981696*429981696:=⟨Int.mul_nonneg q0 (Int.le_of_lt w0),Int.mul_le_mul (by omega) (by omega) (Int.le_of_lt w0) (by omega)⟩
 rw [IntWalk.i64_in (p'*v') (by omega),IntWalk.i64_in (q'*w') (by omega)]
 have hgk:0<g*k:=Int.mul_pos g0 k0
 have e1:q*w=(g*k)*(q'*w'):=by rw [eq,ew];simp only [Int.mul_assoc,Int.mul_comm,Int.mul_left_comm]
 have e2:p*v=(g*k)*(p'*v'):=by rw [ep,ev];simp only [Int.mul_assoc,Int.mul_comm,Int.mul_left_comm]
 have hiff:q*w<p*v ↔ q'*w'<p'*v':=by
  rw [e1,e2]
  exact ⟨fun h=>Int.lt_of_mul_lt_mul_left h (Int.le_of_lt hgk),fun h=>Int.mul_lt_mul_of_pos_left h hgk⟩
 rw [decide_eq_decide.2 hiff]
 exact cmp_gt _ _
theorem Yn7 {m p w:Int} (hm:0<m) (hp:0≤p) (hw:0<w):Ud5 (m*p) (m*w)=Ud5 p w:=by
 have e:gcdW (m*p) (m*w)=m*gcdW p w:=by
  unfold gcdW
  rw [Int.gcd_mul_left]
  have:(m.natAbs:Int)=m:=Int.natAbs_of_nonneg (Int.le_of_lt hm)
  rw [Int.natCast_mul,this]
 unfold Ud5
 rw [e,Int.mul_tdiv_mul_of_pos _ _ hm,Int.mul_tdiv_mul_of_pos _ _ hm]
def lfP (V X:Array Value):Int:=i64.wrap (num (V.extract 0 (0+2)) 1 - i64.wrap (num X 1))
def shP (V R X:Array Value):Int:=num R ((lfP V X).toNat*36+(num X 0).toNat*1)
def okP (V:Array Value) (n:Nat) (R X:Array Value):Bool:=(decide (0≤lfP V X)&&decide (lfP V X<(n:Int)))&&((decide (0≤lfP V X)&&decide (lfP V X≤8))&&((decide (0≤num X 0)&&decide (num X 0<36))&&(decide (0≤shP V R X)&&decide (shP V R X≤429981696))))
theorem Ydw {V R X:Array Value} {n:Nat}:okP V n R X=true ↔ (0≤lfP V X∧lfP V X<(n:Int))∧(0≤lfP V X∧lfP V X≤8)∧(0≤num X 0∧num X 0<36)∧(0≤shP V R X∧shP V R X≤429981696):=by
 unfold okP
 simp only [Q7,decide_eq_true_eq]
def gtP (V R X Y:Array Value):Bool:=decide (shP V R Y*12^(lfP V X).toNat<shP V R X*12^(lfP V Y).toNat)
theorem Zpl {V R X:Array Value} {bb:Option (Option Addr)} {n:Nat} (h:okP V n R X=true):Za1 V X bb n R=true∧Zae V X bb n R=Zbl (shP V R X) (12^(lfP V X).toNat):=by
 obtain ⟨h1,h2,h3,h4⟩:=Ydw.1 h
 have hp:=Zrr (n:=(lfP V X).toNat) (by omega)
 refine ⟨?_,rfl⟩
 have hsd:=(Zx1 (p:=shP V R X) (w:=12^(lfP V X).toNat) h4.1 (by omega)).2.1
 unfold shP lfP at hsd
 unfold lfP at h1 h2
 unfold Za1
 rw [dec2 h1.1 h1.2,dec2 h3.1 h3.2,Q3 h2.1,Q3 (show i64.wrap (num (V.extract 0 (0+2)) 1 - i64.wrap (num X 1))≤14 by omega)]
 exact hsd
theorem gt_ok {V R X Y:Array Value} {bb:Option (Option Addr)} {n:Nat} (hX:okP V n R X=true) (hY:okP V n R Y=true):decide (Zam (i64.wrap (num (Zae V X bb n R) 0*num (Zae V Y bb n R) 1)) (i64.wrap (num (Zae V Y bb n R) 0*num (Zae V X bb n R) 1)) > (0:Int))=gtP V R X Y:=by
 rw [(Zpl (bb:=bb) hX).2,(Zpl (bb:=bb) hY).2]
 obtain ⟨-,a2,-,a4⟩:=Ydw.1 hX
 obtain ⟨-,b2,-,b4⟩:=Ydw.1 hY
 exact share_gt a4 (Zrr (by omega)) b4 (Zrr (by omega))
def allP (V:Array Value) (n:Nat) (R:Array Value) (m:Nat) (A:Array Value):Bool:=(List.range m).all fun k=>okP V n R (A.extract (k*3) (k*3+3))
theorem Ygh {V R A:Array Value} {n m:Nat}:allP V n R m A=true ↔ ∀ k,k<m→okP V n R (A.extract (k*3) (k*3+3))=true:=by
 unfold allP
 rw [List.all_eq_true]
 exact ⟨fun h k hk=>h k (List.mem_range.2 hk),fun h k hk=>h k (List.mem_range.1 hk)⟩
def Ucn (gt:Nat→Nat→Bool) (A:Array Value):Nat→Int
 | 0=> -1
 | k+1=>bif decide (num (A.extract (k*3) (k*3+3)) 2<(200:Int)) then (bif decide (Ucn gt A k<(0:Int)) then (k:Int) else (bif gt k (Ucn gt A k).toNat then (k:Int) else Ucn gt A k)) else Ucn gt A k
theorem Yhv (gt:Nat→Nat→Bool) (A:Array Value):∀ k,-1≤Ucn gt A k∧Ucn gt A k<(k:Int)
 | 0=>⟨Int.le_refl _,by show (-1:Int)<((0:Nat):Int);omega⟩
 | k+1=>by
  have h:=Yhv gt A k
  rw [Ucn]
  cases decide (num (A.extract (k*3) (k*3+3)) 2<(200:Int)) with
  | false=>rw [Q2];omega
  | true=>
   rw [Q1]
   cases decide (Ucn gt A k<(0:Int)) with
   | true=>rw [Q1];omega
   | false=>
    rw [Q2]
    cases gt k (Ucn gt A k).toNat with
    | true=>rw [Q1];omega
    | false=>rw [Q2];omega
def gtA (V R A:Array Value) (i j:Nat):Bool:=gtP V R (A.extract (i*3) (i*3+3)) (A.extract (j*3) (j*3+3))
def Uay (V R A:Array Value) (n:Nat):Int:=Ucn (gtA V R A) A n
def Zbe:Cons:=(mkΓ [(65,con Zed),(90,con Zjw)])
def Zcu (a0:Array Value) (bR:Option (Option Addr)) (nR:Nat) (aR:Array Value) (b_a1:Option (Option Addr)) (n_a1:Nat) (a1:Array Value):St:=(⟨.a (.r a0 105 [(2,0)]) :: .a (.l 1) :: .a (.w 2) :: .a (.u) :: .a (.i .i64 (0:Int)) :: .a (.v (.nilIface)) :: .a (.i .i64 (-1:Int)) :: .a (.u) :: .a (.u) :: .a (.l 1) :: .a (.i .i64 (n_a1:Int)) :: .a (.i .i64 (0:Int))::us 29 ([]),[.sl (.came bR) nR aR 142,.sl (.came b_a1) n_a1 a1 82,.one (.r a0 105 [(2,0)]) 105,.no,.no],[]⟩:St)
def Zdu:Int×Int→LS
 | (y0_6,y0_11)=>([.a (.i .i64 (y0_6)),.a (.i .i64 (y0_11))],[])
def Zg4:Int×Int→Exit×LS
 | t=>((.exit 0),Zdu t)
def Zav (P:Program) (a0:Array Value) (bR:Option (Option Addr)) (nR:Nat) (aR:Array Value) (b_a1:Option (Option Addr)) (n_a1:Nat) (a1:Array Value):Int×Int→Option (Stp (Int×Int) (Int×Int))
  | (y0_6,y0_11)=>bif decide (y0_11<(n_a1:Int)) then (bif (decide (0≤y0_11)&&decide (y0_11<(n_a1:Int))) then (bif decide ((num (a1.extract ((y0_11).toNat*3) (((y0_11).toNat*3)+3)) 2)<(200:Int)) then (bif decide (y0_6<(0:Int)) then (some (.more (y0_11,(i64.wrap (y0_11+(1:Int))))))
          else (bif (Za1 a0 (a1.extract ((y0_11).toNat*3) (((y0_11).toNat*3)+3)) bR nR aR) then (bif (decide (0≤y0_6)&&decide (y0_6<(n_a1:Int))) then (bif (Za1 a0 (a1.extract ((y0_6).toNat*3) (((y0_6).toNat*3)+3)) bR nR aR) then (bif decide ((Zam (i64.wrap ((num (Zae a0 (a1.extract ((y0_11).toNat*3) (((y0_11).toNat*3)+3)) bR nR aR) 0)*(num (Zae a0 (a1.extract ((y0_6).toNat*3) (((y0_6).toNat*3)+3)) bR nR aR) 1))) (i64.wrap ((num (Zae a0 (a1.extract ((y0_6).toNat*3) (((y0_6).toNat*3)+3)) bR nR aR) 0)*(num (Zae a0 (a1.extract ((y0_11).toNat*3) (((y0_11).toNat*3)+3)) bR nR aR) 1)))) > (0:Int)) then (some (.more (y0_11,(i64.wrap (y0_11+(1:Int))))))
                  else (some (.more (y0_6,(i64.wrap (y0_11+(1:Int)))))))
                else (none))
              else (none))
            else (none)))
        else (some (.more (y0_6,(i64.wrap (y0_11+(1:Int)))))))
      else (none))
    else (some (.done (y0_6,y0_11)))
theorem Zqz (N:Nat) (a0:Array Value) (bR:Option (Option Addr)) (nR:Nat) (aR:Array Value) (b_a1:Option (Option Addr)) (n_a1:Nat) (a1:Array Value):∀ t:Int×Int,Uai PZ Zbe N (cAt (codeOf Tryz.f64) [1,1,0,1,0,0]) (pAt (Uaa (codeOf Tryz.f64) [([6,11],[])]).1 [1,1,0,1,0]) [6,11] [] (Zcu a0 bR nR aR b_a1 n_a1 a1) (Zdu t)=mapS Zdu Zg4 (Zav PZ a0 bR nR aR b_a1 n_a1 a1 t):=by
  rintro ⟨y0_6,y0_11⟩
  refine Eq.trans (b:=(bif decide (y0_11<(n_a1:Int)) then (bif (decide (0≤y0_11)&&decide (y0_11<(n_a1:Int))) then (bif decide ((num (a1.extract ((y0_11).toNat*3) (((y0_11).toNat*3)+3)) 2)<(200:Int)) then (bif decide (y0_6<(0:Int)) then (some (.more ([.a (.i .i64 (y0_11)),.a (.i .i64 (i64.wrap (y0_11+(1:Int))))],[])))
          else (bif (Za1 a0 (a1.extract ((y0_11).toNat*3) (((y0_11).toNat*3)+3)) bR nR aR) then (bif (decide (0≤y0_6)&&decide (y0_6<(n_a1:Int))) then (bif (Za1 a0 (a1.extract ((y0_6).toNat*3) (((y0_6).toNat*3)+3)) bR nR aR) then (bif decide ((Zam (i64.wrap ((num (Zae a0 (a1.extract ((y0_11).toNat*3) (((y0_11).toNat*3)+3)) bR nR aR) 0)*(num (Zae a0 (a1.extract ((y0_6).toNat*3) (((y0_6).toNat*3)+3)) bR nR aR) 1))) (i64.wrap ((num (Zae a0 (a1.extract ((y0_6).toNat*3) (((y0_6).toNat*3)+3)) bR nR aR) 0)*(num (Zae a0 (a1.extract ((y0_11).toNat*3) (((y0_11).toNat*3)+3)) bR nR aR) 1)))) > (0:Int)) then (some (.more ([.a (.i .i64 (y0_11)),.a (.i .i64 (i64.wrap (y0_11+(1:Int))))],[])))
                  else (some (.more ([.a (.i .i64 (y0_6)),.a (.i .i64 (i64.wrap (y0_11+(1:Int))))],[]))))
                else (none))
              else (none))
            else (none)))
        else (some (.more ([.a (.i .i64 (y0_6)),.a (.i .i64 (i64.wrap (y0_11+(1:Int))))],[]))))
      else (none))
    else (some (.done ((.exit 0),([.a (.i .i64 (y0_6)),.a (.i .i64 (y0_11))],[])))))) (by kernel_rfl) ?_
  simp only [Zav,Za3,Za4,Za5,Za2,Zdu,Zg4]
def Zbm (P:Program) (N:Nat) (a0:Array Value) (bR:Option (Option Addr)) (nR:Nat) (aR:Array Value) (b_a1:Option (Option Addr)) (n_a1:Nat) (a1:Array Value) (z0_6:Int) (z0_11:Int):Option (SV×Eff×Bool):=bif decide (z0_6<(0:Int)) then (some (.t [.i .i64 (0:Int),.v (.iface 117 (.int .i64 (6:Int)))],.none,true))
  else (some (.t [.i .i64 (z0_6),.v (.nilIface)],.none,true))
theorem Zmx (N:Nat) (a0:Array Value) (bR:Option (Option Addr)) (nR:Nat) (aR:Array Value) (b_a1:Option (Option Addr)) (n_a1:Nat) (a1:Array Value) (z0_6:Int) (z0_11:Int):(Uab 0 (kSeq (veC PZ Zbe N (cAt (codeOf Tryz.f64) [1,1,1]) (pAt (Uaa (codeOf Tryz.f64) [([6,11],[])]).1 [1,1,1]) (SV×Eff×Bool)) (finK PZ [.sl (.came bR) nR aR 142,.sl (.came b_a1) n_a1 a1 82] [.tmp 4,.tmp 5]))) (.exit 0) (left (writes (cAt (codeOf Tryz.f64) [1,1,0,1,0,0])) [6,11] [] (Zcu a0 bR nR aR b_a1 n_a1 a1) ([.a (.i .i64 (z0_6)),.a (.i .i64 (z0_11))],[]))=Zbm PZ N a0 bR nR aR b_a1 n_a1 a1 z0_6 z0_11:=by
 refine Eq.trans (b:=(bif decide (z0_6<(0:Int)) then (some (.t [.i .i64 (0:Int),.v (.iface 117 (.int .i64 (6:Int)))],.none,true))
  else (some (.t [.i .i64 (z0_6),.v (.nilIface)],.none,true)))) (by kernel_rfl) ?_
 rfl
theorem Zqm (N:Nat) (a0:Array Value) (bR:Option (Option Addr)) (nR:Nat) (aR:Array Value) (b_a1:Option (Option Addr)) (n_a1:Nat) (a1:Array Value):Uag (Uac (Uai PZ Zbe N (cAt (codeOf Tryz.f64) [1,1,0,1,0,0]) (pAt (Uaa (codeOf Tryz.f64) [([6,11],[])]).1 [1,1,0,1,0]) [6,11] [] (Zcu a0 bR nR aR b_a1 n_a1 a1)) N ([.a (.i .i64 (-1:Int)),.a (.i .i64 (0:Int))],[])) (fun e s=>(Uab 0 (kSeq (veC PZ Zbe N (cAt (codeOf Tryz.f64) [1,1,1]) (pAt (Uaa (codeOf Tryz.f64) [([6,11],[])]).1 [1,1,1]) (SV×Eff×Bool)) (finK PZ [.sl (.came bR) nR aR 142,.sl (.came b_a1) n_a1 a1 82] [.tmp 4,.tmp 5]))) e (left (writes (cAt (codeOf Tryz.f64) [1,1,0,1,0,0])) [6,11] [] (Zcu a0 bR nR aR b_a1 n_a1 a1) s))=Ual (Uac (Zav PZ a0 bR nR aR b_a1 n_a1 a1) N ((-1:Int),(0:Int))) (fun x=>Zbm PZ N a0 bR nR aR b_a1 n_a1 a1 x.1 x.2):=by
 refine Zbg Zdu Zg4 _ _ (Zqz N a0 bR nR aR b_a1 n_a1 a1) N ((-1:Int),(0:Int)) _ _ ?_
 intro x;exact Zmx N a0 bR nR aR b_a1 n_a1 a1 x.1 x.2
theorem Zj4 (N:Nat) (a0:Array Value) (bR:Option (Option Addr)) (nR:Nat) (aR:Array Value) (b_a1:Option (Option Addr)) (n_a1:Nat) (a1:Array Value):ansV PZ Zbe N Tryz.f64 [([6,11],[])] [.r a0 105 [(2,0)],.l 1] [.sl (.came bR) nR aR 142,.sl (.came b_a1) n_a1 a1 82]=(Ual (Uac (Zav PZ a0 bR nR aR b_a1 n_a1 a1) N ((-1:Int),(0:Int))) (fun x=>Zbm PZ N a0 bR nR aR b_a1 n_a1 a1 x.1 x.2)):=by
 refine Eq.trans (b:=(Uag (Uac (Uai PZ Zbe N (cAt (codeOf Tryz.f64) [1,1,0,1,0,0]) (pAt (Uaa (codeOf Tryz.f64) [([6,11],[])]).1 [1,1,0,1,0]) [6,11] [] (Zcu a0 bR nR aR b_a1 n_a1 a1)) N ([.a (.i .i64 (-1:Int)),.a (.i .i64 (0:Int))],[])) (fun e s=>(Uab 0 (kSeq (veC PZ Zbe N (cAt (codeOf Tryz.f64) [1,1,1]) (pAt (Uaa (codeOf Tryz.f64) [([6,11],[])]).1 [1,1,1]) (SV×Eff×Bool)) (finK PZ [.sl (.came bR) nR aR 142,.sl (.came b_a1) n_a1 a1 82] [.tmp 4,.tmp 5]))) e (left (writes (cAt (codeOf Tryz.f64) [1,1,0,1,0,0])) [6,11] [] (Zcu a0 bR nR aR b_a1 n_a1 a1) s)))) (by kernel_rfl) ?_
 simp only [Zqm N a0 bR nR aR b_a1 n_a1 a1]
theorem Zob (a0:Array Value) (bR:Option (Option Addr)) (nR:Nat) (aR:Array Value) (b_a1:Option (Option Addr)) (n_a1:Nat) (a1:Array Value) (h_a0:WT PZ 105 a0) (h_a0x2:aR.size=nR*(lay PZ 142).length∧(∀ k,k<nR→WT PZ 142 (aR.extract (k*(lay PZ 142).length) (k*(lay PZ 142).length+(lay PZ 142).length)))∧nR≤9223372036854775807) (h_a1:a1.size=n_a1*(lay PZ 82).length∧(∀ k,k<n_a1→WT PZ 82 (a1.extract (k*(lay PZ 82).length) (k*(lay PZ 82).length+(lay PZ 82).length)))∧n_a1≤9223372036854775807) (hc0:(decide ((Uay a0 aR a1 n_a1)<(0:Int)))=false) (hg:((allP a0 nR aR n_a1 a1))=true):ansV PZ Zbe 18446744073709551616 Tryz.f64 [([6,11],[])] [.r a0 105 [(2,0)],.l 1] [.sl (.came bR) nR aR 142,.sl (.came b_a1) n_a1 a1 82]=some (.t [.i .i64 (Uay a0 aR a1 n_a1),.v (.nilIface)],.none,true):=by
 have hn:=h_a1.2.2
 have hall:=Ygh.1 hg
 refine (Zj4 18446744073709551616 a0 bR nR aR b_a1 n_a1 a1).trans ?_
 have hit:Uac (Zav PZ a0 bR nR aR b_a1 n_a1 a1) 18446744073709551616 ((-1:Int),(0:Int))=some ((Uay a0 aR a1 n_a1),(n_a1:Int)):=by
  exact Zdr (g:=Zav PZ a0 bR nR aR b_a1 n_a1 a1) (fun k=>(Uay a0 aR a1 k,(k:Int))) (m:=n_a1) (x:=(Uay a0 aR a1 n_a1,(n_a1:Int))) (N:=18446744073709551616) (fun k hk=>by
   have h1:decide ((k:Int)<(n_a1:Int))=true:=Q3 (by omega)
   have h0:decide (0≤(k:Int))=true:=Q3 (by omega)
   have h3:i64.wrap ((k:Int)+1)=((k+1:Nat):Int):=by rw [IntWalk.i64_in _ (by omega)];omega
   have hin:=Yhv (gtA a0 aR a1) a1 k
   have e1:Uay a0 aR a1 (k+1)=bif decide (num (a1.extract (k*3) (k*3+3)) 2<(200:Int)) then (bif decide (Uay a0 aR a1 k<(0:Int)) then (k:Int) else (bif gtA a0 aR a1 k (Uay a0 aR a1 k).toNat then (k:Int) else Uay a0 aR a1 k)) else Uay a0 aR a1 k:=rfl
   have hb: -1≤Uay a0 aR a1 k∧Uay a0 aR a1 k<(k:Int):=hin
   rw [e1]
   clear e1 hin
   generalize Uay a0 aR a1 k=z at hb⊢
   simp only [Zav,h1,h0,h3,Q9,Bool.and_self,Q1]
   cases decide (num (a1.extract (k*3) (k*3+3)) 2<(200:Int)) with
   | false=>simp only [Q2]
   | true=>
    by_cases hz:z<0
    ·simp only [Q3 hz,Q1]
    ·have hk1:=hall k hk
     have hk2:=hall z.toNat (by omega)
     simp only [Q4 hz,Q1,Q2,dec2 (show 0≤z by omega) (show z<(n_a1:Int) by omega),(Zpl (bb:=bR) hk1).1,(Zpl (bb:=bR) hk2).1,gt_ok (bb:=bR) hk1 hk2]
     unfold gtA
     cases gtP a0 aR (a1.extract (k*3) (k*3+3)) (a1.extract (z.toNat*3) (z.toNat*3+3))<;>simp only [Q1,Q2]) (by
   have h1:decide ((n_a1:Int)<(n_a1:Int))=false:=Q4 (by omega)
   simp only [Zav,h1,Q2]) (by omega)
 rw [hit]
 show Zbm PZ 18446744073709551616 a0 bR nR aR b_a1 n_a1 a1 (Uay a0 aR a1 n_a1) (n_a1:Int)=_
 unfold Zbm
 rw [hc0]
 rfl
theorem Znu (a0:Array Value) (bR:Option (Option Addr)) (nR:Nat) (aR:Array Value) (b_a1:Option (Option Addr)) (n_a1:Nat) (a1:Array Value) (h_a0:WT PZ 105 a0) (h_a0x2:aR.size=nR*(lay PZ 142).length∧(∀ k,k<nR→WT PZ 142 (aR.extract (k*(lay PZ 142).length) (k*(lay PZ 142).length+(lay PZ 142).length)))∧nR≤9223372036854775807) (h_a1:a1.size=n_a1*(lay PZ 82).length∧(∀ k,k<n_a1→WT PZ 82 (a1.extract (k*(lay PZ 82).length) (k*(lay PZ 82).length+(lay PZ 82).length)))∧n_a1≤9223372036854775807) (hc0:(decide ((Uay a0 aR a1 n_a1)<(0:Int)))=true) (hg:((allP a0 nR aR n_a1 a1))=true):ansV PZ Zbe 18446744073709551616 Tryz.f64 [([6,11],[])] [.r a0 105 [(2,0)],.l 1] [.sl (.came bR) nR aR 142,.sl (.came b_a1) n_a1 a1 82]=some (.t [.i .i64 (0:Int),.v (.iface 117 (.int .i64 (6:Int)))],.none,true):=by
 have hn:=h_a1.2.2
 have hall:=Ygh.1 hg
 refine (Zj4 18446744073709551616 a0 bR nR aR b_a1 n_a1 a1).trans ?_
 have hit:Uac (Zav PZ a0 bR nR aR b_a1 n_a1 a1) 18446744073709551616 ((-1:Int),(0:Int))=some ((Uay a0 aR a1 n_a1),(n_a1:Int)):=by
  exact Zdr (g:=Zav PZ a0 bR nR aR b_a1 n_a1 a1) (fun k=>(Uay a0 aR a1 k,(k:Int))) (m:=n_a1) (x:=(Uay a0 aR a1 n_a1,(n_a1:Int))) (N:=18446744073709551616) (fun k hk=>by
   have h1:decide ((k:Int)<(n_a1:Int))=true:=Q3 (by omega)
   have h0:decide (0≤(k:Int))=true:=Q3 (by omega)
   have h3:i64.wrap ((k:Int)+1)=((k+1:Nat):Int):=by rw [IntWalk.i64_in _ (by omega)];omega
   have hin:=Yhv (gtA a0 aR a1) a1 k
   have e1:Uay a0 aR a1 (k+1)=bif decide (num (a1.extract (k*3) (k*3+3)) 2<(200:Int)) then (bif decide (Uay a0 aR a1 k<(0:Int)) then (k:Int) else (bif gtA a0 aR a1 k (Uay a0 aR a1 k).toNat then (k:Int) else Uay a0 aR a1 k)) else Uay a0 aR a1 k:=rfl
   have hb: -1≤Uay a0 aR a1 k∧Uay a0 aR a1 k<(k:Int):=hin
   rw [e1]
   clear e1 hin
   generalize Uay a0 aR a1 k=z at hb⊢
   simp only [Zav,h1,h0,h3,Q9,Bool.and_self,Q1]
   cases decide (num (a1.extract (k*3) (k*3+3)) 2<(200:Int)) with
   | false=>simp only [Q2]
   | true=>
    by_cases hz:z<0
    ·simp only [Q3 hz,Q1]
    ·have hk1:=hall k hk
     have hk2:=hall z.toNat (by omega)
     simp only [Q4 hz,Q1,Q2,dec2 (show 0≤z by omega) (show z<(n_a1:Int) by omega),(Zpl (bb:=bR) hk1).1,(Zpl (bb:=bR) hk2).1,gt_ok (bb:=bR) hk1 hk2]
     unfold gtA
     cases gtP a0 aR (a1.extract (k*3) (k*3+3)) (a1.extract (z.toNat*3) (z.toNat*3+3))<;>simp only [Q1,Q2]) (by
   have h1:decide ((n_a1:Int)<(n_a1:Int))=false:=Q4 (by omega)
   simp only [Zav,h1,Q2]) (by omega)
 rw [hit]
 show Zbm PZ 18446744073709551616 a0 bR nR aR b_a1 n_a1 a1 (Uay a0 aR a1 n_a1) (n_a1:Int)=_
 unfold Zbm
 rw [hc0]
 rfl
def Zfr:SCon:=fun args h=>match args,h with
 | [.r a0 105 [(2,0)],.l 1],[.sl (.came bR) nR aR 142,.sl (.came b_a1) n_a1 a1 82]=>.two (decide ((Uay a0 aR a1 n_a1)<(0:Int))) (.one (some (.t [.i .i64 (0:Int),.v (.iface 117 (.int .i64 (6:Int)))],.none,(allP a0 nR aR n_a1 a1)))) (.one (some (.t [.i .i64 (Uay a0 aR a1 n_a1),.v (.nilIface)],.none,(allP a0 nR aR n_a1 a1))))
 | _,_=>.one none
theorem Zio:EntX PZ 64:=Zag (fn:=Tryz.f64) (by kernel_rfl) (by kernel_rfl) (by kernel_rfl)
theorem Zj0:Uad mn PZ 64 (fun args h=>Uah (Zfr args h)):=by
 intro ρ h w args vals r e hn hr hA hH
 dsimp only at hr
 unfold Zfr at hr
 split at hr
 ·rename_i a0 bR nR aR b_a1 n_a1 a1
  simp only [Uah] at hr
  cases hc0:(decide ((Uay a0 aR a1 n_a1)<(0:Int)))
  ·rw [hc0] at hr
   simp only [Uah,Q1,Q2] at hr
   obtain ⟨rfl,rfl,hg2⟩:=BQi hr
   exact ((Zai (N:=18446744073709551616) (by kernel_rfl) (mkΓ_consX (Zad Zet) Zds (mkΓ_consX (Zad Zoz) Zlv mkΓ_nilX)) (fn:=Tryz.f64) (by kernel_rfl) (by kernel_rfl) [([6,11],[])])) ρ _ w _ vals _ _ hn ((Zob a0 bR nR aR b_a1 n_a1 a1 (hA.wtr 0 rfl) (hH.slw 0 rfl) (hH.slw 1 rfl) hc0 hg2)) hA hH
  ·rw [hc0] at hr
   simp only [Uah,Q1,Q2] at hr
   obtain ⟨rfl,rfl,hg2⟩:=BQi hr
   exact ((Zai (N:=18446744073709551616) (by kernel_rfl) (mkΓ_consX (Zad Zet) Zds (mkΓ_consX (Zad Zoz) Zlv mkΓ_nilX)) (fn:=Tryz.f64) (by kernel_rfl) (by kernel_rfl) [([6,11],[])])) ρ _ w _ vals _ _ hn ((Znu a0 bR nR aR b_a1 n_a1 a1 (hA.wtr 0 rfl) (hH.slw 0 rfl) (hH.slw 1 rfl) hc0 hg2)) hA hH
 ·simp only [Uah] at hr
  cases hr
end
end Go.Proofs.YtohnggmlmglhmaaGreatDoor
