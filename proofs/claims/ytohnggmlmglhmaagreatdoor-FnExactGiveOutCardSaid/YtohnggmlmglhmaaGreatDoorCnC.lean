/- Shares that are compared, and the best one of some releases. -/
import Derived.Test.YtohnggmlmglhmaaGreatDoorProg
import Derived.Test.YtohnggmlmglhmaaGreatDoorCnB
open _root_.Int renaming le_of_lt→jA
namespace Go.Proofs.YtohnggmlmglhmaaGreatDoor
open Go.ChangeShapes Go.WideShapes Go.ChangeAt Go.RowKit Ve Vc
open Tryz renaming prog → PZ
open IntKind (i64)
set_option linter.unusedVariables false
set_option linter.unusedSimpArgs false
set_option maxRecDepth 100000
noncomputable section
variable {mn:Md}
def gcdW (a b:Int):Int:=(Int.gcd a b:Int)
theorem Yph {a b:Int} (ha:0≤a) (hb:0<b):gcdW b (a.tmod b)=gcdW a b:=by
 unfold gcdW
 obtain ⟨m,rfl⟩:=Int.eq_ofNat_of_zero_le ha
 obtain ⟨n,rfl⟩:=Int.eq_ofNat_of_zero_le (jA hb)
 rw [Int.tmod_eq_emod_of_nonneg ha,← Int.natCast_emod,Int.gcd_natCast_natCast,Int.gcd_natCast_natCast,Nat.gcd_comm m n,Nat.gcd_rec n m,Nat.gcd_comm]
theorem Ykk (a b:Int):gcdW a b=gcdW b a:=by unfold gcdW;rw [Int.gcd_comm]
theorem Yo1 {a b:Int} (hb:0<b):(gcdW a b != 0)=true:=by
 unfold gcdW
 rw [bne_iff_ne]
 intro h
 have h':Int.gcd a b=0:=by omega
 have:=Int.gcd_eq_zero_iff.1 h'
 omega
theorem Ypg {a:Int} (ha:0≤a):gcdW a 0=a:=by
 unfold gcdW;rw [Int.gcd_zero_right];omega
def Zbb (a0:Array Value):St:=(⟨.a (.g a0 197) :: .a (.w 0) :: .a (.w 1) :: .a (.i .i64 (num a0 1)) :: .a (.i .i64 (num a0 0)) :: .a (.p 0 (1) 2) :: .a (.i .i64 (num a0 1)) :: .a (.p 0 (0) 2) :: .a (.i .i64 (num a0 0))::us 15 ([]),[.row a0 197,.row #[.int .i64 (0:Int),.int .i64 (0:Int)] 197,.no,.no,.no,.no,.no,.no],[]⟩:St)
def Zbn:Int×Int→LS
 | (y0_3,y0_4)=>([.a (.i .i64 (y0_3)),.a (.i .i64 (y0_4))],[])
def Zeq:Int×Int→Exit×LS
 | t=>((.exit 0),Zbn t)
def Za4 (P:Program) (a0:Array Value):Int×Int→Option (Stp (Int×Int) (Int×Int))
 | (y0_3,y0_4)=>bif (y0_4 != (0:Int)) then (bif (y0_4 != 0) then (some (.more (y0_4,((y0_3).tmod y0_4))))
   else (none))
  else (some (.done (y0_3,y0_4)))
def Uem:=(Uaf (codeOf Tryz.f113) [([3,4],[])]).1
theorem Zmc (N:Nat) (a0:Array Value):∀ t:Int×Int,Uag PZ (mkΓ []) N (cAt (codeOf Tryz.f113) [1,1,0,0,0]) (pAt Uem [1,1,0,0]) [3,4] [] (Zbb a0) (Zbn t)=mapS Zbn Zeq (Za4 PZ a0 t):=by
 rintro ⟨y0_3,y0_4⟩
 refine Eq.trans (b:=(bif (y0_4 != (0:Int)) then (bif (y0_4 != 0) then (some (.more ([.a (.i .i64 (y0_4)),.a (.i .i64 ((y0_3).tmod y0_4))],[])))
   else (none))
  else (some (.done ((.exit 0),([.a (.i .i64 (y0_3)),.a (.i .i64 (y0_4))],[])))))) (by kernel_rfl) ?_
 simp only [Za4,Zaz,Zay,Za1,Za0,Zbn,Zeq]
def Zbi (P:Program) (N:Nat) (a0:Array Value) (z0_3:Int) (z0_4:Int):Option (SV×Eff×Bool):=bif (z0_3 != 0) then (bif (z0_3 != 0) then (some (.a (.g #[.int .i64 (i64.wrap (((num a0 0)).tdiv z0_3)),.int .i64 (i64.wrap (((num a0 1)).tdiv z0_3))] 197),.none,true))
   else (none))
  else (none)
def Ufw (N:Nat):=(Uan 0 (kSeq (veC PZ (mkΓ []) N (cAt (codeOf Tryz.f113) [1,1,1]) (pAt Uem [1,1,1]) (SV×Eff×Bool)) (finK PZ [] [.cell 2 197])))
theorem Zj9 (N:Nat) (a0:Array Value) (z0_3:Int) (z0_4:Int):(Ufw N) (.exit 0) (left (writes (cAt (codeOf Tryz.f113) [1,1,0,0,0])) [3,4] [] (Zbb a0) ([.a (.i .i64 (z0_3)),.a (.i .i64 (z0_4))],[]))=Zbi PZ N a0 z0_3 z0_4:=by
 refine Eq.trans (b:=(bif (z0_3 != 0) then (bif (z0_3 != 0) then (some (.a (.g #[.int .i64 (i64.wrap (((num a0 0)).tdiv z0_3)),.int .i64 (i64.wrap (((num a0 1)).tdiv z0_3))] 197),.none,true))
   else (none))
  else (none))) (by kernel_rfl) ?_
 rfl
theorem Zmk (N:Nat) (a0:Array Value):Uah (Uaa (Uag PZ (mkΓ []) N (cAt (codeOf Tryz.f113) [1,1,0,0,0]) (pAt Uem [1,1,0,0]) [3,4] [] (Zbb a0)) N ([.a (.i .i64 (num a0 1)),.a (.i .i64 (num a0 0))],[])) (fun e s=>(Ufw N) e (left (writes (cAt (codeOf Tryz.f113) [1,1,0,0,0])) [3,4] [] (Zbb a0) s))=Uak (Uaa (Za4 PZ a0) N ((num a0 1),(num a0 0))) (fun x=>Zbi PZ N a0 x.1 x.2):=by
 refine Zbd Zbn Zeq _ _ (Zmc N a0) N ((num a0 1),(num a0 0)) _ _ ?_
 intro x;exact Zj9 N a0 x.1 x.2
theorem Zly (N:Nat) (a0:Array Value):ansV PZ (mkΓ []) N Tryz.f113 [([3,4],[])] [.g a0 197] []=(Uak (Uaa (Za4 PZ a0) N ((num a0 1),(num a0 0))) (fun x=>Zbi PZ N a0 x.1 x.2)):=by
 refine Eq.trans (b:=(Uah (Uaa (Uag PZ (mkΓ []) N (cAt (codeOf Tryz.f113) [1,1,0,0,0]) (pAt Uem [1,1,0,0]) [3,4] [] (Zbb a0)) N ([.a (.i .i64 (num a0 1)),.a (.i .i64 (num a0 0))],[])) (fun e s=>(Ufw N) e (left (writes (cAt (codeOf Tryz.f113) [1,1,0,0,0])) [3,4] [] (Zbb a0) s)))) (by kernel_rfl) ?_
 simp only [Zmk N a0]
theorem Ymd (a0:Array Value):∀ (n:Nat) (x y:Int),0≤x→0≤y→y.toNat<n→Uaa (Za4 PZ a0) n (x,y)=some (gcdW x y,0)
 | 0,x,y,_,_,h=>by omega
 | n+1,x,y,hx,hy,h=>by
  by_cases e:y=0
  ·subst e
   rw [Ypg hx]
   exact Yet (by simp only [Za4];rfl) n
  ·have hp:0<y:=by omega
   have ht:=Int.tmod_lt_of_pos x hp
   have h0:0≤x.tmod y:=Int.tmod_nonneg _ hx
   rw [Zne (t':=(y,x.tmod y)) (by simp only [Za4];rw [show (y != (0:Int))=true from bne_iff_ne.2 e];rfl) n,Ymd a0 n y (x.tmod y) hy h0 (by omega),Yph hx hp]
theorem Zlc (a0:Array Value) (h_a0:WT PZ 197 a0) (hg:((decide (0≤num a0 0)&&(decide (0≤num a0 1)&&(gcdW (num a0 1) (num a0 0) != 0))))=true):ansV PZ (mkΓ []) 18446744073709551616 Tryz.f113 [([3,4],[])] [.g a0 197] []=some (.a (.g #[.int .i64 (i64.wrap ((num a0 0).tdiv (gcdW (num a0 1) (num a0 0)))),.int .i64 (i64.wrap ((num a0 1).tdiv (gcdW (num a0 1) (num a0 0))))] 197),.none,true):=by
 simp only [Q7,decide_eq_true_eq] at hg
 obtain ⟨g0,g1,g2⟩:=hg
 have hr:=(h_a0.int (k:=.i64) (o:=0) (by kernel_rfl)).2
 have hm:num a0 0≤9223372036854775807:=hr.2
 refine (Zly 18446744073709551616 a0).trans ?_
 rw [Ymd a0 18446744073709551616 (num a0 1) (num a0 0) g1 g0 (by omega)]
 generalize gcdW (num a0 1) (num a0 0)=q at g2
 show Zbi PZ 18446744073709551616 a0 q 0=_
 unfold Zbi
 rw [g2]
 rfl
def Zee:Con:=fun args h=>match args,h with
 | [.g a0 197],[]=>some (.a (.g #[.int .i64 (i64.wrap ((num a0 0).tdiv (gcdW (num a0 1) (num a0 0)))),.int .i64 (i64.wrap ((num a0 1).tdiv (gcdW (num a0 1) (num a0 0))))] 197),.none,(decide (0≤num a0 0)&&(decide (0≤num a0 1)&&(gcdW (num a0 1) (num a0 0) != 0))))
 | _,_=>none
theorem Zk7:EntX PZ 113:=Zag (fn:=Tryz.f113) (by kernel_rfl) (by kernel_rfl) (by kernel_rfl)
theorem Zmb:Uab mn PZ 113 Zee:=(Zaf (N:=18446744073709551616) (by kernel_rfl) mkΓ_nilX (fn:=Tryz.f113) (by kernel_rfl) (by kernel_rfl) [([3,4],[])]).of (by
 intro ρ h w args vals r e hA hH hr
 unfold Zee at hr
 split at hr
 ·rename_i a0
  obtain ⟨rfl,rfl,hg2⟩:=BQi hr
  exact Zlc a0 (hA.wt 0 rfl) hg2
 ·cases hr)
def Zq8 (a0 a1:Int):Bool:=(bif (decide (0≤a0)&&decide (0≤a1)) then (bif ((gcdW a0 a1) != 0) then ((gcdW a0 a1) != 0) else false) else false)
def Zvg:Cons:=(mkΓ [(113,con Zee)])
theorem Ybu (N:Nat) (a0 a1:Int):ansV PZ Zvg N Tryz.f92 [] [.i .i64 (a0),.i .i64 (a1)] []=(bif (decide (0≤num (#[.int .i64 (a0),.int .i64 (a1)]:Array Value) 0)&&(decide (0≤num (#[.int .i64 (a0),.int .i64 (a1)]:Array Value) 1)&&(gcdW (num (#[.int .i64 (a0),.int .i64 (a1)]:Array Value) 1) (num (#[.int .i64 (a0),.int .i64 (a1)]:Array Value) 0) != 0))) then (some (.a (.g #[.int .i64 (i64.wrap ((num (#[.int .i64 (a0),.int .i64 (a1)]:Array Value) 0).tdiv (gcdW (num (#[.int .i64 (a0),.int .i64 (a1)]:Array Value) 1) (num (#[.int .i64 (a0),.int .i64 (a1)]:Array Value) 0)))),.int .i64 (i64.wrap ((num (#[.int .i64 (a0),.int .i64 (a1)]:Array Value) 1).tdiv (gcdW (num (#[.int .i64 (a0),.int .i64 (a1)]:Array Value) 1) (num (#[.int .i64 (a0),.int .i64 (a1)]:Array Value) 0))))] 34),.none,true))
  else (none)):=by kernel_rfl
def Zbp (a0 a1:Int):Array Value:=#[.int .i64 (i64.wrap ((num (#[.int .i64 (a0),.int .i64 (a1)]:Array Value) 0).tdiv (gcdW (num (#[.int .i64 (a0),.int .i64 (a1)]:Array Value) 1) (num (#[.int .i64 (a0),.int .i64 (a1)]:Array Value) 0)))),.int .i64 (i64.wrap ((num (#[.int .i64 (a0),.int .i64 (a1)]:Array Value) 1).tdiv (gcdW (num (#[.int .i64 (a0),.int .i64 (a1)]:Array Value) 1) (num (#[.int .i64 (a0),.int .i64 (a1)]:Array Value) 0))))]
def Zec (a0 a1:Int):Bool:=(decide (0≤num (#[.int .i64 (a0),.int .i64 (a1)]:Array Value) 0)&&(decide (0≤num (#[.int .i64 (a0),.int .i64 (a1)]:Array Value) 1)&&(gcdW (num (#[.int .i64 (a0),.int .i64 (a1)]:Array Value) 1) (num (#[.int .i64 (a0),.int .i64 (a1)]:Array Value) 0) != 0)))
theorem Zzt (a0 a1:Int) (h_a0:i64.min≤a0∧a0≤i64.max) (h_a1:i64.min≤a1∧a1≤i64.max) (hg:((Zec a0 a1))=true):ansV PZ Zvg 1000 Tryz.f92 [] [.i .i64 (a0),.i .i64 (a1)] []=some (.a (.g (Zbp a0 a1) 34),.none,true):=by
 refine (Ybu 1000 a0 a1).trans ?_
 unfold Zec at hg
 unfold Zbp
 revert hg
 generalize ((decide (0≤num (#[.int .i64 (a0),.int .i64 (a1)]:Array Value) 0)&&(decide (0≤num (#[.int .i64 (a0),.int .i64 (a1)]:Array Value) 1)&&(gcdW (num (#[.int .i64 (a0),.int .i64 (a1)]:Array Value) 1) (num (#[.int .i64 (a0),.int .i64 (a1)]:Array Value) 0) != 0))))=b2
 intro hg
 cases b2
 ·skip
  first | exact (nomatch (hg:false=true)) | (simp only [Q1,Q2,BQ6];done) | rfl
 ·skip
  first | (simp only [Q1,Q2,BQ6];done) | rfl | exact (nomatch (hg:false=true))
def Zl3:Con:=fun args h=>match args,h with
 | [.i .i64 a0,.i .i64 a1],[]=>some (.a (.g (Zbp a0 a1) 34),.none,(Zec a0 a1))
 | _,_=>none
theorem Zxc:EntX PZ 92:=Zag (fn:=Tryz.f92) (by kernel_rfl) (by kernel_rfl) (by kernel_rfl)
theorem Yew:Uab mn PZ 92 Zl3:=(Zaf (N:=1000) (by kernel_rfl) (mkΓ_consX (Zac Zmb) Zk7 mkΓ_nilX) (fn:=Tryz.f92) (by kernel_rfl) (by kernel_rfl) []).of (by
 intro ρ h w args vals r e hA hH hr
 unfold Zl3 at hr
 split at hr
 ·rename_i a0 a1
  obtain ⟨rfl,rfl,hg2⟩:=BQi hr
  exact Zzt a0 a1 (hA.rng 0 rfl) (hA.rng 1 rfl) hg2
 ·cases hr)
theorem Yh4 {p w:Int} (hp:0≤p) (hw:0<w):Zbp p w=#[.int .i64 (i64.wrap (p.tdiv (gcdW p w))),.int .i64 (i64.wrap (w.tdiv (gcdW p w)))]∧Zec p w=true∧Zq8 p w=true:=by
 have hn:=Yo1 (a:=p) hw
 refine ⟨?_, ?_, ?_⟩
 ·unfold Zbp
  show #[_,_]=_
  rw [Ykk p w];rfl
 ·unfold Zec
  show (decide (0≤p)&&(decide (0≤w)&&(gcdW w p != 0)))=true
  rw [Ykk w p,hn,Q3 hp,Q3 (jA hw)];rfl
 ·unfold Zq8
  rw [hn,Q3 hp,Q3 (jA hw)];rfl
theorem Zqt (N:Nat) (a0:Array Value) (a1:Int):ansV PZ (mkΓ []) N Tryz.f91 [] [.g a0 71,.i .i64 (a1)] []=(some (.a (.i .i64 (i64.wrap ((num a0 1) - a1))),.none,true)):=by kernel_rfl
theorem Zpz (a0:Array Value) (a1:Int) (h_a0:WT PZ 71 a0) (h_a1:i64.min≤a1∧a1≤i64.max) (hg:(true)=true):ansV PZ (mkΓ []) 1000 Tryz.f91 [] [.g a0 71,.i .i64 (a1)] []=some (.a (.i .i64 (i64.wrap ((num a0 1) - a1))),.none,true):=by
 refine (Zqt 1000 a0 a1).trans ?_
 rfl
def Zgt:Con:=fun args h=>match args,h with
 | [.g a0 71,.i .i64 a1],[]=>some (.a (.i .i64 (i64.wrap ((num a0 1) - a1))),.none,true)
 | _,_=>none
theorem Zor:EntX PZ 91:=Zag (fn:=Tryz.f91) (by kernel_rfl) (by kernel_rfl) (by kernel_rfl)
theorem Zrz:Uab mn PZ 91 Zgt:=(Zaf (N:=1000) (by kernel_rfl) mkΓ_nilX (fn:=Tryz.f91) (by kernel_rfl) (by kernel_rfl) []).of (by
 intro ρ h w args vals r e hA hH hr
 unfold Zgt at hr
 split at hr
 ·rename_i a0 a1
  obtain ⟨rfl,rfl,hg2⟩:=BQi hr
  exact Zpz a0 a1 (hA.wt 0 rfl) (hA.rng 1 rfl) hg2
 ·cases hr)
def Zk8:Cons:=(mkΓ [(91,con Zgt),(92,con Zl3),(93,con Zjp)])
theorem Zpc (N:Nat) (a0 a1:Array Value) (bR:Option (Option Addr)) (nR:Nat) (aR:Array Value):ansV PZ Zk8 N Tryz.f65 [] [.r a0 105 [(2,0)],.g a1 82] [.sl (.came bR) nR aR 142]=(bif (decide (0≤(i64.wrap ((num (a0.extract 0 (0+2)) 1) - (i64.wrap (num a1 1)))))&&decide ((i64.wrap ((num (a0.extract 0 (0+2)) 1) - (i64.wrap (num a1 1))))<(nR:Int))) then (bif (decide (0≤(num a1 0))&&decide ((num a1 0)<36)) then (bif (decide (0≤(i64.wrap ((num (a0.extract 0 (0+2)) 1) - (i64.wrap (num a1 1)))))&&decide ((i64.wrap ((num (a0.extract 0 (0+2)) 1) - (i64.wrap (num a1 1))))≤14)) then (bif (Zec (num aR (((i64.wrap ((num (a0.extract 0 (0+2)) 1) - (i64.wrap (num a1 1)))).toNat*36)+((num a1 0).toNat*1))) (12^(i64.wrap ((num (a0.extract 0 (0+2)) 1) - (i64.wrap (num a1 1)))).toNat)) then (some (.a (.g (Zbp (num aR (((i64.wrap ((num (a0.extract 0 (0+2)) 1) - (i64.wrap (num a1 1)))).toNat*36)+((num a1 0).toNat*1))) (12^(i64.wrap ((num (a0.extract 0 (0+2)) 1) - (i64.wrap (num a1 1)))).toNat)) 34),.none,true))
     else (none))
    else (none))
   else (none))
  else (none)):=by kernel_rfl
def Zai (a0 a1:Array Value) (bR:Option (Option Addr)) (nR:Nat) (aR:Array Value):Array Value:=(Zbp (num aR (((i64.wrap ((num (a0.extract 0 (0+2)) 1) - (i64.wrap (num a1 1)))).toNat*36)+((num a1 0).toNat*1))) (12^(i64.wrap ((num (a0.extract 0 (0+2)) 1) - (i64.wrap (num a1 1)))).toNat))
def Za6 (a0 a1:Array Value) (bR:Option (Option Addr)) (nR:Nat) (aR:Array Value):Bool:=(bif (decide (0≤(i64.wrap ((num (a0.extract 0 (0+2)) 1) - (i64.wrap (num a1 1)))))&&decide ((i64.wrap ((num (a0.extract 0 (0+2)) 1) - (i64.wrap (num a1 1))))<(nR:Int))) then (bif (decide (0≤(num a1 0))&&decide ((num a1 0)<36)) then (bif (decide (0≤(i64.wrap ((num (a0.extract 0 (0+2)) 1) - (i64.wrap (num a1 1)))))&&decide ((i64.wrap ((num (a0.extract 0 (0+2)) 1) - (i64.wrap (num a1 1))))≤14)) then (Zec (num aR (((i64.wrap ((num (a0.extract 0 (0+2)) 1) - (i64.wrap (num a1 1)))).toNat*36)+((num a1 0).toNat*1))) (12^(i64.wrap ((num (a0.extract 0 (0+2)) 1) - (i64.wrap (num a1 1)))).toNat)) else false) else false) else false)
theorem Zo2 (a0 a1:Array Value) (bR:Option (Option Addr)) (nR:Nat) (aR:Array Value) (h_a0:WT PZ 105 a0) (h_a1:WT PZ 82 a1) (h_a0x2:SlT 142 nR aR) (hg:((Za6 a0 a1 bR nR aR))=true):ansV PZ Zk8 1000 Tryz.f65 [] [.r a0 105 [(2,0)],.g a1 82] [.sl (.came bR) nR aR 142]=some (.a (.g (Zai a0 a1 bR nR aR) 34),.none,true):=by
 refine (Zpc 1000 a0 a1 bR nR aR).trans ?_
 unfold Za6 at hg
 unfold Zai
 revert hg
 generalize (decide (0≤(i64.wrap ((num (a0.extract 0 (0+2)) 1) - (i64.wrap (num a1 1))))))=b2
 intro hg
 cases b2
 ·skip
  first | exact (nomatch (hg:false=true)) | (simp only [Q1,Q2,BQ6];done) | rfl
 ·skip
  revert hg
  generalize (decide ((i64.wrap ((num (a0.extract 0 (0+2)) 1) - (i64.wrap (num a1 1))))<(nR:Int)))=b4
  intro hg
  cases b4
  ·skip
   first | exact (nomatch (hg:false=true)) | (simp only [Q1,Q2,BQ6];done) | rfl
  ·skip
   revert hg
   generalize (decide (0≤(num a1 0)))=b6
   intro hg
   cases b6
   ·skip
    first | exact (nomatch (hg:false=true)) | (simp only [Q1,Q2,BQ6];done) | rfl
   ·skip
    revert hg
    generalize (decide ((num a1 0)<36))=b8
    intro hg
    cases b8
    ·skip
     first | exact (nomatch (hg:false=true)) | (simp only [Q1,Q2,BQ6];done) | rfl
    ·skip
     revert hg
     generalize (decide ((i64.wrap ((num (a0.extract 0 (0+2)) 1) - (i64.wrap (num a1 1))))≤14))=b10
     intro hg
     cases b10
     ·skip
      first | exact (nomatch (hg:false=true)) | (simp only [Q1,Q2,BQ6];done) | rfl
     ·skip
      revert hg
      generalize ((Zec (num aR (((i64.wrap ((num (a0.extract 0 (0+2)) 1) - (i64.wrap (num a1 1)))).toNat*36)+((num a1 0).toNat*1))) (12^(i64.wrap ((num (a0.extract 0 (0+2)) 1) - (i64.wrap (num a1 1)))).toNat)))=b12
      intro hg
      cases b12
      ·skip
       first | exact (nomatch (hg:false=true)) | (simp only [Q1,Q2,BQ6];done) | rfl
      ·skip
       first | (simp only [Q1,Q2,BQ6];done) | rfl | exact (nomatch (hg:false=true))
def Zf8:Con:=fun args h=>match args,h with
 | [.r a0 105 [(2,0)],.g a1 82],[.sl (.came bR) nR aR 142]=>some (.a (.g (Zai a0 a1 bR nR aR) 34),.none,(Za6 a0 a1 bR nR aR))
 | _,_=>none
theorem Zim:EntX PZ 65:=Zag (fn:=Tryz.f65) (by kernel_rfl) (by kernel_rfl) (by kernel_rfl)
theorem Zkv:Uab mn PZ 65 Zf8:=(Zaf (N:=1000) (by kernel_rfl) (mkΓ_consX (Zac Zrz) Zor (mkΓ_consX (Zac Yew) Zxc (mkΓ_consX (Zac Zyk) Ztb mkΓ_nilX))) (fn:=Tryz.f65) (by kernel_rfl) (by kernel_rfl) []).of (by
 intro ρ h w args vals r e hA hH hr
 unfold Zf8 at hr
 split at hr
 ·rename_i a0 a1 bR nR aR
  obtain ⟨rfl,rfl,hg2⟩:=BQi hr
  exact Zo2 a0 a1 bR nR aR (hA.wtr 0 rfl) (hA.wt 1 rfl) (hH.slw 0 rfl) hg2
 ·cases hr)
theorem Zwp (N:Nat) (a0:Int):ansV PZ (mkΓ []) N Tryz.f129 [] [.i .i64 (a0)] []=(some (.a (.b ((a0 != a0))),.none,true)):=by kernel_rfl
theorem Zut (a0:Int) (h_a0:i64.min≤a0∧a0≤i64.max) (hg:(true)=true):ansV PZ (mkΓ []) 1000 Tryz.f129 [] [.i .i64 (a0)] []=some (.a (.b ((a0 != a0))),.none,true):=by
 refine (Zwp 1000 a0).trans ?_
 rfl
def Zgz:Con:=fun args h=>match args,h with
 | [.i .i64 a0],[]=>some (.a (.b ((a0 != a0))),.none,true)
 | _,_=>none
theorem Ztp:EntX PZ 129:=Zag (fn:=Tryz.f129) (by kernel_rfl) (by kernel_rfl) (by kernel_rfl)
theorem Zxq:Uab mn PZ 129 Zgz:=(Zaf (N:=1000) (by kernel_rfl) mkΓ_nilX (fn:=Tryz.f129) (by kernel_rfl) (by kernel_rfl) []).of (by
 intro ρ h w args vals r e hA hH hr
 unfold Zgz at hr
 split at hr
 ·rename_i a0
  obtain ⟨rfl,rfl,hg2⟩:=BQi hr
  exact Zut a0 (hA.rng 0 rfl) hg2
 ·cases hr)
theorem Zs0 (N:Nat) (a0 a1:Int):ansV PZ (mkΓ [(129,con Zgz)]) N Tryz.f125 [] [.i .i64 (a0),.i .i64 (a1)] []=(bif (a0 != a0) then (bif (a1 != a1) then (some (.a (.i .i64 (0:Int)),.none,true))
      else (some (.a (.i .i64 (-1:Int)),.none,true)))
    else (bif (a1 != a1) then (some (.a (.i .i64 (1:Int)),.none,true))
      else (bif decide (a0<a1) then (some (.a (.i .i64 (-1:Int)),.none,true))
        else (bif decide (a0 > a1) then (some (.a (.i .i64 (1:Int)),.none,true))
          else (some (.a (.i .i64 (0:Int)),.none,true)))))):=by kernel_rfl
def Zam (a0 a1:Int):Int:=(bif (a0 != a0) then (bif (a1 != a1) then (0:Int) else (-1:Int)) else (bif (a1 != a1) then (1:Int) else (bif decide (a0<a1) then (-1:Int) else (bif decide (a0 > a1) then (1:Int) else (0:Int)))))
theorem Zrs (a0 a1:Int) (h_a0:i64.min≤a0∧a0≤i64.max) (h_a1:i64.min≤a1∧a1≤i64.max) (hg:(true)=true):ansV PZ (mkΓ [(129,con Zgz)]) 1000 Tryz.f125 [] [.i .i64 (a0),.i .i64 (a1)] []=some (.a (.i .i64 (Zam a0 a1)),.none,true):=by
 refine (Zs0 1000 a0 a1).trans ?_
 unfold Zam
 revert hg
 generalize ((a0 != a0))=b2
 intro hg
 cases b2
 ·skip
  revert hg
  generalize ((a1 != a1))=b4
  intro hg
  cases b4
  ·skip
   revert hg
   generalize (decide (a0<a1))=b6
   intro hg
   cases b6
   ·skip
    revert hg
    generalize (decide (a0 > a1))=b8
    intro hg
    cases b8
    ·skip
     first | (simp only [Q1,Q2,BQ6];done) | rfl | exact (nomatch (hg:false=true))
    ·skip
     first | (simp only [Q1,Q2,BQ6];done) | rfl | exact (nomatch (hg:false=true))
   ·skip
    first | (simp only [Q1,Q2,BQ6];done) | rfl | exact (nomatch (hg:false=true))
  ·skip
   first | (simp only [Q1,Q2,BQ6];done) | rfl | exact (nomatch (hg:false=true))
 ·skip
  revert hg
  generalize ((a1 != a1))=b4
  intro hg
  cases b4
  ·skip
   first | (simp only [Q1,Q2,BQ6];done) | rfl | exact (nomatch (hg:false=true))
  ·skip
   first | (simp only [Q1,Q2,BQ6];done) | rfl | exact (nomatch (hg:false=true))
def Zfv:Con:=fun args h=>match args,h with
 | [.i .i64 a0,.i .i64 a1],[]=>some (.a (.i .i64 (Zam a0 a1)),.none,true)
 | _,_=>none
theorem Zqy:EntX PZ 125:=Zag (fn:=Tryz.f125) (by kernel_rfl) (by kernel_rfl) (by kernel_rfl)
theorem Zux:Uab mn PZ 125 Zfv:=(Zaf (N:=1000) (by kernel_rfl) (mkΓ_consX (Zac Zxq) Ztp mkΓ_nilX) (fn:=Tryz.f125) (by kernel_rfl) (by kernel_rfl) []).of (by
 intro ρ h w args vals r e hA hH hr
 unfold Zfv at hr
 split at hr
 ·rename_i a0 a1
  obtain ⟨rfl,rfl,hg2⟩:=BQi hr
  exact Zrs a0 a1 (hA.rng 0 rfl) (hA.rng 1 rfl) hg2
 ·cases hr)
theorem Zlk (N:Nat) (a0 a1:Array Value):ansV PZ (mkΓ [(125,con Zfv)]) N Tryz.f112 [] [.g a0 197,.g a1 197] []=(some (.a (.i .i64 (Zam (i64.wrap ((num a0 0)*(num a1 1))) (i64.wrap ((num a1 0)*(num a0 1))))),.none,true)):=by kernel_rfl
theorem Zk6 (a0 a1:Array Value) (h_a0:WT PZ 197 a0) (h_a1:WT PZ 197 a1) (hg:(true)=true):ansV PZ (mkΓ [(125,con Zfv)]) 1000 Tryz.f112 [] [.g a0 197,.g a1 197] []=some (.a (.i .i64 (Zam (i64.wrap ((num a0 0)*(num a1 1))) (i64.wrap ((num a1 0)*(num a0 1))))),.none,true):=by
 refine (Zlk 1000 a0 a1).trans ?_
 rfl
def Zd3:Con:=fun args h=>match args,h with
 | [.g a0 197,.g a1 197],[]=>some (.a (.i .i64 (Zam (i64.wrap ((num a0 0)*(num a1 1))) (i64.wrap ((num a1 0)*(num a0 1))))),.none,true)
 | _,_=>none
theorem Zko:EntX PZ 112:=Zag (fn:=Tryz.f112) (by kernel_rfl) (by kernel_rfl) (by kernel_rfl)
theorem Zlw:Uab mn PZ 112 Zd3:=(Zaf (N:=1000) (by kernel_rfl) (mkΓ_consX (Zac Zux) Zqy mkΓ_nilX) (fn:=Tryz.f112) (by kernel_rfl) (by kernel_rfl) []).of (by
 intro ρ h w args vals r e hA hH hr
 unfold Zd3 at hr
 split at hr
 ·rename_i a0 a1
  obtain ⟨rfl,rfl,hg2⟩:=BQi hr
  exact Zk6 a0 a1 (hA.wt 0 rfl) (hA.wt 1 rfl) hg2
 ·cases hr)
def Zre:Cons:=(mkΓ [(112,con (rel PZ [197,197] Zd3))])
theorem Zyc (N:Nat) (a0 a1:Array Value):ansV PZ Zre N Tryz.f90 [] [.g a0 34,.g a1 34] []=(some (.a (.b (decide ((Zam (i64.wrap ((num a0 0)*(num a1 1))) (i64.wrap ((num a1 0)*(num a0 1)))) > (0:Int)))),.none,true)):=by kernel_rfl
theorem Zwz (a0 a1:Array Value) (h_a0:WT PZ 34 a0) (h_a1:WT PZ 34 a1) (hg:(true)=true):ansV PZ Zre 1000 Tryz.f90 [] [.g a0 34,.g a1 34] []=some (.a (.b (decide ((Zam (i64.wrap ((num a0 0)*(num a1 1))) (i64.wrap ((num a1 0)*(num a0 1)))) > (0:Int)))),.none,true):=by
 refine (Zyc 1000 a0 a1).trans ?_
 rfl
def Zks:Con:=fun args h=>match args,h with
 | [.g a0 34,.g a1 34],[]=>some (.a (.b (decide ((Zam (i64.wrap ((num a0 0)*(num a1 1))) (i64.wrap ((num a1 0)*(num a0 1)))) > (0:Int)))),.none,true)
 | _,_=>none
theorem Zmq:EntX PZ 90:=Zag (fn:=Tryz.f90) (by kernel_rfl) (by kernel_rfl) (by kernel_rfl)
theorem Zpj:Uab mn PZ 90 Zks:=(Zaf (N:=1000) (by kernel_rfl) (mkΓ_consX (Zac (rel_okX [197,197] Zlw)) Zko mkΓ_nilX) (fn:=Tryz.f90) (by kernel_rfl) (by kernel_rfl) []).of (by
 intro ρ h w args vals r e hA hH hr
 unfold Zks at hr
 split at hr
 ·rename_i a0 a1
  obtain ⟨rfl,rfl,hg2⟩:=BQi hr
  exact Zwz a0 a1 (hA.wt 0 rfl) (hA.wt 1 rfl) hg2
 ·cases hr)
theorem Ykp {p w:Int} (hp:0≤p) (hw:0<w):∃ g p' w',gcdW p w=g∧0<g∧p=g*p'∧w=g*w'∧0≤p'∧0<w'∧p'≤p∧w'≤w∧p.tdiv (gcdW p w)=p'∧w.tdiv (gcdW p w)=w':=by
 obtain ⟨p',e1⟩:=Int.gcd_dvd_left p w
 obtain ⟨w',e2⟩:=Int.gcd_dvd_right p w
 have hg:gcdW p w=(Int.gcd p w:Int):=rfl
 have h0:0<gcdW p w:=by
  have:=Yo1 (a:=p) hw
  rw [bne_iff_ne] at this
  have:0≤gcdW p w:=by rw [hg];exact Int.natCast_nonneg _
  omega
 rw [← hg] at e1 e2
 generalize gcdW p w=g at *
 have hw':0<w':=by
  by_cases h:0<w'
  ·exact h
  ·have:=Int.mul_nonneg (jA h0) (show 0 ≤ -w' by omega)
   rw [Int.mul_neg] at this
   omega
 have hp':0≤p':=by
  by_cases h:0≤p'
  ·exact h
  ·have:=Int.mul_pos h0 (show 0 < -p' by omega)
   rw [Int.mul_neg] at this
   omega
 have l1:p'≤g*p':=by
  have:=Int.mul_le_mul_of_nonneg_right (show 1≤g by omega) hp'
  omega
 have l2:w'≤g*w':=by
  have:=Int.mul_le_mul_of_nonneg_right (show 1≤g by omega) (jA hw')
  omega
 refine ⟨g,p',w',rfl,h0,e1,e2,hp',hw',by omega,by omega, ?_, ?_⟩
 ·rw [e1];exact Int.mul_tdiv_cancel_left _ (by omega)
 ·rw [e2];exact Int.mul_tdiv_cancel_left _ (by omega)
theorem cmp_gt (x y:Int):decide (Zam x y > (0:Int))=decide (y<x):=by
 unfold Zam
 rw [show (x != x)=false from bne_self_eq_false _,show (y != y)=false from bne_self_eq_false _,Q2,Q2]
 by_cases h:y<x
 ·rw [Q4 (show ¬ x<y by omega),Q3 (show x > y by omega)];rfl
 ·rw [Q4 (show ¬ x > y by omega)]
  cases decide (x<y)<;>rfl
theorem share_gt {p w q v:Int} (hp:0≤p∧p≤429981696) (hw:0<w∧w≤429981696) (hq:0≤q∧q≤429981696) (hv:0<v∧v≤429981696) :
  decide (Zam (i64.wrap (num (Zbp p w) 0*num (Zbp q v) 1)) (i64.wrap (num (Zbp q v) 0*num (Zbp p w) 1)) > (0:Int))=decide (q*w<p*v):=by
 rw [(Yh4 hp.1 hw.1).1,(Yh4 hq.1 hv.1).1]
 obtain ⟨g,p',w',-,g0,ep,ew,p0,w0,pl,wl,tp,tw⟩:=Ykp hp.1 hw.1
 obtain ⟨k,q',v',-,k0,eq,ev,q0,v0,ql,vl,tq,tv⟩:=Ykp hq.1 hv.1
 rw [tp,tw,tq,tv]
 show decide (Zam (i64.wrap (i64.wrap p'*i64.wrap v')) (i64.wrap (i64.wrap q'*i64.wrap w')) > (0:Int))=_
 rw [IntWalk.i64_in p' (by omega),IntWalk.i64_in v' (by omega),IntWalk.i64_in q' (by omega),IntWalk.i64_in w' (by omega)]
 have b1:0≤p'*v'∧p'*v'≤429981696*429981696:=⟨Int.mul_nonneg p0 (jA v0),Int.mul_le_mul (by omega) (by omega) (jA v0) (by omega)⟩
 have b2:0≤q'*w'∧q'*w'≤429981696*429981696:=⟨Int.mul_nonneg q0 (jA w0),Int.mul_le_mul (by omega) (by omega) (jA w0) (by omega)⟩
 rw [IntWalk.i64_in (p'*v') (by omega),IntWalk.i64_in (q'*w') (by omega)]
 have hgk:0<g*k:=Int.mul_pos g0 k0
 have e1:q*w=(g*k)*(q'*w'):=by rw [eq,ew];simp only [Int.mul_assoc,Int.mul_comm,Int.mul_left_comm]
 have e2:p*v=(g*k)*(p'*v'):=by rw [ep,ev];simp only [Int.mul_assoc,Int.mul_comm,Int.mul_left_comm]
 have hiff:q*w<p*v ↔ q'*w'<p'*v':=by
  rw [e1,e2]
  exact ⟨fun h=>Int.lt_of_mul_lt_mul_left h (jA hgk),fun h=>Int.mul_lt_mul_of_pos_left h hgk⟩
 rw [decide_eq_decide.2 hiff]
 exact cmp_gt _ _
def lfP (V X:Array Value):Int:=i64.wrap (num (V.extract 0 (0+2)) 1 - i64.wrap (num X 1))
def shP (V R X:Array Value):Int:=num R ((lfP V X).toNat*36+(num X 0).toNat*1)
def okP (V:Array Value) (n:Nat) (R X:Array Value):Bool:=(decide (0≤lfP V X)&&decide (lfP V X<(n:Int)))&&((decide (0≤lfP V X)&&decide (lfP V X≤8))&&((decide (0≤num X 0)&&decide (num X 0<36))&&(decide (0≤shP V R X)&&decide (shP V R X≤429981696))))
theorem Yhk {V R X:Array Value} {n:Nat}:okP V n R X=true ↔ (0≤lfP V X∧lfP V X<(n:Int))∧(0≤lfP V X∧lfP V X≤8)∧(0≤num X 0∧num X 0<36)∧(0≤shP V R X∧shP V R X≤429981696):=by
 unfold okP
 simp only [Q7,decide_eq_true_eq]
def gtP (V R X Y:Array Value):Bool:=decide (shP V R Y*12^(lfP V X).toNat<shP V R X*12^(lfP V Y).toNat)
theorem Zt1 {V R X:Array Value} {bb:Option (Option Addr)} {n:Nat} (h:okP V n R X=true):Za6 V X bb n R=true∧Zai V X bb n R=Zbp (shP V R X) (12^(lfP V X).toNat):=by
 obtain ⟨h1,h2,h3,h4⟩:=Yhk.1 h
 have hp:=Zto (n:=(lfP V X).toNat) (by omega)
 refine ⟨?_,rfl⟩
 have hsd:=(Yh4 (p:=shP V R X) (w:=12^(lfP V X).toNat) h4.1 (by omega)).2.1
 unfold shP lfP at hsd
 unfold lfP at h1 h2
 unfold Za6
 rw [dec2 h1.1 h1.2,dec2 h3.1 h3.2,Q3 h2.1,Q3 (show i64.wrap (num (V.extract 0 (0+2)) 1 - i64.wrap (num X 1))≤14 by omega)]
 exact hsd
theorem gt_ok {V R X Y:Array Value} {bb:Option (Option Addr)} {n:Nat} (hX:okP V n R X=true) (hY:okP V n R Y=true):decide (Zam (i64.wrap (num (Zai V X bb n R) 0*num (Zai V Y bb n R) 1)) (i64.wrap (num (Zai V Y bb n R) 0*num (Zai V X bb n R) 1)) > (0:Int))=gtP V R X Y:=by
 rw [(Zt1 (bb:=bb) hX).2,(Zt1 (bb:=bb) hY).2]
 obtain ⟨-,a2,-,a4⟩:=Yhk.1 hX
 obtain ⟨-,b2,-,b4⟩:=Yhk.1 hY
 exact share_gt a4 (Zto (by omega)) b4 (Zto (by omega))
def allP (V:Array Value) (n:Nat) (R:Array Value) (m:Nat) (A:Array Value):Bool:=(List.range m).all fun k=>okP V n R (A.extract (k*3) (k*3+3))
theorem Zx1 {V R A:Array Value} {n m:Nat}:allP V n R m A=true ↔ ∀ k,k<m→okP V n R (A.extract (k*3) (k*3+3))=true:=by
 unfold allP
 rw [List.all_eq_true]
 exact ⟨fun h k hk=>h k (List.mem_range.2 hk),fun h k hk=>h k (List.mem_range.1 hk)⟩
def Ua2 (gt:Nat→Nat→Bool) (A:Array Value):Nat→Int
 | 0=> -1
 | k+1=>bif decide (num (A.extract (k*3) (k*3+3)) 2<(200:Int)) then (bif decide (Ua2 gt A k<(0:Int)) then (k:Int) else (bif gt k (Ua2 gt A k).toNat then (k:Int) else Ua2 gt A k)) else Ua2 gt A k
theorem Zog (gt:Nat→Nat→Bool) (A:Array Value):∀ k,-1≤Ua2 gt A k∧Ua2 gt A k<(k:Int)
 | 0=>⟨Int.le_refl _,by show (-1:Int)<((0:Nat):Int);omega⟩
 | k+1=>by
  have h:=Zog gt A k
  rw [Ua2]
  cases decide (num (A.extract (k*3) (k*3+3)) 2<(200:Int)) with
  | false=>rw [Q2];omega
  | true=>
   rw [Q1]
   cases decide (Ua2 gt A k<(0:Int)) with
   | true=>rw [Q1];omega
   | false=>
    rw [Q2]
    cases gt k (Ua2 gt A k).toNat with
    | true=>rw [Q1];omega
    | false=>rw [Q2];omega
theorem Yem {gt gt':Nat→Nat→Bool} {A:Array Value}:∀ n,(∀ i j,i<n→j<n→gt i j=gt' i j)→Ua2 gt A n=Ua2 gt' A n
 | 0,_=>rfl
 | k+1,h=>by
  rw [Ua2,Ua2,Yem k fun i j hi hj=>h i j (by omega) (by omega)]
  have hin:=Zog gt' A k
  by_cases hz:Ua2 gt' A k<0
  ·rw [Q3 hz,Q1,Q1]
  ·rw [h k (Ua2 gt' A k).toNat (by omega) (by omega)]
def gtA (V R A:Array Value) (i j:Nat):Bool:=gtP V R (A.extract (i*3) (i*3+3)) (A.extract (j*3) (j*3+3))
def Uas (V R A:Array Value) (n:Nat):Int:=Ua2 (gtA V R A) A n
def Zb7:Cons:=(mkΓ [(65,con Zf8),(90,con Zks)])
def Zcv (a0:Array Value) (bR:Option (Option Addr)) (nR:Nat) (aR:Array Value) (b_a1:Option (Option Addr)) (n_a1:Nat) (a1:Array Value):St:=(⟨.a (.r a0 105 [(2,0)]) :: .a (.l 1) :: .a (.w 2) :: .a (.u) :: .a (.i .i64 (0:Int)) :: .a (.v (.nilIface)) :: .a (.i .i64 (-1:Int)) :: .a (.u) :: .a (.u) :: .a (.l 1) :: .a (.i .i64 (n_a1:Int)) :: .a (.i .i64 (0:Int))::us 29 ([]),[.sl (.came bR) nR aR 142,.sl (.came b_a1) n_a1 a1 82,.one (.r a0 105 [(2,0)]) 105,.no,.no],[]⟩:St)
def Zdx:Int×Int→LS
 | (y0_6,y0_11)=>([.a (.i .i64 (y0_6)),.a (.i .i64 (y0_11))],[])
def Zhn:Int×Int→Exit×LS
 | t=>((.exit 0),Zdx t)
def Zav (P:Program) (a0:Array Value) (bR:Option (Option Addr)) (nR:Nat) (aR:Array Value) (b_a1:Option (Option Addr)) (n_a1:Nat) (a1:Array Value):Int×Int→Option (Stp (Int×Int) (Int×Int))
  | (y0_6,y0_11)=>bif decide (y0_11<(n_a1:Int)) then (bif (decide (0≤y0_11)&&decide (y0_11<(n_a1:Int))) then (bif decide ((num (a1.extract ((y0_11).toNat*3) (((y0_11).toNat*3)+3)) 2)<(200:Int)) then (bif decide (y0_6<(0:Int)) then (some (.more (y0_11,(i64.wrap (y0_11+(1:Int))))))
          else (bif (Za6 a0 (a1.extract ((y0_11).toNat*3) (((y0_11).toNat*3)+3)) bR nR aR) then (bif (decide (0≤y0_6)&&decide (y0_6<(n_a1:Int))) then (bif (Za6 a0 (a1.extract ((y0_6).toNat*3) (((y0_6).toNat*3)+3)) bR nR aR) then (bif decide ((Zam (i64.wrap ((num (Zai a0 (a1.extract ((y0_11).toNat*3) (((y0_11).toNat*3)+3)) bR nR aR) 0)*(num (Zai a0 (a1.extract ((y0_6).toNat*3) (((y0_6).toNat*3)+3)) bR nR aR) 1))) (i64.wrap ((num (Zai a0 (a1.extract ((y0_6).toNat*3) (((y0_6).toNat*3)+3)) bR nR aR) 0)*(num (Zai a0 (a1.extract ((y0_11).toNat*3) (((y0_11).toNat*3)+3)) bR nR aR) 1)))) > (0:Int)) then (some (.more (y0_11,(i64.wrap (y0_11+(1:Int))))))
                  else (some (.more (y0_6,(i64.wrap (y0_11+(1:Int)))))))
                else (none))
              else (none))
            else (none)))
        else (some (.more (y0_6,(i64.wrap (y0_11+(1:Int)))))))
      else (none))
    else (some (.done (y0_6,y0_11)))
def Uef:=(Uaf (codeOf Tryz.f64) [([6,11],[])]).1
theorem Zrn (N:Nat) (a0:Array Value) (bR:Option (Option Addr)) (nR:Nat) (aR:Array Value) (b_a1:Option (Option Addr)) (n_a1:Nat) (a1:Array Value):∀ t:Int×Int,Uag PZ Zb7 N (cAt (codeOf Tryz.f64) [1,1,0,1,0,0]) (pAt Uef [1,1,0,1,0]) [6,11] [] (Zcv a0 bR nR aR b_a1 n_a1 a1) (Zdx t)=mapS Zdx Zhn (Zav PZ a0 bR nR aR b_a1 n_a1 a1 t):=by
  rintro ⟨y0_6,y0_11⟩
  refine Eq.trans (b:=(bif decide (y0_11<(n_a1:Int)) then (bif (decide (0≤y0_11)&&decide (y0_11<(n_a1:Int))) then (bif decide ((num (a1.extract ((y0_11).toNat*3) (((y0_11).toNat*3)+3)) 2)<(200:Int)) then (bif decide (y0_6<(0:Int)) then (some (.more ([.a (.i .i64 (y0_11)),.a (.i .i64 (i64.wrap (y0_11+(1:Int))))],[])))
          else (bif (Za6 a0 (a1.extract ((y0_11).toNat*3) (((y0_11).toNat*3)+3)) bR nR aR) then (bif (decide (0≤y0_6)&&decide (y0_6<(n_a1:Int))) then (bif (Za6 a0 (a1.extract ((y0_6).toNat*3) (((y0_6).toNat*3)+3)) bR nR aR) then (bif decide ((Zam (i64.wrap ((num (Zai a0 (a1.extract ((y0_11).toNat*3) (((y0_11).toNat*3)+3)) bR nR aR) 0)*(num (Zai a0 (a1.extract ((y0_6).toNat*3) (((y0_6).toNat*3)+3)) bR nR aR) 1))) (i64.wrap ((num (Zai a0 (a1.extract ((y0_6).toNat*3) (((y0_6).toNat*3)+3)) bR nR aR) 0)*(num (Zai a0 (a1.extract ((y0_11).toNat*3) (((y0_11).toNat*3)+3)) bR nR aR) 1)))) > (0:Int)) then (some (.more ([.a (.i .i64 (y0_11)),.a (.i .i64 (i64.wrap (y0_11+(1:Int))))],[])))
                  else (some (.more ([.a (.i .i64 (y0_6)),.a (.i .i64 (i64.wrap (y0_11+(1:Int))))],[]))))
                else (none))
              else (none))
            else (none)))
        else (some (.more ([.a (.i .i64 (y0_6)),.a (.i .i64 (i64.wrap (y0_11+(1:Int))))],[]))))
      else (none))
    else (some (.done ((.exit 0),([.a (.i .i64 (y0_6)),.a (.i .i64 (y0_11))],[])))))) (by kernel_rfl) ?_
  simp only [Zav,Zaz,Zay,Za1,Za0,Zdx,Zhn]
def Zbh (P:Program) (N:Nat) (a0:Array Value) (bR:Option (Option Addr)) (nR:Nat) (aR:Array Value) (b_a1:Option (Option Addr)) (n_a1:Nat) (a1:Array Value) (z0_6:Int) (z0_11:Int):Option (SV×Eff×Bool):=bif decide (z0_6<(0:Int)) then (some (.t [.i .i64 (0:Int),.v (.iface 117 (.int .i64 (6:Int)))],.none,true))
  else (some (.t [.i .i64 (z0_6),.v (.nilIface)],.none,true))
def Ufy (N:Nat) (bR:Option (Option Addr)) (nR:Nat) (aR:Array Value) (b_a1:Option (Option Addr)) (n_a1:Nat) (a1:Array Value):=(Uan 0 (kSeq (veC PZ Zb7 N (cAt (codeOf Tryz.f64) [1,1,1]) (pAt Uef [1,1,1]) (SV×Eff×Bool)) (finK PZ [.sl (.came bR) nR aR 142,.sl (.came b_a1) n_a1 a1 82] [.tmp 4,.tmp 5])))
theorem Znu (N:Nat) (a0:Array Value) (bR:Option (Option Addr)) (nR:Nat) (aR:Array Value) (b_a1:Option (Option Addr)) (n_a1:Nat) (a1:Array Value) (z0_6:Int) (z0_11:Int):(Ufy N bR nR aR b_a1 n_a1 a1) (.exit 0) (left (writes (cAt (codeOf Tryz.f64) [1,1,0,1,0,0])) [6,11] [] (Zcv a0 bR nR aR b_a1 n_a1 a1) ([.a (.i .i64 (z0_6)),.a (.i .i64 (z0_11))],[]))=Zbh PZ N a0 bR nR aR b_a1 n_a1 a1 z0_6 z0_11:=by
 refine Eq.trans (b:=(bif decide (z0_6<(0:Int)) then (some (.t [.i .i64 (0:Int),.v (.iface 117 (.int .i64 (6:Int)))],.none,true))
  else (some (.t [.i .i64 (z0_6),.v (.nilIface)],.none,true)))) (by kernel_rfl) ?_
 rfl
theorem Zru (N:Nat) (a0:Array Value) (bR:Option (Option Addr)) (nR:Nat) (aR:Array Value) (b_a1:Option (Option Addr)) (n_a1:Nat) (a1:Array Value):Uah (Uaa (Uag PZ Zb7 N (cAt (codeOf Tryz.f64) [1,1,0,1,0,0]) (pAt Uef [1,1,0,1,0]) [6,11] [] (Zcv a0 bR nR aR b_a1 n_a1 a1)) N ([.a (.i .i64 (-1:Int)),.a (.i .i64 (0:Int))],[])) (fun e s=>(Ufy N bR nR aR b_a1 n_a1 a1) e (left (writes (cAt (codeOf Tryz.f64) [1,1,0,1,0,0])) [6,11] [] (Zcv a0 bR nR aR b_a1 n_a1 a1) s))=Uak (Uaa (Zav PZ a0 bR nR aR b_a1 n_a1 a1) N ((-1:Int),(0:Int))) (fun x=>Zbh PZ N a0 bR nR aR b_a1 n_a1 a1 x.1 x.2):=by
 refine Zbd Zdx Zhn _ _ (Zrn N a0 bR nR aR b_a1 n_a1 a1) N ((-1:Int),(0:Int)) _ _ ?_
 intro x;exact Znu N a0 bR nR aR b_a1 n_a1 a1 x.1 x.2
theorem Zkt (N:Nat) (a0:Array Value) (bR:Option (Option Addr)) (nR:Nat) (aR:Array Value) (b_a1:Option (Option Addr)) (n_a1:Nat) (a1:Array Value):ansV PZ Zb7 N Tryz.f64 [([6,11],[])] [.r a0 105 [(2,0)],.l 1] [.sl (.came bR) nR aR 142,.sl (.came b_a1) n_a1 a1 82]=(Uak (Uaa (Zav PZ a0 bR nR aR b_a1 n_a1 a1) N ((-1:Int),(0:Int))) (fun x=>Zbh PZ N a0 bR nR aR b_a1 n_a1 a1 x.1 x.2)):=by
 refine Eq.trans (b:=(Uah (Uaa (Uag PZ Zb7 N (cAt (codeOf Tryz.f64) [1,1,0,1,0,0]) (pAt Uef [1,1,0,1,0]) [6,11] [] (Zcv a0 bR nR aR b_a1 n_a1 a1)) N ([.a (.i .i64 (-1:Int)),.a (.i .i64 (0:Int))],[])) (fun e s=>(Ufy N bR nR aR b_a1 n_a1 a1) e (left (writes (cAt (codeOf Tryz.f64) [1,1,0,1,0,0])) [6,11] [] (Zcv a0 bR nR aR b_a1 n_a1 a1) s)))) (by kernel_rfl) ?_
 simp only [Zru N a0 bR nR aR b_a1 n_a1 a1]
theorem Zo8 (a0:Array Value) (bR:Option (Option Addr)) (nR:Nat) (aR:Array Value) (b_a1:Option (Option Addr)) (n_a1:Nat) (a1:Array Value) (h_a0:WT PZ 105 a0) (h_a0x2:SlT 142 nR aR) (h_a1:SlT 82 n_a1 a1) (hc0:(decide ((Uas a0 aR a1 n_a1)<(0:Int)))=false) (hg:((allP a0 nR aR n_a1 a1))=true):ansV PZ Zb7 18446744073709551616 Tryz.f64 [([6,11],[])] [.r a0 105 [(2,0)],.l 1] [.sl (.came bR) nR aR 142,.sl (.came b_a1) n_a1 a1 82]=some (.t [.i .i64 (Uas a0 aR a1 n_a1),.v (.nilIface)],.none,true):=by
 have hn:=h_a1.2.2
 have hall:=Zx1.1 hg
 refine (Zkt 18446744073709551616 a0 bR nR aR b_a1 n_a1 a1).trans ?_
 have hit:Uaa (Zav PZ a0 bR nR aR b_a1 n_a1 a1) 18446744073709551616 ((-1:Int),(0:Int))=some ((Uas a0 aR a1 n_a1),(n_a1:Int)):=by
  exact Zcc (g:=Zav PZ a0 bR nR aR b_a1 n_a1 a1) (fun k=>(Uas a0 aR a1 k,(k:Int))) (m:=n_a1) (x:=(Uas a0 aR a1 n_a1,(n_a1:Int))) (N:=18446744073709551616) (fun k hk=>by
   have h1:decide ((k:Int)<(n_a1:Int))=true:=Q3 (by omega)
   have h0:decide (0≤(k:Int))=true:=Q3 (by omega)
   have h3:i64.wrap ((k:Int)+1)=((k+1:Nat):Int):=by rw [IntWalk.i64_in _ (by omega)];omega
   have hin:=Zog (gtA a0 aR a1) a1 k
   have e1:Uas a0 aR a1 (k+1)=bif decide (num (a1.extract (k*3) (k*3+3)) 2<(200:Int)) then (bif decide (Uas a0 aR a1 k<(0:Int)) then (k:Int) else (bif gtA a0 aR a1 k (Uas a0 aR a1 k).toNat then (k:Int) else Uas a0 aR a1 k)) else Uas a0 aR a1 k:=rfl
   have hb: -1≤Uas a0 aR a1 k∧Uas a0 aR a1 k<(k:Int):=hin
   rw [e1]
   clear e1 hin
   generalize Uas a0 aR a1 k=z at hb⊢
   simp only [Zav,h1,h0,h3,Q9,Bool.and_self,Q1]
   cases decide (num (a1.extract (k*3) (k*3+3)) 2<(200:Int)) with
   | false=>simp only [Q2]
   | true=>
    by_cases hz:z<0
    ·simp only [Q3 hz,Q1]
    ·have hk1:=hall k hk
     have hk2:=hall z.toNat (by omega)
     simp only [Q4 hz,Q1,Q2,dec2 (show 0≤z by omega) (show z<(n_a1:Int) by omega),(Zt1 (bb:=bR) hk1).1,(Zt1 (bb:=bR) hk2).1,gt_ok (bb:=bR) hk1 hk2]
     unfold gtA
     cases gtP a0 aR (a1.extract (k*3) (k*3+3)) (a1.extract (z.toNat*3) (z.toNat*3+3))<;>simp only [Q1,Q2]) (by
   have h1:decide ((n_a1:Int)<(n_a1:Int))=false:=Q4 (by omega)
   simp only [Zav,h1,Q2]) (by omega)
 rw [hit]
 show Zbh PZ 18446744073709551616 a0 bR nR aR b_a1 n_a1 a1 (Uas a0 aR a1 n_a1) (n_a1:Int)=_
 unfold Zbh
 rw [hc0]
 rfl
theorem Zo0 (a0:Array Value) (bR:Option (Option Addr)) (nR:Nat) (aR:Array Value) (b_a1:Option (Option Addr)) (n_a1:Nat) (a1:Array Value) (h_a0:WT PZ 105 a0) (h_a0x2:SlT 142 nR aR) (h_a1:SlT 82 n_a1 a1) (hc0:(decide ((Uas a0 aR a1 n_a1)<(0:Int)))=true) (hg:((allP a0 nR aR n_a1 a1))=true):ansV PZ Zb7 18446744073709551616 Tryz.f64 [([6,11],[])] [.r a0 105 [(2,0)],.l 1] [.sl (.came bR) nR aR 142,.sl (.came b_a1) n_a1 a1 82]=some (.t [.i .i64 (0:Int),.v (.iface 117 (.int .i64 (6:Int)))],.none,true):=by
 have hn:=h_a1.2.2
 have hall:=Zx1.1 hg
 refine (Zkt 18446744073709551616 a0 bR nR aR b_a1 n_a1 a1).trans ?_
 have hit:Uaa (Zav PZ a0 bR nR aR b_a1 n_a1 a1) 18446744073709551616 ((-1:Int),(0:Int))=some ((Uas a0 aR a1 n_a1),(n_a1:Int)):=by
  exact Zcc (g:=Zav PZ a0 bR nR aR b_a1 n_a1 a1) (fun k=>(Uas a0 aR a1 k,(k:Int))) (m:=n_a1) (x:=(Uas a0 aR a1 n_a1,(n_a1:Int))) (N:=18446744073709551616) (fun k hk=>by
   have h1:decide ((k:Int)<(n_a1:Int))=true:=Q3 (by omega)
   have h0:decide (0≤(k:Int))=true:=Q3 (by omega)
   have h3:i64.wrap ((k:Int)+1)=((k+1:Nat):Int):=by rw [IntWalk.i64_in _ (by omega)];omega
   have hin:=Zog (gtA a0 aR a1) a1 k
   have e1:Uas a0 aR a1 (k+1)=bif decide (num (a1.extract (k*3) (k*3+3)) 2<(200:Int)) then (bif decide (Uas a0 aR a1 k<(0:Int)) then (k:Int) else (bif gtA a0 aR a1 k (Uas a0 aR a1 k).toNat then (k:Int) else Uas a0 aR a1 k)) else Uas a0 aR a1 k:=rfl
   have hb: -1≤Uas a0 aR a1 k∧Uas a0 aR a1 k<(k:Int):=hin
   rw [e1]
   clear e1 hin
   generalize Uas a0 aR a1 k=z at hb⊢
   simp only [Zav,h1,h0,h3,Q9,Bool.and_self,Q1]
   cases decide (num (a1.extract (k*3) (k*3+3)) 2<(200:Int)) with
   | false=>simp only [Q2]
   | true=>
    by_cases hz:z<0
    ·simp only [Q3 hz,Q1]
    ·have hk1:=hall k hk
     have hk2:=hall z.toNat (by omega)
     simp only [Q4 hz,Q1,Q2,dec2 (show 0≤z by omega) (show z<(n_a1:Int) by omega),(Zt1 (bb:=bR) hk1).1,(Zt1 (bb:=bR) hk2).1,gt_ok (bb:=bR) hk1 hk2]
     unfold gtA
     cases gtP a0 aR (a1.extract (k*3) (k*3+3)) (a1.extract (z.toNat*3) (z.toNat*3+3))<;>simp only [Q1,Q2]) (by
   have h1:decide ((n_a1:Int)<(n_a1:Int))=false:=Q4 (by omega)
   simp only [Zav,h1,Q2]) (by omega)
 rw [hit]
 show Zbh PZ 18446744073709551616 a0 bR nR aR b_a1 n_a1 a1 (Uas a0 aR a1 n_a1) (n_a1:Int)=_
 unfold Zbh
 rw [hc0]
 rfl
def Zgl:SCon:=fun args h=>match args,h with
 | [.r a0 105 [(2,0)],.l 1],[.sl (.came bR) nR aR 142,.sl (.came b_a1) n_a1 a1 82]=>.two (decide ((Uas a0 aR a1 n_a1)<(0:Int))) (.one (some (.t [.i .i64 (0:Int),.v (.iface 117 (.int .i64 (6:Int)))],.none,(allP a0 nR aR n_a1 a1)))) (.one (some (.t [.i .i64 (Uas a0 aR a1 n_a1),.v (.nilIface)],.none,(allP a0 nR aR n_a1 a1))))
 | _,_=>.one none
theorem Zi2:EntX PZ 64:=Zag (fn:=Tryz.f64) (by kernel_rfl) (by kernel_rfl) (by kernel_rfl)
theorem Zkh:Uab mn PZ 64 (fun args h=>Uac (Zgl args h)):=by
 intro ρ h w args vals r e hn hr hA hH
 dsimp only at hr
 unfold Zgl at hr
 split at hr
 ·rename_i a0 bR nR aR b_a1 n_a1 a1
  simp only [Uac] at hr
  cases hc0:(decide ((Uas a0 aR a1 n_a1)<(0:Int)))
  ·rw [hc0] at hr
   simp only [Uac,Q1,Q2] at hr
   obtain ⟨rfl,rfl,hg2⟩:=BQi hr
   exact ((Zaf (N:=18446744073709551616) (by kernel_rfl) (mkΓ_consX (Zac Zkv) Zim (mkΓ_consX (Zac Zpj) Zmq mkΓ_nilX)) (fn:=Tryz.f64) (by kernel_rfl) (by kernel_rfl) [([6,11],[])])) ρ _ w _ vals _ _ hn ((Zo8 a0 bR nR aR b_a1 n_a1 a1 (hA.wtr 0 rfl) (hH.slw 0 rfl) (hH.slw 1 rfl) hc0 hg2)) hA hH
  ·rw [hc0] at hr
   simp only [Uac,Q1,Q2] at hr
   obtain ⟨rfl,rfl,hg2⟩:=BQi hr
   exact ((Zaf (N:=18446744073709551616) (by kernel_rfl) (mkΓ_consX (Zac Zkv) Zim (mkΓ_consX (Zac Zpj) Zmq mkΓ_nilX)) (fn:=Tryz.f64) (by kernel_rfl) (by kernel_rfl) [([6,11],[])])) ρ _ w _ vals _ _ hn ((Zo0 a0 bR nR aR b_a1 n_a1 a1 (hA.wtr 0 rfl) (hH.slw 0 rfl) (hH.slw 1 rfl) hc0 hg2)) hA hH
 ·simp only [Uac] at hr
  cases hr
end
end Go.Proofs.YtohnggmlmglhmaaGreatDoor
