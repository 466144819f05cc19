/- The worst find: both sides. -/
import Derived.Test.YtdfefaanfiheoaaGreatDoorProg
import Derived.Test.YtdfefaanfiheoaaGreatDoorCuD
set_option linter.unusedVariables false
set_option linter.unusedSimpArgs false
namespace Go.Proofs.YtdfefaanfiheoaaGreatDoor
open Tryz (f21 f22)
open Go.ChangeShapes Go.WideShapes Go.ChangeAt Go.RowKit Ve Vc
open Tryz renaming prog → PZ
open IntKind (i64)
set_option maxRecDepth 100000
noncomputable section
variable {F:Vc.Fd}
theorem cmp_sc (z z':Bool) (n n':Int):decide (Zbn (scV z n) (scV z' n')<0)=(!z'&&(z || decide (n<n'))):=by
 unfold Zbn
 simp only [(Yhu z n).1,(Yhu z n).2,(Yhu z' n').1,(Yhu z' n').2]
 cases z<;>cases z'
 ·simp only [Q2,show ((0:Int) != 0)=false from rfl,Bool.not_false,Bool.true_and,Bool.false_or,Za0,bne_self_eq_false]
  by_cases h:n<n'
  ·simp [h]
  ·by_cases h2:n > n'
   ·simp [h,h2]
   ·simp [h,h2]
 ·exact (by decide:decide (Za0 6 0<0)=false)
 ·exact (by decide:decide (Za0 0 6<0)=true)
 ·exact (by decide:decide (Za0 0 0<0)=false)
def worL (P:Program) (S:Array Value) (c b:Int) (D:Array Value) (k j:Nat):Bool:= !(noK P S c b D j)&&(noK P S c b D k || decide (nuK P S c b D k<nuK P S c b D j))
def worW (P:Program) (S:Array Value) (c b:Int) (D:Array Value):Nat→Nat
 | 0=>0
 | k+1=>bif worL P S c b D k (worW P S c b D k) then k else worW P S c b D k
theorem Yo4 (S:Array Value) (c b:Int) (D:Array Value) {n:Nat} (hn:0<n):∀ k,k≤n→worW PZ S c b D k<n
 | 0,_=>hn
 | k+1,hk=>by
  have:=Yo4 S c b D hn k (by omega)
  rw [worW]
  cases worL PZ S c b D k (worW PZ S c b D k)<;>simp only [Q1,Q2]<;>omega
theorem Yhc (S:Array Value) (c b:Int) (D:Array Value):∀ k,worW PZ S c b D k≤k - 1
 | 0=>Nat.le_refl _
 | k+1=>by
  have:=Yhc S c b D k
  rw [worW]
  cases worL PZ S c b D k (worW PZ S c b D k)<;>simp only [Q1,Q2]<;>omega
theorem Yf9 (S:Array Value) (c b:Int) (D:Array Value) {k0:Nat} (h0:noK PZ S c b D k0=true) (hb:∀ j,j<k0→noK PZ S c b D j=false):∀ d,worW PZ S c b D (k0+1+d)=k0
 | 0=>by
  show worW PZ S c b D (k0+1)=k0
  rw [worW]
  by_cases h:k0=0
  ·subst h
   cases worL PZ S c b D 0 (worW PZ S c b D 0)<;>rfl
  ·have hl:=Yhc S c b D k0
   have:worL PZ S c b D k0 (worW PZ S c b D k0)=true:=by
    unfold worL
    rw [hb (worW PZ S c b D k0) (by omega),h0]
    rfl
   rw [this,Q1]
 | d+1=>by
  show worW PZ S c b D (k0+1+d+1)=k0
  rw [worW,Yf9 S c b D h0 hb d]
  have:worL PZ S c b D (k0+1+d) k0=false:=by
   unfold worL
   rw [h0]
   rfl
  rw [this,Q2]
theorem Ygg {p:Nat→Bool} {n k:Nat} (h:(List.range n).find? p=some k):p k=true∧k<n∧∀ j,j<k→p j=false:=by
 rw [List.find?_range_eq_some] at h
 obtain ⟨h1,h2,h3⟩:=h
 refine ⟨h1,List.mem_range.1 h2,fun j hj=> ?_⟩
 have:=h3 j hj
 simpa using this
theorem Ym8 {T X:Type} {g:T→Option (Stp T X)} (F:Nat→T) (p:Nat→Bool) (n:Nat) {N:Nat} (hN:n<N) {xd:X} (xf:Nat→X)
  (hs:∀ k,k<n→(∀ j,j<k→p j=false)→p k=false→g (F k)=some (.more (F (k+1)))) (hf:∀ k,k<n→p k=true→g (F k)=some (.done (xf k))) (hd:g (F n)=some (.done xd)) :
  Uab g N (F 0)=some (match (List.range n).find? p with | some k=>xf k | none=>xd):=by
 cases h:(List.range n).find? p with
 | none=>
  have h':=List.find?_range_eq_none.1 h
  exact Zci F (fun k hk=>hs k hk (fun j hj=>by simpa using h' j (by omega)) (by simpa using h' k hk)) hd hN
 | some k=>
  obtain ⟨f1,f2,f3⟩:=Ygg h
  exact Zci F (fun j hj=>hs j (by omega) (fun i hi=>f3 i (by omega)) (f3 j hj)) (hf k f2 f1) (by omega)
def Zcx:Cons:=(mkΓ [(38,conG Zek),(42,con Zdz),(43,con Zgx)])
def Zea (a0:Array Value) (a1 a2:Int) (g_e0 g_e1 g_e2 g_e3 g_e4:Addr) (b_a3:Option (Option Addr)) (n_a3:Nat) (a3:Array Value):St:=(⟨.a (.g a0 37) :: .a (.i .i64 (a1)) :: .a (.i .i64 (a2)) :: .a (.l 5) :: .a (.w 6)::us 3 (.a (.i .i64 (0:Int)) :: .a (.i .i64 (0:Int)) :: .a (.w 13) :: .a (.i .i64 (Uc1 1 (spl (repC (zc PZ 37) 1) 0 a0.toList) n_a3 a3 (num (#[.int .i64 (a1),.int .i64 (a2),.slice none 0 0]:Array Value) 0) (num (#[.int .i64 (a1),.int .i64 (a2),.slice none 0 0]:Array Value) 1) true)) :: .a (.l 22) :: .a (.i .i64 (0:Int)) :: .a (.u) :: .a (.u) :: .a (.i .i64 (a1)) :: .a (.i .i64 (a2)) :: .a (.l 5) :: .a (.r #[.int .i64 (a1),.int .i64 (a2),.slice none 0 0] 74 [(2,5)]) :: .a (.r #[.int .i64 (a1),.int .i64 (a2),.slice none 0 0] 74 [(2,5)]) :: .a (.g a0 37) :: .a (.l 17) :: .a (.i .i64 (Uc1 1 (spl (repC (zc PZ 37) 1) 0 a0.toList) n_a3 a3 (num (#[.int .i64 (a1),.int .i64 (a2),.slice none 0 0]:Array Value) 0) (num (#[.int .i64 (a1),.int .i64 (a2),.slice none 0 0]:Array Value) 1) true)) :: .a (.i .i64 (Uc1 1 (spl (repC (zc PZ 37) 1) 0 a0.toList) n_a3 a3 (num (#[.int .i64 (a1),.int .i64 (a2),.slice none 0 0]:Array Value) 0) (num (#[.int .i64 (a1),.int .i64 (a2),.slice none 0 0]:Array Value) 1) true)) :: .a (.b (((Uc1 1 (spl (repC (zc PZ 37) 1) 0 a0.toList) n_a3 a3 (num (#[.int .i64 (a1),.int .i64 (a2),.slice none 0 0]:Array Value) 0) (num (#[.int .i64 (a1),.int .i64 (a2),.slice none 0 0]:Array Value) 1) true) != (0:Int)))) :: .a (.u) :: .a (.l 5) :: .a (.i .i64 (n_a3:Int)) :: .a (.b (((n_a3:Int)==(0:Int)))) :: .a (.r #[.int .i64 (a1),.int .i64 (a2),.slice none 0 0] 74 [(2,5)]) :: .a (.g a0 37) :: .a (.l 22) :: .a (.l 22) :: .a (.i .i64 (n_a3:Int)) :: .a (.i .i64 (0:Int))::us 14 ([])),[.gl 0 185 g_e0 101973,.gl 1 185 g_e1 93330,.gl 3 185 g_e2 124718,.gl 2 185 g_e3 112315,.gl 4 185 g_e4 94254,.sl (.came b_a3) n_a3 a3 70,.row a0 37,.no,.no,.no,.no,.no,.no,.one (.r #[.int .i64 (a1),.int .i64 (a2),.slice none 0 0] 74 [(2,5)]) 74,.no,.no,.no,.sl .own 1 (spl (repC (zc PZ 37) 1) 0 a0.toList) 37,.no,.no,.no,.no,.sl .own n_a3 (scsC PZ a0 (num (#[.int .i64 (a1),.int .i64 (a2),.slice none 0 0]:Array Value) 0) (num (#[.int .i64 (a1),.int .i64 (a2),.slice none 0 0]:Array Value) 1) a3 n_a3) 77,.no],[13]⟩:St)
def Zfs:Int×Int→LS
 | (y0_13,y0_35)=>([.a (.i .i64 (y0_13)),.a (.i .i64 (y0_35))],[])
def Zki:Int×Int→Exit×LS
 | t=>((.exit 0),Zfs t)
def Zcd (P : Program) (a0 : Array Value) (a1 a2 : Int) (g_e0 g_e1 g_e2 g_e3 g_e4 : Addr) (b_a3 : Option (Option Addr)) (n_a3 : Nat) (a3 : Array Value) : Int × Int → Option (Stp (Int × Int) (Int × Int))
 | (y0_13, y0_35) => bif decide (y0_35 < (n_a3 : Int)) then (bif (decide (0 ≤ y0_35) && decide (y0_35 < (n_a3 : Int))) then (bif (decide (0 ≤ y0_13) && decide (y0_13 < (n_a3 : Int))) then (bif (bif (isSc (cel (scsC PZ a0 (num (#[.int .i64 (a1), .int .i64 (a2), .slice none 0 0] : Array Value) 0) (num (#[.int .i64 (a1), .int .i64 (a2), .slice none 0 0] : Array Value) 1) a3 n_a3) ((y0_35).toNat * 1))) then (isSc (cel (scsC PZ a0 (num (#[.int .i64 (a1), .int .i64 (a2), .slice none 0 0] : Array Value) 0) (num (#[.int .i64 (a1), .int .i64 (a2), .slice none 0 0] : Array Value) 1) a3 n_a3) ((y0_13).toNat * 1))) else false) then (bif decide ((Zbn (cel (scsC PZ a0 (num (#[.int .i64 (a1), .int .i64 (a2), .slice none 0 0] : Array Value) 0) (num (#[.int .i64 (a1), .int .i64 (a2), .slice none 0 0] : Array Value) 1) a3 n_a3) ((y0_35).toNat * 1)) (cel (scsC PZ a0 (num (#[.int .i64 (a1), .int .i64 (a2), .slice none 0 0] : Array Value) 0) (num (#[.int .i64 (a1), .int .i64 (a2), .slice none 0 0] : Array Value) 1) a3 n_a3) ((y0_13).toNat * 1))) < (0 : Int)) then (some (.more (y0_35, (i64.wrap (y0_35 + (1 : Int))))))
      else (some (.more (y0_13, (i64.wrap (y0_35 + (1 : Int)))))))
     else (none))
    else (none))
   else (none))
  else (some (.done (y0_13, y0_35)))
noncomputable abbrev cKCuF22:=codeOf f22
theorem Zyg (N:Nat) (a0:Array Value) (a1 a2:Int) (g_e0 g_e1 g_e2 g_e3 g_e4:Addr) (b_a3:Option (Option Addr)) (n_a3:Nat) (a3:Array Value):∀ t:Int×Int,Uag PZ Zcx N (cAt cKCuF22 [1,1,1,1,1,1,0,1,0,0]) (pAt (Uaa cKCuF22 [([13,35],[])]).1 [1,1,1,1,1,1,0,1,0]) [13,35] [] (Zea a0 a1 a2 g_e0 g_e1 g_e2 g_e3 g_e4 b_a3 n_a3 a3) (Zfs t)=mapS Zfs Zki (Zcd PZ a0 a1 a2 g_e0 g_e1 g_e2 g_e3 g_e4 b_a3 n_a3 a3 t):=by
 rintro ⟨y0_13,y0_35⟩
 refine Eq.trans (b:=(bif decide (y0_35<(n_a3:Int)) then (bif (decide (0≤y0_35)&&decide (y0_35<(n_a3:Int))) then (bif (decide (0≤y0_13)&&decide (y0_13<(n_a3:Int))) then (bif (bif (isSc (cel (scsC PZ a0 (num (#[.int .i64 (a1),.int .i64 (a2),.slice none 0 0]:Array Value) 0) (num (#[.int .i64 (a1),.int .i64 (a2),.slice none 0 0]:Array Value) 1) a3 n_a3) ((y0_35).toNat*1))) then (isSc (cel (scsC PZ a0 (num (#[.int .i64 (a1),.int .i64 (a2),.slice none 0 0]:Array Value) 0) (num (#[.int .i64 (a1),.int .i64 (a2),.slice none 0 0]:Array Value) 1) a3 n_a3) ((y0_13).toNat*1))) else false) then (bif decide ((Zbn (cel (scsC PZ a0 (num (#[.int .i64 (a1),.int .i64 (a2),.slice none 0 0]:Array Value) 0) (num (#[.int .i64 (a1),.int .i64 (a2),.slice none 0 0]:Array Value) 1) a3 n_a3) ((y0_35).toNat*1)) (cel (scsC PZ a0 (num (#[.int .i64 (a1),.int .i64 (a2),.slice none 0 0]:Array Value) 0) (num (#[.int .i64 (a1),.int .i64 (a2),.slice none 0 0]:Array Value) 1) a3 n_a3) ((y0_13).toNat*1)))<(0:Int)) then (some (.more ([.a (.i .i64 (y0_35)),.a (.i .i64 (i64.wrap (y0_35+(1:Int))))],[])))
      else (some (.more ([.a (.i .i64 (y0_13)),.a (.i .i64 (i64.wrap (y0_35+(1:Int))))],[]))))
     else (none))
    else (none))
   else (none))
  else (some (.done ((.exit 0),([.a (.i .i64 (y0_13)),.a (.i .i64 (y0_35))],[])))))) (by kernel_rfl) ?_
 simp only [Zcd,Zat,Zaq,Zar,Zas,Zfs,Zki]
def Zi0 (P:Program) (N:Nat) (a0:Array Value) (a1 a2:Int) (g_e0 g_e1 g_e2 g_e3 g_e4:Addr) (b_a3:Option (Option Addr)) (n_a3:Nat) (a3:Array Value) (z0_13:Int) (z0_35:Int):Option (SV×Eff×Bool):=some (.t [.i .i64 (z0_13),.i .i64 (0:Int)],.none,true)
theorem Zpt (N:Nat) (a0:Array Value) (a1 a2:Int) (g_e0 g_e1 g_e2 g_e3 g_e4:Addr) (b_a3:Option (Option Addr)) (n_a3:Nat) (a3:Array Value) (z0_13:Int) (z0_35:Int):(Uad 0 (kSeq (veC PZ Zcx N (cAt cKCuF22 [1,1,1,1,1,1,1]) (pAt (Uaa cKCuF22 [([13,35],[])]).1 [1,1,1,1,1,1,1]) (SV×Eff×Bool)) (finK PZ [.gl 0 185 g_e0 101973,.gl 1 185 g_e1 93330,.gl 3 185 g_e2 124718,.gl 2 185 g_e3 112315,.gl 4 185 g_e4 94254,.sl (.came b_a3) n_a3 a3 70] [.tmp 8,.tmp 9]))) (.exit 0) (left (writes (cAt cKCuF22 [1,1,1,1,1,1,0,1,0,0])) [13,35] [] (Zea a0 a1 a2 g_e0 g_e1 g_e2 g_e3 g_e4 b_a3 n_a3 a3) ([.a (.i .i64 (z0_13)),.a (.i .i64 (z0_35))],[]))=Zi0 PZ N a0 a1 a2 g_e0 g_e1 g_e2 g_e3 g_e4 b_a3 n_a3 a3 z0_13 z0_35:=by
 refine Eq.trans (b:=(some (.t [.i .i64 (z0_13),.i .i64 (0:Int)],.none,true))) (by kernel_rfl) ?_
 rfl
theorem Zxz (N:Nat) (a0:Array Value) (a1 a2:Int) (g_e0 g_e1 g_e2 g_e3 g_e4:Addr) (b_a3:Option (Option Addr)) (n_a3:Nat) (a3:Array Value):Uah (Uab (Uag PZ Zcx N (cAt cKCuF22 [1,1,1,1,1,1,0,1,0,0]) (pAt (Uaa cKCuF22 [([13,35],[])]).1 [1,1,1,1,1,1,0,1,0]) [13,35] [] (Zea a0 a1 a2 g_e0 g_e1 g_e2 g_e3 g_e4 b_a3 n_a3 a3)) N ([.a (.i .i64 (0:Int)),.a (.i .i64 (0:Int))],[])) (fun e s=>(Uad 0 (kSeq (veC PZ Zcx N (cAt cKCuF22 [1,1,1,1,1,1,1]) (pAt (Uaa cKCuF22 [([13,35],[])]).1 [1,1,1,1,1,1,1]) (SV×Eff×Bool)) (finK PZ [.gl 0 185 g_e0 101973,.gl 1 185 g_e1 93330,.gl 3 185 g_e2 124718,.gl 2 185 g_e3 112315,.gl 4 185 g_e4 94254,.sl (.came b_a3) n_a3 a3 70] [.tmp 8,.tmp 9]))) e (left (writes (cAt cKCuF22 [1,1,1,1,1,1,0,1,0,0])) [13,35] [] (Zea a0 a1 a2 g_e0 g_e1 g_e2 g_e3 g_e4 b_a3 n_a3 a3) s))=Uai (Uab (Zcd PZ a0 a1 a2 g_e0 g_e1 g_e2 g_e3 g_e4 b_a3 n_a3 a3) N ((0:Int),(0:Int))) (fun x=>Zi0 PZ N a0 a1 a2 g_e0 g_e1 g_e2 g_e3 g_e4 b_a3 n_a3 a3 x.1 x.2):=by
 refine Zav Zfs Zki _ _ (Zyg N a0 a1 a2 g_e0 g_e1 g_e2 g_e3 g_e4 b_a3 n_a3 a3) N ((0:Int),(0:Int)) _ _ ?_
 intro x;exact Zpt N a0 a1 a2 g_e0 g_e1 g_e2 g_e3 g_e4 b_a3 n_a3 a3 x.1 x.2
theorem Zv5 (N:Nat) (a0:Array Value) (a1 a2:Int) (g_e0 g_e1 g_e2 g_e3 g_e4:Addr) (b_a3:Option (Option Addr)) (n_a3:Nat) (a3:Array Value):ansV PZ Zcx N f22 [([13,35],[])] [.g a0 37,.i .i64 (a1),.i .i64 (a2),.l 5] [.gl 0 185 g_e0 101973,.gl 1 185 g_e1 93330,.gl 3 185 g_e2 124718,.gl 2 185 g_e3 112315,.gl 4 185 g_e4 94254,.sl (.came b_a3) n_a3 a3 70]=(bif (Nat.ble 1 1&&Nat.ble 1 8) then (bif ((Uc1 1 (spl (repC (zc PZ 37) 1) 0 a0.toList) n_a3 a3 (num (#[.int .i64 (a1),.int .i64 (a2),.slice none 0 0]:Array Value) 0) (num (#[.int .i64 (a1),.int .i64 (a2),.slice none 0 0]:Array Value) 1) true) != (0:Int)) then (some (.t [.i .i64 (0:Int),.i .i64 (Uc1 1 (spl (repC (zc PZ 37) 1) 0 a0.toList) n_a3 a3 (num (#[.int .i64 (a1),.int .i64 (a2),.slice none 0 0]:Array Value) 0) (num (#[.int .i64 (a1),.int .i64 (a2),.slice none 0 0]:Array Value) 1) true)],.none,true))
   else (bif ((n_a3:Int)==(0:Int)) then (some (.t [.i .i64 (0:Int),.i .i64 (6:Int)],.none,true))
    else (bif (vf a0 n_a3 a3&&(Zab (num (#[.int .i64 (a1),.int .i64 (a2),.slice none 0 0]:Array Value) 0) a0&&Zaa (num (#[.int .i64 (a1),.int .i64 (a2),.slice none 0 0]:Array Value) 1) 0 1)) then (Uai (Uab (Zcd PZ a0 a1 a2 g_e0 g_e1 g_e2 g_e3 g_e4 b_a3 n_a3 a3) N ((0:Int),(0:Int))) (fun x=>Zi0 PZ N a0 a1 a2 g_e0 g_e1 g_e2 g_e3 g_e4 b_a3 n_a3 a3 x.1 x.2))
     else (none))))
  else (none)):=by
 refine Eq.trans (b:=(bif (Nat.ble 1 1&&Nat.ble 1 8) then (bif ((Uc1 1 (spl (repC (zc PZ 37) 1) 0 a0.toList) n_a3 a3 (num (#[.int .i64 (a1),.int .i64 (a2),.slice none 0 0]:Array Value) 0) (num (#[.int .i64 (a1),.int .i64 (a2),.slice none 0 0]:Array Value) 1) true) != (0:Int)) then (some (.t [.i .i64 (0:Int),.i .i64 (Uc1 1 (spl (repC (zc PZ 37) 1) 0 a0.toList) n_a3 a3 (num (#[.int .i64 (a1),.int .i64 (a2),.slice none 0 0]:Array Value) 0) (num (#[.int .i64 (a1),.int .i64 (a2),.slice none 0 0]:Array Value) 1) true)],.none,true))
   else (bif ((n_a3:Int)==(0:Int)) then (some (.t [.i .i64 (0:Int),.i .i64 (6:Int)],.none,true))
    else (bif (vf a0 n_a3 a3&&(Zab (num (#[.int .i64 (a1),.int .i64 (a2),.slice none 0 0]:Array Value) 0) a0&&Zaa (num (#[.int .i64 (a1),.int .i64 (a2),.slice none 0 0]:Array Value) 1) 0 1)) then (Uah (Uab (Uag PZ Zcx N (cAt cKCuF22 [1,1,1,1,1,1,0,1,0,0]) (pAt (Uaa cKCuF22 [([13,35],[])]).1 [1,1,1,1,1,1,0,1,0]) [13,35] [] (Zea a0 a1 a2 g_e0 g_e1 g_e2 g_e3 g_e4 b_a3 n_a3 a3)) N ([.a (.i .i64 (0:Int)),.a (.i .i64 (0:Int))],[])) (fun e s=>(Uad 0 (kSeq (veC PZ Zcx N (cAt cKCuF22 [1,1,1,1,1,1,1]) (pAt (Uaa cKCuF22 [([13,35],[])]).1 [1,1,1,1,1,1,1]) (SV×Eff×Bool)) (finK PZ [.gl 0 185 g_e0 101973,.gl 1 185 g_e1 93330,.gl 3 185 g_e2 124718,.gl 2 185 g_e3 112315,.gl 4 185 g_e4 94254,.sl (.came b_a3) n_a3 a3 70] [.tmp 8,.tmp 9]))) e (left (writes (cAt cKCuF22 [1,1,1,1,1,1,0,1,0,0])) [13,35] [] (Zea a0 a1 a2 g_e0 g_e1 g_e2 g_e3 g_e4 b_a3 n_a3 a3) s)))
     else (none))))
  else (none))) (by kernel_rfl) ?_
 simp only [Zxz N a0 a1 a2 g_e0 g_e1 g_e2 g_e3 g_e4 b_a3 n_a3 a3]
theorem Zu2 (a0:Array Value) (a1 a2:Int) (g_e0 g_e1 g_e2 g_e3 g_e4:Addr) (b_a3:Option (Option Addr)) (n_a3:Nat) (a3:Array Value) (h_a0:WT PZ 37 a0) (h_a1:i64.min≤a1∧a1≤i64.max) (h_a2:i64.min≤a2∧a2≤i64.max) (h_a3:a3.size=n_a3*(lay PZ 70).length∧(∀ k,k<n_a3→WT PZ 70 (a3.extract (k*(lay PZ 70).length) (k*(lay PZ 70).length+(lay PZ 70).length)))∧n_a3≤9223372036854775807) (hg:(true)=true):ansV PZ Zcx 1000 f22 [([13,35],[])] [.g a0 37,.i .i64 (a1),.i .i64 (a2),.l 5] [.gl 0 185 g_e0 101973,.gl 1 185 g_e1 93330,.gl 3 185 g_e2 124718,.gl 2 185 g_e3 112315,.gl 4 185 g_e4 94254,.sl (.came b_a3) n_a3 a3 70]=some (.t [.i .i64 (bif ((lisC a0 n_a3 a3 a1 a2) != (0:Int)) then 0 else bif ((n_a3:Int)==(0:Int)) then 0 else ((worW PZ a0 a1 a2 a3 n_a3:Nat):Int)),.i .i64 (bif ((lisC a0 n_a3 a3 a1 a2) != (0:Int)) then (lisC a0 n_a3 a3 a1 a2) else bif ((n_a3:Int)==(0:Int)) then 6 else 0)],.none,true):=by
 have hl:(lay PZ 70).length=2:=by kernel_rfl
 rw [hl] at h_a3
 obtain ⟨s1,s2,s3⟩:=h_a3
 refine (Zv5 1000 a0 a1 a2 g_e0 g_e1 g_e2 g_e3 g_e4 b_a3 n_a3 a3).trans ?_
 obtain ⟨n0,n1⟩:=ev_num a1 a2
 rw [one_sea h_a0,n0,n1,with_one (Yml h_a0),show (Nat.ble 1 1&&Nat.ble 1 8)=true from rfl]
 change (bif true then bif ((lisC a0 n_a3 a3 a1 a2) != (0:Int)) then _ else _ else _)=_
 cases hc0:((lisC a0 n_a3 a3 a1 a2) != (0:Int)) with
 | true=>rfl
 | false=>
 cases hc1:((n_a3:Int)==(0:Int)) with
 | true=>rfl
 | false=>
  have hn0:n_a3≠0:=fun e=>by subst e;exact absurd hc1 (by decide)
  obtain ⟨hv,o0,i0,t0⟩:=Ymi hc0
  obtain ⟨_,hn,_⟩:=vf_of hv
  rw [hv,i0,t0]
  simp only [Bool.and_self,Q1,Q2]
  have hcel:=fun k (hk:k<n_a3)=>scsC_cel a0 a1 a2 a3 hk
  have l:=Zci (g:=Zcd PZ a0 a1 a2 g_e0 g_e1 g_e2 g_e3 g_e4 b_a3 n_a3 a3) (fun k=>(((worW PZ a0 a1 a2 a3 k:Nat):Int),(k:Int))) (m:=n_a3) (x:=(((worW PZ a0 a1 a2 a3 n_a3:Nat):Int),(n_a3:Int))) (N:=1000) (fun k hk=>by
   have hw:=Yo4 a0 a1 a2 a3 (n:=n_a3) (by omega) k (by omega)
   have h1:decide ((k:Int)<(n_a3:Int))=true:=Q3 (by omega)
   have h2:decide (0≤(k:Int))=true:=Q3 (by omega)
   have h3:i64.wrap ((k:Int)+1)=((k+1:Nat):Int):=by rw [w64 (by omega)];omega
   have h4:decide (((worW PZ a0 a1 a2 a3 k:Nat):Int)<(n_a3:Int))=true:=Q3 (by omega)
   have h5:decide (0≤((worW PZ a0 a1 a2 a3 k:Nat):Int))=true:=Q3 (by omega)
   have c1:=hcel k hk
   have c2:=hcel _ hw
   have i1:isSc (scV (noK PZ a0 a1 a2 a3 k) (nuK PZ a0 a1 a2 a3 k))=true:=sc_is (scN_in _ _)
   have i2:isSc (scV (noK PZ a0 a1 a2 a3 (worW PZ a0 a1 a2 a3 k)) (nuK PZ a0 a1 a2 a3 (worW PZ a0 a1 a2 a3 k)))=true:=sc_is (scN_in _ _)
   have ew:worW PZ a0 a1 a2 a3 (k+1)=bif worL PZ a0 a1 a2 a3 k (worW PZ a0 a1 a2 a3 k) then k else worW PZ a0 a1 a2 a3 k:=rfl
   rw [ew]
   unfold worL
   simp only [Zcd,n0,n1,h1,h2,h3,h4,h5,Q9,Nat.mul_one,c1,c2,i1,i2,cmp_sc,Bool.and_self,Q1]
   cases (!(noK PZ a0 a1 a2 a3 (worW PZ a0 a1 a2 a3 k))&&(noK PZ a0 a1 a2 a3 k || decide (nuK PZ a0 a1 a2 a3 k<nuK PZ a0 a1 a2 a3 (worW PZ a0 a1 a2 a3 k))))<;>simp only [Q1,Q2]) (by
   have h1:decide ((n_a3:Int)<(n_a3:Int))=false:=Q4 (by omega)
   simp only [Zcd,h1,Q2]) (by omega)
  have l':Uab (Zcd PZ a0 a1 a2 g_e0 g_e1 g_e2 g_e3 g_e4 b_a3 n_a3 a3) 1000 ((0:Int),(0:Int))=some (((worW PZ a0 a1 a2 a3 n_a3:Nat):Int),(n_a3:Int)):=l
  rw [l']
  rfl
def Zja:Con:=fun args h=>match args,h with
 | [.g a0 37,.i .i64 a1,.i .i64 a2,.l 5],[.gl 0 185 g_e0 101973,.gl 1 185 g_e1 93330,.gl 3 185 g_e2 124718,.gl 2 185 g_e3 112315,.gl 4 185 g_e4 94254,.sl (.came b_a3) n_a3 a3 70]=>some (.t [.i .i64 (bif ((lisC a0 n_a3 a3 a1 a2) != (0:Int)) then 0 else bif ((n_a3:Int)==(0:Int)) then 0 else ((worW PZ a0 a1 a2 a3 n_a3:Nat):Int)),.i .i64 (bif ((lisC a0 n_a3 a3 a1 a2) != (0:Int)) then (lisC a0 n_a3 a3 a1 a2) else bif ((n_a3:Int)==(0:Int)) then 6 else 0)],.none,true)
 | _,_=>none
theorem Zsm:EntX PZ 22:=Zah (fn:=f22)
theorem Zx6:Uac (md F) PZ 22 Zja:=(ansY (N:=1000) (mkΓ_consX (Zkb Zn1) Zl5 (mkΓ_consX (Zae Zmy) Zk9 (mkΓ_consX (Zae Zrl) Zn5 mkΓ_nilX))) f22 [([13,35],[])]).of (by
 intro ρ h w args vals r e hA hH hr
 unfold Zja at hr
 split at hr
 ·rename_i a0 a1 a2 g_e0 g_e1 g_e2 g_e3 g_e4 b_a3 n_a3 a3
  obtain ⟨rfl,rfl,hg2⟩:=BQi hr
  exact Zu2 a0 a1 a2 g_e0 g_e1 g_e2 g_e3 g_e4 b_a3 n_a3 a3 (hA.wt 0 rfl) (hA.rng 1 rfl) (hA.rng 2 rfl) (hH.slw 5 rfl) hg2
 ·cases hr)
def Zb6:Cons:=(mkΓ [(34,con Zkc),(41,con Zmz)])
def Zc6 (a0:Array Value) (a1 a2:Int) (b_a3:Option (Option Addr)) (n_a3:Nat) (a3:Array Value):St:=(⟨.a (.g a0 37) :: .a (.i .i64 (a1)) :: .a (.i .i64 (a2)) :: .a (.l 0) :: .a (.w 1)::us 3 (.a (.i .i64 (0:Int)) :: .a (.i .i64 (0:Int)) :: .a (.i .i64 (bif vf a0 n_a3 a3 then Zao a1 a2 true a0 else 1)) :: .a (.i .i64 (-1:Int)) :: .a (.i .i64 (0:Int)) :: .a (.i .i64 (0:Int)) :: .a (.u) :: .a (.u) :: .a (.i .i64 (a1)) :: .a (.i .i64 (a2)) :: .a (.l 0) :: .a (.i .i64 (bif vf a0 n_a3 a3 then Zao a1 a2 true a0 else 1)) :: .a (.i .i64 (bif vf a0 n_a3 a3 then Zao a1 a2 true a0 else 1)) :: .a (.b (((bif vf a0 n_a3 a3 then Zao a1 a2 true a0 else 1) != (0:Int)))) :: .a (.u) :: .a (.l 0) :: .a (.i .i64 (n_a3:Int)) :: .a (.b (((n_a3:Int)==(0:Int))))::us 29 ([])),[.sl (.came b_a3) n_a3 a3 70,.row a0 37,.no,.no],[]⟩:St)
def Zd7:Int×Int×Int×Int×Int→LS
 | (y0_8,y0_9,y0_11,y0_12,y0_13)=>([.a (.i .i64 (y0_8)),.a (.i .i64 (y0_9)),.a (.i .i64 (y0_11)),.a (.i .i64 (y0_12)),.a (.i .i64 (y0_13))],[])
def Zkw:(Stp (Int×Int×Int×Int×Int) (Int×Int×Int×Int×Int))→Exit×LS
 | .more t=>(.ret,Zd7 t)
 | .done t=>((.exit 0),Zd7 t)
def Zbs (P : Program) (a0 : Array Value) (a1 a2 : Int) (b_a3 : Option (Option Addr)) (n_a3 : Nat) (a3 : Array Value) : Int × Int × Int × Int × Int → Option (Stp (Int × Int × Int × Int × Int) (Stp (Int × Int × Int × Int × Int) (Int × Int × Int × Int × Int)))
 | (y0_8, y0_9, y0_11, y0_12, y0_13) => bif decide (y0_13 < (n_a3 : Int)) then (bif (decide (0 ≤ y0_13) && decide (y0_13 < (n_a3 : Int))) then (bif ((okS a0 && (Zab a1 a0 && Zaa a2 0 1)) && (Zaa (num (a3.extract ((y0_13).toNat * 2) (((y0_13).toNat * 2) + 2)) 1) 1 14 && (decide (0 ≤ num (a3.extract ((y0_13).toNat * 2) (((y0_13).toNat * 2) + 2)) 0) && decide (num (a3.extract ((y0_13).toNat * 2) (((y0_13).toNat * 2) + 2)) 0 < 36)))) then (bif (!((!((num (inH PZ a0 a1 a2 (num (a3.extract ((y0_13).toNat * 2) (((y0_13).toNat * 2) + 2)) 1).toNat) (num (a3.extract ((y0_13).toNat * 2) (((y0_13).toNat * 2) + 2)) 0).toNat) == (0 : Int))))) then (some (.done (.more (y0_13, (0 : Int), y0_11, y0_12, y0_13))))
     else (bif decide (y0_11 < (0 : Int)) then (some (.more (y0_8, y0_9, y0_13, (bif ((num (inH PZ a0 a1 a2 (num (a3.extract ((y0_13).toNat * 2) (((y0_13).toNat * 2) + 2)) 1).toNat) (num (a3.extract ((y0_13).toNat * 2) (((y0_13).toNat * 2) + 2)) 0).toNat) == (0 : Int)) then 0 else scN (num (inH PZ a0 a1 a2 (num (a3.extract ((y0_13).toNat * 2) (((y0_13).toNat * 2) + 2)) 1).toNat) (num (a3.extract ((y0_13).toNat * 2) (((y0_13).toNat * 2) + 2)) 0).toNat) (num (a3.extract ((y0_13).toNat * 2) (((y0_13).toNat * 2) + 2)) 1)), (i64.wrap (y0_13 + (1 : Int))))))
      else (bif decide ((bif ((num (inH PZ a0 a1 a2 (num (a3.extract ((y0_13).toNat * 2) (((y0_13).toNat * 2) + 2)) 1).toNat) (num (a3.extract ((y0_13).toNat * 2) (((y0_13).toNat * 2) + 2)) 0).toNat) == (0 : Int)) then 0 else scN (num (inH PZ a0 a1 a2 (num (a3.extract ((y0_13).toNat * 2) (((y0_13).toNat * 2) + 2)) 1).toNat) (num (a3.extract ((y0_13).toNat * 2) (((y0_13).toNat * 2) + 2)) 0).toNat) (num (a3.extract ((y0_13).toNat * 2) (((y0_13).toNat * 2) + 2)) 1)) < y0_12) then (some (.more (y0_8, y0_9, y0_13, (bif ((num (inH PZ a0 a1 a2 (num (a3.extract ((y0_13).toNat * 2) (((y0_13).toNat * 2) + 2)) 1).toNat) (num (a3.extract ((y0_13).toNat * 2) (((y0_13).toNat * 2) + 2)) 0).toNat) == (0 : Int)) then 0 else scN (num (inH PZ a0 a1 a2 (num (a3.extract ((y0_13).toNat * 2) (((y0_13).toNat * 2) + 2)) 1).toNat) (num (a3.extract ((y0_13).toNat * 2) (((y0_13).toNat * 2) + 2)) 0).toNat) (num (a3.extract ((y0_13).toNat * 2) (((y0_13).toNat * 2) + 2)) 1)), (i64.wrap (y0_13 + (1 : Int))))))
       else (some (.more (y0_8, y0_9, y0_11, y0_12, (i64.wrap (y0_13 + (1 : Int)))))))))
    else (none))
   else (none))
  else (some (.done (.done (y0_8, y0_9, y0_11, y0_12, y0_13))))
noncomputable abbrev cKCuF21:=codeOf f21
theorem Zzd (N:Nat) (a0:Array Value) (a1 a2:Int) (b_a3:Option (Option Addr)) (n_a3:Nat) (a3:Array Value):∀ t:Int×Int×Int×Int×Int,Uag PZ Zb6 N (cAt cKCuF21 [1,1,1,1,1,0,1,0,0]) (pAt (Uaa cKCuF21 [([8,9,11,12,13],[])]).1 [1,1,1,1,1,0,1,0]) [8,9,11,12,13] [] (Zc6 a0 a1 a2 b_a3 n_a3 a3) (Zd7 t)=mapS Zd7 Zkw (Zbs PZ a0 a1 a2 b_a3 n_a3 a3 t):=by
 rintro ⟨y0_8,y0_9,y0_11,y0_12,y0_13⟩
 refine Eq.trans (b:=(bif decide (y0_13<(n_a3:Int)) then (bif (decide (0≤y0_13)&&decide (y0_13<(n_a3:Int))) then (bif ((okS a0&&(Zab a1 a0&&Zaa a2 0 1))&&(Zaa (num (a3.extract ((y0_13).toNat*2) (((y0_13).toNat*2)+2)) 1) 1 14&&(decide (0≤num (a3.extract ((y0_13).toNat*2) (((y0_13).toNat*2)+2)) 0)&&decide (num (a3.extract ((y0_13).toNat*2) (((y0_13).toNat*2)+2)) 0<36)))) then (bif (!((!((num (inH PZ a0 a1 a2 (num (a3.extract ((y0_13).toNat*2) (((y0_13).toNat*2)+2)) 1).toNat) (num (a3.extract ((y0_13).toNat*2) (((y0_13).toNat*2)+2)) 0).toNat)==(0:Int))))) then (some (.done (.ret,([.a (.i .i64 (y0_13)),.a (.i .i64 (0:Int)),.a (.i .i64 (y0_11)),.a (.i .i64 (y0_12)),.a (.i .i64 (y0_13))],[]))))
     else (bif decide (y0_11<(0:Int)) then (some (.more ([.a (.i .i64 (y0_8)),.a (.i .i64 (y0_9)),.a (.i .i64 (y0_13)),.a (.i .i64 (bif ((num (inH PZ a0 a1 a2 (num (a3.extract ((y0_13).toNat*2) (((y0_13).toNat*2)+2)) 1).toNat) (num (a3.extract ((y0_13).toNat*2) (((y0_13).toNat*2)+2)) 0).toNat)==(0:Int)) then 0 else scN (num (inH PZ a0 a1 a2 (num (a3.extract ((y0_13).toNat*2) (((y0_13).toNat*2)+2)) 1).toNat) (num (a3.extract ((y0_13).toNat*2) (((y0_13).toNat*2)+2)) 0).toNat) (num (a3.extract ((y0_13).toNat*2) (((y0_13).toNat*2)+2)) 1))),.a (.i .i64 (i64.wrap (y0_13+(1:Int))))],[])))
      else (bif decide ((bif ((num (inH PZ a0 a1 a2 (num (a3.extract ((y0_13).toNat*2) (((y0_13).toNat*2)+2)) 1).toNat) (num (a3.extract ((y0_13).toNat*2) (((y0_13).toNat*2)+2)) 0).toNat)==(0:Int)) then 0 else scN (num (inH PZ a0 a1 a2 (num (a3.extract ((y0_13).toNat*2) (((y0_13).toNat*2)+2)) 1).toNat) (num (a3.extract ((y0_13).toNat*2) (((y0_13).toNat*2)+2)) 0).toNat) (num (a3.extract ((y0_13).toNat*2) (((y0_13).toNat*2)+2)) 1))<y0_12) then (some (.more ([.a (.i .i64 (y0_8)),.a (.i .i64 (y0_9)),.a (.i .i64 (y0_13)),.a (.i .i64 (bif ((num (inH PZ a0 a1 a2 (num (a3.extract ((y0_13).toNat*2) (((y0_13).toNat*2)+2)) 1).toNat) (num (a3.extract ((y0_13).toNat*2) (((y0_13).toNat*2)+2)) 0).toNat)==(0:Int)) then 0 else scN (num (inH PZ a0 a1 a2 (num (a3.extract ((y0_13).toNat*2) (((y0_13).toNat*2)+2)) 1).toNat) (num (a3.extract ((y0_13).toNat*2) (((y0_13).toNat*2)+2)) 0).toNat) (num (a3.extract ((y0_13).toNat*2) (((y0_13).toNat*2)+2)) 1))),.a (.i .i64 (i64.wrap (y0_13+(1:Int))))],[])))
       else (some (.more ([.a (.i .i64 (y0_8)),.a (.i .i64 (y0_9)),.a (.i .i64 (y0_11)),.a (.i .i64 (y0_12)),.a (.i .i64 (i64.wrap (y0_13+(1:Int))))],[]))))))
    else (none))
   else (none))
  else (some (.done ((.exit 0),([.a (.i .i64 (y0_8)),.a (.i .i64 (y0_9)),.a (.i .i64 (y0_11)),.a (.i .i64 (y0_12)),.a (.i .i64 (y0_13))],[])))))) (by kernel_rfl) ?_
 simp only [Zbs,Zat,Zaq,Zar,Zas,Zd7,Zkw]
def Zi5 (P:Program) (N:Nat) (a0:Array Value) (a1 a2:Int) (b_a3:Option (Option Addr)) (n_a3:Nat) (a3:Array Value) (z0_8:Int) (z0_9:Int) (z0_11:Int) (z0_12:Int) (z0_13:Int):Option (SV×Eff×Bool):=some (.t [.i .i64 (z0_8),.i .i64 (z0_9)],.none,true)
theorem Zpx (N:Nat) (a0:Array Value) (a1 a2:Int) (b_a3:Option (Option Addr)) (n_a3:Nat) (a3:Array Value) (z0_8:Int) (z0_9:Int) (z0_11:Int) (z0_12:Int) (z0_13:Int):(Uad 0 (kSeq (veC PZ Zb6 N (cAt cKCuF21 [1,1,1,1,1,1]) (pAt (Uaa cKCuF21 [([8,9,11,12,13],[])]).1 [1,1,1,1,1,1]) (SV×Eff×Bool)) (finK PZ [.sl (.came b_a3) n_a3 a3 70] [.tmp 8,.tmp 9]))) .ret (left (writes (cAt cKCuF21 [1,1,1,1,1,0,1,0,0])) [8,9,11,12,13] [] (Zc6 a0 a1 a2 b_a3 n_a3 a3) ([.a (.i .i64 (z0_8)),.a (.i .i64 (z0_9)),.a (.i .i64 (z0_11)),.a (.i .i64 (z0_12)),.a (.i .i64 (z0_13))],[]))=Zi5 PZ N a0 a1 a2 b_a3 n_a3 a3 z0_8 z0_9 z0_11 z0_12 z0_13:=by
 refine Eq.trans (b:=(some (.t [.i .i64 (z0_8),.i .i64 (z0_9)],.none,true))) (by kernel_rfl) ?_
 rfl
def Zis (P:Program) (N:Nat) (a0:Array Value) (a1 a2:Int) (b_a3:Option (Option Addr)) (n_a3:Nat) (a3:Array Value) (z0_8:Int) (z0_9:Int) (z0_11:Int) (z0_12:Int) (z0_13:Int):Option (SV×Eff×Bool):=some (.t [.i .i64 (z0_11),.i .i64 (0:Int)],.none,true)
theorem Zp7 (N:Nat) (a0:Array Value) (a1 a2:Int) (b_a3:Option (Option Addr)) (n_a3:Nat) (a3:Array Value) (z0_8:Int) (z0_9:Int) (z0_11:Int) (z0_12:Int) (z0_13:Int):(Uad 0 (kSeq (veC PZ Zb6 N (cAt cKCuF21 [1,1,1,1,1,1]) (pAt (Uaa cKCuF21 [([8,9,11,12,13],[])]).1 [1,1,1,1,1,1]) (SV×Eff×Bool)) (finK PZ [.sl (.came b_a3) n_a3 a3 70] [.tmp 8,.tmp 9]))) (.exit 0) (left (writes (cAt cKCuF21 [1,1,1,1,1,0,1,0,0])) [8,9,11,12,13] [] (Zc6 a0 a1 a2 b_a3 n_a3 a3) ([.a (.i .i64 (z0_8)),.a (.i .i64 (z0_9)),.a (.i .i64 (z0_11)),.a (.i .i64 (z0_12)),.a (.i .i64 (z0_13))],[]))=Zis PZ N a0 a1 a2 b_a3 n_a3 a3 z0_8 z0_9 z0_11 z0_12 z0_13:=by
 refine Eq.trans (b:=(some (.t [.i .i64 (z0_11),.i .i64 (0:Int)],.none,true))) (by kernel_rfl) ?_
 rfl
theorem Zzn (N:Nat) (a0:Array Value) (a1 a2:Int) (b_a3:Option (Option Addr)) (n_a3:Nat) (a3:Array Value):Uah (Uab (Uag PZ Zb6 N (cAt cKCuF21 [1,1,1,1,1,0,1,0,0]) (pAt (Uaa cKCuF21 [([8,9,11,12,13],[])]).1 [1,1,1,1,1,0,1,0]) [8,9,11,12,13] [] (Zc6 a0 a1 a2 b_a3 n_a3 a3)) N ([.a (.i .i64 (0:Int)),.a (.i .i64 (0:Int)),.a (.i .i64 (-1:Int)),.a (.i .i64 (0:Int)),.a (.i .i64 (0:Int))],[])) (fun e s=>(Uad 0 (kSeq (veC PZ Zb6 N (cAt cKCuF21 [1,1,1,1,1,1]) (pAt (Uaa cKCuF21 [([8,9,11,12,13],[])]).1 [1,1,1,1,1,1]) (SV×Eff×Bool)) (finK PZ [.sl (.came b_a3) n_a3 a3 70] [.tmp 8,.tmp 9]))) e (left (writes (cAt cKCuF21 [1,1,1,1,1,0,1,0,0])) [8,9,11,12,13] [] (Zc6 a0 a1 a2 b_a3 n_a3 a3) s))=Uai (Uab (Zbs PZ a0 a1 a2 b_a3 n_a3 a3) N ((0:Int),(0:Int),(-1:Int),(0:Int),(0:Int))) (st2 (fun x=>Zi5 PZ N a0 a1 a2 b_a3 n_a3 a3 x.1 x.2.1 x.2.2.1 x.2.2.2.1 x.2.2.2.2) (fun x=>Zis PZ N a0 a1 a2 b_a3 n_a3 a3 x.1 x.2.1 x.2.2.1 x.2.2.2.1 x.2.2.2.2)):=by
 refine Zav Zd7 Zkw _ _ (Zzd N a0 a1 a2 b_a3 n_a3 a3) N ((0:Int),(0:Int),(-1:Int),(0:Int),(0:Int)) _ _ ?_
 intro x
 cases x with
 | more x=>exact Zpx N a0 a1 a2 b_a3 n_a3 a3 x.1 x.2.1 x.2.2.1 x.2.2.2.1 x.2.2.2.2
 | done x=>exact Zp7 N a0 a1 a2 b_a3 n_a3 a3 x.1 x.2.1 x.2.2.1 x.2.2.2.1 x.2.2.2.2
theorem Zw0 (N:Nat) (a0:Array Value) (a1 a2:Int) (b_a3:Option (Option Addr)) (n_a3:Nat) (a3:Array Value):ansV PZ Zb6 N f21 [([8,9,11,12,13],[])] [.g a0 37,.i .i64 (a1),.i .i64 (a2),.l 0] [.sl (.came b_a3) n_a3 a3 70]=(bif ((bif vf a0 n_a3 a3 then Zao a1 a2 true a0 else 1) != (0:Int)) then (some (.t [.i .i64 (0:Int),.i .i64 (bif vf a0 n_a3 a3 then Zao a1 a2 true a0 else 1)],.none,true))
  else (bif ((n_a3:Int)==(0:Int)) then (some (.t [.i .i64 (0:Int),.i .i64 (6:Int)],.none,true))
   else (Uai (Uab (Zbs PZ a0 a1 a2 b_a3 n_a3 a3) N ((0:Int),(0:Int),(-1:Int),(0:Int),(0:Int))) (st2 (fun x=>Zi5 PZ N a0 a1 a2 b_a3 n_a3 a3 x.1 x.2.1 x.2.2.1 x.2.2.2.1 x.2.2.2.2) (fun x=>Zis PZ N a0 a1 a2 b_a3 n_a3 a3 x.1 x.2.1 x.2.2.1 x.2.2.2.1 x.2.2.2.2))))):=by
 refine Eq.trans (b:=(bif ((bif vf a0 n_a3 a3 then Zao a1 a2 true a0 else 1) != (0:Int)) then (some (.t [.i .i64 (0:Int),.i .i64 (bif vf a0 n_a3 a3 then Zao a1 a2 true a0 else 1)],.none,true))
  else (bif ((n_a3:Int)==(0:Int)) then (some (.t [.i .i64 (0:Int),.i .i64 (6:Int)],.none,true))
   else (Uah (Uab (Uag PZ Zb6 N (cAt cKCuF21 [1,1,1,1,1,0,1,0,0]) (pAt (Uaa cKCuF21 [([8,9,11,12,13],[])]).1 [1,1,1,1,1,0,1,0]) [8,9,11,12,13] [] (Zc6 a0 a1 a2 b_a3 n_a3 a3)) N ([.a (.i .i64 (0:Int)),.a (.i .i64 (0:Int)),.a (.i .i64 (-1:Int)),.a (.i .i64 (0:Int)),.a (.i .i64 (0:Int))],[])) (fun e s=>(Uad 0 (kSeq (veC PZ Zb6 N (cAt cKCuF21 [1,1,1,1,1,1]) (pAt (Uaa cKCuF21 [([8,9,11,12,13],[])]).1 [1,1,1,1,1,1]) (SV×Eff×Bool)) (finK PZ [.sl (.came b_a3) n_a3 a3 70] [.tmp 8,.tmp 9]))) e (left (writes (cAt cKCuF21 [1,1,1,1,1,0,1,0,0])) [8,9,11,12,13] [] (Zc6 a0 a1 a2 b_a3 n_a3 a3) s)))))) (by kernel_rfl) ?_
 simp only [Zzn N a0 a1 a2 b_a3 n_a3 a3]
theorem Zuj (a0:Array Value) (a1 a2:Int) (b_a3:Option (Option Addr)) (n_a3:Nat) (a3:Array Value) (h_a0:WT PZ 37 a0) (h_a1:i64.min≤a1∧a1≤i64.max) (h_a2:i64.min≤a2∧a2≤i64.max) (h_a3:a3.size=n_a3*(lay PZ 70).length∧(∀ k,k<n_a3→WT PZ 70 (a3.extract (k*(lay PZ 70).length) (k*(lay PZ 70).length+(lay PZ 70).length)))∧n_a3≤9223372036854775807) (hg:(true)=true):ansV PZ Zb6 1000 f21 [([8,9,11,12,13],[])] [.g a0 37,.i .i64 (a1),.i .i64 (a2),.l 0] [.sl (.came b_a3) n_a3 a3 70]=some (.t [.i .i64 (bif ((lisC a0 n_a3 a3 a1 a2) != (0:Int)) then 0 else bif ((n_a3:Int)==(0:Int)) then 0 else ((worW PZ a0 a1 a2 a3 n_a3:Nat):Int)),.i .i64 (bif ((lisC a0 n_a3 a3 a1 a2) != (0:Int)) then (lisC a0 n_a3 a3 a1 a2) else bif ((n_a3:Int)==(0:Int)) then 6 else 0)],.none,true):=by
 have hl:(lay PZ 70).length=2:=by kernel_rfl
 rw [hl] at h_a3
 obtain ⟨s1,s2,s3⟩:=h_a3
 refine (Zw0 1000 a0 a1 a2 b_a3 n_a3 a3).trans ?_
 change (bif ((lisC a0 n_a3 a3 a1 a2) != (0:Int)) then _ else _)=_
 cases hc0:((lisC a0 n_a3 a3 a1 a2) != (0:Int)) with
 | true=>rfl
 | false=>
 cases hc1:((n_a3:Int)==(0:Int)) with
 | true=>rfl
 | false=>
  have hn0:n_a3≠0:=fun e=>by subst e;exact absurd hc1 (by decide)
  obtain ⟨hv,o0,i0,t0⟩:=Ymi hc0
  obtain ⟨_,hn,_⟩:=vf_of hv
  have hh:=Yhk hv s2
  simp only [Q2]
  have rnd:∀ k (be le:Int),k<n_a3→Zbs PZ a0 a1 a2 b_a3 n_a3 a3 ((0:Int),(0:Int),be,le,(k:Int))=bif noK PZ a0 a1 a2 a3 k then some (.done (.more ((k:Int),(0:Int),be,le,(k:Int)))) else bif (decide (be<0) || decide (nuK PZ a0 a1 a2 a3 k<le)) then some (.more ((0:Int),(0:Int),(k:Int),nuK PZ a0 a1 a2 a3 k,((k+1:Nat):Int))) else some (.more ((0:Int),(0:Int),be,le,((k+1:Nat):Int))):=fun k be le hk=>by
   obtain ⟨p3,p4,p5,p6⟩:=hh k hk
   have h1:decide ((k:Int)<(n_a3:Int))=true:=Q3 (by omega)
   have h2:decide (0≤(k:Int))=true:=Q3 (by omega)
   have h3:i64.wrap ((k:Int)+1)=((k+1:Nat):Int):=by rw [w64 (by omega)];omega
   have g4:=Q3 p4
   have g5:=Q3 p5
   unfold nuK noK
   have ep:num (inH PZ a0 a1 a2 (num (a3.extract (k*2) (k*2+2)) 1).toNat) (num (a3.extract (k*2) (k*2+2)) 0).toNat=ptK PZ a0 a1 a2 a3 k:=rfl
   simp only [Zbs,h1,h2,h3,o0,i0,t0,p3,g4,g5,ep,Q9,Bool.and_self,Bool.not_not,Q1]
   generalize ptK PZ a0 a1 a2 a3 k=pp
   cases (pp==(0:Int)) with
   | true=>rfl
   | false=>
    simp only [Q2]
    cases decide (be<0)<;>cases decide (scN pp (num (a3.extract (k*2) (k*2+2)) 1)<le)<;>rfl
  have l:=Ym8 (g:=Zbs PZ a0 a1 a2 b_a3 n_a3 a3) (fun k=>((0:Int),(0:Int),(if k=0 then (-1:Int) else ((worW PZ a0 a1 a2 a3 k:Nat):Int)),(if k=0 then (0:Int) else nuK PZ a0 a1 a2 a3 (worW PZ a0 a1 a2 a3 k)),(k:Int))) (noK PZ a0 a1 a2 a3) n_a3 (N:=1000) (xd:=.done ((0:Int),(0:Int),((worW PZ a0 a1 a2 a3 n_a3:Nat):Int),nuK PZ a0 a1 a2 a3 (worW PZ a0 a1 a2 a3 n_a3),(n_a3:Int))) (by omega) (fun k=>.more ((k:Int),(0:Int),(if k=0 then (-1:Int) else ((worW PZ a0 a1 a2 a3 k:Nat):Int)),(if k=0 then (0:Int) else nuK PZ a0 a1 a2 a3 (worW PZ a0 a1 a2 a3 k)),(k:Int))) (fun k hk hb hp=>by
   try dsimp only
   rw [rnd k _ _ hk,hp,Q2,if_neg (show ¬ k+1=0 by omega),if_neg (show ¬ k+1=0 by omega)]
   by_cases h0:k=0
   ·subst h0
    rw [if_pos rfl,if_pos rfl]
    have e1:worW PZ a0 a1 a2 a3 (0+1)=0:=by
     have:=Yhc a0 a1 a2 a3 1
     show worW PZ a0 a1 a2 a3 1=0
     omega
    rw [e1]
    rfl
   ·rw [if_neg h0,if_neg h0]
    have hz:noK PZ a0 a1 a2 a3 (worW PZ a0 a1 a2 a3 k)=false:=hb _ (by have:=Yhc a0 a1 a2 a3 k;omega)
    have e0:decide (((worW PZ a0 a1 a2 a3 k:Nat):Int)<0)=false:=Q4 (by omega)
    have ew:worW PZ a0 a1 a2 a3 (k+1)=bif worL PZ a0 a1 a2 a3 k (worW PZ a0 a1 a2 a3 k) then k else worW PZ a0 a1 a2 a3 k:=rfl
    have el:worL PZ a0 a1 a2 a3 k (worW PZ a0 a1 a2 a3 k)=decide (nuK PZ a0 a1 a2 a3 k<nuK PZ a0 a1 a2 a3 (worW PZ a0 a1 a2 a3 k)):=by
     unfold worL;rw [hz,hp];simp only [Bool.not_false,Bool.true_and,Bool.false_or]
    rw [ew,el,e0,Bool.false_or]
    cases decide (nuK PZ a0 a1 a2 a3 k<nuK PZ a0 a1 a2 a3 (worW PZ a0 a1 a2 a3 k))<;>simp only [Q1,Q2]) (fun k hk hp=>by
   try dsimp only
   rw [rnd k _ _ hk,hp,Q1]) (by
   have h1:decide ((n_a3:Int)<(n_a3:Int))=false:=Q4 (by omega)
   rw [if_neg hn0,if_neg hn0]
   simp only [Zbs,h1,Q2])
  try dsimp only at l
  rw [if_pos rfl,if_pos rfl] at l
  have l':Uab (Zbs PZ a0 a1 a2 b_a3 n_a3 a3) 1000 ((0:Int),(0:Int),(-1:Int),(0:Int),(0:Int))=_:=l
  rw [l']
  cases hf:(List.range n_a3).find? (noK PZ a0 a1 a2 a3) with
  | none=>rfl
  | some k=>
   obtain ⟨f1,f2,f3⟩:=Ygg hf
   have:=Yf9 a0 a1 a2 a3 f1 f3 (n_a3 - (k+1))
   rw [show k+1+(n_a3 - (k+1))=n_a3 by omega] at this
   rw [this]
   rfl
def Zjq:Con:=fun args h=>match args,h with
 | [.g a0 37,.i .i64 a1,.i .i64 a2,.l 0],[.sl (.came b_a3) n_a3 a3 70]=>some (.t [.i .i64 (bif ((lisC a0 n_a3 a3 a1 a2) != (0:Int)) then 0 else bif ((n_a3:Int)==(0:Int)) then 0 else ((worW PZ a0 a1 a2 a3 n_a3:Nat):Int)),.i .i64 (bif ((lisC a0 n_a3 a3 a1 a2) != (0:Int)) then (lisC a0 n_a3 a3 a1 a2) else bif ((n_a3:Int)==(0:Int)) then 6 else 0)],.none,true)
 | _,_=>none
theorem Zs3:EntX PZ 21:=Zah (fn:=f21)
theorem Zya:Uac (md F) PZ 21 Zjq:=(ansY (N:=1000) (mkΓ_consX (Zae Zy8) Ztn (mkΓ_consX (Zae Yeo) Zyc mkΓ_nilX)) f21 [([8,9,11,12,13],[])]).of (by
 intro ρ h w args vals r e hA hH hr
 unfold Zjq at hr
 split at hr
 ·rename_i a0 a1 a2 b_a3 n_a3 a3
  obtain ⟨rfl,rfl,hg2⟩:=BQi hr
  exact Zuj a0 a1 a2 b_a3 n_a3 a3 (hA.wt 0 rfl) (hA.rng 1 rfl) (hA.rng 2 rfl) (hH.slw 0 rfl) hg2
 ·cases hr)
end
end Go.Proofs.YtdfefaanfiheoaaGreatDoor
