/- What a plan spreads and reaches, as it is asked, in company. -/
import Derived.Test.YtffagbiedigmcaaDoorProg
import Derived.Test.YtffagbiedigmcaaDoorCmA
namespace Go.Proofs.YtffagbiedigmcaaDoor
open Go.ChangeShapes Go.WideShapes Go.ChangeAt Go.RowKit Ve Vc
open Tryd (prog)
open IntKind (i64)
set_option linter.unusedVariables false
set_option linter.unusedSimpArgs false
set_option maxRecDepth 100000
noncomputable section
variable {mn:Md}
def wsum (A:Array Value):Nat→Int
 | 0=>0
 | k+1=>i64.wrap (wsum A k+i64.wrap (num (A.extract (k*3) (k*3+3)) 2))
def relB (S:Array Value) (h:Int) (X:Array Value):Bool:=Zac (i64.wrap (num X 0)) S&&(Zaa (i64.wrap (num X 1)) 0 (i64.wrap (h - 1))&&Zaa (i64.wrap (num X 2)) 1 200)
def relAll (S:Array Value) (h:Int) (n:Nat) (A:Array Value):Bool:=(List.range n).all (fun k=>relB S h (A.extract (k*3) (k*3+3)))
theorem Zx8 (S:Array Value) (h:Int) (n:Nat) (A:Array Value):relAll S h n A=true ↔ ∀ k,k<n→(fun k=>relB S h (A.extract (k*3) (k*3+3))) k=true:=by
 unfold relAll
 rw [List.all_eq_true]
 exact ⟨fun h k hk=>h k (List.mem_range.2 hk),fun h k hk=>h k (List.mem_range.1 hk)⟩
def planB (S p:Array Value) (n:Nat) (A:Array Value):Bool:=Zaa (i64.wrap (num p 0)) 0 1&&(Zaa (i64.wrap (num p 1)) 1 8&&(!decide ((n:Int) > 12)&&(relAll S (i64.wrap (num p 1)) n A&&decide (wsum A n≤1000))))
theorem Yc1 {w h:Int} {k:Nat} (h1:((k % 6:Nat):Int)<w) (h2:((k / 6:Nat):Int)<h):inC w h k=true:=by
 unfold inC;rw [decide_eq_true h1,decide_eq_true h2];rfl
theorem gw_in {S:Array Value} (h0:1≤num S 0∧num S 0≤6∧1≤num S 1∧num S 1≤6) {k:Nat} (hk:k<36) (hi:inC (num S 0) (num S 1) k=true) (w:Nat) (hw:w<5) (hn:gw S k w ≠ -1):inC (num S 0) (num S 1) (gw S k w).toNat=true:=by
 obtain ⟨hx,hy⟩:=Yc5 hi
 obtain ⟨a1,a2,a3,a4⟩:=h0
 match w,hw with
 | 0,_=>exact hi
 | 1,_=>
  simp only [gw] at hn⊢
  by_cases c:6≤k
  ·simp only [c,decide_true,cond_true]
   rw [show ((k:Int) - 6).toNat=k - 6 by omega]
   exact Yc1 (by omega) (by omega)
  ·simp [c] at hn
 | 2,_=>
  simp only [gw] at hn⊢
  by_cases c:((k % 6:Nat):Int)+1<num S 0
  ·simp only [decide_eq_true c,cond_true]
   rw [show ((k:Int)+1).toNat=k+1 by omega]
   exact Yc1 (by omega) (by omega)
  ·simp only [decide_eq_false c,cond_false] at hn;exact absurd rfl hn
 | 3,_=>
  simp only [gw] at hn⊢
  by_cases c:((k / 6:Nat):Int)+1<num S 1
  ·simp only [decide_eq_true c,cond_true]
   rw [show ((k:Int)+6).toNat=k+6 by omega]
   exact Yc1 (by omega) (by omega)
  ·simp only [decide_eq_false c,cond_false] at hn;exact absurd rfl hn
 | 4,_=>
  simp only [gw] at hn⊢
  by_cases c:1≤k % 6
  ·simp only [decide_eq_true c,cond_true]
   rw [show ((k:Int) - 1).toNat=k - 1 by omega]
   exact Yc1 (by omega) (by omega)
  ·simp only [decide_eq_false c,cond_false] at hn;exact absurd rfl hn
def ZO (S X:Array Value):Prop:=∀ k,k<36→inC (num S 0) (num S 1) k=false→num X (3+k)=0
theorem Yep {S X:Array Value} (hX:WT prog 123 X) (hok:okS S=true) (hS:WT prog 35 S) (h:ZO S X):ZO S (hourV prog S X):=by
 intro k hk hf
 obtain ⟨i1,i2⟩:=Zx7 X
 have hd:=Zly hok
 have w:=(Zu7 (S:=S) hX).int (o:=3+k) (k:=.i64) (Zqr (by omega) (by omega))
 refine cg_eq ((Yc4 i1 (j:=3+k) (by omega)).trans (.of ?_)) w.2 (by omega)
 rw [(Zmt X).2.2 k hk,Int.zero_add]
 refine (Zh4 36 (g:=fun _=>0) fun i hi=> ?_).trans (Zre 36)
 rw [(Ztq hS hi).2]
 cases hin:inC (num S 0) (num S 1) i with
 | false=>
  rw [Bool.false_and,if_neg (by simp),show 3+i*1=3+i by omega,h i hi hin]
  simp
 | true=>
  have hik:i≠k:=fun e=>by rw [e,hf] at hin;cases hin
  cases bitI (num S 2) i with
  | true=>rw [Bool.not_true,Bool.and_false,if_neg (by simp),if_neg (by omega)]
  | false=>
   rw [Bool.not_false,Bool.and_self,if_pos rfl]
   refine (Zh4 5 (g:=fun _=>0) fun w hw=> ?_).trans (Zre 5)
   rw [Zvd hd hi hin w hw,if_neg]
   unfold destW
   by_cases hg:gw S i w = -1
   ·rw [hg,if_pos (by omega)];omega
   ·have:=Zuy hd hi hin w hw hg
    rw [if_neg (show ¬ gw S i w<0 by omega)]
    intro e
    have e':(gw S i w).toNat=k:=by omega
    have:=gw_in hd hi hin w hw hg
    rw [e',hf] at this
    cases this
theorem in_of {x a b:Int} (h:a≤x∧x≤b):Zaa x a b=true:=by
 unfold Zaa;rw [decide_eq_true (show x ≥ a from h.1),decide_eq_true h.2];rfl
def put2 (X:Array Value) (c:Nat) (b m:Int):Array Value:=(X.setIfInBounds 2 (.int .i64 (i64.wrap (num X 2+b)))).setIfInBounds (3+c*1) (.int .i64 (i64.wrap (num (X.setIfInBounds 2 (.int .i64 (i64.wrap (num X 2+b)))) (3+c*1)+m)))
theorem Yg1 (X:Array Value) (c:Nat) (b m:Int):(X.setIfInBounds (3+c*1) (.int .i64 (i64.wrap (num X (3+c*1)+m)))).setIfInBounds 2 (.int .i64 (i64.wrap (num (X.setIfInBounds (3+c*1) (.int .i64 (i64.wrap (num X (3+c*1)+m)))) 2+b)))=put2 X c b m:=by
 unfold put2
 rw [Zdb,if_neg (by omega),Zdb,if_neg (by omega)]
 exact Array.setIfInBounds_comm _ _ (by omega)
def putR (h:Int) (A X:Array Value) (k:Nat):Array Value:=bif (i64.wrap (num (A.extract (k*3) (k*3+3)) 1)==h) then put2 X (num (A.extract (k*3) (k*3+3)) 0).toNat (i64.wrap (num (A.extract (k*3) (k*3+3)) 2)) (i64.wrap (i64.wrap (num (A.extract (k*3) (k*3+3)) 2)*12^h.toNat)) else X
def withV (h:Int) (n:Nat) (A X:Array Value):Array Value:=folds (putR h A) X n
def spreadV (P:Program) (S:Array Value) (b:Int) (n:Nat) (A:Array Value):Nat→Array Value
 | 0=>(zc P 123).setIfInBounds 0 (.int .i8 b)
 | j+1=>hourV P S (withV (j:Int) n A (spreadV P S b n A j))
def Good (S:Array Value) (b:Int) (j:Nat) (X:Array Value):Prop:=WT prog 123 X∧num X 0=b∧num X 1=(j:Int)∧ZO S X
theorem good_put {S A X:Array Value} {b h:Int} {j k:Nat} (hX:Good S b j X) (hc:0≤num (A.extract (k*3) (k*3+3)) 0∧num (A.extract (k*3) (k*3+3)) 0≤35∧inC (num S 0) (num S 1) (num (A.extract (k*3) (k*3+3)) 0).toNat=true):Good S b j (putR h A X k):=by
 obtain ⟨w,n0,n1,z⟩:=hX
 unfold putR
 cases (i64.wrap (num (A.extract (k*3) (k*3+3)) 1)==h) with
 | false=>exact ⟨w,n0,n1,z⟩
 | true=>
  rw [cond_true]
  generalize i64.wrap (i64.wrap (num (A.extract (k*3) (k*3+3)) 2)*12^h.toNat)=m
  generalize i64.wrap (num (A.extract (k*3) (k*3+3)) 2)=bb
  generalize num (A.extract (k*3) (k*3+3)) 0=c at hc
  obtain ⟨c0,c1,c2⟩:=hc
  unfold put2
  have w2:=Zkg (k:=.i64) (i:=2) w (Zqr (by omega) (by omega)) (Zg1 .i64 (num X 2+bb))
  refine ⟨Zkg (k:=.i64) w2 (Zqr (by omega) (by omega)) (Zg1 .i64 _), ?_, ?_,fun i hi hf=> ?_⟩
  ·rw [Zdb,if_neg (by omega),Zdb,if_neg (by omega)];exact n0
  ·rw [Zdb,if_neg (by omega),Zdb,if_neg (by omega)];exact n1
  ·have hne:c.toNat≠i:=fun e=>by rw [e,hf] at c2;cases c2
   rw [Zdb,if_neg (by omega),Zdb,if_neg (by omega)]
   exact z i hi hf
theorem Ybg {S A X:Array Value} {b h:Int} {j n:Nat} (hX:Good S b j X) (hc:∀ k,k<n→0≤num (A.extract (k*3) (k*3+3)) 0∧num (A.extract (k*3) (k*3+3)) 0≤35∧inC (num S 0) (num S 1) (num (A.extract (k*3) (k*3+3)) 0).toNat=true):Good S b j (withV h n A X):=
 Zgg (fun _ X=>Good S b j X) hX (fun k s hk hs=>good_put hs (hc k hk)) n (Nat.le_refl _)
theorem Ygm {S X:Array Value} {b:Int} {j:Nat} (hS:WT prog 35 S) (hok:okS S=true) (hj:j≤100) (hX:Good S b j X):Good S b (j+1) (hourV prog S X):=by
 obtain ⟨w,n0,n1,z⟩:=hX
 obtain ⟨e0,e1,_⟩:=Zmt X
 refine ⟨Zu7 w, ?_, ?_,Yep w hok hS z⟩
 ·rw [Zqe _ _ (by omega),e0,n0]
 ·rw [Zqe _ _ (by omega),e1,n1,IntWalk.i8_in _ (by omega)];omega
theorem good_go {S X:Array Value} {b:Int} {j:Nat} (hok:okS S=true) (hb:0≤b∧b≤1) (hj:j≤100) (hX:Good S b j X):True∧(0≤tdS X∧tdS X<2):=by
 obtain ⟨w,n0,n1,z⟩:=hX
 refine ⟨trivial, ?_⟩
 unfold tdS
 rw [n0,n1,IntWalk.i8_in _ (by omega),Int.tmod_eq_emod_of_nonneg (by omega)]
 omega
theorem Zve {S A:Array Value} {b:Int} {n:Nat} (hS:WT prog 35 S) (hok:okS S=true) (hb:0≤b∧b≤1) (hc:∀ k,k<n→0≤num (A.extract (k*3) (k*3+3)) 0∧num (A.extract (k*3) (k*3+3)) 0≤35∧inC (num S 0) (num S 1) (num (A.extract (k*3) (k*3+3)) 0).toNat=true):∀ j,j≤50→Good S b j (spreadV prog S b n A j)
 | 0,_=>by
  have i8:IntKind.i8.min = -128∧IntKind.i8.max=127:=⟨rfl,rfl⟩
  have z0:∀ i,num (zc prog 123) i=0:=fun i=>by
   have h:∀ i,i<40→num (zc prog 123) i=0:=by
    have:((List.range 40).all fun i=>num (zc prog 123) i==0)=true:=by kernel_rfl
    intro i hi
    exact eq_of_beq (List.all_eq_true.1 this i (List.mem_range.2 hi))
   by_cases hi:i<40
   ·exact h i hi
   ·unfold num
    rw [Array.getElem?_eq_none (by rw [show (zc prog 123).size=40 by kernel_rfl];omega)]
  have hsz:(zc prog 123).size=40:=by kernel_rfl
  refine ⟨Zkg (k:=.i8) (WT.zero (by kernel_rfl)) Ybl.1 (by omega), ?_, ?_,fun i hi hf=> ?_⟩
  ·rw [spreadV,Zdb,if_pos (by omega)]
  ·rw [spreadV,Zdb,if_neg (by omega),z0];rfl
  ·rw [spreadV,Zdb,if_neg (by omega),z0]
 | j+1,hj=>by
  rw [spreadV]
  exact Ygm hS hok (by omega) (Ybg (Zve hS hok hb hc j (by omega)) hc)
theorem Ygw {S A:Array Value} {h:Int} {n:Nat} (hS:WT prog 35 S) (hA:∀ k,k<n→WT prog 75 (A.extract (k*3) (k*3+3))) (hr:relAll S h n A=true):∀ k,k<n→0≤num (A.extract (k*3) (k*3+3)) 0∧num (A.extract (k*3) (k*3+3)) 0≤35∧inC (num S 0) (num S 1) (num (A.extract (k*3) (k*3+3)) 0).toNat=true:=by
 intro k hk
 have h1:=(Zx8 S h n A).1 hr k hk
 have h1:relB S h (A.extract (k*3) (k*3+3))=true:=h1
 obtain ⟨-,b0⟩:=(hA k hk).int (o:=0) (k:=.i8) (by kernel_rfl)
 have m8:IntKind.i8.min = -128∧IntKind.i8.max=127:=⟨rfl,rfl⟩
 unfold relB at h1
 rw [Bool.and_eq_true,IntWalk.i64_in (num (A.extract (k*3) (k*3+3)) 0) (by omega)] at h1
 have h2:=h1.1
 generalize num (A.extract (k*3) (k*3+3)) 0=c at h2 b0
 have hi:Zas c S=true:=by
  unfold Zac at h2
  cases hi:Zas c S with
  | true=>rfl
  | false=>rw [hi] at h2;exact nomatch h2
 have hr:=Ydi hi
 refine ⟨hr.1,hr.2, ?_⟩
 have e:((c.toNat:Nat):Int)=c:=by omega
 rw [← Zx5 hS (show c.toNat<36 by omega),e]
 exact hi
theorem re_len:(lay prog 75).length=3:=by kernel_rfl
def Zaq:Cons:=(mkΓ [(83,con Zhy),(84,con Zie)])
def Zdo (a0 a1:Array Value) (b_a1x2:Option (Option Addr)) (n_a1x2:Nat) (a1x2:Array Value) (y0_6:Int) (r0_9:Array Value):St:=(⟨.a (.w 0) :: .a (.w 1) :: .a (.u) :: .a (.u) :: .a (.w 3) :: .a (.w 9) :: .a (.i .i64 (y0_6)) :: .a (.i .i64 (0:Int)) :: .a (.x) :: .a (.w 1) :: .a (.w 1) :: .a (.p 1 (0) 22) :: .a (.i .i8 (num a1 0)) :: .a (.g ((zc prog 123).setIfInBounds 0 (.int .i8 (num a1 0))) 123) :: .a (.i .i64 (y0_6)) :: .a (.w 1) :: .a (.w 1) :: .a (.p 1 (1) 22) :: .a (.i .i8 (num a1 1)) :: .a (.i .i64 (i64.wrap (num a1 1))) :: .a (.b (decide (y0_6<(i64.wrap (num a1 1)))))::xs 46 (.a (.u)::[]),[.row a0 35,.one (.r a1 44 [(2,2)]) 44,.sl (.came b_a1x2) n_a1x2 a1x2 75,.row (zc prog 123) 123,.no,.no,.no,.no,.no,.row r0_9 123,.no],[9]⟩:St)
def Zeo:Int×Array Value→LS
 | (y1_7,r1_9)=>([.a (.i .i64 (y1_7))],[.row r1_9 123])
def Zh1:Int×Array Value→Exit×LS
 | t=>((.exit 2),Zeo t)
def Zby (P : Program) (a0 a1 : Array Value) (b_a1x2 : Option (Option Addr)) (n_a1x2 : Nat) (a1x2 : Array Value) (y0_6 : Int) (r0_9 : Array Value) : Int × Array Value → Option (Stp (Int × Array Value) (Int × Array Value))
 | (y1_7, r1_9) => bif decide (y1_7 < (n_a1x2 : Int)) then (bif (decide (0 ≤ y1_7) && decide (y1_7 < (n_a1x2 : Int))) then (bif ((i64.wrap (num (a1x2.extract ((y1_7).toNat * 3) (((y1_7).toNat * 3) + 3)) 1)) == y0_6) then (bif (decide (0 ≤ (num (a1x2.extract ((y1_7).toNat * 3) (((y1_7).toNat * 3) + 3)) 0)) && decide ((num (a1x2.extract ((y1_7).toNat * 3) (((y1_7).toNat * 3) + 3)) 0) < 36)) then (bif (decide (0 ≤ y0_6) && decide (y0_6 ≤ 14)) then (bif (decide (0 ≤ (num (a1x2.extract ((y1_7).toNat * 3) (((y1_7).toNat * 3) + 3)) 0)) && decide ((num (a1x2.extract ((y1_7).toNat * 3) (((y1_7).toNat * 3) + 3)) 0) < 36)) then (some (.more ((i64.wrap (y1_7 + (1 : Int))), ((r1_9.setIfInBounds (3 + ((num (a1x2.extract ((y1_7).toNat * 3) (((y1_7).toNat * 3) + 3)) 0).toNat * 1)) (.int .i64 (i64.wrap ((num r1_9 (3 + ((num (a1x2.extract ((y1_7).toNat * 3) (((y1_7).toNat * 3) + 3)) 0).toNat * 1))) + (i64.wrap ((i64.wrap (num (a1x2.extract ((y1_7).toNat * 3) (((y1_7).toNat * 3) + 3)) 2)) * (12 ^ y0_6.toNat))))))).setIfInBounds 2 (.int .i64 (i64.wrap ((num (r1_9.setIfInBounds (3 + ((num (a1x2.extract ((y1_7).toNat * 3) (((y1_7).toNat * 3) + 3)) 0).toNat * 1)) (.int .i64 (i64.wrap ((num r1_9 (3 + ((num (a1x2.extract ((y1_7).toNat * 3) (((y1_7).toNat * 3) + 3)) 0).toNat * 1))) + (i64.wrap ((i64.wrap (num (a1x2.extract ((y1_7).toNat * 3) (((y1_7).toNat * 3) + 3)) 2)) * (12 ^ y0_6.toNat))))))) 2) + (i64.wrap (num (a1x2.extract ((y1_7).toNat * 3) (((y1_7).toNat * 3) + 3)) 2)))))))))
       else (none))
      else (none))
     else (none))
    else (some (.more ((i64.wrap (y1_7 + (1 : Int))), r1_9))))
   else (none))
  else (some (.done (y1_7, r1_9)))
theorem Zs8 (N:Nat) (a0 a1:Array Value) (b_a1x2:Option (Option Addr)) (n_a1x2:Nat) (a1x2:Array Value) (y0_6:Int) (r0_9:Array Value):∀ t:Int×Array Value,stepV prog Zaq N (cAt (codeOf Tryd.f64) [1,1,0,1,0,0,1,0,0,0,1,0,0]) (pAt (mkPlan (codeOf Tryd.f64) [([6],[9]),([7],[9])]).1 [1,1,0,1,0,1,0,0,1,0]) [7] [9] (Zdo a0 a1 b_a1x2 n_a1x2 a1x2 y0_6 r0_9) (Zeo t)=mapS Zeo Zh1 (Zby prog a0 a1 b_a1x2 n_a1x2 a1x2 y0_6 r0_9 t):=by
 rintro ⟨y1_7,r1_9⟩
 refine Eq.trans (b:=(bif decide (y1_7<(n_a1x2:Int)) then (bif (decide (0≤y1_7)&&decide (y1_7<(n_a1x2:Int))) then (bif ((i64.wrap (num (a1x2.extract ((y1_7).toNat*3) (((y1_7).toNat*3)+3)) 1))==y0_6) then (bif (decide (0≤(num (a1x2.extract ((y1_7).toNat*3) (((y1_7).toNat*3)+3)) 0))&&decide ((num (a1x2.extract ((y1_7).toNat*3) (((y1_7).toNat*3)+3)) 0)<36)) then (bif (decide (0≤y0_6)&&decide (y0_6≤14)) then (bif (decide (0≤(num (a1x2.extract ((y1_7).toNat*3) (((y1_7).toNat*3)+3)) 0))&&decide ((num (a1x2.extract ((y1_7).toNat*3) (((y1_7).toNat*3)+3)) 0)<36)) then (some (.more ([.a (.i .i64 (i64.wrap (y1_7+(1:Int))))],[.row ((r1_9.setIfInBounds (3+((num (a1x2.extract ((y1_7).toNat*3) (((y1_7).toNat*3)+3)) 0).toNat*1)) (.int .i64 (i64.wrap ((num r1_9 (3+((num (a1x2.extract ((y1_7).toNat*3) (((y1_7).toNat*3)+3)) 0).toNat*1)))+(i64.wrap ((i64.wrap (num (a1x2.extract ((y1_7).toNat*3) (((y1_7).toNat*3)+3)) 2))*(12^y0_6.toNat))))))).setIfInBounds 2 (.int .i64 (i64.wrap ((num (r1_9.setIfInBounds (3+((num (a1x2.extract ((y1_7).toNat*3) (((y1_7).toNat*3)+3)) 0).toNat*1)) (.int .i64 (i64.wrap ((num r1_9 (3+((num (a1x2.extract ((y1_7).toNat*3) (((y1_7).toNat*3)+3)) 0).toNat*1)))+(i64.wrap ((i64.wrap (num (a1x2.extract ((y1_7).toNat*3) (((y1_7).toNat*3)+3)) 2))*(12^y0_6.toNat))))))) 2)+(i64.wrap (num (a1x2.extract ((y1_7).toNat*3) (((y1_7).toNat*3)+3)) 2)))))) 123])))
       else (none))
      else (none))
     else (none))
    else (some (.more ([.a (.i .i64 (i64.wrap (y1_7+(1:Int))))],[.row r1_9 123]))))
   else (none))
  else (some (.done ((.exit 2),([.a (.i .i64 (y1_7))],[.row r1_9 123])))))) (by kernel_rfl) ?_
 simp only [Zby,Zbe,Zbc,Zbb,Zbf,Zeo,Zh1]
def Zdr (a0 a1:Array Value) (b_a1x2:Option (Option Addr)) (n_a1x2:Nat) (a1x2:Array Value):St:=(⟨.a (.w 0) :: .a (.w 1) :: .a (.u) :: .a (.u) :: .a (.w 3) :: .a (.w 9) :: .a (.i .i64 (0:Int)) :: .a (.u) :: .a (.u) :: .a (.w 1) :: .a (.w 1) :: .a (.p 1 (0) 22) :: .a (.i .i8 (num a1 0)) :: .a (.g ((zc prog 123).setIfInBounds 0 (.int .i8 (num a1 0))) 123)::us 54 ([]),[.row a0 35,.one (.r a1 44 [(2,2)]) 44,.sl (.came b_a1x2) n_a1x2 a1x2 75,.row (zc prog 123) 123,.no,.no,.no,.no,.no,.row ((zc prog 123).setIfInBounds 0 (.int .i8 (num a1 0))) 123,.no],[9]⟩:St)
def Zb0:Int×Array Value→LS
 | (y0_6,r0_9)=>([.a (.i .i64 (y0_6))],[.row r0_9 123])
def Zc3:Int×Array Value→Exit×LS
 | t=>((.exit 0),Zb0 t)
def Zcb (P:Program) (N:Nat) (a0 a1:Array Value) (b_a1x2:Option (Option Addr)) (n_a1x2:Nat) (a1x2:Array Value) (y0_6:Int) (r0_9:Array Value) (z1_7:Int) (q1_9:Array Value):Option (Stp (Int×Array Value) (Int×Array Value)):=bif (okS a0&&(decide (0≤tdS q1_9)&&decide (tdS q1_9<2))) then (some (.more ((i64.wrap (y0_6+(1:Int))),(hourV prog a0 q1_9))))
  else (none)
theorem Zmh (N:Nat) (a0 a1:Array Value) (b_a1x2:Option (Option Addr)) (n_a1x2:Nat) (a1x2:Array Value) (y0_6:Int) (r0_9:Array Value) (z1_7:Int) (q1_9:Array Value):(kBlock 2 (kSeq (veC prog Zaq N (cAt (codeOf Tryd.f64) [1,1,0,1,0,0,1,0,0,1]) (pAt (mkPlan (codeOf Tryd.f64) [([6],[9]),([7],[9])]).1 [1,1,0,1,0,1,0,1]) (Stp LS (Exit×LS))) (kBlock 1 (kSeq (veC prog Zaq N (cAt (codeOf Tryd.f64) [1,1,0,1,0,0,1,1]) (pAt (mkPlan (codeOf Tryd.f64) [([6],[9]),([7],[9])]).1 [1,1,0,1,0,1,1]) (Stp LS (Exit×LS))) (kBody 11 [6] [9]))))) (.exit 2) (left (writes (cAt (codeOf Tryd.f64) [1,1,0,1,0,0,1,0,0,0,1,0,0])) [7] [9] (Zdo a0 a1 b_a1x2 n_a1x2 a1x2 y0_6 r0_9) ([.a (.i .i64 (z1_7))],[.row q1_9 123]))=mapS Zb0 Zc3 (Zcb prog N a0 a1 b_a1x2 n_a1x2 a1x2 y0_6 r0_9 z1_7 q1_9):=by
 refine Eq.trans (b:=(bif (okS a0&&(decide (0≤tdS q1_9)&&decide (tdS q1_9<2))) then (some (.more ([.a (.i .i64 (i64.wrap (y0_6+(1:Int))))],[.row (hourV prog a0 q1_9) 123])))
  else (none))) (by kernel_rfl) ?_
 simp only [Zcb,Zbe,Zbc,Zbb,Zbf,Zb0,Zc3]
theorem Ztj (N:Nat) (a0 a1:Array Value) (b_a1x2:Option (Option Addr)) (n_a1x2:Nat) (a1x2:Array Value) (y0_6:Int) (r0_9:Array Value):bindX (iterO (stepV prog Zaq N (cAt (codeOf Tryd.f64) [1,1,0,1,0,0,1,0,0,0,1,0,0]) (pAt (mkPlan (codeOf Tryd.f64) [([6],[9]),([7],[9])]).1 [1,1,0,1,0,1,0,0,1,0]) [7] [9] (Zdo a0 a1 b_a1x2 n_a1x2 a1x2 y0_6 r0_9)) N ([.a (.i .i64 (0:Int))],[.row r0_9 123])) (fun e s=>(kBlock 2 (kSeq (veC prog Zaq N (cAt (codeOf Tryd.f64) [1,1,0,1,0,0,1,0,0,1]) (pAt (mkPlan (codeOf Tryd.f64) [([6],[9]),([7],[9])]).1 [1,1,0,1,0,1,0,1]) (Stp LS (Exit×LS))) (kBlock 1 (kSeq (veC prog Zaq N (cAt (codeOf Tryd.f64) [1,1,0,1,0,0,1,1]) (pAt (mkPlan (codeOf Tryd.f64) [([6],[9]),([7],[9])]).1 [1,1,0,1,0,1,1]) (Stp LS (Exit×LS))) (kBody 11 [6] [9]))))) e (left (writes (cAt (codeOf Tryd.f64) [1,1,0,1,0,0,1,0,0,0,1,0,0])) [7] [9] (Zdo a0 a1 b_a1x2 n_a1x2 a1x2 y0_6 r0_9) s))=mapS Zb0 Zc3 (nodeX (iterO (Zby prog a0 a1 b_a1x2 n_a1x2 a1x2 y0_6 r0_9) N ((0:Int),r0_9)) (fun x=>Zcb prog N a0 a1 b_a1x2 n_a1x2 a1x2 y0_6 r0_9 x.1 x.2)):=by
 have h:=Zcl (α:=Stp LS (Exit×LS)) Zeo Zh1 _ _ (Zs8 N a0 a1 b_a1x2 n_a1x2 a1x2 y0_6 r0_9) N ((0:Int),r0_9)
 rw [Zs5 Zb0 Zc3]
 refine h _ _ ?_
 intro x;exact Zmh N a0 a1 b_a1x2 n_a1x2 a1x2 y0_6 r0_9 x.1 x.2
def Zbk (P:Program) (N:Nat) (a0 a1:Array Value) (b_a1x2:Option (Option Addr)) (n_a1x2:Nat) (a1x2:Array Value):Int×Array Value→Option (Stp (Int×Array Value) (Int×Array Value))
 | (y0_6,r0_9)=>bif decide (y0_6<(i64.wrap (num a1 1))) then (nodeX (iterO (Zby P a0 a1 b_a1x2 n_a1x2 a1x2 y0_6 r0_9) N ((0:Int),r0_9)) (fun x=>Zcb P N a0 a1 b_a1x2 n_a1x2 a1x2 y0_6 r0_9 x.1 x.2))
  else (some (.done (y0_6,r0_9)))
theorem Zsr (N:Nat) (a0 a1:Array Value) (b_a1x2:Option (Option Addr)) (n_a1x2:Nat) (a1x2:Array Value):∀ t:Int×Array Value,stepV prog Zaq N (cAt (codeOf Tryd.f64) [1,1,0,1,0,0]) (pAt (mkPlan (codeOf Tryd.f64) [([6],[9]),([7],[9])]).1 [1,1,0,1,0]) [6] [9] (Zdr a0 a1 b_a1x2 n_a1x2 a1x2) (Zb0 t)=mapS Zb0 Zc3 (Zbk prog N a0 a1 b_a1x2 n_a1x2 a1x2 t):=by
 rintro ⟨y0_6,r0_9⟩
 refine Eq.trans (b:=(bif decide (y0_6<(i64.wrap (num a1 1))) then (bindX (iterO (stepV prog Zaq N (cAt (codeOf Tryd.f64) [1,1,0,1,0,0,1,0,0,0,1,0,0]) (pAt (mkPlan (codeOf Tryd.f64) [([6],[9]),([7],[9])]).1 [1,1,0,1,0,1,0,0,1,0]) [7] [9] (Zdo a0 a1 b_a1x2 n_a1x2 a1x2 y0_6 r0_9)) N ([.a (.i .i64 (0:Int))],[.row r0_9 123])) (fun e s=>(kBlock 2 (kSeq (veC prog Zaq N (cAt (codeOf Tryd.f64) [1,1,0,1,0,0,1,0,0,1]) (pAt (mkPlan (codeOf Tryd.f64) [([6],[9]),([7],[9])]).1 [1,1,0,1,0,1,0,1]) (Stp LS (Exit×LS))) (kBlock 1 (kSeq (veC prog Zaq N (cAt (codeOf Tryd.f64) [1,1,0,1,0,0,1,1]) (pAt (mkPlan (codeOf Tryd.f64) [([6],[9]),([7],[9])]).1 [1,1,0,1,0,1,1]) (Stp LS (Exit×LS))) (kBody 11 [6] [9]))))) e (left (writes (cAt (codeOf Tryd.f64) [1,1,0,1,0,0,1,0,0,0,1,0,0])) [7] [9] (Zdo a0 a1 b_a1x2 n_a1x2 a1x2 y0_6 r0_9) s)))
  else (some (.done ((.exit 0),([.a (.i .i64 (y0_6))],[.row r0_9 123])))))) (by kernel_rfl) ?_
 simp only [Ztj N a0 a1 b_a1x2 n_a1x2 a1x2 y0_6 r0_9,Zbk,Zbe,Zbc,Zbb,Zbf,Zb0,Zc3]
def Ze0 (P:Program) (N:Nat) (a0 a1:Array Value) (b_a1x2:Option (Option Addr)) (n_a1x2:Nat) (a1x2:Array Value) (z0_6:Int) (q0_9:Array Value):Option (SV×Eff×Bool):=some (.a (.g q0_9 123),.none,true)
theorem Zl9 (N:Nat) (a0 a1:Array Value) (b_a1x2:Option (Option Addr)) (n_a1x2:Nat) (a1x2:Array Value) (z0_6:Int) (q0_9:Array Value):(kBlock 0 (kSeq (veC prog Zaq N (cAt (codeOf Tryd.f64) [1,1,1]) (pAt (mkPlan (codeOf Tryd.f64) [([6],[9]),([7],[9])]).1 [1,1,1]) (SV×Eff×Bool)) (finK prog [.row a0 35,.one (.r a1 44 [(2,2)]) 44,.sl (.came b_a1x2) n_a1x2 a1x2 75] [.cell 4 123]))) (.exit 0) (left (writes (cAt (codeOf Tryd.f64) [1,1,0,1,0,0])) [6] [9] (Zdr a0 a1 b_a1x2 n_a1x2 a1x2) ([.a (.i .i64 (z0_6))],[.row q0_9 123]))=Ze0 prog N a0 a1 b_a1x2 n_a1x2 a1x2 z0_6 q0_9:=by
 refine Eq.trans (b:=(some (.a (.g q0_9 123),.none,true))) (by kernel_rfl) ?_
 rfl
theorem Zs6 (N:Nat) (a0 a1:Array Value) (b_a1x2:Option (Option Addr)) (n_a1x2:Nat) (a1x2:Array Value):bindX (iterO (stepV prog Zaq N (cAt (codeOf Tryd.f64) [1,1,0,1,0,0]) (pAt (mkPlan (codeOf Tryd.f64) [([6],[9]),([7],[9])]).1 [1,1,0,1,0]) [6] [9] (Zdr a0 a1 b_a1x2 n_a1x2 a1x2)) N ([.a (.i .i64 (0:Int))],[.row ((zc prog 123).setIfInBounds 0 (.int .i8 (num a1 0))) 123])) (fun e s=>(kBlock 0 (kSeq (veC prog Zaq N (cAt (codeOf Tryd.f64) [1,1,1]) (pAt (mkPlan (codeOf Tryd.f64) [([6],[9]),([7],[9])]).1 [1,1,1]) (SV×Eff×Bool)) (finK prog [.row a0 35,.one (.r a1 44 [(2,2)]) 44,.sl (.came b_a1x2) n_a1x2 a1x2 75] [.cell 4 123]))) e (left (writes (cAt (codeOf Tryd.f64) [1,1,0,1,0,0])) [6] [9] (Zdr a0 a1 b_a1x2 n_a1x2 a1x2) s))=nodeX (iterO (Zbk prog N a0 a1 b_a1x2 n_a1x2 a1x2) N ((0:Int),((zc prog 123).setIfInBounds 0 (.int .i8 (num a1 0))))) (fun x=>Ze0 prog N a0 a1 b_a1x2 n_a1x2 a1x2 x.1 x.2):=by
 refine Zcl Zb0 Zc3 _ _ (Zsr N a0 a1 b_a1x2 n_a1x2 a1x2) N ((0:Int),((zc prog 123).setIfInBounds 0 (.int .i8 (num a1 0)))) _ _ ?_
 intro x;exact Zl9 N a0 a1 b_a1x2 n_a1x2 a1x2 x.1 x.2
theorem Zrv (N:Nat) (a0 a1:Array Value) (b_a1x2:Option (Option Addr)) (n_a1x2:Nat) (a1x2:Array Value):ansV prog Zaq N Tryd.f64 [([6],[9]),([7],[9])] [.w 0,.w 1] [.row a0 35,.one (.r a1 44 [(2,2)]) 44,.sl (.came b_a1x2) n_a1x2 a1x2 75]=(nodeX (iterO (Zbk prog N a0 a1 b_a1x2 n_a1x2 a1x2) N ((0:Int),((zc prog 123).setIfInBounds 0 (.int .i8 (num a1 0))))) (fun x=>Ze0 prog N a0 a1 b_a1x2 n_a1x2 a1x2 x.1 x.2)):=by
 refine Eq.trans (b:=(bindX (iterO (stepV prog Zaq N (cAt (codeOf Tryd.f64) [1,1,0,1,0,0]) (pAt (mkPlan (codeOf Tryd.f64) [([6],[9]),([7],[9])]).1 [1,1,0,1,0]) [6] [9] (Zdr a0 a1 b_a1x2 n_a1x2 a1x2)) N ([.a (.i .i64 (0:Int))],[.row ((zc prog 123).setIfInBounds 0 (.int .i8 (num a1 0))) 123])) (fun e s=>(kBlock 0 (kSeq (veC prog Zaq N (cAt (codeOf Tryd.f64) [1,1,1]) (pAt (mkPlan (codeOf Tryd.f64) [([6],[9]),([7],[9])]).1 [1,1,1]) (SV×Eff×Bool)) (finK prog [.row a0 35,.one (.r a1 44 [(2,2)]) 44,.sl (.came b_a1x2) n_a1x2 a1x2 75] [.cell 4 123]))) e (left (writes (cAt (codeOf Tryd.f64) [1,1,0,1,0,0])) [6] [9] (Zdr a0 a1 b_a1x2 n_a1x2 a1x2) s)))) (by kernel_rfl) ?_
 simp only [Zs6 N a0 a1 b_a1x2 n_a1x2 a1x2]
theorem Zpx (a0 a1:Array Value) (b_a1x2:Option (Option Addr)) (n_a1x2:Nat) (a1x2:Array Value) (h_a0:WT prog 35 a0) (h_a1:WT prog 44 a1) (h_a1x2:a1x2.size=n_a1x2*(lay prog 75).length∧(∀ k,k<n_a1x2→WT prog 75 (a1x2.extract (k*(lay prog 75).length) (k*(lay prog 75).length+(lay prog 75).length)))∧n_a1x2≤9223372036854775807) (hg:((okS a0&&planB a0 a1 n_a1x2 a1x2))=true):ansV prog Zaq 18446744073709551616 Tryd.f64 [([6],[9]),([7],[9])] [.w 0,.w 1] [.row a0 35,.one (.r a1 44 [(2,2)]) 44,.sl (.came b_a1x2) n_a1x2 a1x2 75]=some (.a (.g (spreadV prog a0 (num a1 0) n_a1x2 a1x2 (num a1 1).toNat) 123),.none,true):=by
 have hn:=h_a1x2.2.2
 rw [Bool.and_eq_true] at hg
 obtain ⟨hok,hg⟩:=hg
 obtain ⟨-,b0⟩:=h_a1.int (o:=0) (k:=.i8) (by kernel_rfl)
 obtain ⟨-,b1⟩:=h_a1.int (o:=1) (k:=.i8) (by kernel_rfl)
 have m8:IntKind.i8.min = -128∧IntKind.i8.max=127:=⟨rfl,rfl⟩
 have e0:i64.wrap (num a1 0)=num a1 0:=IntWalk.i64_in _ (by omega)
 have e1:i64.wrap (num a1 1)=num a1 1:=IntWalk.i64_in _ (by omega)
 unfold planB at hg
 rw [e0,e1] at hg
 simp only [Bool.and_eq_true] at hg
 obtain ⟨g0,g1,-,g2,-⟩:=hg
 have r0:=Znt g0
 have r1:=Znt g1
 have hc:=Ygw h_a0 (fun k hk=>by have:=h_a1x2.2.1 k hk;rw [re_len] at this;exact this) g2
 obtain ⟨m,hm⟩:=Int.eq_ofNat_of_zero_le (show 0≤num a1 1 by omega)
 have em:i64.wrap (m:Int)=(m:Int):=by rw [← hm];exact e1
 refine (Zrv 18446744073709551616 a0 a1 b_a1x2 n_a1x2 a1x2).trans ?_
 rw [hm,Int.toNat_natCast]
 have hq:∀ q,iterO (Zbk prog 18446744073709551616 a0 a1 b_a1x2 n_a1x2 a1x2) 18446744073709551616 ((0:Int),((zc prog 123).setIfInBounds 0 (.int .i8 (num a1 0))))=some ((m:Int),q)→nodeX (iterO (Zbk prog 18446744073709551616 a0 a1 b_a1x2 n_a1x2 a1x2) 18446744073709551616 ((0:Int),((zc prog 123).setIfInBounds 0 (.int .i8 (num a1 0))))) (fun x=>Ze0 prog 18446744073709551616 a0 a1 b_a1x2 n_a1x2 a1x2 x.1 x.2)=some (.a (.g q 123),.none,true):=fun q e=>by rw [e];rfl
 refine hq _ ?_
 exact Zhi (g:=Zbk prog 18446744073709551616 a0 a1 b_a1x2 n_a1x2 a1x2) (fun j=>((j:Int),spreadV prog a0 (num a1 0) n_a1x2 a1x2 j)) (m:=m) (x:=((m:Int),spreadV prog a0 (num a1 0) n_a1x2 a1x2 m)) (N:=18446744073709551616) (fun j hj=>by
  have h1:decide ((j:Int)<(m:Int))=true:=decide_eq_true (by omega)
  have h3:i64.wrap ((j:Int)+1)=((j+1:Nat):Int):=by rw [w64 (by omega)];omega
  have h4:(decide (0≤(j:Int))&&decide ((j:Int)≤14))=true:=by rw [decide_eq_true (show 0≤(j:Int) by omega),decide_eq_true (show (j:Int)≤14 by omega)];rfl
  have hG:=Zve (S:=a0) (A:=a1x2) (n:=n_a1x2) h_a0 hok (show 0≤num a1 0∧num a1 0≤1 by omega) hc j (by omega)
  have hgo:=(good_go hok (show 0≤num a1 0∧num a1 0≤1 by omega) (by omega) (Ybg (h:=(j:Int)) hG hc)).2
  have hi:∀ X,iterO (Zby prog a0 a1 b_a1x2 n_a1x2 a1x2 (j:Int) X) 18446744073709551616 ((0:Int),X)=some ((n_a1x2:Int),withV (j:Int) n_a1x2 a1x2 X):=fun X=>Zg6 (g:=Zby prog a0 a1 b_a1x2 n_a1x2 a1x2 (j:Int) X) (fun r k=>((k:Int),r)) (putR (j:Int) a1x2) (m:=n_a1x2) (t:=X) (x:=((n_a1x2:Int),withV (j:Int) n_a1x2 a1x2 X)) (N:=18446744073709551616) (fun k s hk _=>by
   have h1:decide ((k:Int)<(n_a1x2:Int))=true:=decide_eq_true (by omega)
   have h0:decide (0≤(k:Int))=true:=decide_eq_true (by omega)
   have h3:i64.wrap ((k:Int)+1)=((k+1:Nat):Int):=by rw [IntWalk.i64_in _ (by omega)];omega
   have c0:=hc k hk
   have c0:=dec2 c0.1 (show num (a1x2.extract (k*3) (k*3+3)) 0<36 by omega)
   unfold putR
   rw [← Yg1]
   cases he:(i64.wrap (num (a1x2.extract (k*3) (k*3+3)) 1)==(j:Int))<;>simp only [Zby,h1,h0,h3,he,c0,h4,Bool.and_self,Int.toNat_natCast,cond_true,cond_false]) (by
   have h1:decide ((n_a1x2:Int)<(n_a1x2:Int))=false:=decide_eq_false (by omega)
   simp only [Zby,h1,cond_false]
   rfl) (by omega)
  have hX:=hi (spreadV prog a0 (num a1 0) n_a1x2 a1x2 j)
  have t1:(okS a0&&(decide (0≤tdS (withV (j:Int) n_a1x2 a1x2 (spreadV prog a0 (num a1 0) n_a1x2 a1x2 j)))&&decide (tdS (withV (j:Int) n_a1x2 a1x2 (spreadV prog a0 (num a1 0) n_a1x2 a1x2 j))<2)))=true:=by rw [hok,dec2 hgo.1 hgo.2];rfl
  have e2:spreadV prog a0 (num a1 0) n_a1x2 a1x2 (j+1)=hourV prog a0 (withV (j:Int) n_a1x2 a1x2 (spreadV prog a0 (num a1 0) n_a1x2 a1x2 j)):=rfl
  rw [e2]
  generalize spreadV prog a0 (num a1 0) n_a1x2 a1x2 j=X at hX t1⊢
  generalize withV (j:Int) n_a1x2 a1x2 X=Y at hX t1⊢
  have hk:Zcb prog 18446744073709551616 a0 a1 b_a1x2 n_a1x2 a1x2 (j:Int) X (n_a1x2:Int) Y=some (.more (((j+1:Nat):Int),hourV prog a0 Y)):=by
   unfold Zcb
   rw [t1,cond_true,h3]
  have h1':Zbk prog 18446744073709551616 a0 a1 b_a1x2 n_a1x2 a1x2 ((j:Int),X)=nodeX (iterO (Zby prog a0 a1 b_a1x2 n_a1x2 a1x2 (j:Int) X) 18446744073709551616 ((0:Int),X)) (fun x=>Zcb prog 18446744073709551616 a0 a1 b_a1x2 n_a1x2 a1x2 (j:Int) X x.1 x.2):=by
   simp only [Zbk,hm,em,h1,cond_true]
  rw [h1',hX]
  exact hk) (by
  have h1:decide ((m:Int)<(m:Int))=false:=decide_eq_false (by omega)
  simp only [Zbk,hm,em,h1,cond_false]) (by omega)
def Zba:Con:=fun args h=>match args,h with
 | [.w 0,.w 1],[.row a0 35,.one (.r a1 44 [(2,2)]) 44,.sl (.came b_a1x2) n_a1x2 a1x2 75]=>some (.a (.g (spreadV prog a0 (num a1 0) n_a1x2 a1x2 (num a1 1).toNat) 123),.none,(okS a0&&planB a0 a1 n_a1x2 a1x2))
 | _,_=>none
theorem Zop:EntX prog 64:=Zam (fn:=Tryd.f64) (by kernel_rfl) (by kernel_rfl) (by kernel_rfl)
theorem Zr9:ConOkX mn prog 64 Zba:=(Zat (N:=18446744073709551616) (by kernel_rfl) (mkΓ_consX (Zag Zt5) Zpm (mkΓ_consX (Zag Zwe) Zqd mkΓ_nilX)) (fn:=Tryd.f64) (by kernel_rfl) (by kernel_rfl) [([6],[9]),([7],[9])]).of (by
 intro ρ h w args vals r e hA hH hr
 unfold Zba at hr
 split at hr
 ·rename_i a0 a1 b_a1x2 n_a1x2 a1x2
  obtain ⟨rfl,hg⟩:=Prod.mk.inj (Option.some.inj hr)
  obtain ⟨rfl,hg2⟩:=Prod.mk.inj hg
  exact Zpx a0 a1 b_a1x2 n_a1x2 a1x2 (hH.wt 0 rfl) (hH.wtr 1 rfl) (hH.slw 2 rfl) hg2
 ·cases hr)
def fbF (C:Array Value) (acc:Int) (k:Nat):Int:=bif decide (num C (k*1) > (0:Int)) then IntKind.u64.wrap (BitVec.ofInt IntKind.u64.bits acc ||| BitVec.ofInt IntKind.u64.bits (Zbq (k:Int))).toNat else acc
def Zdc (a0:Array Value):St:=(⟨.a (.g a0 98) :: .a (.w 0) :: .a (.i .u64 (0:Int)) :: .a (.i .u64 (0:Int)) :: .a (.u) :: .a (.u) :: .a (.g a0 98) :: .a (.i .i64 (0:Int))::us 11 ([]),[.row a0 98,.no],[]⟩:St)
def Zeb:Int×Int→LS
 | (y0_3,y0_7)=>([.a (.i .u64 (y0_3)),.a (.i .i64 (y0_7))],[])
def Zhp:Int×Int→Exit×LS
 | t=>((.exit 0),Zeb t)
def Zbp (P : Program) (a0 : Array Value) : Int × Int → Option (Stp (Int × Int) (Int × Int))
 | (y0_3, y0_7) => bif decide (y0_7 < (36 : Int)) then (bif (decide (0 ≤ y0_7) && decide (y0_7 < 36)) then (bif decide ((num a0 ((y0_7).toNat * 1)) > (0 : Int)) then (bif decide (0 ≤ y0_7) then (some (.more ((IntKind.u64.wrap (BitVec.ofInt IntKind.u64.bits y0_3 ||| BitVec.ofInt IntKind.u64.bits (Zbq y0_7)).toNat), (i64.wrap (y0_7 + (1 : Int))))))
     else (none))
    else (some (.more (y0_3, (i64.wrap (y0_7 + (1 : Int)))))))
   else (none))
  else (some (.done (y0_3, y0_7)))
theorem Zq1 (N:Nat) (a0:Array Value):∀ t:Int×Int,stepV prog (mkΓ [(54,con Zbj)]) N (cAt (codeOf Tryd.f50) [1,1,0,1,0,0]) (pAt (mkPlan (codeOf Tryd.f50) [([3,7],[])]).1 [1,1,0,1,0]) [3,7] [] (Zdc a0) (Zeb t)=mapS Zeb Zhp (Zbp prog a0 t):=by
 rintro ⟨y0_3,y0_7⟩
 refine Eq.trans (b:=(bif decide (y0_7<(36:Int)) then (bif (decide (0≤y0_7)&&decide (y0_7<36)) then (bif decide ((num a0 ((y0_7).toNat*1)) > (0:Int)) then (bif decide (0≤y0_7) then (some (.more ([.a (.i .u64 (IntKind.u64.wrap (BitVec.ofInt IntKind.u64.bits y0_3 ||| BitVec.ofInt IntKind.u64.bits (Zbq y0_7)).toNat)),.a (.i .i64 (i64.wrap (y0_7+(1:Int))))],[])))
     else (none))
    else (some (.more ([.a (.i .u64 (y0_3)),.a (.i .i64 (i64.wrap (y0_7+(1:Int))))],[]))))
   else (none))
  else (some (.done ((.exit 0),([.a (.i .u64 (y0_3)),.a (.i .i64 (y0_7))],[])))))) (by kernel_rfl) ?_
 simp only [Zbp,Zbe,Zbc,Zbb,Zbf,Zeb,Zhp]
def Zeg (P:Program) (N:Nat) (a0:Array Value) (z0_3:Int) (z0_7:Int):Option (SV×Eff×Bool):=some (.a (.i .u64 (z0_3)),.none,true)
theorem Zli (N:Nat) (a0:Array Value) (z0_3:Int) (z0_7:Int):(kBlock 0 (kSeq (veC prog (mkΓ [(54,con Zbj)]) N (cAt (codeOf Tryd.f50) [1,1,1]) (pAt (mkPlan (codeOf Tryd.f50) [([3,7],[])]).1 [1,1,1]) (SV×Eff×Bool)) (finK prog [] [.tmp 2]))) (.exit 0) (left (writes (cAt (codeOf Tryd.f50) [1,1,0,1,0,0])) [3,7] [] (Zdc a0) ([.a (.i .u64 (z0_3)),.a (.i .i64 (z0_7))],[]))=Zeg prog N a0 z0_3 z0_7:=by
 refine Eq.trans (b:=(some (.a (.i .u64 (z0_3)),.none,true))) (by kernel_rfl) ?_
 rfl
theorem Zrk (N:Nat) (a0:Array Value):bindX (iterO (stepV prog (mkΓ [(54,con Zbj)]) N (cAt (codeOf Tryd.f50) [1,1,0,1,0,0]) (pAt (mkPlan (codeOf Tryd.f50) [([3,7],[])]).1 [1,1,0,1,0]) [3,7] [] (Zdc a0)) N ([.a (.i .u64 (0:Int)),.a (.i .i64 (0:Int))],[])) (fun e s=>(kBlock 0 (kSeq (veC prog (mkΓ [(54,con Zbj)]) N (cAt (codeOf Tryd.f50) [1,1,1]) (pAt (mkPlan (codeOf Tryd.f50) [([3,7],[])]).1 [1,1,1]) (SV×Eff×Bool)) (finK prog [] [.tmp 2]))) e (left (writes (cAt (codeOf Tryd.f50) [1,1,0,1,0,0])) [3,7] [] (Zdc a0) s))=nodeX (iterO (Zbp prog a0) N ((0:Int),(0:Int))) (fun x=>Zeg prog N a0 x.1 x.2):=by
 refine Zcl Zeb Zhp _ _ (Zq1 N a0) N ((0:Int),(0:Int)) _ _ ?_
 intro x;exact Zli N a0 x.1 x.2
theorem Zo9 (N:Nat) (a0:Array Value):ansV prog (mkΓ [(54,con Zbj)]) N Tryd.f50 [([3,7],[])] [.g a0 98] []=(nodeX (iterO (Zbp prog a0) N ((0:Int),(0:Int))) (fun x=>Zeg prog N a0 x.1 x.2)):=by
 refine Eq.trans (b:=(bindX (iterO (stepV prog (mkΓ [(54,con Zbj)]) N (cAt (codeOf Tryd.f50) [1,1,0,1,0,0]) (pAt (mkPlan (codeOf Tryd.f50) [([3,7],[])]).1 [1,1,0,1,0]) [3,7] [] (Zdc a0)) N ([.a (.i .u64 (0:Int)),.a (.i .i64 (0:Int))],[])) (fun e s=>(kBlock 0 (kSeq (veC prog (mkΓ [(54,con Zbj)]) N (cAt (codeOf Tryd.f50) [1,1,1]) (pAt (mkPlan (codeOf Tryd.f50) [([3,7],[])]).1 [1,1,1]) (SV×Eff×Bool)) (finK prog [] [.tmp 2]))) e (left (writes (cAt (codeOf Tryd.f50) [1,1,0,1,0,0])) [3,7] [] (Zdc a0) s)))) (by kernel_rfl) ?_
 simp only [Zrk N a0]
theorem Zom (a0:Array Value) (h_a0:WT prog 98 a0) (hg:(true)=true):ansV prog (mkΓ [(54,con Zbj)]) 1000 Tryd.f50 [([3,7],[])] [.g a0 98] []=some (.a (.i .u64 (folds (fbF a0) 0 36)),.none,true):=by
 refine (Zo9 1000 a0).trans ?_
 have hq:∀ q:Int,iterO (Zbp prog a0) 1000 ((0:Int),(0:Int))=some (q,(36:Int))→nodeX (iterO (Zbp prog a0) 1000 ((0:Int),(0:Int))) (fun x=>Zeg prog 1000 a0 x.1 x.2)=some (.a (.i .u64 q),.none,true):=fun q e=>by rw [e];rfl
 refine hq _ ?_
 exact Zg6 (g:=Zbp prog a0) (fun (acc:Int) k=>(acc,(k:Int))) (fbF a0) (m:=36) (t:=(0:Int)) (x:=(folds (fbF a0) 0 36,(36:Int))) (N:=1000) (fun k s hk _=>by
  have h1:decide ((k:Int)<36)=true:=decide_eq_true (by omega)
  have h0:decide (0≤(k:Int))=true:=decide_eq_true (by omega)
  have h3:i64.wrap ((k:Int)+1)=((k+1:Nat):Int):=by rw [w64 (by omega)];omega
  unfold fbF
  cases hp:decide (num a0 (k*1) > (0:Int))<;>simp only [Zbp,h1,h0,h3,hp,Int.toNat_natCast,Bool.and_self,cond_true,cond_false]) (by
  have h1:decide (((36:Nat):Int)<36)=false:=by decide
  generalize folds (fbF a0) 0 36=q
  simp only [Zbp,h1,cond_false]
  rfl) (by omega)
def Zg5:Con:=fun args h=>match args,h with
 | [.g a0 98],[]=>some (.a (.i .u64 (folds (fbF a0) 0 36)),.none,true)
 | _,_=>none
theorem Zm6:EntX prog 50:=Zam (fn:=Tryd.f50) (by kernel_rfl) (by kernel_rfl) (by kernel_rfl)
theorem Zr1:ConOkX mn prog 50 Zg5:=(Zat (N:=1000) (by kernel_rfl) (mkΓ_consX (Zag Zlw) Zih mkΓ_nilX) (fn:=Tryd.f50) (by kernel_rfl) (by kernel_rfl) [([3,7],[])]).of (by
 intro ρ h w args vals r e hA hH hr
 unfold Zg5 at hr
 split at hr
 ·rename_i a0
  obtain ⟨rfl,hg⟩:=Prod.mk.inj (Option.some.inj hr)
  obtain ⟨rfl,hg2⟩:=Prod.mk.inj hg
  exact Zom a0 (hA.wt 0 rfl) hg2
 ·cases hr)
theorem Zzf (X:Array Value) {i:Nat} (hi:i<36):num (X.extract 3 (3+36)) i=num X (3+i):=by
 unfold num
 rw [Array.getElem?_extract]
 by_cases h:i<min (3+36) X.size - 3
 ·rw [if_pos h]
 ·rw [if_neg h,Array.getElem?_eq_none (show X.size≤3+i by omega)]
def endV (P:Program) (S p:Array Value) (n:Nat) (A:Array Value):Array Value:=spreadV P S (num p 0) n A (num p 1).toNat
def reaV (P:Program) (S p:Array Value) (n:Nat) (A:Array Value) (c:Int):Int:=IntKind.u64.wrap (BitVec.ofInt IntKind.u64.bits c &&& BitVec.ofInt IntKind.u64.bits (folds (fbF ((endV P S p n A).extract 3 (3+36))) 0 36)).toNat
def Zc8 (a2:Int) (a0 a1:Array Value) (b_a1x2:Option (Option Addr)) (n_a1x2:Nat) (a1x2:Array Value):St:=(⟨.a (.w 0) :: .a (.w 1) :: .a (.i .u64 (a2))::us 3 (.a (.i .u64 (0:Int)) :: .a (.w 6) :: .a (.i .u64 (0:Int)) :: .a (.i .i64 (0:Int)) :: .a (.w 0) :: .a (.w 1) :: .a (.g (spreadV prog a0 (num a1 0) n_a1x2 a1x2 (num a1 1).toNat) 123)::us 17 ([])),[.row a0 35,.one (.r a1 44 [(2,2)]) 44,.sl (.came b_a1x2) n_a1x2 a1x2 75,.no,.no,.no,.row (spreadV prog a0 (num a1 0) n_a1x2 a1x2 (num a1 1).toNat) 123,.no],[6]⟩:St)
def Zea:Int×Int→LS
 | (y0_8,y0_9)=>([.a (.i .u64 (y0_8)),.a (.i .i64 (y0_9))],[])
def Zhq:Int×Int→Exit×LS
 | t=>((.exit 0),Zea t)
def Za6 (P : Program) (a2 : Int) (a0 a1 : Array Value) (b_a1x2 : Option (Option Addr)) (n_a1x2 : Nat) (a1x2 : Array Value) : Int × Int → Option (Stp (Int × Int) (Int × Int))
 | (y0_8, y0_9) => bif decide (y0_9 < (36 : Int)) then (bif (decide (0 ≤ y0_9) && decide (y0_9 < 36)) then (bif decide ((num (spreadV prog a0 (num a1 0) n_a1x2 a1x2 (num a1 1).toNat) (3 + ((y0_9).toNat * 1))) > (0 : Int)) then (bif decide (0 ≤ (IntKind.u64.wrap y0_9)) then (some (.more ((IntKind.u64.wrap (BitVec.ofInt IntKind.u64.bits y0_8 ||| BitVec.ofInt IntKind.u64.bits (IntKind.u64.wrap ((1 : Int) * 2 ^ (min ((IntKind.u64.wrap y0_9)).toNat IntKind.u64.bits)))).toNat), (i64.wrap (y0_9 + (1 : Int))))))
     else (none))
    else (some (.more (y0_8, (i64.wrap (y0_9 + (1 : Int)))))))
   else (none))
  else (some (.done (y0_8, y0_9)))
theorem Zq7 (N:Nat) (a2:Int) (a0 a1:Array Value) (b_a1x2:Option (Option Addr)) (n_a1x2:Nat) (a1x2:Array Value):∀ t:Int×Int,stepV prog (mkΓ [(64,con Zba)]) N (cAt (codeOf Tryd.f43) [1,1,1,0,1,0,0]) (pAt (mkPlan (codeOf Tryd.f43) [([8,9],[])]).1 [1,1,1,0,1,0]) [8,9] [] (Zc8 a2 a0 a1 b_a1x2 n_a1x2 a1x2) (Zea t)=mapS Zea Zhq (Za6 prog a2 a0 a1 b_a1x2 n_a1x2 a1x2 t):=by
 rintro ⟨y0_8,y0_9⟩
 refine Eq.trans (b:=(bif decide (y0_9<(36:Int)) then (bif (decide (0≤y0_9)&&decide (y0_9<36)) then (bif decide ((num (spreadV prog a0 (num a1 0) n_a1x2 a1x2 (num a1 1).toNat) (3+((y0_9).toNat*1))) > (0:Int)) then (bif decide (0≤(IntKind.u64.wrap y0_9)) then (some (.more ([.a (.i .u64 (IntKind.u64.wrap (BitVec.ofInt IntKind.u64.bits y0_8 ||| BitVec.ofInt IntKind.u64.bits (IntKind.u64.wrap ((1:Int)*2^(min ((IntKind.u64.wrap y0_9)).toNat IntKind.u64.bits)))).toNat)),.a (.i .i64 (i64.wrap (y0_9+(1:Int))))],[])))
     else (none))
    else (some (.more ([.a (.i .u64 (y0_8)),.a (.i .i64 (i64.wrap (y0_9+(1:Int))))],[]))))
   else (none))
  else (some (.done ((.exit 0),([.a (.i .u64 (y0_8)),.a (.i .i64 (y0_9))],[])))))) (by kernel_rfl) ?_
 simp only [Za6,Zbe,Zbc,Zbb,Zbf,Zea,Zhq]
def Zeh (P:Program) (N:Nat) (a2:Int) (a0 a1:Array Value) (b_a1x2:Option (Option Addr)) (n_a1x2:Nat) (a1x2:Array Value) (z0_8:Int) (z0_9:Int):Option (SV×Eff×Bool):=some (.a (.i .u64 (IntKind.u64.wrap (BitVec.ofInt IntKind.u64.bits z0_8 &&& BitVec.ofInt IntKind.u64.bits a2).toNat)),.none,true)
theorem Zlg (N:Nat) (a2:Int) (a0 a1:Array Value) (b_a1x2:Option (Option Addr)) (n_a1x2:Nat) (a1x2:Array Value) (z0_8:Int) (z0_9:Int):(kBlock 0 (kSeq (veC prog (mkΓ [(64,con Zba)]) N (cAt (codeOf Tryd.f43) [1,1,1,1]) (pAt (mkPlan (codeOf Tryd.f43) [([8,9],[])]).1 [1,1,1,1]) (SV×Eff×Bool)) (finK prog [.row a0 35,.one (.r a1 44 [(2,2)]) 44,.sl (.came b_a1x2) n_a1x2 a1x2 75] [.tmp 6]))) (.exit 0) (left (writes (cAt (codeOf Tryd.f43) [1,1,1,0,1,0,0])) [8,9] [] (Zc8 a2 a0 a1 b_a1x2 n_a1x2 a1x2) ([.a (.i .u64 (z0_8)),.a (.i .i64 (z0_9))],[]))=Zeh prog N a2 a0 a1 b_a1x2 n_a1x2 a1x2 z0_8 z0_9:=by
 refine Eq.trans (b:=(some (.a (.i .u64 (IntKind.u64.wrap (BitVec.ofInt IntKind.u64.bits z0_8 &&& BitVec.ofInt IntKind.u64.bits a2).toNat)),.none,true))) (by kernel_rfl) ?_
 rfl
theorem Zqa (N:Nat) (a2:Int) (a0 a1:Array Value) (b_a1x2:Option (Option Addr)) (n_a1x2:Nat) (a1x2:Array Value):bindX (iterO (stepV prog (mkΓ [(64,con Zba)]) N (cAt (codeOf Tryd.f43) [1,1,1,0,1,0,0]) (pAt (mkPlan (codeOf Tryd.f43) [([8,9],[])]).1 [1,1,1,0,1,0]) [8,9] [] (Zc8 a2 a0 a1 b_a1x2 n_a1x2 a1x2)) N ([.a (.i .u64 (0:Int)),.a (.i .i64 (0:Int))],[])) (fun e s=>(kBlock 0 (kSeq (veC prog (mkΓ [(64,con Zba)]) N (cAt (codeOf Tryd.f43) [1,1,1,1]) (pAt (mkPlan (codeOf Tryd.f43) [([8,9],[])]).1 [1,1,1,1]) (SV×Eff×Bool)) (finK prog [.row a0 35,.one (.r a1 44 [(2,2)]) 44,.sl (.came b_a1x2) n_a1x2 a1x2 75] [.tmp 6]))) e (left (writes (cAt (codeOf Tryd.f43) [1,1,1,0,1,0,0])) [8,9] [] (Zc8 a2 a0 a1 b_a1x2 n_a1x2 a1x2) s))=nodeX (iterO (Za6 prog a2 a0 a1 b_a1x2 n_a1x2 a1x2) N ((0:Int),(0:Int))) (fun x=>Zeh prog N a2 a0 a1 b_a1x2 n_a1x2 a1x2 x.1 x.2):=by
 refine Zcl Zea Zhq _ _ (Zq7 N a2 a0 a1 b_a1x2 n_a1x2 a1x2) N ((0:Int),(0:Int)) _ _ ?_
 intro x;exact Zlg N a2 a0 a1 b_a1x2 n_a1x2 a1x2 x.1 x.2
theorem Zpv (N:Nat) (a2:Int) (a0 a1:Array Value) (b_a1x2:Option (Option Addr)) (n_a1x2:Nat) (a1x2:Array Value):ansV prog (mkΓ [(64,con Zba)]) N Tryd.f43 [([8,9],[])] [.w 0,.w 1,.i .u64 (a2)] [.row a0 35,.one (.r a1 44 [(2,2)]) 44,.sl (.came b_a1x2) n_a1x2 a1x2 75]=(bif (okS a0&&planB a0 a1 n_a1x2 a1x2) then (nodeX (iterO (Za6 prog a2 a0 a1 b_a1x2 n_a1x2 a1x2) N ((0:Int),(0:Int))) (fun x=>Zeh prog N a2 a0 a1 b_a1x2 n_a1x2 a1x2 x.1 x.2))
  else (none)):=by
 refine Eq.trans (b:=(bif (okS a0&&planB a0 a1 n_a1x2 a1x2) then (bindX (iterO (stepV prog (mkΓ [(64,con Zba)]) N (cAt (codeOf Tryd.f43) [1,1,1,0,1,0,0]) (pAt (mkPlan (codeOf Tryd.f43) [([8,9],[])]).1 [1,1,1,0,1,0]) [8,9] [] (Zc8 a2 a0 a1 b_a1x2 n_a1x2 a1x2)) N ([.a (.i .u64 (0:Int)),.a (.i .i64 (0:Int))],[])) (fun e s=>(kBlock 0 (kSeq (veC prog (mkΓ [(64,con Zba)]) N (cAt (codeOf Tryd.f43) [1,1,1,1]) (pAt (mkPlan (codeOf Tryd.f43) [([8,9],[])]).1 [1,1,1,1]) (SV×Eff×Bool)) (finK prog [.row a0 35,.one (.r a1 44 [(2,2)]) 44,.sl (.came b_a1x2) n_a1x2 a1x2 75] [.tmp 6]))) e (left (writes (cAt (codeOf Tryd.f43) [1,1,1,0,1,0,0])) [8,9] [] (Zc8 a2 a0 a1 b_a1x2 n_a1x2 a1x2) s)))
  else (none))) (by kernel_rfl) ?_
 simp only [Zqa N a2 a0 a1 b_a1x2 n_a1x2 a1x2]
theorem Zn2 (a2:Int) (a0 a1:Array Value) (b_a1x2:Option (Option Addr)) (n_a1x2:Nat) (a1x2:Array Value) (h_a2:IntKind.u64.min≤a2∧a2≤IntKind.u64.max) (h_a0:WT prog 35 a0) (h_a1:WT prog 44 a1) (h_a1x2:a1x2.size=n_a1x2*(lay prog 75).length∧(∀ k,k<n_a1x2→WT prog 75 (a1x2.extract (k*(lay prog 75).length) (k*(lay prog 75).length+(lay prog 75).length)))∧n_a1x2≤9223372036854775807) (hg:((okS a0&&planB a0 a1 n_a1x2 a1x2))=true):ansV prog (mkΓ [(64,con Zba)]) 1000 Tryd.f43 [([8,9],[])] [.w 0,.w 1,.i .u64 (a2)] [.row a0 35,.one (.r a1 44 [(2,2)]) 44,.sl (.came b_a1x2) n_a1x2 a1x2 75]=some (.a (.i .u64 (reaV prog a0 a1 n_a1x2 a1x2 a2)),.none,true):=by
 refine (Zpv 1000 a2 a0 a1 b_a1x2 n_a1x2 a1x2).trans ?_
 rw [hg,cond_true]
 have hq:∀ q:Int,iterO (Za6 prog a2 a0 a1 b_a1x2 n_a1x2 a1x2) 1000 ((0:Int),(0:Int))=some (q,(36:Int))→nodeX (iterO (Za6 prog a2 a0 a1 b_a1x2 n_a1x2 a1x2) 1000 ((0:Int),(0:Int))) (fun x=>Zeh prog 1000 a2 a0 a1 b_a1x2 n_a1x2 a1x2 x.1 x.2)=some (.a (.i .u64 (IntKind.u64.wrap (BitVec.ofInt IntKind.u64.bits q &&& BitVec.ofInt IntKind.u64.bits a2).toNat)),.none,true):=fun q e=>by rw [e];rfl
 have e0:reaV prog a0 a1 n_a1x2 a1x2 a2=IntKind.u64.wrap (BitVec.ofInt IntKind.u64.bits (folds (fbF ((endV prog a0 a1 n_a1x2 a1x2).extract 3 (3+36))) 0 36) &&& BitVec.ofInt IntKind.u64.bits a2).toNat:=by unfold reaV;rw [BitVec.and_comm]
 rw [e0]
 refine hq _ ?_
 have hF:∀ (k:Nat) (s:Int),k<36→Za6 prog a2 a0 a1 b_a1x2 n_a1x2 a1x2 (s,(k:Int))=some (.more (fbF ((endV prog a0 a1 n_a1x2 a1x2).extract 3 (3+36)) s k,((k+1:Nat):Int))):=fun k s hk=>by
  have h1:decide ((k:Int)<36)=true:=decide_eq_true (by omega)
  have h0:decide (0≤(k:Int))=true:=decide_eq_true (by omega)
  have h3:i64.wrap ((k:Int)+1)=((k+1:Nat):Int):=by rw [w64 (by omega)];omega
  have h5:=Zzf (endV prog a0 a1 n_a1x2 a1x2) (i:=k*1) (by omega)
  have h6:decide (0≤IntKind.u64.wrap (k:Int))=true:=decide_eq_true (Zg1 .u64 _).1
  unfold fbF
  rw [bit_of (c:=(k:Int)) (by omega),h5]
  unfold endV
  simp only [Za6,h1,h0,h3,h6,Int.toNat_natCast,Bool.and_self,cond_true]
  cases decide (num (spreadV prog a0 (num a1 0) n_a1x2 a1x2 (num a1 1).toNat) (3+k*1) > (0:Int))<;>simp only [cond_true,cond_false]
 generalize (endV prog a0 a1 n_a1x2 a1x2).extract 3 (3+36)=C at hF⊢
 exact Zg6 (g:=Za6 prog a2 a0 a1 b_a1x2 n_a1x2 a1x2) (fun (acc:Int) k=>(acc,(k:Int))) (fbF C) (m:=36) (t:=(0:Int)) (x:=(folds (fbF C) 0 36,(36:Int))) (N:=1000) (fun k s hk _=>hF k s hk) (by
  have h1:decide (((36:Nat):Int)<36)=false:=by decide
  generalize folds (fbF C) 0 36=q
  simp only [Za6,h1,cond_false]
  rfl) (by omega)
def Zew:Con:=fun args h=>match args,h with
 | [.w 0,.w 1,.i .u64 a2],[.row a0 35,.one (.r a1 44 [(2,2)]) 44,.sl (.came b_a1x2) n_a1x2 a1x2 75]=>some (.a (.i .u64 (reaV prog a0 a1 n_a1x2 a1x2 a2)),.none,(okS a0&&planB a0 a1 n_a1x2 a1x2))
 | _,_=>none
theorem Zne:EntX prog 43:=Zam (fn:=Tryd.f43) (by kernel_rfl) (by kernel_rfl) (by kernel_rfl)
theorem Zqh:ConOkX mn prog 43 Zew:=(Zat (N:=1000) (by kernel_rfl) (mkΓ_consX (Zag Zr9) Zop mkΓ_nilX) (fn:=Tryd.f43) (by kernel_rfl) (by kernel_rfl) [([8,9],[])]).of (by
 intro ρ h w args vals r e hA hH hr
 unfold Zew at hr
 split at hr
 ·rename_i a2 a0 a1 b_a1x2 n_a1x2 a1x2
  obtain ⟨rfl,hg⟩:=Prod.mk.inj (Option.some.inj hr)
  obtain ⟨rfl,hg2⟩:=Prod.mk.inj hg
  exact Zn2 a2 a0 a1 b_a1x2 n_a1x2 a1x2 (hA.rng 2 rfl) (hH.wt 0 rfl) (hH.wtr 1 rfl) (hH.slw 2 rfl) hg2
 ·cases hr)
end
end Go.Proofs.YtffagbiedigmcaaDoor
