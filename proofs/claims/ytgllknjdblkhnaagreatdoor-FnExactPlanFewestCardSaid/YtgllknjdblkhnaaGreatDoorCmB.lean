/- What a plan spreads and reaches, as it is asked, in company. -/
import Derived.Test.YtgllknjdblkhnaaGreatDoorProg
import Derived.Test.YtgllknjdblkhnaaGreatDoorCmA
set_option linter.unusedVariables false
set_option linter.unusedSimpArgs false
namespace Go.Proofs.YtgllknjdblkhnaaGreatDoor
open Tryz (f51 f60 f73)
open Go.ChangeShapes Go.WideShapes Go.ChangeAt Go.RowKit Ve Vc
open Tryz renaming prog -> PZ
open IntKind (i64)
set_option maxRecDepth 100000
noncomputable section
variable {mn:Md}
def wsum(A:Array Value):Nat->Int
 |0=>0
 |k+1=>i64.wrap (wsum A k+i64.wrap (num (A.extract (k*3) (k*3+3)) 2))
def relB(S:Array Value)(h:Int)(X:Array Value):Bool:=Zae (i64.wrap (num X 0)) S&&(Zaa (i64.wrap (num X 1)) 0 (i64.wrap (h - 1))&&Zaa (i64.wrap (num X 2)) 1 200)
def Ue5(S:Array Value)(h:Int)(n:Nat)(A:Array Value):Bool:=(List.range n).all (λk=>relB S h (A.extract (k*3) (k*3+3)))
theorem Yfj(S:Array Value)(h:Int)(n:Nat)(A:Array Value):Ue5 S h n A=true ↔ ∀k,k<n->(λk=>relB S h (A.extract (k*3) (k*3+3))) k=true:=by unfold Ue5;rw[List.all_eq_true];exact⟨λh k hk=>h k (List.mem_range.2 hk),λh k hk=>h k (List.mem_range.1 hk)⟩
def Udi(S p:Array Value)(n:Nat)(A:Array Value):Bool:=Zaa (i64.wrap (num p 0)) 0 1&&(Zaa (i64.wrap (num p 1)) 1 8&&(!decide ((n:Int) > 12)&&(Ue5 S (i64.wrap (num p 1)) n A&&decide (wsum A n<=1000))))
theorem Ymh{w h:Int}{k:Nat}(h1:((k % 6:Nat):Int)<w)(h2:((k / 6:Nat):Int)<h):inC w h k=true:=by unfold inC;rw[Q3 h1,Q3 h2];rfl
theorem gw_in{S:Array Value}(h0:1<=num S 0/\num S 0<=6/\1<=num S 1/\num S 1<=6){k:Nat}(hk:k<36)(hi:inC (num S 0) (num S 1) k=true)(w:Nat)(hw:w<5)(hn:gw S k w ≠ -1):inC (num S 0) (num S 1) (gw S k w).toNat=true:=by
 obtain⟨hx,hy⟩:=Ymq hi;obtain⟨a1,a2,a3,a4⟩:=h0
 match w,hw with
 |0,_=>exact hi
 | 1,_=>
  simp only[gw]at hn|-
  by_cases c:6<=k
  ·simp only[c,decide_true,Q1];rw[show ((k:Int) - 6).toNat=k - 6 by omega];exact Ymh (by omega) (by omega)
  ·simp[c]at hn
 | 2,_=>
  simp only[gw]at hn|-
  by_cases c:((k % 6:Nat):Int)+1<num S 0
  ·simp only[Q3 c,Q1];rw[show ((k:Int)+1).toNat=k+1 by omega];exact Ymh (by omega) (by omega)
  ·simp only[Q4 c,Q2]at hn;exact absurd rfl hn
 | 3,_=>
  simp only[gw]at hn|-
  by_cases c:((k / 6:Nat):Int)+1<num S 1
  ·simp only[Q3 c,Q1];rw[show ((k:Int)+6).toNat=k+6 by omega];exact Ymh (by omega) (by omega)
  ·simp only[Q4 c,Q2]at hn;exact absurd rfl hn
 | 4,_=>
  simp only[gw]at hn|-
  by_cases c:1<=k % 6
  ·simp only[Q3 c,Q1];rw[show ((k:Int) - 1).toNat=k - 1 by omega];exact Ymh (by omega) (by omega)
  ·simp only[Q4 c,Q2]at hn;exact absurd rfl hn
def ZO(S X:Array Value):Prop:=∀k,k<36->inC (num S 0) (num S 1) k=false->num X (3+k)=0
theorem Yoc{S X:Array Value}(hX:WT PZ 144 X)(hok:okS S=true)(hS:WT PZ 38 S)(h:ZO S X):ZO S (Ubr PZ S X):=by
 intro k hk hf;obtain⟨i1,i2⟩:=Ygg X;have hd:=Zqr hok;have w:=(Ycq (S:=S) hX).int (o:=3+k) (k:=.i64) (Zwx (by omega) (by omega));refine cg_eq ((Ym8 i1 (j:=3+k) (by omega)).trans (.of ?_)) w.2 (by omega);rw[(Zsj X).2.2 k hk,Int.zero_add];refine(Zlt 36 (g:=λ_=>0) λi hi=> ?_).trans (Zy8 36);rw[(Zuy hS hi).2];cases hin:inC (num S 0) (num S 1) i with
 |false=>rw[Bool.false_and,if_neg (by simp),show 3+i*1=3+i by omega,h i hi hin];simp
 | true=>
  have hik:i≠k:=λe=>by rw[e,hf]at hin;cases hin
  cases bitI (num S 2) i with
  |true=>rw[Bool.not_true,Bool.and_false,if_neg (by simp),if_neg (by omega)]
  | false=>
   rw[Bool.not_false,Bool.and_self,if_pos rfl];refine(Zlt 5 (g:=λ_=>0) λw hw=> ?_).trans (Zy8 5);rw[Ycz hd hi hin w hw,if_neg];unfold Uek
   by_cases hg:gw S i w=-1
   ·rw[hg,if_pos (by omega)];omega
   ·have:=Ycc hd hi hin w hw hg;rw[if_neg (show ¬gw S i w<0 by omega)];intro e;have e':(gw S i w).toNat=k:=by omega
    have:=gw_in hd hi hin w hw hg;rw[e',hf]at this;cases this
theorem in_of{x a b:Int}(h:a<=x/\x<=b):Zaa x a b=true:=by unfold Zaa;rw[Q3 (show x>=a from h.1),Q3 h.2];rfl
def put2(X:Array Value)(c:Nat)(b m:Int):Array Value:=(X.setIfInBounds 2 (.int .i64 (i64.wrap (num X 2+b)))).setIfInBounds (3+c*1) (.int .i64 (i64.wrap (num (X.setIfInBounds 2 (.int .i64 (i64.wrap (num X 2+b)))) (3+c*1)+m)))
theorem Ypy(X:Array Value)(c:Nat)(b m:Int):(X.setIfInBounds (3+c*1) (.int .i64 (i64.wrap (num X (3+c*1)+m)))).setIfInBounds 2 (.int .i64 (i64.wrap (num (X.setIfInBounds (3+c*1) (.int .i64 (i64.wrap (num X (3+c*1)+m)))) 2+b)))=put2 X c b m:=by unfold put2;rw[Zef,if_neg (by omega),Zef,if_neg (by omega)];exact Array.setIfInBounds_comm _ _ (by omega)
def putR(h:Int)(A X:Array Value)(k:Nat):Array Value:=bif (i64.wrap (num (A.extract (k*3) (k*3+3)) 1)==h) then put2 X (num (A.extract (k*3) (k*3+3)) 0).toNat (i64.wrap (num (A.extract (k*3) (k*3+3)) 2)) (i64.wrap (i64.wrap (num (A.extract (k*3) (k*3+3)) 2)*12^h.toNat)) else X
def Uc5(h:Int)(n:Nat)(A X:Array Value):Array Value:=folds (putR h A) X n
def Uaw(P:Program)(S:Array Value)(b:Int)(n:Nat)(A:Array Value):Nat->Array Value
 |0=>(zc P 144).setIfInBounds 0 (.int .i8 b)
 |j+1=>Ubr P S (Uc5 (j:Int) n A (Uaw P S b n A j))
def Good(S:Array Value)(b:Int)(j:Nat)(X:Array Value):Prop:=WT PZ 144 X/\num X 0=b/\num X 1=(j:Int)/\ZO S X
theorem good_put{S A X:Array Value}{b h:Int}{j k:Nat}(hX:Good S b j X)(hc:0<=num (A.extract (k*3) (k*3+3)) 0/\num (A.extract (k*3) (k*3+3)) 0<=35/\inC (num S 0) (num S 1) (num (A.extract (k*3) (k*3+3)) 0).toNat=true):Good S b j (putR h A X k):=by
 obtain⟨w,n0,n1,z⟩:=hX;unfold putR;cases (i64.wrap (num (A.extract (k*3) (k*3+3)) 1)==h) with
 |false=>exact⟨w,n0,n1,z⟩
 | true=>
  rw[Q1];generalize i64.wrap (i64.wrap (num (A.extract (k*3) (k*3+3)) 2)*12^h.toNat)=m;generalize i64.wrap (num (A.extract (k*3) (k*3+3)) 2)=bb;generalize num (A.extract (k*3) (k*3+3)) 0=c at hc;obtain⟨c0,c1,c2⟩:=hc;unfold put2;have w2:=Zo4 (k:=.i64) (i:=2) w (Zwx (by omega) (by omega)) (Zhx .i64 (num X 2+bb));refine⟨Zo4 (k:=.i64) w2 (Zwx (by omega) (by omega)) (Zhx .i64 _),?_,?_,λi hi hf=> ?_⟩
  ·rw[Zef,if_neg (by omega),Zef,if_neg (by omega)];exact n0
  ·rw[Zef,if_neg (by omega),Zef,if_neg (by omega)];exact n1
  ·have hne:c.toNat≠i:=λe=>by rw[e,hf]at c2;cases c2
   rw[Zef,if_neg (by omega),Zef,if_neg (by omega)];exact z i hi hf
theorem Yiz{S A X:Array Value}{b h:Int}{j n:Nat}(hX:Good S b j X)(hc:∀k,k<n->0<=num (A.extract (k*3) (k*3+3)) 0/\num (A.extract (k*3) (k*3+3)) 0<=35/\inC (num S 0) (num S 1) (num (A.extract (k*3) (k*3+3)) 0).toNat=true):Good S b j (Uc5 h n A X):=
 Zjl (λ_ X=>Good S b j X) hX (λk s hk hs=>good_put hs (hc k hk)) n (Nat.le_refl _)
theorem Ypp{S X:Array Value}{b:Int}{j:Nat}(hS:WT PZ 38 S)(hok:okS S=true)(hj:j<=100)(hX:Good S b j X):Good S b (j+1) (Ubr PZ S X):=by
 obtain⟨w,n0,n1,z⟩:=hX;obtain⟨e0,e1,_⟩:=Zsj X;refine⟨Ycq w,?_,?_,Yoc w hok hS z⟩
 ·rw[Zyu _ _ (by omega),e0,n0]
 ·rw[Zyu _ _ (by omega),e1,n1,IntWalk.i8_in _ (by omega)];omega
theorem good_go{S X:Array Value}{b:Int}{j:Nat}(hok:okS S=true)(hb:0<=b/\b<=1)(hj:j<=100)(hX:Good S b j X):True/\(0<=tdS X/\tdS X<2):=by obtain⟨w,n0,n1,z⟩:=hX;refine⟨trivial,?_⟩;unfold tdS;rw[n0,n1,IntWalk.i8_in _ (by omega),Int.tmod_eq_emod_of_nonneg (by omega)];omega
theorem Yc6{S A:Array Value}{b:Int}{n:Nat}(hS:WT PZ 38 S)(hok:okS S=true)(hb:0<=b/\b<=1)(hc:∀k,k<n->0<=num (A.extract (k*3) (k*3+3)) 0/\num (A.extract (k*3) (k*3+3)) 0<=35/\inC (num S 0) (num S 1) (num (A.extract (k*3) (k*3+3)) 0).toNat=true):∀j,j<=50->Good S b j (Uaw PZ S b n A j)
 | 0,_=>by
  have i8:IntKind.i8.min=-128/\IntKind.i8.max=127:=⟨rfl,rfl⟩;have z0:∀i,num (zc PZ 144) i=0:=λi=>by
   have h:∀i,i<40->num (zc PZ 144) i=0:=by
    have:((List.range 40).all λi=>num (zc PZ 144) i==0)=true:=by kernel_rfl
    intro i hi;exact eq_of_beq (List.all_eq_true.1 this i (List.mem_range.2 hi))
   by_cases hi:i<40
   ·exact h i hi
   ·unfold num;rw[Array.getElem?_eq_none (by rw[show (zc PZ 144).size=40 by kernel_rfl];omega)]
  have hsz:(zc PZ 144).size=40:=by kernel_rfl
  refine⟨Zo4 (k:=.i8) (WT.zero (by kernel_rfl)) Yip.1 (by omega),?_,?_,λi hi hf=> ?_⟩
  ·rw[Uaw,Zef,if_pos (by omega)]
  ·rw[Uaw,Zef,if_neg (by omega),z0];rfl
  ·rw[Uaw,Zef,if_neg (by omega),z0]
 |j+1,hj=>by
  rw[Uaw];exact Ypp hS hok (by omega) (Yiz (Yc6 hS hok hb hc j (by omega)) hc)
theorem Yoj{S A:Array Value}{h:Int}{n:Nat}(hS:WT PZ 38 S)(hA:∀k,k<n->WT PZ 48 (A.extract (k*3) (k*3+3)))(hr:Ue5 S h n A=true):∀k,k<n->0<=num (A.extract (k*3) (k*3+3)) 0/\num (A.extract (k*3) (k*3+3)) 0<=35/\inC (num S 0) (num S 1) (num (A.extract (k*3) (k*3+3)) 0).toNat=true:=by
 intro k hk;have h1:=(Yfj S h n A).1 hr k hk;have h1:relB S h (A.extract (k*3) (k*3+3))=true:=h1;obtain⟨-,b0⟩:=(hA k hk).int (o:=0) (k:=.i8) (by kernel_rfl);have m8:IntKind.i8.min=-128/\IntKind.i8.max=127:=⟨rfl,rfl⟩;unfold relB at h1;rw[Q7,IntWalk.i64_in (num (A.extract (k*3) (k*3+3)) 0) (by omega)]at h1;have h2:=h1.1;generalize num (A.extract (k*3) (k*3+3)) 0=c at h2 b0;have hi:Za1 c S=true:=by unfold Zae at h2;cases hi:Za1 c S with|true=>rfl|false=>rw[hi]at h2;exact nomatch h2
 have hr:=Ymw hi;refine⟨hr.1,hr.2,?_⟩;have e:((c.toNat:Nat):Int)=c:=by omega
 rw[<- Yfs hS (show c.toNat<36 by omega),e];exact hi
theorem re_len:(lay PZ 48).length=3:=by kernel_rfl
def Zbx:Cons:=(mkΓ [(81,con Zll),(82,con Zmn)])
def Zfc(a0 a1:Array Value)(bQ:Option (Option Addr))(nQ:Nat)(aQ:Array Value)(y0_6:Int)(r0_9:Array Value):St:=(⟨.a (.w 0)::.a (.w 1)::.a (.u)::.a (.u)::.a (.w 3)::.a (.w 9)::.a (.i .i64 y0_6)::.a (.i .i64 0)::.a (.x)::.a (.w 1)::.a (.w 1)::.a (.p 1 (0) 22)::.a (.i .i8 (num a1 0))::.a (.g ((zc PZ 144).setIfInBounds 0 (.int .i8 (num a1 0))) 144)::.a (.i .i64 y0_6)::.a (.w 1)::.a (.w 1)::.a (.p 1 (1) 22)::.a (.i .i8 (num a1 1))::.a (.i .i64 (i64.wrap (num a1 1)))::.a (.b (decide (y0_6<(i64.wrap (num a1 1)))))::xs 46 (.a (.u)::[]),[.row a0 38,.one (.r a1 31 [(2,2)]) 31,.sl (.came bQ) nQ aQ 48,.row (zc PZ 144) 144,.no,.no,.no,.no,.no,.row r0_9 144,.no],[9]⟩:St)
def Zd7:Int×Array Value->LS
 |(y1_7,r1_9)=>([.a (.i .i64 y1_7)],[.row r1_9 144])
def Zgu:Int×Array Value->Exit×LS
 |t=>((.exit 2),Zd7 t)
def Zcs(P:Program)(a0 a1:Array Value)(bQ:Option (Option Addr))(nQ:Nat)(aQ:Array Value)(y0_6:Int)(r0_9:Array Value):Int×Array Value->Option (Stp (Int×Array Value) (Int×Array Value))
 |(y1_7,r1_9)=>bif decide (y1_7<(nQ:Int)) then (bif (decide (0<=y1_7)&&decide (y1_7<(nQ:Int))) then (bif ((i64.wrap (num (aQ.extract ((y1_7).toNat*3) (((y1_7).toNat*3)+3)) 1))==y0_6) then (bif (decide (0<=(num (aQ.extract ((y1_7).toNat*3) (((y1_7).toNat*3)+3)) 0))&&decide ((num (aQ.extract ((y1_7).toNat*3) (((y1_7).toNat*3)+3)) 0)<36)) then (bif (decide (0<=y0_6)&&decide (y0_6<=14)) then (bif (decide (0<=(num (aQ.extract ((y1_7).toNat*3) (((y1_7).toNat*3)+3)) 0))&&decide ((num (aQ.extract ((y1_7).toNat*3) (((y1_7).toNat*3)+3)) 0)<36)) then (some (.more ((i64.wrap (y1_7+(1:Int))),((r1_9.setIfInBounds (3+((num (aQ.extract ((y1_7).toNat*3) (((y1_7).toNat*3)+3)) 0).toNat*1)) (.int .i64 (i64.wrap ((num r1_9 (3+((num (aQ.extract ((y1_7).toNat*3) (((y1_7).toNat*3)+3)) 0).toNat*1)))+(i64.wrap ((i64.wrap (num (aQ.extract ((y1_7).toNat*3) (((y1_7).toNat*3)+3)) 2))*(12^y0_6.toNat))))))).setIfInBounds 2 (.int .i64 (i64.wrap ((num (r1_9.setIfInBounds (3+((num (aQ.extract ((y1_7).toNat*3) (((y1_7).toNat*3)+3)) 0).toNat*1)) (.int .i64 (i64.wrap ((num r1_9 (3+((num (aQ.extract ((y1_7).toNat*3) (((y1_7).toNat*3)+3)) 0).toNat*1)))+(i64.wrap ((i64.wrap (num (aQ.extract ((y1_7).toNat*3) (((y1_7).toNat*3)+3)) 2))*(12^y0_6.toNat))))))) 2)+(i64.wrap (num (aQ.extract ((y1_7).toNat*3) (((y1_7).toNat*3)+3)) 2))))))))) else (none)) else (none)) else (none)) else (some (.more ((i64.wrap (y1_7+(1:Int))),r1_9)))) else (none)) else (some (.done (y1_7,r1_9)))
noncomputable abbrev cKCmB73:=codeOf f73
def Ucr:=(Uaa cKCmB73 [([6],[9]),([7],[9])]).1
theorem Zlv(N:Nat)(a0 a1:Array Value)(bQ:Option (Option Addr))(nQ:Nat)(aQ:Array Value)(y0_6:Int)(r0_9:Array Value):∀t:Int×Array Value,Ual PZ Zbx N (cAt cKCmB73 [1,1,0,1,0,0,1,0,0,0,1,0,0]) (pAt Ucr [1,1,0,1,0,1,0,0,1,0]) [7] [9] (Zfc a0 a1 bQ nQ aQ y0_6 r0_9) (Zd7 t)=mapS Zd7 Zgu (Zcs PZ a0 a1 bQ nQ aQ y0_6 r0_9 t):=by
 rintro⟨y1_7,r1_9⟩
 conv=>rhs;simp only[Zcs,Zax,Zay,Zaw,Zaz,Zd7,Zgu]
 kernel_rfl
def Ze9(a0 a1:Array Value)(bQ:Option (Option Addr))(nQ:Nat)(aQ:Array Value):St:=(⟨.a (.w 0)::.a (.w 1)::.a (.u)::.a (.u)::.a (.w 3)::.a (.w 9)::.a (.i .i64 0)::.a (.u)::.a (.u)::.a (.w 1)::.a (.w 1)::.a (.p 1 (0) 22)::.a (.i .i8 (num a1 0))::.a (.g ((zc PZ 144).setIfInBounds 0 (.int .i8 (num a1 0))) 144)::us 54 ([]),[.row a0 38,.one (.r a1 31 [(2,2)]) 31,.sl (.came bQ) nQ aQ 48,.row (zc PZ 144) 144,.no,.no,.no,.no,.no,.row ((zc PZ 144).setIfInBounds 0 (.int .i8 (num a1 0))) 144,.no],[9]⟩:St)
def Zcn:Int×Array Value->LS
 |(y0_6,r0_9)=>([.a (.i .i64 y0_6)],[.row r0_9 144])
def Zd2:Int×Array Value->Exit×LS
 |t=>((.exit 0),Zcn t)
def Zc8(P:Program)(N:Nat)(a0 a1:Array Value)(bQ:Option (Option Addr))(nQ:Nat)(aQ:Array Value)(y0_6:Int)(r0_9:Array Value)(z1_7:Int)(q1_9:Array Value):Option (Stp (Int×Array Value) (Int×Array Value)):=bif (okS a0&&(decide (0<=tdS q1_9)&&decide (tdS q1_9<2))) then (some (.more ((i64.wrap (y0_6+(1:Int))),(Ubr PZ a0 q1_9)))) else (none)
def Ug9(N:Nat):=(Uad 2 (kSeq (veC PZ Zbx N (cAt cKCmB73 [1,1,0,1,0,0,1,0,0,1]) (pAt Ucr [1,1,0,1,0,1,0,1]) (Stp LS (Exit×LS))) (Uad 1 (kSeq (veC PZ Zbx N (cAt cKCmB73 [1,1,0,1,0,0,1,1]) (pAt Ucr [1,1,0,1,0,1,1]) (Stp LS (Exit×LS))) (Uc6 11 [6] [9])))))
theorem Zq5(N:Nat)(a0 a1:Array Value)(bQ:Option (Option Addr))(nQ:Nat)(aQ:Array Value)(y0_6:Int)(r0_9:Array Value)(z1_7:Int)(q1_9:Array Value):(Ug9 N) (.exit 2) (left (writes (cAt cKCmB73 [1,1,0,1,0,0,1,0,0,0,1,0,0])) [7] [9] (Zfc a0 a1 bQ nQ aQ y0_6 r0_9) ([.a (.i .i64 z1_7)],[.row q1_9 144]))=mapS Zcn Zd2 (Zc8 PZ N a0 a1 bQ nQ aQ y0_6 r0_9 z1_7 q1_9):=by
 conv=>rhs;simp only[Zc8,Zax,Zay,Zaw,Zaz,Zcn,Zd2]
 kernel_rfl
theorem Zzq(N:Nat)(a0 a1:Array Value)(bQ:Option (Option Addr))(nQ:Nat)(aQ:Array Value)(y0_6:Int)(r0_9:Array Value):Uah (Uab (Ual PZ Zbx N (cAt cKCmB73 [1,1,0,1,0,0,1,0,0,0,1,0,0]) (pAt Ucr [1,1,0,1,0,1,0,0,1,0]) [7] [9] (Zfc a0 a1 bQ nQ aQ y0_6 r0_9)) N ([.a (.i .i64 0)],[.row r0_9 144])) (λe s=>(Ug9 N) e (left (writes (cAt cKCmB73 [1,1,0,1,0,0,1,0,0,0,1,0,0])) [7] [9] (Zfc a0 a1 bQ nQ aQ y0_6 r0_9) s))=mapS Zcn Zd2 (Uao (Uab (Zcs PZ a0 a1 bQ nQ aQ y0_6 r0_9) N ((0:Int),r0_9)) (λx=>Zc8 PZ N a0 a1 bQ nQ aQ y0_6 r0_9 x.1 x.2)):=by
 rw[Zpq Zcn Zd2]
 first
 |(have h:=Za2 (α:=Stp LS (Exit×LS)) Zd7 Zgu _ _ (Zlv N a0 a1 bQ nQ aQ y0_6 r0_9) N ((0:Int),r0_9);refine h _ _ ?_)
 |(have h:=Za2 (α:=Stp BS (Exit×BS)) Zd7 Zgu _ _ (Zlv N a0 a1 bQ nQ aQ y0_6 r0_9) N ((0:Int),r0_9);refine h _ _ ?_)
 |(have h:=Za2 (α:=Stp LS ((Exit×LS)⊕(SV×Eff×Bool))) Zd7 Zgu _ _ (Zlv N a0 a1 bQ nQ aQ y0_6 r0_9) N ((0:Int),r0_9);refine h _ _ ?_)
 intro x;exact Zq5 N a0 a1 bQ nQ aQ y0_6 r0_9 x.1 x.2
def Zb2(P:Program)(N:Nat)(a0 a1:Array Value)(bQ:Option (Option Addr))(nQ:Nat)(aQ:Array Value):Int×Array Value->Option (Stp (Int×Array Value) (Int×Array Value))
 |(y0_6,r0_9)=>bif decide (y0_6<(i64.wrap (num a1 1))) then (Uao (Uab (Zcs P a0 a1 bQ nQ aQ y0_6 r0_9) N ((0:Int),r0_9)) (λx=>Zc8 P N a0 a1 bQ nQ aQ y0_6 r0_9 x.1 x.2)) else (some (.done (y0_6,r0_9)))
theorem Yay(N:Nat)(a0 a1:Array Value)(bQ:Option (Option Addr))(nQ:Nat)(aQ:Array Value):∀t:Int×Array Value,Ual PZ Zbx N (cAt cKCmB73 [1,1,0,1,0,0]) (pAt Ucr [1,1,0,1,0]) [6] [9] (Ze9 a0 a1 bQ nQ aQ) (Zcn t)=mapS Zcn Zd2 (Zb2 PZ N a0 a1 bQ nQ aQ t):=by
 rintro⟨y0_6,r0_9⟩
 conv=>rhs;simp only[<- Zzq N a0 a1 bQ nQ aQ y0_6 r0_9,Zb2,Zax,Zay,Zaw,Zaz,Zcn,Zd2]
 kernel_rfl
def Zg5(P:Program)(N:Nat)(a0 a1:Array Value)(bQ:Option (Option Addr))(nQ:Nat)(aQ:Array Value)(z0_6:Int)(q0_9:Array Value):Option (SV×Eff×Bool):=some (.a (.g q0_9 144),.none,true)
def Ugz(N:Nat)(a0 a1:Array Value)(bQ:Option (Option Addr))(nQ:Nat)(aQ:Array Value):=(Uad 0 (kSeq (veC PZ Zbx N (cAt cKCmB73 [1,1,1]) (pAt Ucr [1,1,1]) (SV×Eff×Bool)) (finK PZ [.row a0 38,.one (.r a1 31 [(2,2)]) 31,.sl (.came bQ) nQ aQ 48] [.cell 4 144])))
theorem Zq6(N:Nat)(a0 a1:Array Value)(bQ:Option (Option Addr))(nQ:Nat)(aQ:Array Value)(z0_6:Int)(q0_9:Array Value):(Ugz N a0 a1 bQ nQ aQ) (.exit 0) (left (writes (cAt cKCmB73 [1,1,0,1,0,0])) [6] [9] (Ze9 a0 a1 bQ nQ aQ) ([.a (.i .i64 z0_6)],[.row q0_9 144]))=Zg5 PZ N a0 a1 bQ nQ aQ z0_6 q0_9:=by kernel_rfl
theorem Yar(N:Nat)(a0 a1:Array Value)(bQ:Option (Option Addr))(nQ:Nat)(aQ:Array Value):Uah (Uab (Ual PZ Zbx N (cAt cKCmB73 [1,1,0,1,0,0]) (pAt Ucr [1,1,0,1,0]) [6] [9] (Ze9 a0 a1 bQ nQ aQ)) N ([.a (.i .i64 0)],[.row ((zc PZ 144).setIfInBounds 0 (.int .i8 (num a1 0))) 144])) (λe s=>(Ugz N a0 a1 bQ nQ aQ) e (left (writes (cAt cKCmB73 [1,1,0,1,0,0])) [6] [9] (Ze9 a0 a1 bQ nQ aQ) s))=Uao (Uab (Zb2 PZ N a0 a1 bQ nQ aQ) N ((0:Int),((zc PZ 144).setIfInBounds 0 (.int .i8 (num a1 0))))) (λx=>Zg5 PZ N a0 a1 bQ nQ aQ x.1 x.2):=by refine Za2 Zcn Zd2 _ _ (Yay N a0 a1 bQ nQ aQ) N ((0:Int),((zc PZ 144).setIfInBounds 0 (.int .i8 (num a1 0)))) _ _ ?_;intro x;exact Zq6 N a0 a1 bQ nQ aQ x.1 x.2
theorem Zxt(N:Nat)(a0 a1:Array Value)(bQ:Option (Option Addr))(nQ:Nat)(aQ:Array Value):ansV PZ Zbx N f73 [([6],[9]),([7],[9])] [.w 0,.w 1] [.row a0 38,.one (.r a1 31 [(2,2)]) 31,.sl (.came bQ) nQ aQ 48]=(Uao (Uab (Zb2 PZ N a0 a1 bQ nQ aQ) N ((0:Int),((zc PZ 144).setIfInBounds 0 (.int .i8 (num a1 0))))) (λx=>Zg5 PZ N a0 a1 bQ nQ aQ x.1 x.2)):=by
 conv=>rhs;simp only[<- Yar N a0 a1 bQ nQ aQ]
 kernel_rfl
theorem Zvv(a0 a1:Array Value)(bQ:Option (Option Addr))(nQ:Nat)(aQ:Array Value)(h_a0:WT PZ 38 a0)(h_a1:WT PZ 31 a1)(h_a1x2:SlT 48 nQ aQ)(hg:((okS a0&&Udi a0 a1 nQ aQ))=true):ansV PZ Zbx 18446744073709551616 f73 [([6],[9]),([7],[9])] [.w 0,.w 1] [.row a0 38,.one (.r a1 31 [(2,2)]) 31,.sl (.came bQ) nQ aQ 48]=some (.a (.g (Uaw PZ a0 (num a1 0) nQ aQ (num a1 1).toNat) 144),.none,true):=by
 have hn:=h_a1x2.2.2;rw[Q7]at hg;obtain⟨hok,hg⟩:=hg;obtain⟨-,b0⟩:=h_a1.int (o:=0) (k:=.i8) (by kernel_rfl);obtain⟨-,b1⟩:=h_a1.int (o:=1) (k:=.i8) (by kernel_rfl);have m8:IntKind.i8.min=-128/\IntKind.i8.max=127:=⟨rfl,rfl⟩;have e0:i64.wrap (num a1 0)=num a1 0:=IntWalk.i64_in _ (by omega);have e1:i64.wrap (num a1 1)=num a1 1:=IntWalk.i64_in _ (by omega);unfold Udi at hg;rw[e0,e1]at hg;simp only[Q7]at hg;obtain⟨g0,g1,-,g2,-⟩:=hg;have r0:=Zoi g0;have r1:=Zoi g1;have hc:=Yoj h_a0 (λk hk=>by have:=h_a1x2.2.1 k hk;rw[re_len]at this;exact this) g2;obtain⟨m,hm⟩:=Int.eq_ofNat_of_zero_le (show 0<=num a1 1 by omega);have em:i64.wrap (m:Int)=(m:Int):=by rw[<- hm];exact e1
 refine(Zxt 18446744073709551616 a0 a1 bQ nQ aQ).trans ?_;rw[hm,Q9];have hq:∀q,Uab (Zb2 PZ 18446744073709551616 a0 a1 bQ nQ aQ) 18446744073709551616 ((0:Int),((zc PZ 144).setIfInBounds 0 (.int .i8 (num a1 0))))=some ((m:Int),q)->Uao (Uab (Zb2 PZ 18446744073709551616 a0 a1 bQ nQ aQ) 18446744073709551616 ((0:Int),((zc PZ 144).setIfInBounds 0 (.int .i8 (num a1 0))))) (λx=>Zg5 PZ 18446744073709551616 a0 a1 bQ nQ aQ x.1 x.2)=some (.a (.g q 144),.none,true):=λq e=>by rw[e];rfl
 refine hq _ ?_;exact Ze0 (g:=Zb2 PZ 18446744073709551616 a0 a1 bQ nQ aQ) (λj=>((j:Int),Uaw PZ a0 (num a1 0) nQ aQ j)) (m:=m) (x:=((m:Int),Uaw PZ a0 (num a1 0) nQ aQ m)) (N:=18446744073709551616) (λj hj=>by
  have h1:decide ((j:Int)<(m:Int))=true:=Q3 (by omega);have h3:i64.wrap ((j:Int)+1)=((j+1:Nat):Int):=by rw[w64 (by omega)];omega
  have h4:(decide (0<=(j:Int))&&decide ((j:Int)<=14))=true:=by rw[Q3 (show 0<=(j:Int) by omega),Q3 (show (j:Int)<=14 by omega)];rfl
  have hG:=Yc6 (S:=a0) (A:=aQ) (n:=nQ) h_a0 hok (show 0<=num a1 0/\num a1 0<=1 by omega) hc j (by omega);have hgo:=(good_go hok (show 0<=num a1 0/\num a1 0<=1 by omega) (by omega) (Yiz (h:=(j:Int)) hG hc)).2;have hi:∀X,Uab (Zcs PZ a0 a1 bQ nQ aQ (j:Int) X) 18446744073709551616 ((0:Int),X)=some ((nQ:Int),Uc5 (j:Int) nQ aQ X):=λX=>Zkf (g:=Zcs PZ a0 a1 bQ nQ aQ (j:Int) X) (λr k=>((k:Int),r)) (putR (j:Int) aQ) (m:=nQ) (t:=X) (x:=((nQ:Int),Uc5 (j:Int) nQ aQ X)) (N:=18446744073709551616) (λk s hk _=>by
   have h1:decide ((k:Int)<(nQ:Int))=true:=Q3 (by omega);have h0:decide (0<=(k:Int))=true:=Q3 (by omega);have h3:i64.wrap ((k:Int)+1)=((k+1:Nat):Int):=by rw[IntWalk.i64_in _ (by omega)];omega
   have c0:=hc k hk;have c0:=dec2 c0.1 (show num (aQ.extract (k*3) (k*3+3)) 0<36 by omega);unfold putR;rw[<- Ypy];cases he:(i64.wrap (num (aQ.extract (k*3) (k*3+3)) 1)==(j:Int))<;>simp only[Zcs,h1,h0,h3,he,c0,h4,Bool.and_self,Q9,Q1,Q2]) (by
   have h1:decide ((nQ:Int)<(nQ:Int))=false:=Q4 (by omega);simp only[Zcs,h1,Q2];rfl) (by omega)
  have hX:=hi (Uaw PZ a0 (num a1 0) nQ aQ j);have t1:(okS a0&&(decide (0<=tdS (Uc5 (j:Int) nQ aQ (Uaw PZ a0 (num a1 0) nQ aQ j)))&&decide (tdS (Uc5 (j:Int) nQ aQ (Uaw PZ a0 (num a1 0) nQ aQ j))<2)))=true:=by rw[hok,dec2 hgo.1 hgo.2];rfl
  have e2:Uaw PZ a0 (num a1 0) nQ aQ (j+1)=Ubr PZ a0 (Uc5 (j:Int) nQ aQ (Uaw PZ a0 (num a1 0) nQ aQ j)):=rfl;rw[e2];generalize Uaw PZ a0 (num a1 0) nQ aQ j=X at hX t1|-
  generalize Uc5 (j:Int) nQ aQ X=Y at hX t1|-
  have hk:Zc8 PZ 18446744073709551616 a0 a1 bQ nQ aQ (j:Int) X (nQ:Int) Y=some (.more (((j+1:Nat):Int),Ubr PZ a0 Y)):=by unfold Zc8;rw[t1,Q1,h3]
  have h1':Zb2 PZ 18446744073709551616 a0 a1 bQ nQ aQ ((j:Int),X)=Uao (Uab (Zcs PZ a0 a1 bQ nQ aQ (j:Int) X) 18446744073709551616 ((0:Int),X)) (λx=>Zc8 PZ 18446744073709551616 a0 a1 bQ nQ aQ (j:Int) X x.1 x.2):=by simp only[Zb2,hm,em,h1,Q1]
  rw[h1',hX];exact hk) (by
  have h1:decide ((m:Int)<(m:Int))=false:=Q4 (by omega);simp only[Zb2,hm,em,h1,Q2]) (by omega)
def Zcy:Con:=λargs h=>match args,h with|[.w 0,.w 1],[.row a0 38,.one (.r a1 31 [(2,2)]) 31,.sl (.came bQ) nQ aQ 48]=>some (.a (.g (Uaw PZ a0 (num a1 0) nQ aQ (num a1 1).toNat) 144),.none,(okS a0&&Udi a0 a1 nQ aQ))|_,_=>none
theorem Zuh:EntX PZ 73:=Zak (fn:=f73)
theorem Zz7:Uac mn PZ 73 Zcy:=(ansY (N:=18446744073709551616) (mKc (Zag Yb1) Zwd (mKc (Zag Yc0) Zyb mKn)) f73 [([6],[9]),([7],[9])]).of (by
 intro ρ h w args vals r e hA hH hr;unfold Zcy at hr;split at hr
 ·rename_i a0 a1 bQ nQ aQ;obtain⟨rfl,rfl,hg2⟩:=BQi hr;exact Zvv a0 a1 bQ nQ aQ (hH.wt 0 rfl) (hH.wtr 1 rfl) (hH.slw 2 rfl) hg2
 ·cases hr)
def fbF(C:Array Value)(acc:Int)(k:Nat):Int:=bif decide (num C (k*1) > (0:Int)) then IntKind.u64.wrap (BitVec.ofInt IntKind.u64.bits acc ||| BitVec.ofInt IntKind.u64.bits (Za6 (k:Int))).toNat else acc
def Zei(a0:Array Value):St:=(⟨.a (.g a0 111)::.a (.w 0)::.a (.i .u64 0)::.a (.i .u64 0)::.a (.u)::.a (.u)::.a (.g a0 111)::.a (.i .i64 0)::us 11 ([]),[.row a0 111,.no],[]⟩:St)
def Zfz:Int×Int->LS
 |(y0_3,y0_7)=>([.a (.i .u64 y0_3),.a (.i .i64 y0_7)],[])
def Zku:Int×Int->Exit×LS
 |t=>((.exit 0),Zfz t)
def Zcd(P:Program)(a0:Array Value):Int×Int->Option (Stp (Int×Int) (Int×Int))
 |(y0_3,y0_7)=>bif decide (y0_7<(36:Int)) then (bif (decide (0<=y0_7)&&decide (y0_7<36)) then (bif decide ((num a0 ((y0_7).toNat*1)) > (0:Int)) then (bif decide (0<=y0_7) then (some (.more ((IntKind.u64.wrap (BitVec.ofInt IntKind.u64.bits y0_3 ||| BitVec.ofInt IntKind.u64.bits (Za6 y0_7)).toNat),(i64.wrap (y0_7+(1:Int)))))) else (none)) else (some (.more (y0_3,(i64.wrap (y0_7+(1:Int))))))) else (none)) else (some (.done (y0_3,y0_7)))
noncomputable abbrev cKCmB51:=codeOf f51
def Ufz:=(Uaa cKCmB51 [([3,7],[])]).1
theorem Zy9(N:Nat)(a0:Array Value):∀t:Int×Int,Ual PZ (mkΓ [(31,con Zcl)]) N (cAt cKCmB51 [1,1,0,1,0,0]) (pAt Ufz [1,1,0,1,0]) [3,7] [] (Zei a0) (Zfz t)=mapS Zfz Zku (Zcd PZ a0 t):=by
 rintro⟨y0_3,y0_7⟩
 conv=>rhs;simp only[Zcd,Zax,Zay,Zaw,Zaz,Zfz,Zku]
 kernel_rfl
def Zgg(P:Program)(N:Nat)(a0:Array Value)(z0_3:Int)(z0_7:Int):Option (SV×Eff×Bool):=some (.a (.i .u64 z0_3),.none,true)
def Ug2(N:Nat):=(Uad 0 (kSeq (veC PZ (mkΓ [(31,con Zcl)]) N (cAt cKCmB51 [1,1,1]) (pAt Ufz [1,1,1]) (SV×Eff×Bool)) (finK PZ [] [.tmp 2])))
theorem Zqd(N:Nat)(a0:Array Value)(z0_3:Int)(z0_7:Int):(Ug2 N) (.exit 0) (left (writes (cAt cKCmB51 [1,1,0,1,0,0])) [3,7] [] (Zei a0) ([.a (.i .u64 z0_3),.a (.i .i64 z0_7)],[]))=Zgg PZ N a0 z0_3 z0_7:=by kernel_rfl
theorem Zw3(N:Nat)(a0:Array Value):Uah (Uab (Ual PZ (mkΓ [(31,con Zcl)]) N (cAt cKCmB51 [1,1,0,1,0,0]) (pAt Ufz [1,1,0,1,0]) [3,7] [] (Zei a0)) N ([.a (.i .u64 0),.a (.i .i64 0)],[])) (λe s=>(Ug2 N) e (left (writes (cAt cKCmB51 [1,1,0,1,0,0])) [3,7] [] (Zei a0) s))=Uao (Uab (Zcd PZ a0) N ((0:Int),(0:Int))) (λx=>Zgg PZ N a0 x.1 x.2):=by refine Za2 Zfz Zku _ _ (Zy9 N a0) N ((0:Int),(0:Int)) _ _ ?_;intro x;exact Zqd N a0 x.1 x.2
theorem Zvc(N:Nat)(a0:Array Value):ansV PZ (mkΓ [(31,con Zcl)]) N f51 [([3,7],[])] [.g a0 111] []=(Uao (Uab (Zcd PZ a0) N ((0:Int),(0:Int))) (λx=>Zgg PZ N a0 x.1 x.2)):=by
 conv=>rhs;simp only[<- Zw3 N a0]
 kernel_rfl
theorem Zui(a0:Array Value)(h_a0:WT PZ 111 a0)(hg:(true)=true):ansV PZ (mkΓ [(31,con Zcl)]) 1000 f51 [([3,7],[])] [.g a0 111] []=some (.a (.i .u64 (folds (fbF a0) 0 36)),.none,true):=by
 refine(Zvc 1000 a0).trans ?_;have hq:∀q:Int,Uab (Zcd PZ a0) 1000 ((0:Int),(0:Int))=some (q,(36:Int))->Uao (Uab (Zcd PZ a0) 1000 ((0:Int),(0:Int))) (λx=>Zgg PZ 1000 a0 x.1 x.2)=some (.a (.i .u64 q),.none,true):=λq e=>by rw[e];rfl
 refine hq _ ?_;exact Zkf (g:=Zcd PZ a0) (λ(acc:Int) k=>(acc,(k:Int))) (fbF a0) (m:=36) (t:=(0:Int)) (x:=(folds (fbF a0) 0 36,(36:Int))) (N:=1000) (λk s hk _=>by
  have h1:decide ((k:Int)<36)=true:=Q3 (by omega);have h0:decide (0<=(k:Int))=true:=Q3 (by omega);have h3:i64.wrap ((k:Int)+1)=((k+1:Nat):Int):=by rw[w64 (by omega)];omega
  unfold fbF;cases hp:decide (num a0 (k*1) > (0:Int))<;>simp only[Zcd,h1,h0,h3,hp,Q9,Bool.and_self,Q1,Q2]) (by
  have h1:decide (((36:Nat):Int)<36)=false:=by decide
  generalize folds (fbF a0) 0 36=q;simp only[Zcd,h1,Q2];rfl) (by omega)
def Zj2:Con:=λargs h=>match args,h with|[.g a0 111],[]=>some (.a (.i .u64 (folds (fbF a0) 0 36)),.none,true)|_,_=>none
theorem Zss:EntX PZ 51:=Zak (fn:=f51)
theorem Zw0:Uac mn PZ 51 Zj2:=(ansY (N:=1000) (mKc (Zag Ziu) Zfr mKn) f51 [([3,7],[])]).of (by
 intro ρ h w args vals r e hA hH hr;unfold Zj2 at hr;split at hr
 ·rename_i a0;obtain⟨rfl,rfl,hg2⟩:=BQi hr;exact Zui a0 (hA.wt 0 rfl) hg2
 ·cases hr)
theorem Yce(X:Array Value){i:Nat}(hi:i<36):num (X.extract 3 (3+36)) i=num X (3+i):=by
 unfold num;rw[Array.getElem?_extract]
 by_cases h:i<min (3+36) X.size - 3
 ·rw[if_pos h]
 ·rw[if_neg h,Array.getElem?_eq_none (show X.size<=3+i by omega)]
def endV(P:Program)(S p:Array Value)(n:Nat)(A:Array Value):Array Value:=Uaw P S (num p 0) n A (num p 1).toNat
def reaV(P:Program)(S p:Array Value)(n:Nat)(A:Array Value)(c:Int):Int:=IntKind.u64.wrap (BitVec.ofInt IntKind.u64.bits c &&& BitVec.ofInt IntKind.u64.bits (folds (fbF ((endV P S p n A).extract 3 (3+36))) 0 36)).toNat
def Zep(a2:Int)(a0 a1:Array Value)(bQ:Option (Option Addr))(nQ:Nat)(aQ:Array Value):St:=(⟨.a (.w 0)::.a (.w 1)::.a (.i .u64 a2)::us 3 (.a (.i .u64 0)::.a (.w 6)::.a (.i .u64 0)::.a (.i .i64 0)::.a (.w 0)::.a (.w 1)::.a (.g (Uaw PZ a0 (num a1 0) nQ aQ (num a1 1).toNat) 144)::us 17 ([])),[.row a0 38,.one (.r a1 31 [(2,2)]) 31,.sl (.came bQ) nQ aQ 48,.no,.no,.no,.row (Uaw PZ a0 (num a1 0) nQ aQ (num a1 1).toNat) 144,.no],[6]⟩:St)
def Zf1:Int×Int->LS
 |(y0_8,y0_9)=>([.a (.i .u64 y0_8),.a (.i .i64 y0_9)],[])
def Zlc:Int×Int->Exit×LS
 |t=>((.exit 0),Zf1 t)
def Zbs(P:Program)(a2:Int)(a0 a1:Array Value)(bQ:Option (Option Addr))(nQ:Nat)(aQ:Array Value):Int×Int->Option (Stp (Int×Int) (Int×Int))
 |(y0_8,y0_9)=>bif decide (y0_9<(36:Int)) then (bif (decide (0<=y0_9)&&decide (y0_9<36)) then (bif decide ((num (Uaw PZ a0 (num a1 0) nQ aQ (num a1 1).toNat) (3+((y0_9).toNat*1))) > (0:Int)) then (bif decide (0<=(IntKind.u64.wrap y0_9)) then (some (.more ((IntKind.u64.wrap (BitVec.ofInt IntKind.u64.bits y0_8 ||| BitVec.ofInt IntKind.u64.bits (IntKind.u64.wrap ((1:Int)*2^(min ((IntKind.u64.wrap y0_9)).toNat IntKind.u64.bits)))).toNat),(i64.wrap (y0_9+(1:Int)))))) else (none)) else (some (.more (y0_8,(i64.wrap (y0_9+(1:Int))))))) else (none)) else (some (.done (y0_8,y0_9)))
noncomputable abbrev cKCmB60:=codeOf f60
def Uf0:=(Uaa cKCmB60 [([8,9],[])]).1
theorem Zxq(N:Nat)(a2:Int)(a0 a1:Array Value)(bQ:Option (Option Addr))(nQ:Nat)(aQ:Array Value):∀t:Int×Int,Ual PZ (mkΓ [(73,con Zcy)]) N (cAt cKCmB60 [1,1,1,0,1,0,0]) (pAt Uf0 [1,1,1,0,1,0]) [8,9] [] (Zep a2 a0 a1 bQ nQ aQ) (Zf1 t)=mapS Zf1 Zlc (Zbs PZ a2 a0 a1 bQ nQ aQ t):=by
 rintro⟨y0_8,y0_9⟩
 conv=>rhs;simp only[Zbs,Zax,Zay,Zaw,Zaz,Zf1,Zlc]
 kernel_rfl
def Zgh(P:Program)(N:Nat)(a2:Int)(a0 a1:Array Value)(bQ:Option (Option Addr))(nQ:Nat)(aQ:Array Value)(z0_8:Int)(z0_9:Int):Option (SV×Eff×Bool):=some (.a (.i .u64 (IntKind.u64.wrap (BitVec.ofInt IntKind.u64.bits z0_8 &&& BitVec.ofInt IntKind.u64.bits a2).toNat)),.none,true)
def Ug6(N:Nat)(a0 a1:Array Value)(bQ:Option (Option Addr))(nQ:Nat)(aQ:Array Value):=(Uad 0 (kSeq (veC PZ (mkΓ [(73,con Zcy)]) N (cAt cKCmB60 [1,1,1,1]) (pAt Uf0 [1,1,1,1]) (SV×Eff×Bool)) (finK PZ [.row a0 38,.one (.r a1 31 [(2,2)]) 31,.sl (.came bQ) nQ aQ 48] [.tmp 6])))
theorem Zp3(N:Nat)(a2:Int)(a0 a1:Array Value)(bQ:Option (Option Addr))(nQ:Nat)(aQ:Array Value)(z0_8:Int)(z0_9:Int):(Ug6 N a0 a1 bQ nQ aQ) (.exit 0) (left (writes (cAt cKCmB60 [1,1,1,0,1,0,0])) [8,9] [] (Zep a2 a0 a1 bQ nQ aQ) ([.a (.i .u64 z0_8),.a (.i .i64 z0_9)],[]))=Zgh PZ N a2 a0 a1 bQ nQ aQ z0_8 z0_9:=by kernel_rfl
theorem Zyw(N:Nat)(a2:Int)(a0 a1:Array Value)(bQ:Option (Option Addr))(nQ:Nat)(aQ:Array Value):Uah (Uab (Ual PZ (mkΓ [(73,con Zcy)]) N (cAt cKCmB60 [1,1,1,0,1,0,0]) (pAt Uf0 [1,1,1,0,1,0]) [8,9] [] (Zep a2 a0 a1 bQ nQ aQ)) N ([.a (.i .u64 0),.a (.i .i64 0)],[])) (λe s=>(Ug6 N a0 a1 bQ nQ aQ) e (left (writes (cAt cKCmB60 [1,1,1,0,1,0,0])) [8,9] [] (Zep a2 a0 a1 bQ nQ aQ) s))=Uao (Uab (Zbs PZ a2 a0 a1 bQ nQ aQ) N ((0:Int),(0:Int))) (λx=>Zgh PZ N a2 a0 a1 bQ nQ aQ x.1 x.2):=by refine Za2 Zf1 Zlc _ _ (Zxq N a2 a0 a1 bQ nQ aQ) N ((0:Int),(0:Int)) _ _ ?_;intro x;exact Zp3 N a2 a0 a1 bQ nQ aQ x.1 x.2
theorem Zwm(N:Nat)(a2:Int)(a0 a1:Array Value)(bQ:Option (Option Addr))(nQ:Nat)(aQ:Array Value):ansV PZ (mkΓ [(73,con Zcy)]) N f60 [([8,9],[])] [.w 0,.w 1,.i .u64 a2] [.row a0 38,.one (.r a1 31 [(2,2)]) 31,.sl (.came bQ) nQ aQ 48]=(bif (okS a0&&Udi a0 a1 nQ aQ) then (Uao (Uab (Zbs PZ a2 a0 a1 bQ nQ aQ) N ((0:Int),(0:Int))) (λx=>Zgh PZ N a2 a0 a1 bQ nQ aQ x.1 x.2)) else (none)):=by
 conv=>rhs;simp only[<- Zyw N a2 a0 a1 bQ nQ aQ]
 kernel_rfl
theorem Zt0(a2:Int)(a0 a1:Array Value)(bQ:Option (Option Addr))(nQ:Nat)(aQ:Array Value)(h_a2:IntKind.u64.min<=a2/\a2<=IntKind.u64.max)(h_a0:WT PZ 38 a0)(h_a1:WT PZ 31 a1)(h_a1x2:SlT 48 nQ aQ)(hg:((okS a0&&Udi a0 a1 nQ aQ))=true):ansV PZ (mkΓ [(73,con Zcy)]) 1000 f60 [([8,9],[])] [.w 0,.w 1,.i .u64 a2] [.row a0 38,.one (.r a1 31 [(2,2)]) 31,.sl (.came bQ) nQ aQ 48]=some (.a (.i .u64 (reaV PZ a0 a1 nQ aQ a2)),.none,true):=by
 refine(Zwm 1000 a2 a0 a1 bQ nQ aQ).trans ?_;rw[hg,Q1];have hq:∀q:Int,Uab (Zbs PZ a2 a0 a1 bQ nQ aQ) 1000 ((0:Int),(0:Int))=some (q,(36:Int))->Uao (Uab (Zbs PZ a2 a0 a1 bQ nQ aQ) 1000 ((0:Int),(0:Int))) (λx=>Zgh PZ 1000 a2 a0 a1 bQ nQ aQ x.1 x.2)=some (.a (.i .u64 (IntKind.u64.wrap (BitVec.ofInt IntKind.u64.bits q &&& BitVec.ofInt IntKind.u64.bits a2).toNat)),.none,true):=λq e=>by rw[e];rfl
 have e0:reaV PZ a0 a1 nQ aQ a2=IntKind.u64.wrap (BitVec.ofInt IntKind.u64.bits (folds (fbF ((endV PZ a0 a1 nQ aQ).extract 3 (3+36))) 0 36) &&& BitVec.ofInt IntKind.u64.bits a2).toNat:=by unfold reaV;rw[BitVec.and_comm]
 rw[e0];refine hq _ ?_;have hF:∀(k:Nat) (s:Int),k<36->Zbs PZ a2 a0 a1 bQ nQ aQ (s,(k:Int))=some (.more (fbF ((endV PZ a0 a1 nQ aQ).extract 3 (3+36)) s k,((k+1:Nat):Int))):=λk s hk=>by
  have h1:decide ((k:Int)<36)=true:=Q3 (by omega);have h0:decide (0<=(k:Int))=true:=Q3 (by omega);have h3:i64.wrap ((k:Int)+1)=((k+1:Nat):Int):=by rw[w64 (by omega)];omega
  have h5:=Yce (endV PZ a0 a1 nQ aQ) (i:=k*1) (by omega);have h6:decide (0<=IntKind.u64.wrap (k:Int))=true:=Q3 (Zhx .u64 _).1;unfold fbF;rw[bit_of (c:=(k:Int)) (by omega),h5];unfold endV;simp only[Zbs,h1,h0,h3,h6,Q9,Bool.and_self,Q1];cases decide (num (Uaw PZ a0 (num a1 0) nQ aQ (num a1 1).toNat) (3+k*1) > (0:Int))<;>simp only[Q1,Q2]
 generalize (endV PZ a0 a1 nQ aQ).extract 3 (3+36)=C at hF|-
 exact Zkf (g:=Zbs PZ a2 a0 a1 bQ nQ aQ) (λ(acc:Int) k=>(acc,(k:Int))) (fbF C) (m:=36) (t:=(0:Int)) (x:=(folds (fbF C) 0 36,(36:Int))) (N:=1000) (λk s hk _=>hF k s hk) (by
  have h1:decide (((36:Nat):Int)<36)=false:=by decide
  generalize folds (fbF C) 0 36=q;simp only[Zbs,h1,Q2];rfl) (by omega)
def Zg9:Con:=λargs h=>match args,h with|[.w 0,.w 1,.i .u64 a2],[.row a0 38,.one (.r a1 31 [(2,2)]) 31,.sl (.came bQ) nQ aQ 48]=>some (.a (.i .u64 (reaV PZ a0 a1 nQ aQ a2)),.none,(okS a0&&Udi a0 a1 nQ aQ))|_,_=>none
theorem Zs7:EntX PZ 60:=Zak (fn:=f60)
theorem Zyg:Uac mn PZ 60 Zg9:=(ansY (N:=1000) (mKc (Zag Zz7) Zuh mKn) f60 [([8,9],[])]).of (by
 intro ρ h w args vals r e hA hH hr;unfold Zg9 at hr;split at hr
 ·rename_i a2 a0 a1 bQ nQ aQ;obtain⟨rfl,rfl,hg2⟩:=BQi hr;exact Zt0 a2 a0 a1 bQ nQ aQ (hA.rng 2 rfl) (hH.wt 0 rfl) (hH.wtr 1 rfl) (hH.slw 2 rfl) hg2
 ·cases hr)
end
end Go.Proofs.YtgllknjdblkhnaaGreatDoor
