/- What a plan spreads and reaches, as it is asked, in company. -/
import Derived.Test.YtgllknjdblkhnaaDoorProg
import Derived.Test.YtgllknjdblkhnaaDoorCmA
set_option linter.unusedVariables false
set_option linter.unusedSimpArgs false
namespace Go.Proofs.YtgllknjdblkhnaaDoor
open Tryd (f58 f69 f77)
open Go.ChangeShapes Go.WideShapes Go.ChangeAt Go.RowKit Ve Vc
open Tryd (prog)
open IntKind (i64)
set_option maxRecDepth 100000
noncomputable section
variable {mn:Md}
def wsum(A:Array Value):Nat->Int
 |0=>0
 |k+1=>i64.wrap (wsum A k+i64.wrap (num (A.extract (k*3) (k*3+3)) 2))
def relB(S:Array Value)(h:Int)(X:Array Value):Bool:=Zae (i64.wrap (num X 0)) S&&(Zaa (i64.wrap (num X 1)) 0 (i64.wrap (h - 1))&&Zaa (i64.wrap (num X 2)) 1 200)
def Uex(S:Array Value)(h:Int)(n:Nat)(A:Array Value):Bool:=(List.range n).all (λk=>relB S h (A.extract (k*3) (k*3+3)))
theorem Ycw(S:Array Value)(h:Int)(n:Nat)(A:Array Value):Uex S h n A=true ↔ ∀k,k<n->(λk=>relB S h (A.extract (k*3) (k*3+3))) k=true:=by unfold Uex;rw[List.all_eq_true];exact⟨λh k hk=>h k (List.mem_range.2 hk),λh k hk=>h k (List.mem_range.1 hk)⟩
def Udj(S p:Array Value)(n:Nat)(A:Array Value):Bool:=Zaa (i64.wrap (num p 0)) 0 1&&(Zaa (i64.wrap (num p 1)) 1 8&&(!decide ((n:Int) > 12)&&(Uex S (i64.wrap (num p 1)) n A&&decide (wsum A n<=1000))))
theorem Yji{w h:Int}{k:Nat}(h1:((k % 6:Nat):Int)<w)(h2:((k / 6:Nat):Int)<h):inC w h k=true:=by unfold inC;rw[Q3 h1,Q3 h2];rfl
theorem gw_in{S:Array Value}(h0:1<=num S 0/\num S 0<=6/\1<=num S 1/\num S 1<=6){k:Nat}(hk:k<36)(hi:inC (num S 0) (num S 1) k=true)(w:Nat)(hw:w<5)(hn:gw S k w ≠ -1):inC (num S 0) (num S 1) (gw S k w).toNat=true:=by
 obtain⟨hx,hy⟩:=Yia hi;obtain⟨a1,a2,a3,a4⟩:=h0
 match w,hw with
 |0,_=>exact hi
 | 1,_=>
  simp only[gw]at hn|-
  by_cases c:6<=k
  ·simp only[c,decide_true,Q1];rw[show ((k:Int) - 6).toNat=k - 6 by omega];exact Yji (by omega) (by omega)
  ·simp[c]at hn
 | 2,_=>
  simp only[gw]at hn|-
  by_cases c:((k % 6:Nat):Int)+1<num S 0
  ·simp only[Q3 c,Q1];rw[show ((k:Int)+1).toNat=k+1 by omega];exact Yji (by omega) (by omega)
  ·simp only[Q4 c,Q2]at hn;exact absurd rfl hn
 | 3,_=>
  simp only[gw]at hn|-
  by_cases c:((k / 6:Nat):Int)+1<num S 1
  ·simp only[Q3 c,Q1];rw[show ((k:Int)+6).toNat=k+6 by omega];exact Yji (by omega) (by omega)
  ·simp only[Q4 c,Q2]at hn;exact absurd rfl hn
 | 4,_=>
  simp only[gw]at hn|-
  by_cases c:1<=k % 6
  ·simp only[Q3 c,Q1];rw[show ((k:Int) - 1).toNat=k - 1 by omega];exact Yji (by omega) (by omega)
  ·simp only[Q4 c,Q2]at hn;exact absurd rfl hn
def ZO(S X:Array Value):Prop:=∀k,k<36->inC (num S 0) (num S 1) k=false->num X (3+k)=0
theorem Yj8{S X:Array Value}(hX:WT prog 141 X)(hok:okS S=true)(hS:WT prog 35 S)(h:ZO S X):ZO S (Ubq prog S X):=by
 intro k hk hf;obtain⟨i1,i2⟩:=Yc1 X;have hd:=Zn8 hok;have w:=(Zzm (S:=S) hX).int (o:=3+k) (k:=.i64) (Zvv (by omega) (by omega));refine cg_eq ((Yja i1 (j:=3+k) (by omega)).trans (.of ?_)) w.2 (by omega);rw[(Zqh X).2.2 k hk,Int.zero_add];refine(Zj5 36 (g:=λ_=>0) λi hi=> ?_).trans (Zv5 36);rw[(Zsd hS hi).2];cases hin:inC (num S 0) (num S 1) i with
 |false=>rw[Bool.false_and,if_neg (by simp),show 3+i*1=3+i by omega,h i hi hin];simp
 | true=>
  have hik:i≠k:=λe=>by rw[e,hf]at hin;cases hin
  cases bitI (num S 2) i with
  |true=>rw[Bool.not_true,Bool.and_false,if_neg (by simp),if_neg (by omega)]
  | false=>
   rw[Bool.not_false,Bool.and_self,if_pos rfl];refine(Zj5 5 (g:=λ_=>0) λw hw=> ?_).trans (Zv5 5);rw[Zz8 hd hi hin w hw,if_neg];unfold Ud7
   by_cases hg:gw S i w=-1
   ·rw[hg,if_pos (by omega)];omega
   ·have:=Zzf hd hi hin w hw hg;rw[if_neg (show ¬gw S i w<0 by omega)];intro e;have e':(gw S i w).toNat=k:=by omega
    have:=gw_in hd hi hin w hw hg;rw[e',hf]at this;cases this
theorem in_of{x a b:Int}(h:a<=x/\x<=b):Zaa x a b=true:=by unfold Zaa;rw[Q3 (show x>=a from h.1),Q3 h.2];rfl
def put2(X:Array Value)(c:Nat)(b m:Int):Array Value:=(X.setIfInBounds 2 (.int .i64 (i64.wrap (num X 2+b)))).setIfInBounds (3+c*1) (.int .i64 (i64.wrap (num (X.setIfInBounds 2 (.int .i64 (i64.wrap (num X 2+b)))) (3+c*1)+m)))
theorem Ymb(X:Array Value)(c:Nat)(b m:Int):(X.setIfInBounds (3+c*1) (.int .i64 (i64.wrap (num X (3+c*1)+m)))).setIfInBounds 2 (.int .i64 (i64.wrap (num (X.setIfInBounds (3+c*1) (.int .i64 (i64.wrap (num X (3+c*1)+m)))) 2+b)))=put2 X c b m:=by unfold put2;rw[Zd9,if_neg (by omega),Zd9,if_neg (by omega)];exact Array.setIfInBounds_comm _ _ (by omega)
def putR(h:Int)(A X:Array Value)(k:Nat):Array Value:=bif (i64.wrap (num (A.extract (k*3) (k*3+3)) 1)==h) then put2 X (num (A.extract (k*3) (k*3+3)) 0).toNat (i64.wrap (num (A.extract (k*3) (k*3+3)) 2)) (i64.wrap (i64.wrap (num (A.extract (k*3) (k*3+3)) 2)*12^h.toNat)) else X
def Uc6(h:Int)(n:Nat)(A X:Array Value):Array Value:=folds (putR h A) X n
def Uat(P:Program)(S:Array Value)(b:Int)(n:Nat)(A:Array Value):Nat->Array Value
 |0=>(zc P 141).setIfInBounds 0 (.int .i8 b)
 |j+1=>Ubq P S (Uc6 (j:Int) n A (Uat P S b n A j))
def Good(S:Array Value)(b:Int)(j:Nat)(X:Array Value):Prop:=WT prog 141 X/\num X 0=b/\num X 1=(j:Int)/\ZO S X
theorem good_put{S A X:Array Value}{b h:Int}{j k:Nat}(hX:Good S b j X)(hc:0<=num (A.extract (k*3) (k*3+3)) 0/\num (A.extract (k*3) (k*3+3)) 0<=35/\inC (num S 0) (num S 1) (num (A.extract (k*3) (k*3+3)) 0).toNat=true):Good S b j (putR h A X k):=by
 obtain⟨w,n0,n1,z⟩:=hX;unfold putR;cases (i64.wrap (num (A.extract (k*3) (k*3+3)) 1)==h) with
 |false=>exact⟨w,n0,n1,z⟩
 | true=>
  rw[Q1];generalize i64.wrap (i64.wrap (num (A.extract (k*3) (k*3+3)) 2)*12^h.toNat)=m;generalize i64.wrap (num (A.extract (k*3) (k*3+3)) 2)=bb;generalize num (A.extract (k*3) (k*3+3)) 0=c at hc;obtain⟨c0,c1,c2⟩:=hc;unfold put2;have w2:=Zmt (k:=.i64) (i:=2) w (Zvv (by omega) (by omega)) (Zg5 .i64 (num X 2+bb));refine⟨Zmt (k:=.i64) w2 (Zvv (by omega) (by omega)) (Zg5 .i64 _),?_,?_,λi hi hf=> ?_⟩
  ·rw[Zd9,if_neg (by omega),Zd9,if_neg (by omega)];exact n0
  ·rw[Zd9,if_neg (by omega),Zd9,if_neg (by omega)];exact n1
  ·have hne:c.toNat≠i:=λe=>by rw[e,hf]at c2;cases c2
   rw[Zd9,if_neg (by omega),Zd9,if_neg (by omega)];exact z i hi hf
theorem Ye9{S A X:Array Value}{b h:Int}{j n:Nat}(hX:Good S b j X)(hc:∀k,k<n->0<=num (A.extract (k*3) (k*3+3)) 0/\num (A.extract (k*3) (k*3+3)) 0<=35/\inC (num S 0) (num S 1) (num (A.extract (k*3) (k*3+3)) 0).toNat=true):Good S b j (Uc6 h n A X):=
 Zid (λ_ X=>Good S b j X) hX (λk s hk hs=>good_put hs (hc k hk)) n (Nat.le_refl _)
theorem Yma{S X:Array Value}{b:Int}{j:Nat}(hS:WT prog 35 S)(hok:okS S=true)(hj:j<=100)(hX:Good S b j X):Good S b (j+1) (Ubq prog S X):=by
 obtain⟨w,n0,n1,z⟩:=hX;obtain⟨e0,e1,_⟩:=Zqh X;refine⟨Zzm w,?_,?_,Yj8 w hok hS z⟩
 ·rw[Zvo _ _ (by omega),e0,n0]
 ·rw[Zvo _ _ (by omega),e1,n1,IntWalk.i8_in _ (by omega)];omega
theorem good_go{S X:Array Value}{b:Int}{j:Nat}(hok:okS S=true)(hb:0<=b/\b<=1)(hj:j<=100)(hX:Good S b j X):True/\(0<=tdS X/\tdS X<2):=by obtain⟨w,n0,n1,z⟩:=hX;refine⟨trivial,?_⟩;unfold tdS;rw[n0,n1,IntWalk.i8_in _ (by omega),Int.tmod_eq_emod_of_nonneg (by omega)];omega
theorem Ybh{S A:Array Value}{b:Int}{n:Nat}(hS:WT prog 35 S)(hok:okS S=true)(hb:0<=b/\b<=1)(hc:∀k,k<n->0<=num (A.extract (k*3) (k*3+3)) 0/\num (A.extract (k*3) (k*3+3)) 0<=35/\inC (num S 0) (num S 1) (num (A.extract (k*3) (k*3+3)) 0).toNat=true):∀j,j<=50->Good S b j (Uat prog S b n A j)
 | 0,_=>by
  have i8:IntKind.i8.min=-128/\IntKind.i8.max=127:=⟨rfl,rfl⟩;have z0:∀i,num (zc prog 141) i=0:=λi=>by
   have h:∀i,i<40->num (zc prog 141) i=0:=by
    have:((List.range 40).all λi=>num (zc prog 141) i==0)=true:=by kernel_rfl
    intro i hi;exact eq_of_beq (List.all_eq_true.1 this i (List.mem_range.2 hi))
   by_cases hi:i<40
   ·exact h i hi
   ·unfold num;rw[Array.getElem?_eq_none (by rw[show (zc prog 141).size=40 by kernel_rfl];omega)]
  have hsz:(zc prog 141).size=40:=by kernel_rfl
  refine⟨Zmt (k:=.i8) (WT.zero (by kernel_rfl)) Yf7.1 (by omega),?_,?_,λi hi hf=> ?_⟩
  ·rw[Uat,Zd9,if_pos (by omega)]
  ·rw[Uat,Zd9,if_neg (by omega),z0];rfl
  ·rw[Uat,Zd9,if_neg (by omega),z0]
 |j+1,hj=>by
  rw[Uat];exact Yma hS hok (by omega) (Ye9 (Ybh hS hok hb hc j (by omega)) hc)
theorem Ym2{S A:Array Value}{h:Int}{n:Nat}(hS:WT prog 35 S)(hA:∀k,k<n->WT prog 71 (A.extract (k*3) (k*3+3)))(hr:Uex S h n A=true):∀k,k<n->0<=num (A.extract (k*3) (k*3+3)) 0/\num (A.extract (k*3) (k*3+3)) 0<=35/\inC (num S 0) (num S 1) (num (A.extract (k*3) (k*3+3)) 0).toNat=true:=by
 intro k hk;have h1:=(Ycw S h n A).1 hr k hk;have h1:relB S h (A.extract (k*3) (k*3+3))=true:=h1;obtain⟨-,b0⟩:=(hA k hk).int (o:=0) (k:=.i8) (by kernel_rfl);have m8:IntKind.i8.min=-128/\IntKind.i8.max=127:=⟨rfl,rfl⟩;unfold relB at h1;rw[Q7,IntWalk.i64_in (num (A.extract (k*3) (k*3+3)) 0) (by omega)]at h1;have h2:=h1.1;generalize num (A.extract (k*3) (k*3+3)) 0=c at h2 b0;have hi:Zaw c S=true:=by unfold Zae at h2;cases hi:Zaw c S with|true=>rfl|false=>rw[hi]at h2;exact nomatch h2
 have hr:=Yib hi;refine⟨hr.1,hr.2,?_⟩;have e:((c.toNat:Nat):Int)=c:=by omega
 rw[<- Ycm hS (show c.toNat<36 by omega),e];exact hi
theorem re_len:(lay prog 71).length=3:=by kernel_rfl
def Zbv:Cons:=(mkΓ [(91,con Zki),(92,con Zkw)])
def Zeo(a0 a1:Array Value)(bQ:Option (Option Addr))(nQ:Nat)(aQ:Array Value)(y0_6:Int)(r0_9:Array Value):St:=(⟨.a (.w 0)::.a (.w 1)::.a (.u)::.a (.u)::.a (.w 3)::.a (.w 9)::.a (.i .i64 y0_6)::.a (.i .i64 0)::.a (.x)::.a (.w 1)::.a (.w 1)::.a (.p 1 (0) 22)::.a (.i .i8 (num a1 0))::.a (.g ((zc prog 141).setIfInBounds 0 (.int .i8 (num a1 0))) 141)::.a (.i .i64 y0_6)::.a (.w 1)::.a (.w 1)::.a (.p 1 (1) 22)::.a (.i .i8 (num a1 1))::.a (.i .i64 (i64.wrap (num a1 1)))::.a (.b (decide (y0_6<(i64.wrap (num a1 1)))))::xs 46 (.a (.u)::[]),[.row a0 35,.one (.r a1 44 [(2,2)]) 44,.sl (.came bQ) nQ aQ 71,.row (zc prog 141) 141,.no,.no,.no,.no,.no,.row r0_9 141,.no],[9]⟩:St)
def Zdq:Int×Array Value->LS
 |(y1_7,r1_9)=>([.a (.i .i64 y1_7)],[.row r1_9 141])
def Zf4:Int×Array Value->Exit×LS
 |t=>((.exit 2),Zdq t)
def Zck(P:Program)(a0 a1:Array Value)(bQ:Option (Option Addr))(nQ:Nat)(aQ:Array Value)(y0_6:Int)(r0_9:Array Value):Int×Array Value->Option (Stp (Int×Array Value) (Int×Array Value))
 |(y1_7,r1_9)=>bif decide (y1_7<(nQ:Int)) then (bif (decide (0<=y1_7)&&decide (y1_7<(nQ:Int))) then (bif ((i64.wrap (num (aQ.extract ((y1_7).toNat*3) (((y1_7).toNat*3)+3)) 1))==y0_6) then (bif (decide (0<=(num (aQ.extract ((y1_7).toNat*3) (((y1_7).toNat*3)+3)) 0))&&decide ((num (aQ.extract ((y1_7).toNat*3) (((y1_7).toNat*3)+3)) 0)<36)) then (bif (decide (0<=y0_6)&&decide (y0_6<=14)) then (bif (decide (0<=(num (aQ.extract ((y1_7).toNat*3) (((y1_7).toNat*3)+3)) 0))&&decide ((num (aQ.extract ((y1_7).toNat*3) (((y1_7).toNat*3)+3)) 0)<36)) then (some (.more ((i64.wrap (y1_7+(1:Int))),((r1_9.setIfInBounds (3+((num (aQ.extract ((y1_7).toNat*3) (((y1_7).toNat*3)+3)) 0).toNat*1)) (.int .i64 (i64.wrap ((num r1_9 (3+((num (aQ.extract ((y1_7).toNat*3) (((y1_7).toNat*3)+3)) 0).toNat*1)))+(i64.wrap ((i64.wrap (num (aQ.extract ((y1_7).toNat*3) (((y1_7).toNat*3)+3)) 2))*(12^y0_6.toNat))))))).setIfInBounds 2 (.int .i64 (i64.wrap ((num (r1_9.setIfInBounds (3+((num (aQ.extract ((y1_7).toNat*3) (((y1_7).toNat*3)+3)) 0).toNat*1)) (.int .i64 (i64.wrap ((num r1_9 (3+((num (aQ.extract ((y1_7).toNat*3) (((y1_7).toNat*3)+3)) 0).toNat*1)))+(i64.wrap ((i64.wrap (num (aQ.extract ((y1_7).toNat*3) (((y1_7).toNat*3)+3)) 2))*(12^y0_6.toNat))))))) 2)+(i64.wrap (num (aQ.extract ((y1_7).toNat*3) (((y1_7).toNat*3)+3)) 2))))))))) else (none)) else (none)) else (none)) else (some (.more ((i64.wrap (y1_7+(1:Int))),r1_9)))) else (none)) else (some (.done (y1_7,r1_9)))
noncomputable abbrev cKCmB77:=codeOf f77
def Ucn:=(Uaa cKCmB77 [([6],[9]),([7],[9])]).1
theorem Zke(N:Nat)(a0 a1:Array Value)(bQ:Option (Option Addr))(nQ:Nat)(aQ:Array Value)(y0_6:Int)(r0_9:Array Value):∀t:Int×Array Value,Uao prog Zbv N (cAt cKCmB77 [1,1,0,1,0,0,1,0,0,0,1,0,0]) (pAt Ucn [1,1,0,1,0,1,0,0,1,0]) [7] [9] (Zeo a0 a1 bQ nQ aQ y0_6 r0_9) (Zdq t)=mapS Zdq Zf4 (Zck prog a0 a1 bQ nQ aQ y0_6 r0_9 t):=by
 rintro⟨y1_7,r1_9⟩
 conv=>rhs;simp only[Zck,Za3,Za8,Za6,Za7,Zdq,Zf4]
 kernel_rfl
def Zes(a0 a1:Array Value)(bQ:Option (Option Addr))(nQ:Nat)(aQ:Array Value):St:=(⟨.a (.w 0)::.a (.w 1)::.a (.u)::.a (.u)::.a (.w 3)::.a (.w 9)::.a (.i .i64 0)::.a (.u)::.a (.u)::.a (.w 1)::.a (.w 1)::.a (.p 1 (0) 22)::.a (.i .i8 (num a1 0))::.a (.g ((zc prog 141).setIfInBounds 0 (.int .i8 (num a1 0))) 141)::us 54 ([]),[.row a0 35,.one (.r a1 44 [(2,2)]) 44,.sl (.came bQ) nQ aQ 71,.row (zc prog 141) 141,.no,.no,.no,.no,.no,.row ((zc prog 141).setIfInBounds 0 (.int .i8 (num a1 0))) 141,.no],[9]⟩:St)
def Zcg:Int×Array Value->LS
 |(y0_6,r0_9)=>([.a (.i .i64 y0_6)],[.row r0_9 141])
def Zdw:Int×Array Value->Exit×LS
 |t=>((.exit 0),Zcg t)
def Zcx(P:Program)(N:Nat)(a0 a1:Array Value)(bQ:Option (Option Addr))(nQ:Nat)(aQ:Array Value)(y0_6:Int)(r0_9:Array Value)(z1_7:Int)(q1_9:Array Value):Option (Stp (Int×Array Value) (Int×Array Value)):=bif (okS a0&&(decide (0<=tdS q1_9)&&decide (tdS q1_9<2))) then (some (.more ((i64.wrap (y0_6+(1:Int))),(Ubq prog a0 q1_9)))) else (none)
def Uf5(N:Nat):=(Uac 2 (kSeq (veC prog Zbv N (cAt cKCmB77 [1,1,0,1,0,0,1,0,0,1]) (pAt Ucn [1,1,0,1,0,1,0,1]) (Stp LS (Exit×LS))) (Uac 1 (kSeq (veC prog Zbv N (cAt cKCmB77 [1,1,0,1,0,0,1,1]) (pAt Ucn [1,1,0,1,0,1,1]) (Stp LS (Exit×LS))) (Ucd 11 [6] [9])))))
theorem Zpa(N:Nat)(a0 a1:Array Value)(bQ:Option (Option Addr))(nQ:Nat)(aQ:Array Value)(y0_6:Int)(r0_9:Array Value)(z1_7:Int)(q1_9:Array Value):(Uf5 N) (.exit 2) (left (writes (cAt cKCmB77 [1,1,0,1,0,0,1,0,0,0,1,0,0])) [7] [9] (Zeo a0 a1 bQ nQ aQ y0_6 r0_9) ([.a (.i .i64 z1_7)],[.row q1_9 141]))=mapS Zcg Zdw (Zcx prog N a0 a1 bQ nQ aQ y0_6 r0_9 z1_7 q1_9):=by
 conv=>rhs;simp only[Zcx,Za3,Za8,Za6,Za7,Zcg,Zdw]
 kernel_rfl
theorem Zxq(N:Nat)(a0 a1:Array Value)(bQ:Option (Option Addr))(nQ:Nat)(aQ:Array Value)(y0_6:Int)(r0_9:Array Value):Uaj (Uab (Uao prog Zbv N (cAt cKCmB77 [1,1,0,1,0,0,1,0,0,0,1,0,0]) (pAt Ucn [1,1,0,1,0,1,0,0,1,0]) [7] [9] (Zeo a0 a1 bQ nQ aQ y0_6 r0_9)) N ([.a (.i .i64 0)],[.row r0_9 141])) (λe s=>(Uf5 N) e (left (writes (cAt cKCmB77 [1,1,0,1,0,0,1,0,0,0,1,0,0])) [7] [9] (Zeo a0 a1 bQ nQ aQ y0_6 r0_9) s))=mapS Zcg Zdw (Uas (Uab (Zck prog a0 a1 bQ nQ aQ y0_6 r0_9) N ((0:Int),r0_9)) (λx=>Zcx prog N a0 a1 bQ nQ aQ y0_6 r0_9 x.1 x.2)):=by
 rw[Zqx Zcg Zdw]
 first
 |(have h:=Zbe (α:=Stp LS (Exit×LS)) Zdq Zf4 _ _ (Zke N a0 a1 bQ nQ aQ y0_6 r0_9) N ((0:Int),r0_9);refine h _ _ ?_)
 |(have h:=Zbe (α:=Stp BS (Exit×BS)) Zdq Zf4 _ _ (Zke N a0 a1 bQ nQ aQ y0_6 r0_9) N ((0:Int),r0_9);refine h _ _ ?_)
 |(have h:=Zbe (α:=Stp LS ((Exit×LS)⊕(SV×Eff×Bool))) Zdq Zf4 _ _ (Zke N a0 a1 bQ nQ aQ y0_6 r0_9) N ((0:Int),r0_9);refine h _ _ ?_)
 intro x;exact Zpa N a0 a1 bQ nQ aQ y0_6 r0_9 x.1 x.2
def Zbz(P:Program)(N:Nat)(a0 a1:Array Value)(bQ:Option (Option Addr))(nQ:Nat)(aQ:Array Value):Int×Array Value->Option (Stp (Int×Array Value) (Int×Array Value))
 |(y0_6,r0_9)=>bif decide (y0_6<(i64.wrap (num a1 1))) then (Uas (Uab (Zck P a0 a1 bQ nQ aQ y0_6 r0_9) N ((0:Int),r0_9)) (λx=>Zcx P N a0 a1 bQ nQ aQ y0_6 r0_9 x.1 x.2)) else (some (.done (y0_6,r0_9)))
theorem Zwm(N:Nat)(a0 a1:Array Value)(bQ:Option (Option Addr))(nQ:Nat)(aQ:Array Value):∀t:Int×Array Value,Uao prog Zbv N (cAt cKCmB77 [1,1,0,1,0,0]) (pAt Ucn [1,1,0,1,0]) [6] [9] (Zes a0 a1 bQ nQ aQ) (Zcg t)=mapS Zcg Zdw (Zbz prog N a0 a1 bQ nQ aQ t):=by
 rintro⟨y0_6,r0_9⟩
 conv=>rhs;simp only[<- Zxq N a0 a1 bQ nQ aQ y0_6 r0_9,Zbz,Za3,Za8,Za6,Za7,Zcg,Zdw]
 kernel_rfl
def Zgh(P:Program)(N:Nat)(a0 a1:Array Value)(bQ:Option (Option Addr))(nQ:Nat)(aQ:Array Value)(z0_6:Int)(q0_9:Array Value):Option (SV×Eff×Bool):=some (.a (.g q0_9 141),.none,true)
def Uf1(N:Nat)(a0 a1:Array Value)(bQ:Option (Option Addr))(nQ:Nat)(aQ:Array Value):=(Uac 0 (kSeq (veC prog Zbv N (cAt cKCmB77 [1,1,1]) (pAt Ucn [1,1,1]) (SV×Eff×Bool)) (finK prog [.row a0 35,.one (.r a1 44 [(2,2)]) 44,.sl (.came bQ) nQ aQ 71] [.cell 4 141])))
theorem Zo6(N:Nat)(a0 a1:Array Value)(bQ:Option (Option Addr))(nQ:Nat)(aQ:Array Value)(z0_6:Int)(q0_9:Array Value):(Uf1 N a0 a1 bQ nQ aQ) (.exit 0) (left (writes (cAt cKCmB77 [1,1,0,1,0,0])) [6] [9] (Zes a0 a1 bQ nQ aQ) ([.a (.i .i64 z0_6)],[.row q0_9 141]))=Zgh prog N a0 a1 bQ nQ aQ z0_6 q0_9:=by kernel_rfl
theorem Zxr(N:Nat)(a0 a1:Array Value)(bQ:Option (Option Addr))(nQ:Nat)(aQ:Array Value):Uaj (Uab (Uao prog Zbv N (cAt cKCmB77 [1,1,0,1,0,0]) (pAt Ucn [1,1,0,1,0]) [6] [9] (Zes a0 a1 bQ nQ aQ)) N ([.a (.i .i64 0)],[.row ((zc prog 141).setIfInBounds 0 (.int .i8 (num a1 0))) 141])) (λe s=>(Uf1 N a0 a1 bQ nQ aQ) e (left (writes (cAt cKCmB77 [1,1,0,1,0,0])) [6] [9] (Zes a0 a1 bQ nQ aQ) s))=Uas (Uab (Zbz prog N a0 a1 bQ nQ aQ) N ((0:Int),((zc prog 141).setIfInBounds 0 (.int .i8 (num a1 0))))) (λx=>Zgh prog N a0 a1 bQ nQ aQ x.1 x.2):=by refine Zbe Zcg Zdw _ _ (Zwm N a0 a1 bQ nQ aQ) N ((0:Int),((zc prog 141).setIfInBounds 0 (.int .i8 (num a1 0)))) _ _ ?_;intro x;exact Zo6 N a0 a1 bQ nQ aQ x.1 x.2
theorem Zvw(N:Nat)(a0 a1:Array Value)(bQ:Option (Option Addr))(nQ:Nat)(aQ:Array Value):ansV prog Zbv N f77 [([6],[9]),([7],[9])] [.w 0,.w 1] [.row a0 35,.one (.r a1 44 [(2,2)]) 44,.sl (.came bQ) nQ aQ 71]=(Uas (Uab (Zbz prog N a0 a1 bQ nQ aQ) N ((0:Int),((zc prog 141).setIfInBounds 0 (.int .i8 (num a1 0))))) (λx=>Zgh prog N a0 a1 bQ nQ aQ x.1 x.2)):=by
 conv=>rhs;simp only[<- Zxr N a0 a1 bQ nQ aQ]
 kernel_rfl
theorem Zsq(a0 a1:Array Value)(bQ:Option (Option Addr))(nQ:Nat)(aQ:Array Value)(h_a0:WT prog 35 a0)(h_a1:WT prog 44 a1)(h_a1x2:aQ.size=nQ*(lay prog 71).length/\(∀k,k<nQ->WT prog 71 (aQ.extract (k*(lay prog 71).length) (k*(lay prog 71).length+(lay prog 71).length)))/\nQ<=9223372036854775807)(hg:((okS a0&&Udj a0 a1 nQ aQ))=true):ansV prog Zbv 18446744073709551616 f77 [([6],[9]),([7],[9])] [.w 0,.w 1] [.row a0 35,.one (.r a1 44 [(2,2)]) 44,.sl (.came bQ) nQ aQ 71]=some (.a (.g (Uat prog a0 (num a1 0) nQ aQ (num a1 1).toNat) 141),.none,true):=by
 have hn:=h_a1x2.2.2;rw[Q7]at hg;obtain⟨hok,hg⟩:=hg;obtain⟨-,b0⟩:=h_a1.int (o:=0) (k:=.i8) (by kernel_rfl);obtain⟨-,b1⟩:=h_a1.int (o:=1) (k:=.i8) (by kernel_rfl);have m8:IntKind.i8.min=-128/\IntKind.i8.max=127:=⟨rfl,rfl⟩;have e0:i64.wrap (num a1 0)=num a1 0:=IntWalk.i64_in _ (by omega);have e1:i64.wrap (num a1 1)=num a1 1:=IntWalk.i64_in _ (by omega);unfold Udj at hg;rw[e0,e1]at hg;simp only[Q7]at hg;obtain⟨g0,g1,-,g2,-⟩:=hg;have r0:=Zra g0;have r1:=Zra g1;have hc:=Ym2 h_a0 (λk hk=>by have:=h_a1x2.2.1 k hk;rw[re_len]at this;exact this) g2;obtain⟨m,hm⟩:=Int.eq_ofNat_of_zero_le (show 0<=num a1 1 by omega);have em:i64.wrap (m:Int)=(m:Int):=by rw[<- hm];exact e1
 refine(Zvw 18446744073709551616 a0 a1 bQ nQ aQ).trans ?_;rw[hm,Q9];have hq:∀q,Uab (Zbz prog 18446744073709551616 a0 a1 bQ nQ aQ) 18446744073709551616 ((0:Int),((zc prog 141).setIfInBounds 0 (.int .i8 (num a1 0))))=some ((m:Int),q)->Uas (Uab (Zbz prog 18446744073709551616 a0 a1 bQ nQ aQ) 18446744073709551616 ((0:Int),((zc prog 141).setIfInBounds 0 (.int .i8 (num a1 0))))) (λx=>Zgh prog 18446744073709551616 a0 a1 bQ nQ aQ x.1 x.2)=some (.a (.g q 141),.none,true):=λq e=>by rw[e];rfl
 refine hq _ ?_;exact Zhn (g:=Zbz prog 18446744073709551616 a0 a1 bQ nQ aQ) (λj=>((j:Int),Uat prog a0 (num a1 0) nQ aQ j)) (m:=m) (x:=((m:Int),Uat prog a0 (num a1 0) nQ aQ m)) (N:=18446744073709551616) (λj hj=>by
  have h1:decide ((j:Int)<(m:Int))=true:=Q3 (by omega);have h3:i64.wrap ((j:Int)+1)=((j+1:Nat):Int):=by rw[w64 (by omega)];omega
  have h4:(decide (0<=(j:Int))&&decide ((j:Int)<=14))=true:=by rw[Q3 (show 0<=(j:Int) by omega),Q3 (show (j:Int)<=14 by omega)];rfl
  have hG:=Ybh (S:=a0) (A:=aQ) (n:=nQ) h_a0 hok (show 0<=num a1 0/\num a1 0<=1 by omega) hc j (by omega);have hgo:=(good_go hok (show 0<=num a1 0/\num a1 0<=1 by omega) (by omega) (Ye9 (h:=(j:Int)) hG hc)).2;have hi:∀X,Uab (Zck prog a0 a1 bQ nQ aQ (j:Int) X) 18446744073709551616 ((0:Int),X)=some ((nQ:Int),Uc6 (j:Int) nQ aQ X):=λX=>Zi9 (g:=Zck prog a0 a1 bQ nQ aQ (j:Int) X) (λr k=>((k:Int),r)) (putR (j:Int) aQ) (m:=nQ) (t:=X) (x:=((nQ:Int),Uc6 (j:Int) nQ aQ X)) (N:=18446744073709551616) (λk s hk _=>by
   have h1:decide ((k:Int)<(nQ:Int))=true:=Q3 (by omega);have h0:decide (0<=(k:Int))=true:=Q3 (by omega);have h3:i64.wrap ((k:Int)+1)=((k+1:Nat):Int):=by rw[IntWalk.i64_in _ (by omega)];omega
   have c0:=hc k hk;have c0:=dec2 c0.1 (show num (aQ.extract (k*3) (k*3+3)) 0<36 by omega);unfold putR;rw[<- Ymb];cases he:(i64.wrap (num (aQ.extract (k*3) (k*3+3)) 1)==(j:Int))<;>simp only[Zck,h1,h0,h3,he,c0,h4,Bool.and_self,Q9,Q1,Q2]) (by
   have h1:decide ((nQ:Int)<(nQ:Int))=false:=Q4 (by omega);simp only[Zck,h1,Q2];rfl) (by omega)
  have hX:=hi (Uat prog a0 (num a1 0) nQ aQ j);have t1:(okS a0&&(decide (0<=tdS (Uc6 (j:Int) nQ aQ (Uat prog a0 (num a1 0) nQ aQ j)))&&decide (tdS (Uc6 (j:Int) nQ aQ (Uat prog a0 (num a1 0) nQ aQ j))<2)))=true:=by rw[hok,dec2 hgo.1 hgo.2];rfl
  have e2:Uat prog a0 (num a1 0) nQ aQ (j+1)=Ubq prog a0 (Uc6 (j:Int) nQ aQ (Uat prog a0 (num a1 0) nQ aQ j)):=rfl;rw[e2];generalize Uat prog a0 (num a1 0) nQ aQ j=X at hX t1|-
  generalize Uc6 (j:Int) nQ aQ X=Y at hX t1|-
  have hk:Zcx prog 18446744073709551616 a0 a1 bQ nQ aQ (j:Int) X (nQ:Int) Y=some (.more (((j+1:Nat):Int),Ubq prog a0 Y)):=by unfold Zcx;rw[t1,Q1,h3]
  have h1':Zbz prog 18446744073709551616 a0 a1 bQ nQ aQ ((j:Int),X)=Uas (Uab (Zck prog a0 a1 bQ nQ aQ (j:Int) X) 18446744073709551616 ((0:Int),X)) (λx=>Zcx prog 18446744073709551616 a0 a1 bQ nQ aQ (j:Int) X x.1 x.2):=by simp only[Zbz,hm,em,h1,Q1]
  rw[h1',hX];exact hk) (by
  have h1:decide ((m:Int)<(m:Int))=false:=Q4 (by omega);simp only[Zbz,hm,em,h1,Q2]) (by omega)
def Zcq:Con:=λargs h=>match args,h with|[.w 0,.w 1],[.row a0 35,.one (.r a1 44 [(2,2)]) 44,.sl (.came bQ) nQ aQ 71]=>some (.a (.g (Uat prog a0 (num a1 0) nQ aQ (num a1 1).toNat) 141),.none,(okS a0&&Udj a0 a1 nQ aQ))|_,_=>none
theorem Zrg:EntX prog 77:=Zao (fn:=f77)
theorem Zwh:Uad mn prog 77 Zcq:=(ansY (N:=18446744073709551616) (mKc (Zai Zyt) Zs8 (mKc (Zai Ya9) Zvg mKn)) f77 [([6],[9]),([7],[9])]).of (by
 intro ρ h w args vals r e hA hH hr;unfold Zcq at hr;split at hr
 ·rename_i a0 a1 bQ nQ aQ;obtain⟨rfl,rfl,hg2⟩:=BQi hr;exact Zsq a0 a1 bQ nQ aQ (hH.wt 0 rfl) (hH.wtr 1 rfl) (hH.slw 2 rfl) hg2
 ·cases hr)
def fbF(C:Array Value)(acc:Int)(k:Nat):Int:=bif decide (num C (k*1) > (0:Int)) then IntKind.u64.wrap (BitVec.ofInt IntKind.u64.bits acc ||| BitVec.ofInt IntKind.u64.bits (Za0 (k:Int))).toNat else acc
def Zd3(a0:Array Value):St:=(⟨.a (.g a0 132)::.a (.w 0)::.a (.i .u64 0)::.a (.i .u64 0)::.a (.u)::.a (.u)::.a (.g a0 132)::.a (.i .i64 0)::us 11 ([]),[.row a0 132,.no],[]⟩:St)
def Zfd:Int×Int->LS
 |(y0_3,y0_7)=>([.a (.i .u64 y0_3),.a (.i .i64 y0_7)],[])
def Zjg:Int×Int->Exit×LS
 |t=>((.exit 0),Zfd t)
def Zb6(P:Program)(a0:Array Value):Int×Int->Option (Stp (Int×Int) (Int×Int))
 |(y0_3,y0_7)=>bif decide (y0_7<(36:Int)) then (bif (decide (0<=y0_7)&&decide (y0_7<36)) then (bif decide ((num a0 ((y0_7).toNat*1)) > (0:Int)) then (bif decide (0<=y0_7) then (some (.more ((IntKind.u64.wrap (BitVec.ofInt IntKind.u64.bits y0_3 ||| BitVec.ofInt IntKind.u64.bits (Za0 y0_7)).toNat),(i64.wrap (y0_7+(1:Int)))))) else (none)) else (some (.more (y0_3,(i64.wrap (y0_7+(1:Int))))))) else (none)) else (some (.done (y0_3,y0_7)))
noncomputable abbrev cKCmB69:=codeOf f69
def Ufd:=(Uaa cKCmB69 [([3,7],[])]).1
theorem Zvr(N:Nat)(a0:Array Value):∀t:Int×Int,Uao prog (mkΓ [(46,con Zcd)]) N (cAt cKCmB69 [1,1,0,1,0,0]) (pAt Ufd [1,1,0,1,0]) [3,7] [] (Zd3 a0) (Zfd t)=mapS Zfd Zjg (Zb6 prog a0 t):=by
 rintro⟨y0_3,y0_7⟩
 conv=>rhs;simp only[Zb6,Za3,Za8,Za6,Za7,Zfd,Zjg]
 kernel_rfl
def Zfp(P:Program)(N:Nat)(a0:Array Value)(z0_3:Int)(z0_7:Int):Option (SV×Eff×Bool):=some (.a (.i .u64 z0_3),.none,true)
def Uf6(N:Nat):=(Uac 0 (kSeq (veC prog (mkΓ [(46,con Zcd)]) N (cAt cKCmB69 [1,1,1]) (pAt Ufd [1,1,1]) (SV×Eff×Bool)) (finK prog [] [.tmp 2])))
theorem Zok(N:Nat)(a0:Array Value)(z0_3:Int)(z0_7:Int):(Uf6 N) (.exit 0) (left (writes (cAt cKCmB69 [1,1,0,1,0,0])) [3,7] [] (Zd3 a0) ([.a (.i .u64 z0_3),.a (.i .i64 z0_7)],[]))=Zfp prog N a0 z0_3 z0_7:=by kernel_rfl
theorem Zul(N:Nat)(a0:Array Value):Uaj (Uab (Uao prog (mkΓ [(46,con Zcd)]) N (cAt cKCmB69 [1,1,0,1,0,0]) (pAt Ufd [1,1,0,1,0]) [3,7] [] (Zd3 a0)) N ([.a (.i .u64 0),.a (.i .i64 0)],[])) (λe s=>(Uf6 N) e (left (writes (cAt cKCmB69 [1,1,0,1,0,0])) [3,7] [] (Zd3 a0) s))=Uas (Uab (Zb6 prog a0) N ((0:Int),(0:Int))) (λx=>Zfp prog N a0 x.1 x.2):=by refine Zbe Zfd Zjg _ _ (Zvr N a0) N ((0:Int),(0:Int)) _ _ ?_;intro x;exact Zok N a0 x.1 x.2
theorem Zsz(N:Nat)(a0:Array Value):ansV prog (mkΓ [(46,con Zcd)]) N f69 [([3,7],[])] [.g a0 132] []=(Uas (Uab (Zb6 prog a0) N ((0:Int),(0:Int))) (λx=>Zfp prog N a0 x.1 x.2)):=by
 conv=>rhs;simp only[<- Zul N a0]
 kernel_rfl
theorem Zsb(a0:Array Value)(h_a0:WT prog 132 a0)(hg:(true)=true):ansV prog (mkΓ [(46,con Zcd)]) 1000 f69 [([3,7],[])] [.g a0 132] []=some (.a (.i .u64 (folds (fbF a0) 0 36)),.none,true):=by
 refine(Zsz 1000 a0).trans ?_;have hq:∀q:Int,Uab (Zb6 prog a0) 1000 ((0:Int),(0:Int))=some (q,(36:Int))->Uas (Uab (Zb6 prog a0) 1000 ((0:Int),(0:Int))) (λx=>Zfp prog 1000 a0 x.1 x.2)=some (.a (.i .u64 q),.none,true):=λq e=>by rw[e];rfl
 refine hq _ ?_;exact Zi9 (g:=Zb6 prog a0) (λ(acc:Int) k=>(acc,(k:Int))) (fbF a0) (m:=36) (t:=(0:Int)) (x:=(folds (fbF a0) 0 36,(36:Int))) (N:=1000) (λk s hk _=>by
  have h1:decide ((k:Int)<36)=true:=Q3 (by omega);have h0:decide (0<=(k:Int))=true:=Q3 (by omega);have h3:i64.wrap ((k:Int)+1)=((k+1:Nat):Int):=by rw[w64 (by omega)];omega
  unfold fbF;cases hp:decide (num a0 (k*1) > (0:Int))<;>simp only[Zb6,h1,h0,h3,hp,Q9,Bool.and_self,Q1,Q2]) (by
  have h1:decide (((36:Nat):Int)<36)=false:=by decide
  generalize folds (fbF a0) 0 36=q;simp only[Zb6,h1,Q2];rfl) (by omega)
def Ziz:Con:=λargs h=>match args,h with|[.g a0 132],[]=>some (.a (.i .u64 (folds (fbF a0) 0 36)),.none,true)|_,_=>none
theorem Zpx:EntX prog 69:=Zao (fn:=f69)
theorem Zvx:Uad mn prog 69 Ziz:=(ansY (N:=1000) (mKc (Zai Zht) Ze9 mKn) f69 [([3,7],[])]).of (by
 intro ρ h w args vals r e hA hH hr;unfold Ziz at hr;split at hr
 ·rename_i a0;obtain⟨rfl,rfl,hg2⟩:=BQi hr;exact Zsb a0 (hA.wt 0 rfl) hg2
 ·cases hr)
theorem Zze(X:Array Value){i:Nat}(hi:i<36):num (X.extract 3 (3+36)) i=num X (3+i):=by
 unfold num;rw[Array.getElem?_extract]
 by_cases h:i<min (3+36) X.size - 3
 ·rw[if_pos h]
 ·rw[if_neg h,Array.getElem?_eq_none (show X.size<=3+i by omega)]
def endV(P:Program)(S p:Array Value)(n:Nat)(A:Array Value):Array Value:=Uat P S (num p 0) n A (num p 1).toNat
def reaV(P:Program)(S p:Array Value)(n:Nat)(A:Array Value)(c:Int):Int:=IntKind.u64.wrap (BitVec.ofInt IntKind.u64.bits c &&& BitVec.ofInt IntKind.u64.bits (folds (fbF ((endV P S p n A).extract 3 (3+36))) 0 36)).toNat
def Zd2(a2:Int)(a0 a1:Array Value)(bQ:Option (Option Addr))(nQ:Nat)(aQ:Array Value):St:=(⟨.a (.w 0)::.a (.w 1)::.a (.i .u64 a2)::us 3 (.a (.i .u64 0)::.a (.w 6)::.a (.i .u64 0)::.a (.i .i64 0)::.a (.w 0)::.a (.w 1)::.a (.g (Uat prog a0 (num a1 0) nQ aQ (num a1 1).toNat) 141)::us 17 ([])),[.row a0 35,.one (.r a1 44 [(2,2)]) 44,.sl (.came bQ) nQ aQ 71,.no,.no,.no,.row (Uat prog a0 (num a1 0) nQ aQ (num a1 1).toNat) 141,.no],[6]⟩:St)
def Zfk:Int×Int->LS
 |(y0_8,y0_9)=>([.a (.i .u64 y0_8),.a (.i .i64 y0_9)],[])
def Zji:Int×Int->Exit×LS
 |t=>((.exit 0),Zfk t)
def Zbo(P:Program)(a2:Int)(a0 a1:Array Value)(bQ:Option (Option Addr))(nQ:Nat)(aQ:Array Value):Int×Int->Option (Stp (Int×Int) (Int×Int))
 |(y0_8,y0_9)=>bif decide (y0_9<(36:Int)) then (bif (decide (0<=y0_9)&&decide (y0_9<36)) then (bif decide ((num (Uat prog a0 (num a1 0) nQ aQ (num a1 1).toNat) (3+((y0_9).toNat*1))) > (0:Int)) then (bif decide (0<=(IntKind.u64.wrap y0_9)) then (some (.more ((IntKind.u64.wrap (BitVec.ofInt IntKind.u64.bits y0_8 ||| BitVec.ofInt IntKind.u64.bits (IntKind.u64.wrap ((1:Int)*2^(min ((IntKind.u64.wrap y0_9)).toNat IntKind.u64.bits)))).toNat),(i64.wrap (y0_9+(1:Int)))))) else (none)) else (some (.more (y0_8,(i64.wrap (y0_9+(1:Int))))))) else (none)) else (some (.done (y0_8,y0_9)))
noncomputable abbrev cKCmB58:=codeOf f58
def Uff:=(Uaa cKCmB58 [([8,9],[])]).1
theorem Zvk(N:Nat)(a2:Int)(a0 a1:Array Value)(bQ:Option (Option Addr))(nQ:Nat)(aQ:Array Value):∀t:Int×Int,Uao prog (mkΓ [(77,con Zcq)]) N (cAt cKCmB58 [1,1,1,0,1,0,0]) (pAt Uff [1,1,1,0,1,0]) [8,9] [] (Zd2 a2 a0 a1 bQ nQ aQ) (Zfk t)=mapS Zfk Zji (Zbo prog a2 a0 a1 bQ nQ aQ t):=by
 rintro⟨y0_8,y0_9⟩
 conv=>rhs;simp only[Zbo,Za3,Za8,Za6,Za7,Zfk,Zji]
 kernel_rfl
def Zfq(P:Program)(N:Nat)(a2:Int)(a0 a1:Array Value)(bQ:Option (Option Addr))(nQ:Nat)(aQ:Array Value)(z0_8:Int)(z0_9:Int):Option (SV×Eff×Bool):=some (.a (.i .u64 (IntKind.u64.wrap (BitVec.ofInt IntKind.u64.bits z0_8 &&& BitVec.ofInt IntKind.u64.bits a2).toNat)),.none,true)
def Ugf(N:Nat)(a0 a1:Array Value)(bQ:Option (Option Addr))(nQ:Nat)(aQ:Array Value):=(Uac 0 (kSeq (veC prog (mkΓ [(77,con Zcq)]) N (cAt cKCmB58 [1,1,1,1]) (pAt Uff [1,1,1,1]) (SV×Eff×Bool)) (finK prog [.row a0 35,.one (.r a1 44 [(2,2)]) 44,.sl (.came bQ) nQ aQ 71] [.tmp 6])))
theorem Zoh(N:Nat)(a2:Int)(a0 a1:Array Value)(bQ:Option (Option Addr))(nQ:Nat)(aQ:Array Value)(z0_8:Int)(z0_9:Int):(Ugf N a0 a1 bQ nQ aQ) (.exit 0) (left (writes (cAt cKCmB58 [1,1,1,0,1,0,0])) [8,9] [] (Zd2 a2 a0 a1 bQ nQ aQ) ([.a (.i .u64 z0_8),.a (.i .i64 z0_9)],[]))=Zfq prog N a2 a0 a1 bQ nQ aQ z0_8 z0_9:=by kernel_rfl
theorem Zt7(N:Nat)(a2:Int)(a0 a1:Array Value)(bQ:Option (Option Addr))(nQ:Nat)(aQ:Array Value):Uaj (Uab (Uao prog (mkΓ [(77,con Zcq)]) N (cAt cKCmB58 [1,1,1,0,1,0,0]) (pAt Uff [1,1,1,0,1,0]) [8,9] [] (Zd2 a2 a0 a1 bQ nQ aQ)) N ([.a (.i .u64 0),.a (.i .i64 0)],[])) (λe s=>(Ugf N a0 a1 bQ nQ aQ) e (left (writes (cAt cKCmB58 [1,1,1,0,1,0,0])) [8,9] [] (Zd2 a2 a0 a1 bQ nQ aQ) s))=Uas (Uab (Zbo prog a2 a0 a1 bQ nQ aQ) N ((0:Int),(0:Int))) (λx=>Zfq prog N a2 a0 a1 bQ nQ aQ x.1 x.2):=by refine Zbe Zfk Zji _ _ (Zvk N a2 a0 a1 bQ nQ aQ) N ((0:Int),(0:Int)) _ _ ?_;intro x;exact Zoh N a2 a0 a1 bQ nQ aQ x.1 x.2
theorem Zsn(N:Nat)(a2:Int)(a0 a1:Array Value)(bQ:Option (Option Addr))(nQ:Nat)(aQ:Array Value):ansV prog (mkΓ [(77,con Zcq)]) N f58 [([8,9],[])] [.w 0,.w 1,.i .u64 a2] [.row a0 35,.one (.r a1 44 [(2,2)]) 44,.sl (.came bQ) nQ aQ 71]=(bif (okS a0&&Udj a0 a1 nQ aQ) then (Uas (Uab (Zbo prog a2 a0 a1 bQ nQ aQ) N ((0:Int),(0:Int))) (λx=>Zfq prog N a2 a0 a1 bQ nQ aQ x.1 x.2)) else (none)):=by
 conv=>rhs;simp only[<- Zt7 N a2 a0 a1 bQ nQ aQ]
 kernel_rfl
theorem Zr8(a2:Int)(a0 a1:Array Value)(bQ:Option (Option Addr))(nQ:Nat)(aQ:Array Value)(h_a2:IntKind.u64.min<=a2/\a2<=IntKind.u64.max)(h_a0:WT prog 35 a0)(h_a1:WT prog 44 a1)(h_a1x2:aQ.size=nQ*(lay prog 71).length/\(∀k,k<nQ->WT prog 71 (aQ.extract (k*(lay prog 71).length) (k*(lay prog 71).length+(lay prog 71).length)))/\nQ<=9223372036854775807)(hg:((okS a0&&Udj a0 a1 nQ aQ))=true):ansV prog (mkΓ [(77,con Zcq)]) 1000 f58 [([8,9],[])] [.w 0,.w 1,.i .u64 a2] [.row a0 35,.one (.r a1 44 [(2,2)]) 44,.sl (.came bQ) nQ aQ 71]=some (.a (.i .u64 (reaV prog a0 a1 nQ aQ a2)),.none,true):=by
 refine(Zsn 1000 a2 a0 a1 bQ nQ aQ).trans ?_;rw[hg,Q1];have hq:∀q:Int,Uab (Zbo prog a2 a0 a1 bQ nQ aQ) 1000 ((0:Int),(0:Int))=some (q,(36:Int))->Uas (Uab (Zbo prog a2 a0 a1 bQ nQ aQ) 1000 ((0:Int),(0:Int))) (λx=>Zfq prog 1000 a2 a0 a1 bQ nQ aQ x.1 x.2)=some (.a (.i .u64 (IntKind.u64.wrap (BitVec.ofInt IntKind.u64.bits q &&& BitVec.ofInt IntKind.u64.bits a2).toNat)),.none,true):=λq e=>by rw[e];rfl
 have e0:reaV prog a0 a1 nQ aQ a2=IntKind.u64.wrap (BitVec.ofInt IntKind.u64.bits (folds (fbF ((endV prog a0 a1 nQ aQ).extract 3 (3+36))) 0 36) &&& BitVec.ofInt IntKind.u64.bits a2).toNat:=by unfold reaV;rw[BitVec.and_comm]
 rw[e0];refine hq _ ?_;have hF:∀(k:Nat) (s:Int),k<36->Zbo prog a2 a0 a1 bQ nQ aQ (s,(k:Int))=some (.more (fbF ((endV prog a0 a1 nQ aQ).extract 3 (3+36)) s k,((k+1:Nat):Int))):=λk s hk=>by
  have h1:decide ((k:Int)<36)=true:=Q3 (by omega);have h0:decide (0<=(k:Int))=true:=Q3 (by omega);have h3:i64.wrap ((k:Int)+1)=((k+1:Nat):Int):=by rw[w64 (by omega)];omega
  have h5:=Zze (endV prog a0 a1 nQ aQ) (i:=k*1) (by omega);have h6:decide (0<=IntKind.u64.wrap (k:Int))=true:=Q3 (Zg5 .u64 _).1;unfold fbF;rw[bit_of (c:=(k:Int)) (by omega),h5];unfold endV;simp only[Zbo,h1,h0,h3,h6,Q9,Bool.and_self,Q1];cases decide (num (Uat prog a0 (num a1 0) nQ aQ (num a1 1).toNat) (3+k*1) > (0:Int))<;>simp only[Q1,Q2]
 generalize (endV prog a0 a1 nQ aQ).extract 3 (3+36)=C at hF|-
 exact Zi9 (g:=Zbo prog a2 a0 a1 bQ nQ aQ) (λ(acc:Int) k=>(acc,(k:Int))) (fbF C) (m:=36) (t:=(0:Int)) (x:=(folds (fbF C) 0 36,(36:Int))) (N:=1000) (λk s hk _=>hF k s hk) (by
  have h1:decide (((36:Nat):Int)<36)=false:=by decide
  generalize folds (fbF C) 0 36=q;simp only[Zbo,h1,Q2];rfl) (by omega)
def Zf6:Con:=λargs h=>match args,h with|[.w 0,.w 1,.i .u64 a2],[.row a0 35,.one (.r a1 44 [(2,2)]) 44,.sl (.came bQ) nQ aQ 71]=>some (.a (.i .u64 (reaV prog a0 a1 nQ aQ a2)),.none,(okS a0&&Udj a0 a1 nQ aQ))|_,_=>none
theorem Zqs:EntX prog 58:=Zao (fn:=f58)
theorem Zvf:Uad mn prog 58 Zf6:=(ansY (N:=1000) (mKc (Zai Zwh) Zrg mKn) f58 [([8,9],[])]).of (by
 intro ρ h w args vals r e hA hH hr;unfold Zf6 at hr;split at hr
 ·rename_i a2 a0 a1 bQ nQ aQ;obtain⟨rfl,rfl,hg2⟩:=BQi hr;exact Zr8 a2 a0 a1 bQ nQ aQ (hA.rng 2 rfl) (hH.wt 0 rfl) (hH.wtr 1 rfl) (hH.slw 2 rfl) hg2
 ·cases hr)
end
end Go.Proofs.YtgllknjdblkhnaaDoor
