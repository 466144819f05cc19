/- An hour on, in company, is an hour; hours as they are asked. -/
import Derived.Test.YtdfefaanfiheoaaGreatDoorProg
import Derived.Test.YtdfefaanfiheoaaGreatDoorCxJ
set_option linter.unusedVariables false
set_option linter.unusedSimpArgs false
namespace Go.Proofs.YtdfefaanfiheoaaGreatDoor
open Tryz (f87 f113)
open Go.ChangeShapes Go.WideShapes Go.ChangeAt Go.RowKit Ve Vc
open Tryz renaming prog -> PZ
open IntKind (i64)
set_option maxRecDepth 100000
noncomputable section
variable {F:Vc.Fd}
theorem Yp4{w h:Int}{k:Nat}(h1:((k % 6:Nat):Int)<w)(h2:((k / 6:Nat):Int)<h):inC w h k=true:=by unfold inC;rw[Q3 h1,Q3 h2];rfl
theorem gw_in{S:Array Value}(h0:1<=num S 0/\num S 0<=6/\1<=num S 1/\num S 1<=6){k:Nat}(hk:k<36)(hi:inC (num S 0) (num S 1) k=true)(w:Nat)(hw:w<5)(hn:gw S k w ≠ -1):inC (num S 0) (num S 1) (gw S k w).toNat=true:=by
 obtain⟨hx,hy⟩:=Yqt hi;obtain⟨a1,a2,a3,a4⟩:=h0
 match w,hw with
 |0,_=>exact hi
 | 1,_=>
  simp only[gw]at hn|-
  by_cases c:6<=k
  ·simp only[c,decide_true,Q1];rw[show ((k:Int) - 6).toNat=k - 6 by omega];exact Yp4 (by omega) (by omega)
  ·simp[c]at hn
 | 2,_=>
  simp only[gw]at hn|-
  by_cases c:((k % 6:Nat):Int)+1<num S 0
  ·simp only[Q3 c,Q1];rw[show ((k:Int)+1).toNat=k+1 by omega];exact Yp4 (by omega) (by omega)
  ·simp only[Q4 c,Q2]at hn;exact absurd rfl hn
 | 3,_=>
  simp only[gw]at hn|-
  by_cases c:((k / 6:Nat):Int)+1<num S 1
  ·simp only[Q3 c,Q1];rw[show ((k:Int)+6).toNat=k+6 by omega];exact Yp4 (by omega) (by omega)
  ·simp only[Q4 c,Q2]at hn;exact absurd rfl hn
 | 4,_=>
  simp only[gw]at hn|-
  by_cases c:1<=k % 6
  ·simp only[Q3 c,Q1];rw[show ((k:Int) - 1).toNat=k - 1 by omega];exact Yp4 (by omega) (by omega)
  ·simp only[Q4 c,Q2]at hn;exact absurd rfl hn
def ZO(S X:Array Value):Prop:=∀k,k<36->inC (num S 0) (num S 1) k=false->num X (3+k)=0
def zo(S X:Array Value):Bool:=(List.range 36).all λk=>inC (num S 0) (num S 1) k||(num X (3+k)==0)
theorem zo_iff{S X:Array Value}:zo S X=true ↔ ZO S X:=by
 unfold zo ZO;rw[List.all_eq_true];constructor
 ·intro h k hk hf;have:=h k (List.mem_range.2 hk);rw[hf,Bool.false_or,beq_iff_eq]at this;exact this
 ·intro h k hk;cases hf:inC (num S 0) (num S 1) k with|true=>rfl|false=>rw[Bool.false_or,beq_iff_eq];exact h k (List.mem_range.1 hk) hf
theorem Yre{S X:Array Value}(hX:WT PZ 132 X)(hok:okS S=true)(hS:WT PZ 37 S)(h:ZO S X):ZO S (Ubk PZ S X):=by
 intro k hk hf;obtain⟨i1,i2⟩:=Ych X;have hd:=Zut hok;have w:=(Zur (S:=S) hX).int (o:=3+k) (k:=.i64) (Zoe (by omega) (by omega));refine cg_eq ((Ylm i1 (j:=3+k) (by omega)).trans (.of ?_)) w.2 (by omega);rw[(Ztz X).2.2 k hk,Int.zero_add];refine(Zi2 36 (g:=λ_=>0) λi hi=> ?_).trans (Zqn 36);rw[(Yhp hS hi).2];cases hin:inC (num S 0) (num S 1) i with
 |false=>rw[Bool.false_and,if_neg (by simp),show 3+i*1=3+i by omega,h i hi hin];simp
 | true=>
  have hik:i≠k:=λe=>by rw[e,hf]at hin;cases hin
  cases bitI (num S 2) i with
  |true=>rw[Bool.not_true,Bool.and_false,if_neg (by simp),if_neg (by omega)]
  | false=>
   rw[Bool.not_false,Bool.and_self,if_pos rfl];refine(Zi2 5 (g:=λ_=>0) λw hw=> ?_).trans (Zqn 5);rw[Yhd hd hi hin w hw,if_neg];unfold Udr
   by_cases hg:gw S i w=-1
   ·rw[hg,if_pos (by omega)];omega
   ·have:=Yfg hd hi hin w hw hg;rw[if_neg (show ¬gw S i w<0 by omega)];intro e;have e':(gw S i w).toNat=k:=by omega
    have:=gw_in hd hi hin w hw hg;rw[e',hf]at this;cases this
def Uaq(P:Program)(S X:Array Value):Nat->Array Value
 |0=>X
 |n+1=>Ubk P S (Uaq P S X n)
theorem Yhh{S X:Array Value}(hb:0<=num X 0/\num X 0<2)(hh:0<=num X 1/\num X 1<=14):∀n,n<=14->num (Uaq PZ S X n) 0=num X 0/\num (Uaq PZ S X n) 1=num X 1+n
 |0,_=>⟨rfl,by simp[Uaq]⟩
 | n+1,hn=>by
  obtain⟨h1,h2⟩:=Yhh hb hh n (by omega);obtain⟨e1,e2,_⟩:=Ztz (Uaq PZ S X n);constructor
  ·rw[Uaq,Yhg _ _ (by omega),e1,h1]
  ·rw[Uaq,Yhg _ _ (by omega),e2,h2];have:IntKind.i8.wrap (num X 1+(n:Int)+1)=num X 1+(n:Int)+1:=IntWalk.i8_in _ (by omega);rw[this];omega
theorem Ypy{S X:Array Value}(hb:0<=num X 0/\num X 0<2)(hh:0<=num X 1/\num X 1<=14){n:Nat}(hn:n<=14):tdS (Uaq PZ S X n)=(num X 0+num X 1+n) % 2:=by
 obtain⟨h1,h2⟩:=Yhh (S:=S) hb hh n hn;unfold tdS;rw[h1,h2];have:IntKind.i8.wrap (num X 0+(num X 1+(n:Int)))=num X 0+num X 1+(n:Int):=by rw[IntWalk.i8_in _ (by omega)];omega
 rw[this,Int.tmod_eq_emod_of_nonneg (by omega)]
theorem Yq8{S X:Array Value}(hX:WT PZ 132 X)(n:Nat):WT PZ 132 (Uaq PZ S X n):=by induction n with|zero=>exact hX|succ n ih=>rw[Uaq];exact Zur ih
theorem Yrw{S X:Array Value}(hX:WT PZ 132 X)(hok:okS S=true)(hS:WT PZ 37 S)(h:ZO S X)(n:Nat):ZO S (Uaq PZ S X n):=by induction n with|zero=>exact h|succ n ih=>rw[Uaq];exact Yre (Yq8 hX n) hok hS ih
def goG(S X:Array Value):Bool:=okS S&&((decide (0<=num X 0)&&decide (num X 0<2))&&((decide (0<=num X 1)&&decide (num X 1<=100))&&zo S X))
theorem Ysv{S X:Array Value}:goG S X=true ↔ okS S=true/\(0<=num X 0/\num X 0<2)/\(0<=num X 1/\num X 1<=100)/\ZO S X:=by unfold goG;rw[<- zo_iff];simp only[Q7,decide_eq_true_eq]
def Znf:Con:=λargs h=>match args,h with|[.g a0 37,.g a1 132],[]=>some (.a (.g (Ubk PZ a0 a1) 132),.none,goG a0 a1)|_,_=>none
theorem Zyx:EntX PZ 87:=Zaj (fn:=f87)
theorem Ygk:Uac (md F) PZ 87 Znf:=by
 intro ρ h v args vals r ef hno hr hA hH;unfold Znf at hr;split at hr
 ·rename_i a0 a1;obtain⟨rfl,rfl,hg2⟩:=BQi hr;obtain⟨hok,h0,h1,hz⟩:=Ysv.1 hg2;have wS:WT PZ 37 a0:=hA.wt 0 rfl;have wX:WT PZ 132 a1:=hA.wt 1 rfl;have ht:tdS a1=(num a1 0+num a1 1) % 2:=by
   unfold tdS;rw[IntWalk.i8_in _ (by omega),Int.tmod_eq_emod_of_nonneg (by omega)]
  have hG:Ugc a0 a1=true:=by unfold Ugc;rw[hok,Bool.true_and,Yqu h0 h1];exact dec2 (by rw[ht];omega) (by rw[ht];omega)
  have e:vals=[.agg a0,.agg a1]:=by
   obtain⟨hl,hv⟩:=hA
   match vals,hl,hv with|[x,y],_,hv=>have q0:x=.agg a0:=(hv 0 _ x rfl rfl).1;have q1:y=.agg a1:=(hv 1 _ y rfl rfl).1;rw[q0,q1]
  subst e;have hh:=hour_eq wX hok h0 h1 hz wS;exact(Ys3 wS wX hG F v).mono λr v' h=>⟨⟨h.1.trans (by rw[hh]),Zur wX⟩,h.2⟩
 ·cases hr
def Zfy(a1:Array Value)(a2:Int)(a0:Array Value):St:=(⟨.a (.w 0)::.a (.g a1 132)::.a (.i .i64 a2)::.a (.u)::.a (.w 1)::.a (.u)::.a (.w 2)::.a (.i .i64 0)::us 8 ([]),[.row a0 37,.row a1 132,.row (zc PZ 132) 132],[]⟩:St)
def Zhs:Int×Array Value->LS
 |(y0_7,r0_1)=>([.a (.i .i64 y0_7)],[.row r0_1 132])
def Znr:Int×Array Value->Exit×LS
 |t=>((.exit 0),Zhs t)
def Zdm(P:Program)(a1:Array Value)(a2:Int)(a0:Array Value):Int×Array Value->Option (Stp (Int×Array Value) (Int×Array Value))
 |(y0_7,r0_1)=>bif decide (y0_7<a2) then (bif (okS a0&&(decide (0<=tdS r0_1)&&decide (tdS r0_1<2))) then (some (.more ((i64.wrap (y0_7+(1:Int))),(Ubk PZ a0 r0_1)))) else (none)) else (some (.done (y0_7,r0_1)))
noncomputable abbrev cKCxK113:=codeOf f113
def Uee:=(Uaa cKCxK113 [([7],[1])]).1
theorem Yde(N:Nat)(a1:Array Value)(a2:Int)(a0:Array Value):∀t:Int×Array Value,Uah PZ (mkΓ [(120,con Zdn)]) N (cAt cKCxK113 [1,0,1,0,0]) (pAt Uee [1,0,1,0]) [7] [1] (Zfy a1 a2 a0) (Zhs t)=mapS Zhs Znr (Zdm PZ a1 a2 a0 t):=by
 rintro⟨y0_7,r0_1⟩
 conv=>rhs;simp only[Zdm,Zao,Zam,Zan,Zap,Zhs,Znr]
 kernel_rfl
def Zll(P:Program)(N:Nat)(a1:Array Value)(a2:Int)(a0:Array Value)(z0_7:Int)(q0_1:Array Value):Option (SV×Eff×Bool):=some (.a (.g q0_1 132),.none,true)
def Uff(N:Nat)(a0:Array Value):=(Uad 0 (kSeq (veC PZ (mkΓ [(120,con Zdn)]) N (cAt cKCxK113 [1,1]) (pAt Uee [1,1]) (SV×Eff×Bool)) (finK PZ [.row a0 37] [.cell 6 132])))
theorem Ztt(N:Nat)(a1:Array Value)(a2:Int)(a0:Array Value)(z0_7:Int)(q0_1:Array Value):(Uff N a0) (.exit 0) (left (writes (cAt cKCxK113 [1,0,1,0,0])) [7] [1] (Zfy a1 a2 a0) ([.a (.i .i64 z0_7)],[.row q0_1 132]))=Zll PZ N a1 a2 a0 z0_7 q0_1:=by kernel_rfl
theorem Ye6(N:Nat)(a1:Array Value)(a2:Int)(a0:Array Value):Uag (Uab (Uah PZ (mkΓ [(120,con Zdn)]) N (cAt cKCxK113 [1,0,1,0,0]) (pAt Uee [1,0,1,0]) [7] [1] (Zfy a1 a2 a0)) N ([.a (.i .i64 0)],[.row a1 132])) (λe s=>(Uff N a0) e (left (writes (cAt cKCxK113 [1,0,1,0,0])) [7] [1] (Zfy a1 a2 a0) s))=Uai (Uab (Zdm PZ a1 a2 a0) N ((0:Int),a1)) (λx=>Zll PZ N a1 a2 a0 x.1 x.2):=by refine Zar Zhs Znr _ _ (Yde N a1 a2 a0) N ((0:Int),a1) _ _ ?_;intro x;exact Ztt N a1 a2 a0 x.1 x.2
theorem Yax(N:Nat)(a1:Array Value)(a2:Int)(a0:Array Value):ansV PZ (mkΓ [(120,con Zdn)]) N f113 [([7],[1])] [.w 0,.g a1 132,.i .i64 a2] [.row a0 37]=(Uai (Uab (Zdm PZ a1 a2 a0) N ((0:Int),a1)) (λx=>Zll PZ N a1 a2 a0 x.1 x.2)):=by
 conv=>rhs;simp only[<- Ye6 N a1 a2 a0]
 kernel_rfl
theorem Zz0(a1:Array Value)(a2:Int)(a0:Array Value)(h_a1:WT PZ 132 a1)(h_a2:i64.min<=a2/\a2<=i64.max)(h_a0:WT PZ 37 a0)(hg:((okS a0&&((decide (0<=num a1 0)&&decide (num a1 0<2))&&((decide (0<=num a1 1)&&decide (num a1 1<=14))&&(decide (0<=a2)&&decide (a2<=14))))))=true):ansV PZ (mkΓ [(120,con Zdn)]) 1000 f113 [([7],[1])] [.w 0,.g a1 132,.i .i64 a2] [.row a0 37]=some (.a (.g (Uaq PZ a0 a1 a2.toNat) 132),.none,true):=by
 simp only[Q7,decide_eq_true_eq]at hg;obtain⟨hok,hb,hh,h0,h14⟩:=hg;obtain⟨m,rfl⟩:=Int.eq_ofNat_of_zero_le h0;refine(Yax 1000 a1 (m:Int) a0).trans ?_;have h:=Zcr (g:=Zdm PZ a1 (m:Int) a0) (λj=>((j:Int),Uaq PZ a0 a1 j)) (m:=m) (x:=((m:Int),Uaq PZ a0 a1 m)) (N:=1000) (λj hj=>by
  have h1:decide ((j:Int)<(m:Int))=true:=Q3 (by omega);have h3:i64.wrap ((j:Int)+1)=((j+1:Nat):Int):=by rw[w64 (by omega)];omega
  have ht:=Ypy (S:=a0) hb hh (show j<=14 by omega);have h4:=dec2 (a:=tdS (Uaq PZ a0 a1 j)) (b:=2) (by rw[ht];omega) (by rw[ht];omega);simp only[Zdm,h1,h3,hok,h4,Bool.and_self,Q1];rfl) (by
  have h1:decide ((m:Int)<(m:Int))=false:=Q4 (by omega);simp only[Zdm,h1,Q2]) (by omega)
 have h':Uab (Zdm PZ a1 (m:Int) a0) 1000 ((0:Int),a1)=some ((m:Int),Uaq PZ a0 a1 m):=h;rw[h'];rfl
def Zi5:Con:=λargs h=>match args,h with|[.w 0,.g a1 132,.i .i64 a2],[.row a0 37]=>some (.a (.g (Uaq PZ a0 a1 a2.toNat) 132),.none,(okS a0&&((decide (0<=num a1 0)&&decide (num a1 0<2))&&((decide (0<=num a1 1)&&decide (num a1 1<=14))&&(decide (0<=a2)&&decide (a2<=14))))))|_,_=>none
theorem Zxm:EntX PZ 113:=Zaj (fn:=f113)
theorem Yd0:Uac (md F) PZ 113 Zi5:=(ansY (N:=1000) (mKc (Zae Yh4) Yat mKn) f113 [([7],[1])]).of (by
 intro ρ h w args vals r e hA hH hr;unfold Zi5 at hr;split at hr
 ·rename_i a1 a2 a0;obtain⟨rfl,rfl,hg2⟩:=BQi hr;exact Zz0 a1 a2 a0 (hA.wt 1 rfl) (hA.rng 2 rfl) (hH.wt 0 rfl) hg2
 ·cases hr)
end
end Go.Proofs.YtdfefaanfiheoaaGreatDoor
