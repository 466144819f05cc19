/- An hour on, in company, is an hour; hours as they are asked. -/
import Derived.Test.YtefjogahegolbaaDoorProg
import Derived.Test.YtefjogahegolbaaDoorCxJ
set_option linter.unusedVariables false
set_option linter.unusedSimpArgs false
namespace Go.Proofs.YtefjogahegolbaaDoor
open Tryd (f39 f76)
open Go.ChangeShapes Go.WideShapes Go.ChangeAt Go.RowKit Ve Vc
open Tryd (prog)
open IntKind (i64)
set_option maxRecDepth 100000
noncomputable section
variable {F:Vc.Fd}
theorem Yg3{w h:Int}{k:Nat}(h1:((k % 6:Nat):Int)<w)(h2:((k / 6:Nat):Int)<h):inC w h k=true:=by unfold inC;rw[Q3 h1,Q3 h2];rfl
theorem gw_in{S:Array Value}(h0:1<=num S 0/\num S 0<=6/\1<=num S 1/\num S 1<=6){k:Nat}(hk:k<36)(hi:inC (num S 0) (num S 1) k=true)(w:Nat)(hw:w<5)(hn:gw S k w ≠ -1):inC (num S 0) (num S 1) (gw S k w).toNat=true:=by
 obtain⟨hx,hy⟩:=Yg7 hi;obtain⟨a1,a2,a3,a4⟩:=h0
 match w,hw with
 |0,_=>exact hi
 | 1,_=>
  simp only[gw]at hn|-
  by_cases c:6<=k
  ·simp only[c,decide_true,Q1];rw[show ((k:Int) - 6).toNat=k - 6 by omega];exact Yg3 (by omega) (by omega)
  ·simp[c]at hn
 | 2,_=>
  simp only[gw]at hn|-
  by_cases c:((k % 6:Nat):Int)+1<num S 0
  ·simp only[Q3 c,Q1];rw[show ((k:Int)+1).toNat=k+1 by omega];exact Yg3 (by omega) (by omega)
  ·simp only[Q4 c,Q2]at hn;exact absurd rfl hn
 | 3,_=>
  simp only[gw]at hn|-
  by_cases c:((k / 6:Nat):Int)+1<num S 1
  ·simp only[Q3 c,Q1];rw[show ((k:Int)+6).toNat=k+6 by omega];exact Yg3 (by omega) (by omega)
  ·simp only[Q4 c,Q2]at hn;exact absurd rfl hn
 | 4,_=>
  simp only[gw]at hn|-
  by_cases c:1<=k % 6
  ·simp only[Q3 c,Q1];rw[show ((k:Int) - 1).toNat=k - 1 by omega];exact Yg3 (by omega) (by omega)
  ·simp only[Q4 c,Q2]at hn;exact absurd rfl hn
def ZO(S X:Array Value):Prop:=∀k,k<36->inC (num S 0) (num S 1) k=false->num X (3+k)=0
def zo(S X:Array Value):Bool:=(List.range 36).all λk=>inC (num S 0) (num S 1) k||(num X (3+k)==0)
theorem zo_iff{S X:Array Value}:zo S X=true ↔ ZO S X:=by
 unfold zo ZO;rw[List.all_eq_true];constructor
 ·intro h k hk hf;have:=h k (List.mem_range.2 hk);rw[hf,Bool.false_or,beq_iff_eq]at this;exact this
 ·intro h k hk;cases hf:inC (num S 0) (num S 1) k with|true=>rfl|false=>rw[Bool.false_or,beq_iff_eq];exact h k (List.mem_range.1 hk) hf
theorem Yic{S X:Array Value}(hX:WT prog 77 X)(hok:okS S=true)(hS:WT prog 35 S)(h:ZO S X):ZO S (Ubz prog S X):=by
 intro k hk hf;obtain⟨i1,i2⟩:=Ybf X;have hd:=Ztn hok;have w:=(Zr5 (S:=S) hX).int (o:=3+k) (k:=.i64) (Zlc (by omega) (by omega));refine cg_eq ((Yge i1 (j:=3+k) (by omega)).trans (.of ?_)) w.2 (by omega);rw[(Zoy X).2.2 k hk,Int.zero_add];refine(Zly 36 (g:=λ_=>0) λi hi=> ?_).trans (Zlz 36);rw[(Yea hS hi).2];cases hin:inC (num S 0) (num S 1) i with
 |false=>rw[Bool.false_and,if_neg (by simp),show 3+i*1=3+i by omega,h i hi hin];simp
 | true=>
  have hik:i≠k:=λe=>by rw[e,hf]at hin;cases hin
  cases bitI (num S 2) i with
  |true=>rw[Bool.not_true,Bool.and_false,if_neg (by simp),if_neg (by omega)]
  | false=>
   rw[Bool.not_false,Bool.and_self,if_pos rfl];refine(Zly 5 (g:=λ_=>0) λw hw=> ?_).trans (Zlz 5);rw[Zy7 hd hi hin w hw,if_neg];unfold Ufs
   by_cases hg:gw S i w=-1
   ·rw[hg,if_pos (by omega)];omega
   ·have:=Zxq hd hi hin w hw hg;rw[if_neg (show ¬gw S i w<0 by omega)];intro e;have e':(gw S i w).toNat=k:=by omega
    have:=gw_in hd hi hin w hw hg;rw[e',hf]at this;cases this
def Uaz(P:Program)(S X:Array Value):Nat->Array Value
 |0=>X
 |n+1=>Ubz P S (Uaz P S X n)
theorem Zx1{S X:Array Value}(hb:0<=num X 0/\num X 0<2)(hh:0<=num X 1/\num X 1<=14):∀n,n<=14->num (Uaz prog S X n) 0=num X 0/\num (Uaz prog S X n) 1=num X 1+n
 |0,_=>⟨rfl,by simp[Uaz]⟩
 | n+1,hn=>by
  obtain⟨h1,h2⟩:=Zx1 hb hh n (by omega);obtain⟨e1,e2,_⟩:=Zoy (Uaz prog S X n);constructor
  ·rw[Uaz,Zxx _ _ (by omega),e1,h1]
  ·rw[Uaz,Zxx _ _ (by omega),e2,h2];have:IntKind.i8.wrap (num X 1+(n:Int)+1)=num X 1+(n:Int)+1:=IntWalk.i8_in _ (by omega);rw[this];omega
theorem td_drift{S X:Array Value}(hb:0<=num X 0/\num X 0<2)(hh:0<=num X 1/\num X 1<=14){n:Nat}(hn:n<=14):tdS (Uaz prog S X n)=(num X 0+num X 1+n) % 2:=by
 obtain⟨h1,h2⟩:=Zx1 (S:=S) hb hh n hn;unfold tdS;rw[h1,h2];have:IntKind.i8.wrap (num X 0+(num X 1+(n:Int)))=num X 0+num X 1+(n:Int):=by rw[IntWalk.i8_in _ (by omega)];omega
 rw[this,Int.tmod_eq_emod_of_nonneg (by omega)]
theorem drift_wt{S X:Array Value}(hX:WT prog 77 X)(n:Nat):WT prog 77 (Uaz prog S X n):=by induction n with|zero=>exact hX|succ n ih=>rw[Uaz];exact Zr5 ih
theorem Yiv{S X:Array Value}(hX:WT prog 77 X)(hok:okS S=true)(hS:WT prog 35 S)(h:ZO S X)(n:Nat):ZO S (Uaz prog S X n):=by induction n with|zero=>exact h|succ n ih=>rw[Uaz];exact Yic (drift_wt hX n) hok hS ih
def goG(S X:Array Value):Bool:=okS S&&((decide (0<=num X 0)&&decide (num X 0<2))&&((decide (0<=num X 1)&&decide (num X 1<=100))&&zo S X))
theorem Yjj{S X:Array Value}:goG S X=true ↔ okS S=true/\(0<=num X 0/\num X 0<2)/\(0<=num X 1/\num X 1<=100)/\ZO S X:=by unfold goG;rw[<- zo_iff];simp only[Q7,decide_eq_true_eq]
def Zj1:Con:=λargs h=>match args,h with|[.g a0 35,.g a1 77],[]=>some (.a (.g (Ubz prog a0 a1) 77),.none,goG a0 a1)|_,_=>none
theorem Ztb:EntX prog 39:=Zal (fn:=f39)
theorem Zyk:Uad (md F) prog 39 Zj1:=by
 intro ρ h v args vals r ef hno hr hA hH;unfold Zj1 at hr;split at hr
 ·rename_i a0 a1;obtain⟨rfl,rfl,hg2⟩:=BQi hr;obtain⟨hok,h0,h1,hz⟩:=Yjj.1 hg2;have wS:WT prog 35 a0:=hA.wt 0 rfl;have wX:WT prog 77 a1:=hA.wt 1 rfl;have ht:tdS a1=(num a1 0+num a1 1) % 2:=by
   unfold tdS;rw[IntWalk.i8_in _ (by omega),Int.tmod_eq_emod_of_nonneg (by omega)]
  have hG:Ufv a0 a1=true:=by unfold Ufv;rw[hok,Bool.true_and,Ygm h0 h1];exact dec2 (by rw[ht];omega) (by rw[ht];omega)
  have e:vals=[.agg a0,.agg a1]:=by
   obtain⟨hl,hv⟩:=hA
   match vals,hl,hv with|[x,y],_,hv=>have q0:x=.agg a0:=(hv 0 _ x rfl rfl).1;have q1:y=.agg a1:=(hv 1 _ y rfl rfl).1;rw[q0,q1]
  subst e;have hh:=hour_eq wX hok h0 h1 hz wS;exact(Yj0 wS wX hG F v).mono λr v' h=>⟨⟨h.1.trans (by rw[hh]),Zr5 wX⟩,h.2⟩
 ·cases hr
def Zef(a1:Array Value)(a2:Int)(a0:Array Value):St:=(⟨.a (.w 0)::.a (.g a1 77)::.a (.i .i64 a2)::.a (.u)::.a (.w 1)::.a (.u)::.a (.w 2)::.a (.i .i64 0)::us 8 ([]),[.row a0 35,.row a1 77,.row (zc prog 77) 77],[]⟩:St)
def Zfn:Int×Array Value->LS
 |(y0_7,r0_1)=>([.a (.i .i64 y0_7)],[.row r0_1 77])
def Zka:Int×Array Value->Exit×LS
 |t=>((.exit 0),Zfn t)
def Zc1(P:Program)(a1:Array Value)(a2:Int)(a0:Array Value):Int×Array Value->Option (Stp (Int×Array Value) (Int×Array Value))
 |(y0_7,r0_1)=>bif decide (y0_7<a2) then (bif (okS a0&&(decide (0<=tdS r0_1)&&decide (tdS r0_1<2))) then (some (.more ((i64.wrap (y0_7+(1:Int))),(Ubz prog a0 r0_1)))) else (none)) else (some (.done (y0_7,r0_1)))
noncomputable abbrev cKCxK76:=codeOf f76
theorem Zv5(N:Nat)(a1:Array Value)(a2:Int)(a0:Array Value):∀t:Int×Array Value,Uaw prog (mkΓ [(81,con Zb1)]) N (cAt cKCxK76 [1,0,1,0,0]) (pAt (Uaa cKCxK76 [([7],[1])]).1 [1,0,1,0]) [7] [1] (Zef a1 a2 a0) (Zfn t)=mapS Zfn Zka (Zc1 prog a1 a2 a0 t):=by
 rintro⟨y0_7,r0_1⟩
 conv=>rhs;simp only[Zc1,Zbg,Zbe,Zbd,Zbh,Zfn,Zka]
 kernel_rfl
def Zis(P:Program)(N:Nat)(a1:Array Value)(a2:Int)(a0:Array Value)(z0_7:Int)(q0_1:Array Value):Option (SV×Eff×Bool):=some (.a (.g q0_1 77),.none,true)
theorem Zoe(N:Nat)(a1:Array Value)(a2:Int)(a0:Array Value)(z0_7:Int)(q0_1:Array Value):(Uac 0 (kSeq (veC prog (mkΓ [(81,con Zb1)]) N (cAt cKCxK76 [1,1]) (pAt (Uaa cKCxK76 [([7],[1])]).1 [1,1]) (SV×Eff×Bool)) (finK prog [.row a0 35] [.cell 6 77]))) (.exit 0) (left (writes (cAt cKCxK76 [1,0,1,0,0])) [7] [1] (Zef a1 a2 a0) ([.a (.i .i64 z0_7)],[.row q0_1 77]))=Zis prog N a1 a2 a0 z0_7 q0_1:=by kernel_rfl
theorem Zwe(N:Nat)(a1:Array Value)(a2:Int)(a0:Array Value):Ual (Uab (Uaw prog (mkΓ [(81,con Zb1)]) N (cAt cKCxK76 [1,0,1,0,0]) (pAt (Uaa cKCxK76 [([7],[1])]).1 [1,0,1,0]) [7] [1] (Zef a1 a2 a0)) N ([.a (.i .i64 0)],[.row a1 77])) (λe s=>(Uac 0 (kSeq (veC prog (mkΓ [(81,con Zb1)]) N (cAt cKCxK76 [1,1]) (pAt (Uaa cKCxK76 [([7],[1])]).1 [1,1]) (SV×Eff×Bool)) (finK prog [.row a0 35] [.cell 6 77]))) e (left (writes (cAt cKCxK76 [1,0,1,0,0])) [7] [1] (Zef a1 a2 a0) s))=Uay (Uab (Zc1 prog a1 a2 a0) N ((0:Int),a1)) (λx=>Zis prog N a1 a2 a0 x.1 x.2):=by refine Zbw Zfn Zka _ _ (Zv5 N a1 a2 a0) N ((0:Int),a1) _ _ ?_;intro x;exact Zoe N a1 a2 a0 x.1 x.2
theorem Zuk(N:Nat)(a1:Array Value)(a2:Int)(a0:Array Value):ansV prog (mkΓ [(81,con Zb1)]) N f76 [([7],[1])] [.w 0,.g a1 77,.i .i64 a2] [.row a0 35]=(Uay (Uab (Zc1 prog a1 a2 a0) N ((0:Int),a1)) (λx=>Zis prog N a1 a2 a0 x.1 x.2)):=by
 conv=>rhs;simp only[<- Zwe N a1 a2 a0]
 kernel_rfl
theorem Zt8(a1:Array Value)(a2:Int)(a0:Array Value)(h_a1:WT prog 77 a1)(h_a2:i64.min<=a2/\a2<=i64.max)(h_a0:WT prog 35 a0)(hg:((okS a0&&((decide (0<=num a1 0)&&decide (num a1 0<2))&&((decide (0<=num a1 1)&&decide (num a1 1<=14))&&(decide (0<=a2)&&decide (a2<=14))))))=true):ansV prog (mkΓ [(81,con Zb1)]) 1000 f76 [([7],[1])] [.w 0,.g a1 77,.i .i64 a2] [.row a0 35]=some (.a (.g (Uaz prog a0 a1 a2.toNat) 77),.none,true):=by
 simp only[Q7,decide_eq_true_eq]at hg;obtain⟨hok,hb,hh,h0,h14⟩:=hg;obtain⟨m,rfl⟩:=Int.eq_ofNat_of_zero_le h0;refine(Zuk 1000 a1 (m:Int) a0).trans ?_;have h:=Ziq (g:=Zc1 prog a1 (m:Int) a0) (λj=>((j:Int),Uaz prog a0 a1 j)) (m:=m) (x:=((m:Int),Uaz prog a0 a1 m)) (N:=1000) (λj hj=>by
  have h1:decide ((j:Int)<(m:Int))=true:=Q3 (by omega);have h3:i64.wrap ((j:Int)+1)=((j+1:Nat):Int):=by rw[w64 (by omega)];omega
  have ht:=td_drift (S:=a0) hb hh (show j<=14 by omega);have h4:=dec2 (a:=tdS (Uaz prog a0 a1 j)) (b:=2) (by rw[ht];omega) (by rw[ht];omega);simp only[Zc1,h1,h3,hok,h4,Bool.and_self,Q1];rfl) (by
  have h1:decide ((m:Int)<(m:Int))=false:=Q4 (by omega);simp only[Zc1,h1,Q2]) (by omega)
 have h':Uab (Zc1 prog a1 (m:Int) a0) 1000 ((0:Int),a1)=some ((m:Int),Uaz prog a0 a1 m):=h;rw[h'];rfl
def Zgz:Con:=λargs h=>match args,h with|[.w 0,.g a1 77,.i .i64 a2],[.row a0 35]=>some (.a (.g (Uaz prog a0 a1 a2.toNat) 77),.none,(okS a0&&((decide (0<=num a1 0)&&decide (num a1 0<2))&&((decide (0<=num a1 1)&&decide (num a1 1<=14))&&(decide (0<=a2)&&decide (a2<=14))))))|_,_=>none
theorem Zrf:EntX prog 76:=Zal (fn:=f76)
theorem Zwr:Uad (md F) prog 76 Zgz:=(ansY (N:=1000) (mKc (Zah Zys) Ztd mKn) f76 [([7],[1])]).of (by
 intro ρ h w args vals r e hA hH hr;unfold Zgz at hr;split at hr
 ·rename_i a1 a2 a0;obtain⟨rfl,rfl,hg2⟩:=BQi hr;exact Zt8 a1 a2 a0 (hA.wt 1 rfl) (hA.rng 2 rfl) (hH.wt 0 rfl) hg2
 ·cases hr)
end
end Go.Proofs.YtefjogahegolbaaDoor
