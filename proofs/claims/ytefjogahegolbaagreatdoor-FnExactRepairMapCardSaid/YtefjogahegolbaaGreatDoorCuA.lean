/- An hour on, in company, is an hour; hours as they are asked. -/
import Derived.Test.YtefjogahegolbaaGreatDoorProg
import Derived.Test.YtefjogahegolbaaGreatDoorCxA
import Derived.Test.YtefjogahegolbaaGreatDoorIsX
import Derived.Test.YtefjogahegolbaaGreatDoorVcG
set_option linter.unusedVariables false
set_option linter.unusedSimpArgs false
open _root_.List renaming range->jD,mem_range->jG,all_eq_true->jJ
open _root_.Array renaming getElem?_setIfInBounds->jH,getElem?_extract->jN,getElem?_eq_none->jO,size_append->jP,ext_getElem?->jQ,size_setIfInBounds->jR
open _root_.Nat renaming ble->jA,log2->jC,mul_one->jK,le_of_ble_eq_true->jL
open _root_.Int renaming eq_ofNat_of_zero_le->jM,fdiv_eq_ediv_of_nonneg->jS
open _root_.Bool renaming and_self->jB,not_true->jE,not_false->jF,true_and->jI
open _root_.Go renaming Value->QC,Program->QD,Exit->QP,Addr->QR
namespace Go.Proofs.YtefjogahegolbaaGreatDoor
open Tryz (f12 f35 f37 f38 f39 f41 f42 f43 f44 f52 f53 f54 f55 f57 f58 f59 f60 f61 f62 f63 f64 f65 f74 f76 f78 f79 f85 f86 f87 f88 f89 f90 f91 f94 f96 f108 f109 f112 f146 f147)
open Go.ChangeShapes Go.WideShapes Go.ChangeAt Go.RowKit Ve Vc
open Tryz renaming prog -> PZ
open IntKind (i64)
set_option maxRecDepth 100000
noncomputable section
variable {F:Vc.Fd}
theorem oq{w h:Int}{k:Nat}(A:((k % 6:Nat):Int)<w)(h2:((k / 6:Nat):Int)<h):inC w h k=true:=by unfold inC;rw[Q3 A,Q3 h2];rfl
theorem mr{S:QA}(h0:1<=num S 0/\num S 0<=6/\1<=num S 1/\num S 1<=6){k:Nat}(hk:k<36)(hi:inC (num S 0) (num S 1) k=true)(w:Nat)(J:w<5)(A:gw S k w ≠ -1):inC (num S 0) (num S 1) (gw S k w).toNat=true:=by
 obtain⟨L,O⟩:=pj hi;obtain⟨U,V,Z,a4⟩:=h0
 match w,J with
 |0,_=>exact hi
 | 1,_=>
  simp only[gw]at A|-
  by_cases c:6<=k
  ·simp only[c,decide_true,Q1];rw[show ((k:Int) - 6).toNat=k - 6 by omega];exact oq (by omega) (by omega)
  ·simp[c]at A
 | 2,_=>
  simp only[gw]at A|-
  by_cases c:((k % 6:Nat):Int)+1<num S 0
  ·simp only[Q3 c,Q1];rw[show ((k:Int)+1).toNat=k+1 by omega];exact oq (by omega) (by omega)
  ·simp only[Q4 c,Q2]at A;exact absurd rfl A
 | 3,_=>
  simp only[gw]at A|-
  by_cases c:((k / 6:Nat):Int)+1<num S 1
  ·simp only[Q3 c,Q1];rw[show ((k:Int)+6).toNat=k+6 by omega];exact oq (by omega) (by omega)
  ·simp only[Q4 c,Q2]at A;exact absurd rfl A
 | 4,_=>
  simp only[gw]at A|-
  by_cases c:1<=k % 6
  ·simp only[Q3 c,Q1];rw[show ((k:Int) - 1).toNat=k - 1 by omega];exact oq (by omega) (by omega)
  ·simp only[Q4 c,Q2]at A;exact absurd rfl A
def ZO(S X:QA):Prop:=∀k,k<36->inC (num S 0) (num S 1) k=false->num X (3+k)=0
def zo(S X:QA):Bool:=(jD 36).all λk=>inC (num S 0) (num S 1) k||(num X (3+k)==0)
theorem js{S X:QA}:zo S X=true ↔ ZO S X:=by
 unfold zo ZO;rw[jJ];constructor
 ·intro h k hk A;have:=h k (jG.2 hk);rw[A,Bool.false_or,beq_iff_eq]at this;exact this
 ·intro h k hk;cases A:inC (num S 0) (num S 1) k with|true=>rfl|false=>rw[Bool.false_or,beq_iff_eq];exact h k (jG.1 hk) A
theorem AU{S X:QA}(hX:WT PZ 129 X)(hok:okS S=true)(hS:WT PZ 38 S)(h:ZO S X):ZO S (Ubn PZ S X):=by
 intro k hk hf;obtain⟨i1,i2⟩:=uW X;have hd:=Zxg hok;have w:=(Zxi (S:=S) hX).int (o:=3+k) (k:=.i64) (Zq7 (by omega) (by omega));refine dK ((Yog i1 (j:=3+k) (by omega)).trans (.of ?_)) w.2 (by omega);rw[(Zwt X).2.2 k hk,Int.zero_add];refine(Zkp 36 (g:=λ_=>0) λi hi=> ?_).trans (Zs4 36);rw[(Ylq hS hi).2];cases hin:inC (num S 0) (num S 1) i with
 |false=>rw[Bool.false_and,if_neg (by simp),show 3+i*1=3+i by omega,h i hi hin];simp
 | true=>
  have hik:i≠k:=λe=>by rw[e,hf]at hin;cases hin
  cases bitI (num S 2) i with
  |true=>rw[jE,Bool.and_false,if_neg (by simp),if_neg (by omega)]
  | false=>
   rw[jF,jB,if_pos rfl];refine(Zkp 5 (g:=λ_=>0) λw hw=> ?_).trans (Zs4 5);rw[uD hd hi hin w hw,if_neg];unfold fv
   by_cases hg:gw S i w=-1
   ·rw[hg,if_pos (by omega)];omega
   ·have:=pk hd hi hin w hw hg;rw[if_neg (show ¬gw S i w<0 by omega)];intro e;have e':(gw S i w).toNat=k:=by omega
    have:=mr hd hi hin w hw hg;rw[e',hf]at this;cases this
def Uar(P:QD)(S X:QA):Nat->QA
 |0=>X
 |n+1=>Ubn P S (Uar P S X n)
theorem qj{S X:QA}(A:0<=num X 0/\num X 0<2)(hh:0<=num X 1/\num X 1<=14):∀n,n<=14->num (Uar PZ S X n) 0=num X 0/\num (Uar PZ S X n) 1=num X 1+n
 |0,_=>⟨rfl,by simp[Uar]⟩
 | n+1,U=>by
  obtain⟨J,h2⟩:=qj A hh n (by omega);obtain⟨L,O,_⟩:=Zwt (Uar PZ S X n);constructor
  ·rw[Uar,uU _ _ (by omega),L,J]
  ·rw[Uar,uU _ _ (by omega),O,h2];have:IntKind.i8.wrap (num X 1+(n:Int)+1)=num X 1+(n:Int)+1:=IntWalk.i8_in _ (by omega);rw[this];omega
theorem wz{S X:QA}(A:0<=num X 0/\num X 0<2)(hh:0<=num X 1/\num X 1<=14){n:Nat}(J:n<=14):tdS (Uar PZ S X n)=(num X 0+num X 1+n) % 2:=by
 obtain⟨L,h2⟩:=qj (S:=S) A hh n J;unfold tdS;rw[L,h2];have:IntKind.i8.wrap (num X 0+(num X 1+(n:Int)))=num X 0+num X 1+(n:Int):=by rw[IntWalk.i8_in _ (by omega)];omega
 rw[this,Int.tmod_eq_emod_of_nonneg (by omega)]
theorem Yuh{S X:QA}(A:WT PZ 129 X)(n:Nat):WT PZ 129 (Uar PZ S X n):=by induction n with|zero=>exact A|succ n J=>rw[Uar];exact Zxi J
theorem AV{S X:QA}(J:WT PZ 129 X)(A:okS S=true)(L:WT PZ 38 S)(h:ZO S X)(n:Nat):ZO S (Uar PZ S X n):=by induction n with|zero=>exact h|succ n O=>rw[Uar];exact AU (Yuh J n) A L O
def goG(S X:QA):Bool:=okS S&&((decide (0<=num X 0)&&decide (num X 0<2))&&((decide (0<=num X 1)&&decide (num X 1<=100))&&zo S X))
theorem wA{S X:QA}:goG S X=true ↔ okS S=true/\(0<=num X 0/\num X 0<2)/\(0<=num X 1/\num X 1<=100)/\ZO S X:=by unfold goG;rw[<- js];simp only[Q7,decide_eq_true_eq]
def qk:af:=λargs h=>match args,h with|[.g a0 38,.g a1 129],[]=>some (.a (.g (Ubn PZ a0 a1) 129),.none,goG a0 a1)|_,_=>none
theorem AW:EntX PZ 87:=Zaj (fn:=f87)
theorem AX:Uad (md F) PZ 87 qk:=by
 intro ρ h v args vals r ef hno L V hH;unfold qk at L;split at L
 ·rename_i O A;obtain⟨rfl,rfl,Z⟩:=ai L;obtain⟨J,h0,h1,hz⟩:=wA.1 Z;have wS:WT PZ 38 O:=V.wt 0 rfl;have wX:WT PZ 129 A:=V.wt 1 rfl;have ht:tdS A=(num A 0+num A 1) % 2:=by
   unfold tdS;rw[IntWalk.i8_in _ (by omega),Int.tmod_eq_emod_of_nonneg (by omega)]
  have hG:lG O A=true:=by unfold lG;rw[J,jI,xZ h0 h1];exact cl (by rw[ht];omega) (by rw[ht];omega)
  have e:vals=[.agg O,.agg A]:=by
   obtain⟨hl,U⟩:=V
   match vals,hl,U with|[x,y],_,U=>have q0:x=.agg O:=(U 0 _ x rfl rfl).1;have q1:y=.agg A:=(U 1 _ y rfl rfl).1;rw[q0,q1]
  subst e;have hh:=gn wX J h0 h1 hz wS;exact(Ywi wS wX hG F v).mono λr v' h=>⟨⟨h.1.trans (by rw[hh]),Zxi wX⟩,h.2⟩
 ·cases L
def Zgg(A:QA)(J:Int)(L:QA):St:=(⟨.a (.w 0)::.a (.g A 129)::.a (.i .i64 J)::.a (.u)::.a (.w 1)::.a (.u)::.a (.w 2)::.a (.i .i64 0)::us 8 ([]),[.row L 38,.row A 129,.row (zc PZ 129) 129],[]⟩:St)
def Ziu:Int×QA->LS
 |(A,J)=>([.a (.i .i64 A)],[.row J 129])
def ql:Int×QA->QP×LS
 |t=>((.exit 0),Ziu t)
def Zd3(P:QD)(U:QA)(O:Int)(L:QA):Int×QA->Option (Stp (Int×QA) (Int×QA))
 |(J,A)=>bif decide (J<O) then (bif (okS L&&(decide (0<=tdS A)&&decide (tdS A<2))) then (some (.more ((i64.wrap (J+(1:Int))),(Ubn PZ L A)))) else (none)) else (some (.done (J,A)))
noncomputable abbrev aD:=codeOf f112
theorem Yix(N:Nat)(A:QA)(J:Int)(L:QA):∀t:Int×QA,Uaf PZ (mkΓ [(120,con iR)]) N (cAt aD [1,0,1,0,0]) (pAt (Uaa aD [([7],[1])]).1 [1,0,1,0]) [7] [1] (Zgg A J L) (Ziu t)=aa Ziu ql (Zd3 PZ A J L t):=by
 rintro⟨O,U⟩
 conv=>rhs;simp only[Zd3,aM,aJ,aK,aL,Ziu,ql]
 kernel_rfl
def qm(P:QD)(N:Nat)(L:QA)(O:Int)(U:QA)(J:Int)(A:QA):Option (SV×Eff×Bool):=some (.a (.g A 129),.none,true)
theorem AY(N:Nat)(O:QA)(U:Int)(L:QA)(A:Int)(J:QA):(Uac 0 (kSeq (veC PZ (mkΓ [(120,con iR)]) N (cAt aD [1,1]) (pAt (Uaa aD [([7],[1])]).1 [1,1]) (SV×Eff×Bool)) (finK PZ [.row L 38] [.cell 6 129]))) (.exit 0) (left (writes (cAt aD [1,0,1,0,0])) [7] [1] (Zgg O U L) ([.a (.i .i64 A)],[.row J 129]))=qm PZ N O U L A J:=by kernel_rfl
theorem AZ(N:Nat)(A:QA)(L:Int)(J:QA):au (Uab (Uaf PZ (mkΓ [(120,con iR)]) N (cAt aD [1,0,1,0,0]) (pAt (Uaa aD [([7],[1])]).1 [1,0,1,0]) [7] [1] (Zgg A L J)) N ([.a (.i .i64 0)],[.row A 129])) (λe s=>(Uac 0 (kSeq (veC PZ (mkΓ [(120,con iR)]) N (cAt aD [1,1]) (pAt (Uaa aD [([7],[1])]).1 [1,1]) (SV×Eff×Bool)) (finK PZ [.row J 38] [.cell 6 129]))) e (left (writes (cAt aD [1,0,1,0,0])) [7] [1] (Zgg A L J) s))=Uah (Uab (Zd3 PZ A L J) N ((0:Int),A)) (λx=>qm PZ N A L J x.1 x.2):=by refine aP Ziu ql _ _ (Yix N A L J) N ((0:Int),A) _ _ ?_;intro x;exact AY N A L J x.1 x.2
theorem Yfl(N:Nat)(A:QA)(J:Int)(L:QA):ansV PZ (mkΓ [(120,con iR)]) N f112 [([7],[1])] [.w 0,.g A 129,.i .i64 J] [.row L 38]=(Uah (Uab (Zd3 PZ A J L) N ((0:Int),A)) (λx=>qm PZ N A J L x.1 x.2)):=by
 conv=>rhs;simp only[<- AZ N A J L]
 kernel_rfl
theorem Ba(A:QA)(L:Int)(J:QA)(V:WT PZ 129 A)(Z:i64.min<=L/\L<=i64.max)(b5:WT PZ 38 J)(hg:((okS J&&((decide (0<=num A 0)&&decide (num A 0<2))&&((decide (0<=num A 1)&&decide (num A 1<=14))&&(decide (0<=L)&&decide (L<=14))))))=true):ansV PZ (mkΓ [(120,con iR)]) 1000 f112 [([7],[1])] [.w 0,.g A 129,.i .i64 L] [.row J 38]=some (.a (.g (Uar PZ J A L.toNat) 129),.none,true):=by
 simp only[Q7,decide_eq_true_eq]at hg;obtain⟨O,hb,hh,h0,h14⟩:=hg;obtain⟨m,rfl⟩:=jM h0;refine(Yfl 1000 A (m:Int) J).trans ?_;have h:=bP (g:=Zd3 PZ A (m:Int) J) (λj=>((j:Int),Uar PZ J A j)) (m:=m) (x:=((m:Int),Uar PZ J A m)) (N:=1000) (λj hj=>by
  have U:decide ((j:Int)<(m:Int))=true:=Q3 (by omega);have h3:i64.wrap ((j:Int)+1)=((j+1:Nat):Int):=by rw[aI (by omega)];omega
  have ht:=wz (S:=J) hb hh (show j<=14 by omega);have h4:=cl (a:=tdS (Uar PZ J A j)) (b:=2) (by rw[ht];omega) (by rw[ht];omega);simp only[Zd3,U,h3,O,h4,jB,Q1];rfl) (by
  have U:decide ((m:Int)<(m:Int))=false:=Q4 (by omega);simp only[Zd3,U,Q2]) (by omega)
 have h':Uab (Zd3 PZ A (m:Int) J) 1000 ((0:Int),A)=some ((m:Int),Uar PZ J A m):=h;rw[h'];rfl
def ot:af:=λargs h=>match args,h with|[.w 0,.g a1 129,.i .i64 a2],[.row a0 38]=>some (.a (.g (Uar PZ a0 a1 a2.toNat) 129),.none,(okS a0&&((decide (0<=num a1 0)&&decide (num a1 0<2))&&((decide (0<=num a1 1)&&decide (num a1 1<=14))&&(decide (0<=a2)&&decide (a2<=14))))))|_,_=>none
theorem Bb:EntX PZ 112:=Zaj (fn:=f112)
theorem Bc:Uad (md F) PZ 112 ot:=(ansY (N:=1000) (mKc (Zae Iu) It mKn) f112 [([7],[1])]).of (by
 intro ρ h w args vals r e L O A;unfold ot at A;split at A
 ·rename_i U V Z;obtain⟨rfl,rfl,J⟩:=ai A;exact Ba U V Z (L.wt 1 rfl) (L.rng 2 rfl) (O.wt 0 rfl) J
 ·cases A)
end
noncomputable section
variable {F:Vc.Fd}
def mt:af:=ansV PZ (mkΓ [(80,conG dR)]) 1000 f58 []
theorem ou:EntX PZ 58:=Zaj (fn:=f58)
theorem ov:Uad (md F) PZ 58 mt:=ansY (N:=1000) (mKc (Zlj dS) IU mKn) f58 []
theorem Yh1(N:Nat)(A:Int):ansV PZ (mkΓ [(47,con db)]) N f74 [] [.i .i64 A] []=(some (.a (.b ((Zaa A (1:Int) (14:Int)))),.none,true)):=by kernel_rfl
theorem Bd(A:Int)(J:i64.min<=A/\A<=i64.max)(L:(true)=true):ansV PZ (mkΓ [(47,con db)]) 1000 f74 [] [.i .i64 A] []=some (.a (.b ((Zaa A (1:Int) (14:Int)))),.none,true):=by refine(Yh1 1000 A).trans ?_;rfl
def qn:af:=λargs h=>match args,h with|[.i .i64 a0],[]=>some (.a (.b ((Zaa a0 (1:Int) (14:Int)))),.none,true)|_,_=>none
theorem Be:EntX PZ 74:=Zaj (fn:=f74)
theorem Bf:Uad (md F) PZ 74 qn:=(ansY (N:=1000) (mKc (Zae km) kl mKn) f74 []).of (by
 intro ρ h w args vals r e L U A;unfold qn at A;split at A
 ·rename_i O;obtain⟨rfl,rfl,J⟩:=ai A;exact Bd O (L.rng 0 rfl) J
 ·cases A)
theorem Yie(N:Nat)(A:Int):ansV PZ (mkΓ []) N f96 [] [.i .i64 A] []=(bif decide (A>=(1:Int)) then (some (.a (.b (decide (A<=(14:Int)))),.none,true)) else (some (.a (.b false),.none,true))):=by kernel_rfl
def Zhi(A:Int):Bool:=(bif decide (A>=(1:Int)) then decide (A<=(14:Int)) else false)
theorem Bg(A:Int)(L:i64.min<=A/\A<=i64.max)(J:(true)=true):ansV PZ (mkΓ []) 1000 f96 [] [.i .i64 A] []=some (.a (.b ((Zhi A))),.none,true):=by
 refine(Yie 1000 A).trans ?_;unfold Zhi;revert J;generalize (decide (A>=(1:Int)))=b2;intro J;cases b2
 ·skip
  first|rfl|exact(nomatch (J:false=true))
 ·skip
  first|rfl|exact(nomatch (J:false=true))
def qo:af:=λargs h=>match args,h with|[.i .i64 a0],[]=>some (.a (.b ((Zhi a0))),.none,true)|_,_=>none
theorem Bh:EntX PZ 96:=Zaj (fn:=f96)
theorem Bi:Uad (md F) PZ 96 qo:=(ansY (N:=1000) mKn f96 []).of (by
 intro ρ h w args vals r e L U A;unfold qo at A;split at A
 ·rename_i O;obtain⟨rfl,rfl,J⟩:=ai A;exact Bg O (L.rng 0 rfl) J
 ·cases A)
def wB:Cons:=(mkΓ [(51,con nb),(72,con dH),(73,con lz),(75,con sS)])
theorem Yim(N:Nat)(A L:Int)(O:Bool)(J:QA):ansV PZ wB N f53 [] [.w 0,.i .i64 A,.i .i64 L,.b O] [.row J 38]=(bif (!((okS J))) then (some (.a (.i .i64 1),.none,true)) else (bif (!((Zab A J))) then (some (.a (.i .i64 2),.none,true)) else (bif (!((Zaa L (0:Int) (1:Int)))) then (some (.a (.i .i64 2),.none,true)) else (bif (!(O)) then (some (.a (.i .i64 2),.none,true)) else (bif decide (0<=(IntKind.u64.wrap A)) then (bif (Zah A J) then (some (.a (.i .i64 4),.none,true)) else (some (.a (.i .i64 0),.none,true))) else (none)))))):=by kernel_rfl
def Zcf(J L:Int)(O:Bool)(A:QA):Int:=(bif (!((okS A))) then (1:Int) else (bif (!((Zab J A))) then (2:Int) else (bif (!((Zaa L (0:Int) (1:Int)))) then (2:Int) else (bif (!(O)) then (2:Int) else (bif (Zah J A) then (4:Int) else (0:Int))))))
def Zem(A L:Int)(O:Bool)(J:QA):Bool:=(bif (!((okS J))) then true else (bif (!((Zab A J))) then true else (bif (!((Zaa L (0:Int) (1:Int)))) then true else (bif (!(O)) then true else decide (0<=(IntKind.u64.wrap A))))))
theorem Bj(J O:Int)(U:Bool)(L:QA)(V:i64.min<=J/\J<=i64.max)(Z:i64.min<=O/\O<=i64.max)(b5:WT PZ 38 L)(A:((Zem J O U L))=true):ansV PZ wB 1000 f53 [] [.w 0,.i .i64 J,.i .i64 O,.b U] [.row L 38]=some (.a (.i .i64 (Zcf J O U L)),.none,true):=by
 refine(Yim 1000 J O U L).trans ?_;unfold Zem at A;unfold Zcf;revert A;generalize ((!((okS L))))=b2;intro A;cases b2
 ·skip
  revert A;generalize ((!((Zab J L))))=b4;intro A;cases b4
  ·skip
   revert A;generalize ((!((Zaa O (0:Int) (1:Int)))))=b6;intro A;cases b6
   ·skip
    revert A;generalize ((!(U)))=b8;intro A;cases b8
    ·skip
     revert A;generalize (decide (0<=(IntKind.u64.wrap J)))=b10;intro A;cases b10
     ·skip
      first|exact(nomatch (A:false=true))|rfl
     ·skip
      revert A;generalize ((Zah J L))=b12;intro A;cases b12
      ·skip
       first|rfl|exact(nomatch (A:false=true))
      ·skip
       first|rfl|exact(nomatch (A:false=true))
    ·skip
     first|rfl|exact(nomatch (A:false=true))
   ·skip
    first|rfl|exact(nomatch (A:false=true))
  ·skip
   first|rfl|exact(nomatch (A:false=true))
 ·skip
  first|rfl|exact(nomatch (A:false=true))
def qp:af:=λargs h=>match args,h with|[.w 0,.i .i64 a1,.i .i64 a2,.b a3],[.row a0 38]=>some (.a (.i .i64 (Zcf a1 a2 a3 a0)),.none,(Zem a1 a2 a3 a0))|_,_=>none
theorem Bk:EntX PZ 53:=Zaj (fn:=f53)
theorem Bl:Uad (md F) PZ 53 qp:=(ansY (N:=1000) (mKc (Zae tN) tM (mKc (Zae mK) mJ (mKc (Zae oS) oR (mKc (Zae FJ) FI mKn)))) f53 []).of (by
 intro ρ h w args vals r e L O A;unfold qp at A;split at A
 ·rename_i U V Z a0;obtain⟨rfl,rfl,J⟩:=ai A;exact Bj U V Z a0 (L.rng 1 rfl) (L.rng 2 rfl) (O.wt 0 rfl) J
 ·cases A)
theorem dj{x a b:Int}(h:a<=x/\x<=b):Zaa x a b=true:=by unfold Zaa;rw[Q3 (show x>=a from h.1),Q3 h.2];rfl
theorem mu{S:QA}(A:WT PZ 38 S){c:Int}(J:0<=c/\c<=35):Zad S c=Zah c S:=by obtain⟨k,rfl⟩:=jM J.1;exact xP A (by omega)
theorem wC(c:Int):decide (0<=IntKind.u64.wrap c)=true:=Q3 (Zhx .u64 _).1
theorem fE(c b:Int)(f:Bool)(S:QA):Zem c b f S=true:=by unfold Zem;rw[wC];cases okS S<;>cases Zab c S<;>cases Zaa b 0 1<;>cases f<;>rfl
def rl(S:QA)(c b:Int)(f:Bool):Bool:=Zab c S&&(Zaa b 0 1&&f)
theorem wD(c b:Int)(f:Bool)(S:QA):Zcf c b f S=bif okS S then (bif rl S c b f then (bif Zah c S then 4 else 0) else 2) else 1:=by unfold Zcf rl;cases okS S<;>cases Zab c S<;>cases Zaa b 0 1<;>cases f<;>rfl
theorem Bm{c b:Int}{f:Bool}{S:QA}(h:(Zcf c b f S != (0:Int))=false):okS S=true/\Zab c S=true/\Zaa b 0 1=true/\f=true/\Zah c S=false:=by rw[wD]at h;unfold rl at h;cases A:okS S<;>cases h2:Zab c S<;>cases J:Zaa b 0 1<;>cases L:f<;>cases O:Zah c S<;>first|exact⟨rfl,rfl,rfl,rfl,rfl⟩ | (exfalso;subst L;rw[A,h2,J,O]at h;revert h;decide)
def mv:Cons:=(mkΓ [(81,con pg),(82,con mL),(83,con sT),(84,con dc)])
theorem Zg4(N:Nat)(V:QA)(Z a2:Int)(a3:Bool)(A J L O U:QR):ansV PZ mv N f59 [] [.g V 38,.i .i64 Z,.i .i64 a2,.b a3] [.gl 0 185 A 101973,.gl 1 185 J 93330,.gl 3 185 L 124718,.gl 2 185 O 112315,.gl 4 185 U 94254]=(bif (!((okS V))) then (some (.a (.e 0),.none,true)) else (bif (!((Zaw V Z))) then (some (.a (.e 1),.none,true)) else (bif (!((Zds a2))) then (some (.a (.e 1),.none,true)) else (bif (!(a3)) then (some (.a (.e 1),.none,true)) else (bif decide (0<=Z) then (bif (Zad V Z) then (some (.a (.e 2),.none,true)) else (some (.a (.v .nilIface),.none,true))) else (none)))))):=by kernel_rfl
theorem Zto(V:QA)(Z a2:Int)(a3:Bool)(A J L O U:QR)(h_a0:WT PZ 38 V)(h_a1:i64.min<=Z/\Z<=i64.max)(h_a2:i64.min<=a2/\a2<=i64.max)(hc0:(okS V)=false)(hg:(true)=true):ansV PZ mv 1000 f59 [] [.g V 38,.i .i64 Z,.i .i64 a2,.b a3] [.gl 0 185 A 101973,.gl 1 185 J 93330,.gl 3 185 L 124718,.gl 2 185 O 112315,.gl 4 185 U 94254]=some (.a (.e 0),.none,true):=by refine(Zg4 1000 V Z a2 a3 A J L O U).trans ?_;simp only[hc0,jF,Q1]
theorem Ztt(a0:QA)(a1 A:Int)(a3:Bool)(J L O U V:QR)(h_a0:WT PZ 38 a0)(h_a1:i64.min<=a1/\a1<=i64.max)(h_a2:i64.min<=A/\A<=i64.max)(hc0:(okS a0)=true)(Z:(rl a0 a1 A a3)=false)(hg:(true)=true):ansV PZ mv 1000 f59 [] [.g a0 38,.i .i64 a1,.i .i64 A,.b a3] [.gl 0 185 J 101973,.gl 1 185 L 93330,.gl 3 185 O 124718,.gl 2 185 U 112315,.gl 4 185 V 94254]=some (.a (.e 1),.none,true):=by
 refine(Zg4 1000 a0 a1 A a3 J L O U V).trans ?_;have ht:Zds A=Zaa A 0 1:=tu A;rw[iN,ht];unfold rl at Z;rw[hc0];cases q1:Zab a1 a0 with|false=>rfl| true=>cases q2:Zaa A 0 1 with|false=>rfl|true=>cases q3:a3 with|false=>rfl|true=>rw[q1,q2,q3]at Z;cases Z
theorem Ztk(a0:QA)(a1 A:Int)(a3:Bool)(J L O U V:QR)(h_a0:WT PZ 38 a0)(h_a1:i64.min<=a1/\a1<=i64.max)(h_a2:i64.min<=A/\A<=i64.max)(hc0:(okS a0)=true)(Z:(rl a0 a1 A a3)=true)(hc2:(Zah a1 a0)=false)(hg:(true)=true):ansV PZ mv 1000 f59 [] [.g a0 38,.i .i64 a1,.i .i64 A,.b a3] [.gl 0 185 J 101973,.gl 1 185 L 93330,.gl 3 185 O 124718,.gl 2 185 U 112315,.gl 4 185 V 94254]=some (.a (.v .nilIface),.none,true):=by refine(Zg4 1000 a0 a1 A a3 J L O U V).trans ?_;have ht:Zds A=Zaa A 0 1:=tu A;rw[iN,ht];unfold rl at Z;simp only[Q7]at Z;obtain⟨q1,q2,q3⟩:=Z;have hr:=Zkk q1;rw[hc0,q1,q2,q3,mu h_a0 hr,hc2,Q3 hr.1];rfl
theorem Zts(a0:QA)(a1 A:Int)(a3:Bool)(J L O U V:QR)(h_a0:WT PZ 38 a0)(h_a1:i64.min<=a1/\a1<=i64.max)(h_a2:i64.min<=A/\A<=i64.max)(hc0:(okS a0)=true)(Z:(rl a0 a1 A a3)=true)(hc2:(Zah a1 a0)=true)(hg:(true)=true):ansV PZ mv 1000 f59 [] [.g a0 38,.i .i64 a1,.i .i64 A,.b a3] [.gl 0 185 J 101973,.gl 1 185 L 93330,.gl 3 185 O 124718,.gl 2 185 U 112315,.gl 4 185 V 94254]=some (.a (.e 2),.none,true):=by refine(Zg4 1000 a0 a1 A a3 J L O U V).trans ?_;have ht:Zds A=Zaa A 0 1:=tu A;rw[iN,ht];unfold rl at Z;simp only[Q7]at Z;obtain⟨q1,q2,q3⟩:=Z;have hr:=Zkk q1;rw[hc0,q1,q2,q3,mu h_a0 hr,hc2,Q3 hr.1];rfl
def Za4:bk:=λargs h=>match args,h with|[.g a0 38,.i .i64 a1,.i .i64 a2,.b a3],[.gl 0 185 g_e0 101973,.gl 1 185 g_e1 93330,.gl 3 185 g_e2 124718,.gl 2 185 g_e3 112315,.gl 4 185 g_e4 94254]=>.two (okS a0) (.two (rl a0 a1 a2 a3) (.two (Zah a1 a0) (.one (some (.a (.e 2),.none,true))) (.one (some (.a (.v .nilIface),.none,true)))) (.one (some (.a (.e 1),.none,true)))) (.one (some (.a (.e 0),.none,true)))|_,_=>.one none
theorem ow:EntX PZ 59:=Zaj (fn:=f59)
theorem ox:Uad (md F) PZ 59 (λargs h=>Uak (Za4 args h)):=by
 intro ρ h w args vals r e hn A J hH;dsimp only at A;unfold Za4 at A;split at A
 ·rename_i a0 a1 a2 a3 O U V Z b5;simp only[Uak]at A;cases b7:(okS a0)
  ·rw[b7]at A;simp only[Uak,Q1,Q2]at A;obtain⟨rfl,rfl,L⟩:=ai A;exact((ansY (N:=1000) (mKc (Zae mZ) mY (mKc (Zae lB) lA (mKc (Zae oZ) oY (mKc (Zae iM) iL mKn)))) f59 [])) ρ _ w _ vals _ _ hn ((Zto a0 a1 a2 a3 O U V Z b5 (J.wt 0 rfl) (J.rng 1 rfl) (J.rng 2 rfl) b7 L)) J hH
  ·rw[b7]at A;simp only[Uak,Q1,Q2]at A;cases b9:(rl a0 a1 a2 a3)
   ·rw[b9]at A;simp only[Uak,Q1,Q2]at A;obtain⟨rfl,rfl,L⟩:=ai A;exact((ansY (N:=1000) (mKc (Zae mZ) mY (mKc (Zae lB) lA (mKc (Zae oZ) oY (mKc (Zae iM) iL mKn)))) f59 [])) ρ _ w _ vals _ _ hn ((Ztt a0 a1 a2 a3 O U V Z b5 (J.wt 0 rfl) (J.rng 1 rfl) (J.rng 2 rfl) b7 b9 L)) J hH
   ·rw[b9]at A;simp only[Uak,Q1,Q2]at A;cases c7:(Zah a1 a0)
    ·rw[c7]at A;simp only[Uak,Q1,Q2]at A;obtain⟨rfl,rfl,L⟩:=ai A;exact((ansY (N:=1000) (mKc (Zae mZ) mY (mKc (Zae lB) lA (mKc (Zae oZ) oY (mKc (Zae iM) iL mKn)))) f59 [])) ρ _ w _ vals _ _ hn ((Ztk a0 a1 a2 a3 O U V Z b5 (J.wt 0 rfl) (J.rng 1 rfl) (J.rng 2 rfl) b7 b9 c7 L)) J hH
    ·rw[c7]at A;simp only[Uak,Q1,Q2]at A;obtain⟨rfl,rfl,L⟩:=ai A;exact((ansY (N:=1000) (mKc (Zae mZ) mY (mKc (Zae lB) lA (mKc (Zae oZ) oY (mKc (Zae iM) iL mKn)))) f59 [])) ρ _ w _ vals _ _ hn ((Zts a0 a1 a2 a3 O U V Z b5 (J.wt 0 rfl) (J.rng 1 rfl) (J.rng 2 rfl) b7 b9 c7 L)) J hH
 ·simp only[Uak]at A;cases A
theorem Ycw(N:Nat)(A J L:Int)(O:QA):ansV PZ (mkΓ [(112,con ot)]) N f94 [] [.w 0,.i .i64 A,.i .i64 J,.i .i64 L] [.row O 38]=(bif (decide (0<=A)&&decide (A<36)) then (bif (okS O&&((decide (0<=num ((((zc PZ 129).setIfInBounds 0 (.int .i8 (IntKind.i8.wrap J))).setIfInBounds 2 (.int .i64 1)).setIfInBounds (3+((A).toNat*1)) (.int .i64 1)) 0)&&decide (num ((((zc PZ 129).setIfInBounds 0 (.int .i8 (IntKind.i8.wrap J))).setIfInBounds 2 (.int .i64 1)).setIfInBounds (3+((A).toNat*1)) (.int .i64 1)) 0<2))&&((decide (0<=num ((((zc PZ 129).setIfInBounds 0 (.int .i8 (IntKind.i8.wrap J))).setIfInBounds 2 (.int .i64 1)).setIfInBounds (3+((A).toNat*1)) (.int .i64 1)) 1)&&decide (num ((((zc PZ 129).setIfInBounds 0 (.int .i8 (IntKind.i8.wrap J))).setIfInBounds 2 (.int .i64 1)).setIfInBounds (3+((A).toNat*1)) (.int .i64 1)) 1<=14))&&(decide (0<=L)&&decide (L<=14))))) then (some (.a (.g (Uar PZ O ((((zc PZ 129).setIfInBounds 0 (.int .i8 (IntKind.i8.wrap J))).setIfInBounds 2 (.int .i64 1)).setIfInBounds (3+((A).toNat*1)) (.int .i64 1)) L.toNat) 129),.none,true)) else (none)) else (none)):=by kernel_rfl
def oneX(P:QD)(c b:Int):QA:=(((zc P 129).setIfInBounds 0 (.int .i8 (IntKind.i8.wrap b))).setIfInBounds 2 (.int .i64 1)).setIfInBounds (3+c.toNat*1) (.int .i64 1)
theorem Ybr{c b:Int}(U:0<=b/\b<=1)(V:0<=c/\c<=35):num (oneX PZ c b) 0=b/\num (oneX PZ c b) 1=0/\(oneX PZ c b).size=40/\∀i,i<36->num (oneX PZ c b) (3+i)=if i=c.toNat then 1 else 0:=by
 have J:(zc PZ 129).size=40:=by kernel_rfl
 have A:(jD 36).all (λk=>match (zc PZ 129)[3+k]? with|some (.int .i64 0)=>true|_=>false)=true:=by kernel_rfl
 have L:(zc PZ 129)[1]?=some (.int .i8 0):=by kernel_rfl
 unfold oneX;refine⟨?_,?_,by simp[J],λi hi=> ?_⟩
 ·unfold num;rw[jH,if_neg (by omega),jH,if_neg (by omega),jH,if_pos rfl,if_pos (by omega)];exact IntWalk.i8_in _ (by omega)
 ·unfold num;rw[jH,if_neg (by omega),jH,if_neg (by omega),jH,if_neg (by omega),L]
 ·unfold num;rw[jH]
  by_cases e:i=c.toNat
  ·rw[if_pos (by omega),if_pos (by simp;omega),if_pos e]
  ·rw[if_neg (by omega),if_neg e,jH,if_neg (by omega),jH,if_neg (by omega)];have:=jJ.1 A i (jG.2 hi);split at this
   ·rename_i O;rw[O]
   ·cases this
theorem Bn(A J L:Int)(O:QA)(b5:i64.min<=A/\A<=i64.max)(b7:i64.min<=J/\J<=i64.max)(b9:i64.min<=L/\L<=i64.max)(c7:WT PZ 38 O)(hg:((okS O&&((Zab A O&&Zaa J 0 1)&&Zaa L 0 14)))=true):ansV PZ (mkΓ [(112,con ot)]) 1000 f94 [] [.w 0,.i .i64 A,.i .i64 J,.i .i64 L] [.row O 38]=some (.a (.g (Uar PZ O (oneX PZ A J) L.toNat) 129),.none,true):=by simp only[Q7]at hg;obtain⟨U,⟨his,V⟩,Z⟩:=hg;have hc:=Zkk his;have hb:=Zik V;have hh:=Zik Z;obtain⟨n0,n1,_,_⟩:=Ybr (c:=A) (b:=J) hb hc;refine(Ycw 1000 A J L O).trans ?_;unfold oneX at n0 n1;rw[cl hc.1 (show A<36 by omega),n0,n1,U,cl hb.1 (show J<2 by omega),Q3 hh.1,Q3 hh.2];rfl
def qq:af:=λargs h=>match args,h with|[.w 0,.i .i64 a1,.i .i64 a2,.i .i64 a3],[.row a0 38]=>some (.a (.g (Uar PZ a0 (oneX PZ a1 a2) a3.toNat) 129),.none,(okS a0&&((Zab a1 a0&&Zaa a2 0 1)&&Zaa a3 0 14)))|_,_=>none
theorem Bo:EntX PZ 94:=Zaj (fn:=f94)
theorem Bp:Uad (md F) PZ 94 qq:=(ansY (N:=1000) (mKc (Zae Bc) Bb mKn) f94 []).of (by
 intro ρ h w args vals r e J O A;unfold qq at A;split at A
 ·rename_i U V Z a0;obtain⟨rfl,rfl,L⟩:=ai A;exact Bn U V Z a0 (J.rng 1 rfl) (J.rng 2 rfl) (J.rng 3 rfl) (O.wt 0 rfl) L
 ·cases A)
theorem Yeu(N:Nat)(A J L:Int):ansV PZ (mkΓ []) N f85 [] [.i .i64 A,.i .i64 J,.i .i64 L] []=(bif (decide (0<=A)&&decide (A<36)) then (some (.a (.g ((((zc PZ 129).setIfInBounds 0 (.int .i8 (IntKind.i8.wrap L))).setIfInBounds 2 (.int .i64 J)).setIfInBounds (3+((A).toNat*1)) (.int .i64 J)) 129),.none,true)) else (none)):=by kernel_rfl
def Zay(P:QD)(J A L:Int):QA:=((((zc P 129).setIfInBounds 0 (.int .i8 (IntKind.i8.wrap L))).setIfInBounds 2 (.int .i64 A)).setIfInBounds (3+((J).toNat*1)) (.int .i64 A))
theorem Bq(A L O:Int)(U:i64.min<=A/\A<=i64.max)(V:i64.min<=L/\L<=i64.max)(Z:i64.min<=O/\O<=i64.max)(J:((decide (0<=A)&&decide (A<36)))=true):ansV PZ (mkΓ []) 1000 f85 [] [.i .i64 A,.i .i64 L,.i .i64 O] []=some (.a (.g (Zay PZ A L O) 129),.none,true):=by
 refine(Yeu 1000 A L O).trans ?_;unfold Zay;revert J;generalize (decide (0<=A))=b2;intro J;cases b2
 ·skip
  first|exact(nomatch (J:false=true))|rfl
 ·skip
  revert J;generalize (decide (A<36))=b4;intro J;cases b4
  ·skip
   first|exact(nomatch (J:false=true))|rfl
  ·skip
   first|rfl|exact(nomatch (J:false=true))
def qr:af:=λargs h=>match args,h with|[.i .i64 a0,.i .i64 a1,.i .i64 a2],[]=>some (.a (.g (Zay PZ a0 a1 a2) 129),.none,(decide (0<=a0)&&decide (a0<36)))|_,_=>none
theorem Br:EntX PZ 85:=Zaj (fn:=f85)
theorem Bs:Uad (md F) PZ 85 qr:=(ansY (N:=1000) mKn f85 []).of (by
 intro ρ h w args vals r e J Z A;unfold qr at A;split at A
 ·rename_i O U V;obtain⟨rfl,rfl,L⟩:=ai A;exact Bq O U V (J.rng 0 rfl) (J.rng 1 rfl) (J.rng 2 rfl) L
 ·cases A)
def Ue1(X:QA)(r:QA)(k:Nat):QA:=r.setIfInBounds (k*1) (.int .i64 (num X (3+k*1)))
def Ub8(P:QD)(S X:QA):QA:=folds (λr k=>if inC (num S 0) (num S 1) k&&Zad S (k:Int) then Ue1 X r k else r) (zc P 97) 36
def byV(P:QD)(S:QA)(c b:Int)(n:Nat):QA:=Ub8 P S (Uar P S (oneX P c b) n)
def subF(D:QA)(m:Int)(r:QA)(k:Nat):QA:=r.setIfInBounds (k*1) (.int .i64 (i64.wrap (num r (k*1) - i64.wrap (num D (k*1)*m))))
def subV(C D:QA)(m:Int):QA:=folds (subF D m) C 36
def jt:Cons:=(mkΓx [] [(104,sX)] [(114,pd)])
def Zfl(A J:QA):St:=(⟨.a (.g A 38)::.a (.g J 129)::.a (.w 0)::.a (.w 1)::.a (.w 2)::.a (.w 3)::.a (.u)::.a (.g A 38)::.a (.c 114 [7])::us 8 ([]),[.row A 38,.row J 129,.row (zc PZ 97) 97,.row (zc PZ 97) 97,.no,.no,.no,.row A 38,.no,.no,.no,.no],[]⟩:St)
def Zoj:QA->BS
 |A=>([.row A 97]:BS)
def qs:Empty->QP×BS:=λx=>nomatch x
def Zjb(P:QD)(O L:QA)(A:Int):QA->Option (Stp (QA) Empty)
 |J=>bif (decide (0<=A)&&decide (A<36)) then (bif (decide (0<=A)&&decide (A<36)) then (some (.more (J.setIfInBounds ((A).toNat*1) (.int .i64 (num L (3+((A).toNat*1))))))) else (none)) else (none)
noncomputable abbrev aU:=codeOf f86
theorem Bt(N:Nat)(A J:QA)(L:Int):∀t:QA,mm PZ jt N (cAt aU [1,1,0,1,0,0]) (pAt (Uaa aU [([],[3])]).1 [1,1,0,1,0]) 12 [3] [9] [(6,9)] (Zfl A J) [.i .i64 L] (Zoj t)=aa Zoj qs (Zjb PZ A J L t):=by
 rintro O
 conv=>rhs;simp only[Zjb,aM,aJ,aK,aL,Zoj,qs]
 kernel_rfl
def qt(P:QD)(N:Nat)(J L:QA)(A:QA):Option (SV×Eff×Bool):=some (.a (.g A 97),.none,true)
theorem Bu(N:Nat)(J L:QA)(A:QA):(Uac 0 (kSeq (veC PZ jt N (cAt aU [1,1,1]) (pAt (Uaa aU [([],[3])]).1 [1,1,1]) (SV×Eff×Bool)) (finK PZ [] [.cell 4 97]))) .normal (Ua2 [3] (Zfl J L) ([.row A 97]:BS))=qt PZ N J L A:=by kernel_rfl
theorem Bv(N:Nat)(A J:QA):fb (Uat (λ(O:Int) (L:BS)=>mm PZ jt N (cAt aU [1,1,0,1,0,0]) (pAt (Uaa aU [([],[3])]).1 [1,1,0,1,0]) 12 [3] [9] [(6,9)] (Zfl A J) [.i .i64 O] L) ((Uam (num A 0) (num A 1) 36).filter (Zad A)) ([.row (zc PZ 97) 97]:BS)) (λL=>(Uac 0 (kSeq (veC PZ jt N (cAt aU [1,1,1]) (pAt (Uaa aU [([],[3])]).1 [1,1,1]) (SV×Eff×Bool)) (finK PZ [] [.cell 4 97]))) .normal (Ua2 [3] (Zfl A J) L)) (λe L=>(Uac 0 (kSeq (veC PZ jt N (cAt aU [1,1,1]) (pAt (Uaa aU [([],[3])]).1 [1,1,1]) (SV×Eff×Bool)) (finK PZ [] [.cell 4 97]))) e (Ua2 [3] (Zfl A J) L))=Ude (Uat (Zjb PZ A J) ((Uam (num A 0) (num A 1) 36).filter (Zad A)) (zc PZ 97)) (λx=>qt PZ N A J x) (λx:Empty=>nomatch x):=by
 refine Ybl Zoj qs _ _ (λy t=>Bt N A J y t) _ (zc PZ 97) _ _ _ _ ?_ ?_
 ·intro x;exact Bu N A J x
 ·intro x;exact nomatch x
theorem Yk7(N:Nat)(A J:QA):ansV PZ jt N f86 [([],[3])] [.g A 38,.g J 129] []=(bif (decide (0<=num A 0)&&decide (num A 0<=6)&&(decide (0<=num A 1)&&decide (num A 1<=6))) then (Ude (Uat (Zjb PZ A J) ((Uam (num A 0) (num A 1) 36).filter (Zad A)) (zc PZ 97)) (λx=>qt PZ N A J x) (λx:Empty=>nomatch x)) else (none)):=by
 conv=>rhs;simp only[<- Bv N A J]
 kernel_rfl
theorem Bw(A J:QA)(L:WT PZ 38 A)(O:WT PZ 129 J)(U:(okS A)=true):ansV PZ jt 1000 f86 [([],[3])] [.g A 38,.g J 129] []=some (.a (.g (Ub8 PZ A J) 97),.none,true):=by
 refine(Yk7 1000 A J).trans ?_;rw[tO U,Q1];have h:=wp (X:=Empty) (g:=Zjb PZ A J) (q:=Zad A) (Ue1 J) (wd:=num A 0) (hi:=num A 1) (λr k hk hi Z=>by
  have V:decide ((k:Int)<36)=true:=Q3 (by omega);have h0:decide (0<=(k:Int))=true:=Q3 (by omega);simp only[Zjb,h0,V,Q9,jB,Q1];rfl) (zc PZ 97)
 rw[h];rfl
def qu:af:=λargs h=>match args,h with|[.g a0 38,.g a1 129],[]=>some (.a (.g (Ub8 PZ a0 a1) 97),.none,okS a0)|_,_=>none
theorem Bx:EntX PZ 86:=Zaj (fn:=f86)
theorem By:Uad (md F) PZ 86 qu:=(ansY (N:=1000) (mkΓx_nX FY FZ (mkΓx_iX Ga Gb aS)) f86 [([],[3])]).of (by
 intro ρ h w args vals r e L V A;unfold qu at A;split at A
 ·rename_i O U;obtain⟨rfl,rfl,J⟩:=ai A;exact Bw O U (L.wt 0 rfl) (L.wt 1 rfl) J
 ·cases A)
def ls:Cons:=(mkΓ [(72,con dH),(73,con lz),(94,con qq)])
def Zke(A J L:Int)(O:QA):St:=(⟨.a (.w 0)::.a (.i .i64 A)::.a (.i .i64 J)::.a (.i .i64 L)::us 4 (.a (.w 1)::.a (.w 7)::.a (.w 10)::.a (.i .i64 0)::.a (.w 0)::.a (.i .i64 A)::.a (.i .i64 J)::.a (.i .i64 L)::.a (.g (Uar PZ O (oneX PZ A J) L.toNat) 129)::.a (.g (zc PZ 97) 97)::us 19 ([])),[.row O 38,.row (zc PZ 97) 97,.no,.no,.no,.no,.no,.row (Uar PZ O (oneX PZ A J) L.toNat) 129,.no,.no,.row (zc PZ 97) 97,.no],[10,7]⟩:St)
def Zng:Int×QA->LS
 |(A,J)=>([.a (.i .i64 A)],[.row J 97])
def qv:Int×QA->QP×LS
 |t=>((.exit 0),Zng t)
def Zgz(P:QD)(O U V:Int)(L:QA):Int×QA->Option (Stp (Int×QA) (Int×QA))
 |(A,J)=>bif decide (A<(36:Int)) then (bif (Zab A L) then (bif decide (0<=(IntKind.u64.wrap A)) then (bif (Zah A L) then (bif (decide (0<=A)&&decide (A<36)) then (bif (decide (0<=A)&&decide (A<36)) then (some (.more ((i64.wrap (A+(1:Int))),(J.setIfInBounds ((A).toNat*1) (.int .i64 (num (Uar PZ L (oneX PZ O U) V.toNat) (3+((A).toNat*1)))))))) else (none)) else (none)) else (some (.more ((i64.wrap (A+(1:Int))),J)))) else (none)) else (some (.more ((i64.wrap (A+(1:Int))),J)))) else (some (.done (A,J)))
noncomputable abbrev aV:=codeOf f76
theorem Ypg(N:Nat)(L O U:Int)(V:QA):∀t:Int×QA,Uaf PZ ls N (cAt aV [1,1,1,0,1,0,0]) (pAt (Uaa aV [([11],[10])]).1 [1,1,1,0,1,0]) [11] [10] (Zke L O U V) (Zng t)=aa Zng qv (Zgz PZ L O U V t):=by
 rintro⟨A,J⟩
 conv=>rhs;simp only[Zgz,aM,aJ,aK,aL,Zng,qv]
 kernel_rfl
def qw(P:QD)(N:Nat)(L O U:Int)(V:QA)(J:Int)(A:QA):Option (SV×Eff×Bool):=some (.a (.g A 97),.none,true)
theorem Bz(N:Nat)(O U V:Int)(L:QA)(A:Int)(J:QA):(Uac 0 (kSeq (veC PZ ls N (cAt aV [1,1,1,1]) (pAt (Uaa aV [([11],[10])]).1 [1,1,1,1]) (SV×Eff×Bool)) (finK PZ [.row L 38] [.cell 8 97]))) (.exit 0) (left (writes (cAt aV [1,1,1,0,1,0,0])) [11] [10] (Zke O U V L) ([.a (.i .i64 A)],[.row J 97]))=qw PZ N O U V L A J:=by kernel_rfl
theorem BA(N:Nat)(J L O:Int)(A:QA):au (Uab (Uaf PZ ls N (cAt aV [1,1,1,0,1,0,0]) (pAt (Uaa aV [([11],[10])]).1 [1,1,1,0,1,0]) [11] [10] (Zke J L O A)) N ([.a (.i .i64 0)],[.row (zc PZ 97) 97])) (λe s=>(Uac 0 (kSeq (veC PZ ls N (cAt aV [1,1,1,1]) (pAt (Uaa aV [([11],[10])]).1 [1,1,1,1]) (SV×Eff×Bool)) (finK PZ [.row A 38] [.cell 8 97]))) e (left (writes (cAt aV [1,1,1,0,1,0,0])) [11] [10] (Zke J L O A) s))=Uah (Uab (Zgz PZ J L O A) N ((0:Int),(zc PZ 97))) (λx=>qw PZ N J L O A x.1 x.2):=by refine aP Zng qv _ _ (Ypg N J L O A) N ((0:Int),(zc PZ 97)) _ _ ?_;intro x;exact Bz N J L O A x.1 x.2
theorem Ymv(N:Nat)(J L O:Int)(A:QA):ansV PZ ls N f76 [([11],[10])] [.w 0,.i .i64 J,.i .i64 L,.i .i64 O] [.row A 38]=(bif (okS A&&((Zab J A&&Zaa L 0 1)&&Zaa O 0 14)) then (Uah (Uab (Zgz PZ J L O A) N ((0:Int),(zc PZ 97))) (λx=>qw PZ N J L O A x.1 x.2)) else (none)):=by
 conv=>rhs;simp only[<- BA N J L O A]
 kernel_rfl
theorem BB(J L O:Int)(A:QA)(Z:i64.min<=J/\J<=i64.max)(b5:i64.min<=L/\L<=i64.max)(b7:i64.min<=O/\O<=i64.max)(U:WT PZ 38 A)(hg:((okS A&&((Zab J A&&Zaa L 0 1)&&Zaa O 0 14)))=true):ansV PZ ls 1000 f76 [([11],[10])] [.w 0,.i .i64 J,.i .i64 L,.i .i64 O] [.row A 38]=some (.a (.g (byV PZ A J L O.toNat) 97),.none,true):=by
 refine(Ymv 1000 J L O A).trans ?_;rw[hg,Q1];have h:=iB (g:=Zgz PZ J L O A) (λr k=>((k:Int),r)) (λr k=>if inC (num A 0) (num A 1) k&&Zad A (k:Int) then Ue1 (Uar PZ A (oneX PZ J L) O.toNat) r k else r) (m:=36) (t:=zc PZ 97) (x:=((36:Int),byV PZ A J L O.toNat)) (N:=1000) (λk s hk _=>by
  have V:decide ((k:Int)<36)=true:=Q3 (by omega);have h0:decide (0<=(k:Int))=true:=Q3 (by omega);have h3:i64.wrap ((k:Int)+1)=((k+1:Nat):Int):=by rw[aI (by omega)];omega
  rw[xP U hk];simp only[Zgz,V,h0,h3,mS U hk,wC,Q9,jB,Q1];cases inC (num A 0) (num A 1) k with
  |false=>rfl
  |true=>cases Zah (k:Int) A<;>rfl) (by
  have V:decide (((36:Nat):Int)<36)=false:=by decide
  simp only[Zgz,V,Q2];rfl) (by omega)
 have h':Uab (Zgz PZ J L O A) 1000 ((0:Int),(zc PZ 97))=some ((36:Int),byV PZ A J L O.toNat):=h;rw[h'];rfl
def iF:af:=λargs h=>match args,h with|[.w 0,.i .i64 a1,.i .i64 a2,.i .i64 a3],[.row a0 38]=>some (.a (.g (byV PZ a0 a1 a2 a3.toNat) 97),.none,(okS a0&&((Zab a1 a0&&Zaa a2 0 1)&&Zaa a3 0 14)))|_,_=>none
theorem BC:EntX PZ 76:=Zaj (fn:=f76)
theorem BD:Uad (md F) PZ 76 iF:=(ansY (N:=1000) (mKc (Zae mK) mJ (mKc (Zae oS) oR (mKc (Zae Bp) Bo mKn))) f76 [([11],[10])]).of (by
 intro ρ h w args vals r e J O A;unfold iF at A;split at A
 ·rename_i U V Z a0;obtain⟨rfl,rfl,L⟩:=ai A;exact BB U V Z a0 (J.rng 1 rfl) (J.rng 2 rfl) (J.rng 3 rfl) (O.wt 0 rfl) L
 ·cases A)
theorem oy:(zc PZ 97).size=36:=by kernel_rfl
theorem BE:bytesOf PZ 97=288:=by kernel_rfl
theorem wE(P:QD)(T:TypeId){r:QA}(h:r.size=(zc P T).size):spl (repC (zc P T) 1) 0 r.toList=r:=by
 have e:repC (zc P T) 1=zc P T:=by unfold repC repL repL;simp
 rw[e];exact lU h
theorem qx(S X:QA):(Ub8 PZ S X).size=36:=by
 unfold Ub8;refine Znj (λ_ (r:QA)=>r.size=36) oy (λk s _ A=> ?_) 36 (Nat.le_refl _);unfold Ue1;split
 ·rw[jR];exact A
 ·exact A
theorem Ztu(S:QA)(c b:Int)(n:Nat):(byV PZ S c b n).size=36:=qx _ _
theorem Yxh{c b:Int}(J:0<=c/\c<=35):WT PZ 129 (oneX PZ c b):=by
 have A:i64.min<=(1:Int)/\(1:Int)<=i64.max:=by have L:i64.min=-9223372036854775808:=rfl;have O:i64.max=9223372036854775807:=rfl;omega
 unfold oneX;exact Zqv (k:=.i64) (Zqv (k:=.i64) (Zqv (k:=.i8) (WT.zero (by kernel_rfl)) ky.1 (Zhx .i8 _)) (Zq7 (by omega) (by omega)) A) (Zq7 (by omega) (by omega)) A
theorem wF{S:QA}{c b:Int}(A:Zab c S=true)(J:Zaa b 0 1=true):(0<=num (oneX PZ c b) 0/\num (oneX PZ c b) 0<2)/\(0<=num (oneX PZ c b) 1/\num (oneX PZ c b) 1<=14):=by have L:=Zik J;obtain⟨n0,O,_,_⟩:=Ybr (c:=c) (b:=b) L (Zkk A);rw[n0,O];omega
theorem one_zero{S:QA}(L:WT PZ 38 S){c b:Int}(A:Zab c S=true)(O:Zaa b 0 1=true):ZO S (oneX PZ c b):=by
 intro k hk U;have V:=Zkk A;rw[(Ybr (c:=c) (b:=b) (Zik O) V).2.2.2 k hk,if_neg];intro e;have J:(k:Int)=c:=by omega
 rw[<- J,mS L hk,U]at A;cases A
theorem ju{S:QA}(O:WT PZ 38 S)(A:okS S=true){c b:Int}(J:Zab c S=true)(L:Zaa b 0 1=true){j:Nat}(V:j<=14):goG S (Uar PZ S (oneX PZ c b) j)=true:=by obtain⟨U,Z⟩:=wF J L;have hl:=qj (S:=S) U Z j V;have n1:=(Ybr (c:=c) (b:=b) (Zik L) (Zkk J)).2.1;exact wA.2 ⟨A,by rw[hl.1];exact U,by rw[hl.2,n1];omega,AV (Yxh (Zkk J)) A O (one_zero O J L) j⟩
def recC(P:QD)(S:QA)(c b:Int):Nat->QA
 |0=>byV P S c b 0
 |n+1=>recC P S c b n++byV P S c b (n+1)
theorem wG(S:QA)(c b:Int):∀n,(recC PZ S c b n).size=(n+1)*36
 |0=>Ztu _ _ _ _
 |n+1=>by rw[recC,jP,wG S c b n,Ztu];omega
theorem qy(S:QA)(c b:Int):∀(n j:Nat),j<=n->(recC PZ S c b n).extract (j*36) (j*36+36)=byV PZ S c b j
 |0,j,hj=>by
  obtain rfl:j=0:=by omega
  rw[recC];exact vF (Ztu _ _ _ _)
 | n+1,j,hj=>by
  have hz:=wG S c b n
  by_cases h:j<=n
  ·rw[<- qy S c b n j h,recC];refine jQ λi=> ?_
   rw[jN,jN,jP,hz,Ztu]
   by_cases hi:i<min (j*36+36) ((n+1)*36) - j*36
   ·rw[if_pos (by omega),if_pos hi,Array.getElem?_append,if_pos (by omega)]
   ·rw[if_neg (by omega),if_neg hi]
  ·obtain rfl:j=n+1:=by omega
   rw[recC];refine jQ λi=> ?_
   rw[jN,jP,hz,Ztu]
   by_cases hi:i<36
   ·rw[if_pos (by omega),Array.getElem?_append,if_neg (by omega),hz,show (n+1)*36+i - (n+1)*36=i by omega]
   ·rw[if_neg (by omega),jO (by rw[Ztu];omega)]
theorem dk(a:Int)(h:1<=a/\a<=14):i64.wrap (a - 1)=a - 1/\(i64.wrap (a - 1)).toNat=a.toNat - 1:=by rw[aI (by omega)];omega
def Zko(J L A:Int)(O:QA):St:=(⟨.a (.w 0)::.a (.i .i64 J)::.a (.i .i64 L)::.a (.i .i64 A)::us 4 (.a (.w 1)::.a (.w 7)::.a (.w 15)::.a (.i .i64 0)::.a (.w 0)::.a (.i .i64 J)::.a (.i .i64 L)::.a (.i .i64 A)::.a (.g (byV PZ O J L A.toNat) 97)::.a (.w 0)::.a (.i .i64 J)::.a (.i .i64 L)::.a (.i .i64 A)::.a (.i .i64 (i64.wrap (A - (1:Int))))::.a (.g (byV PZ O J L (i64.wrap (A - (1:Int))).toNat) 97)::us 14 ([])),[.row O 38,.row (zc PZ 97) 97,.no,.no,.no,.no,.no,.row (byV PZ O J L A.toNat) 97,.no,.no,.no,.no,.no,.no,.no,.row (byV PZ O J L (i64.wrap (A - (1:Int))).toNat) 97,.no],[15,7]⟩:St)
def Zm4:Int×QA->LS
 |(A,J)=>([.a (.i .i64 A)],[.row J 97])
def qz:Int×QA->QP×LS
 |t=>((.exit 0),Zm4 t)
def Zfa(P:QD)(L O U:Int)(V:QA):Int×QA->Option (Stp (Int×QA) (Int×QA))
 |(A,J)=>bif decide (A<(36:Int)) then (bif (decide (0<=A)&&decide (A<36)) then (bif (decide (0<=A)&&decide (A<36)) then (bif (decide (0<=A)&&decide (A<36)) then (some (.more ((i64.wrap (A+(1:Int))),(J.setIfInBounds ((A).toNat*1) (.int .i64 (i64.wrap ((num J ((A).toNat*1)) - (i64.wrap ((12:Int)*(num (byV PZ V L O (i64.wrap (U - (1:Int))).toNat) ((A).toNat*1))))))))))) else (none)) else (none)) else (none)) else (some (.done (A,J)))
noncomputable abbrev aW:=codeOf f54
theorem Yo7(N:Nat)(J L O:Int)(U:QA):∀t:Int×QA,Uaf PZ (mkΓ [(76,con iF)]) N (cAt aW [1,1,1,0,1,0,0]) (pAt (Uaa aW [([11],[7])]).1 [1,1,1,0,1,0]) [11] [7] (Zko J L O U) (Zm4 t)=aa Zm4 qz (Zfa PZ J L O U t):=by
 rintro⟨A,V⟩
 conv=>rhs;simp only[Zfa,aM,aJ,aK,aL,Zm4,qz]
 kernel_rfl
def oz(P:QD)(N:Nat)(L O U:Int)(V:QA)(J:Int)(A:QA):Option (SV×Eff×Bool):=some (.a (.g A 97),.none,true)
theorem BF(N:Nat)(O U V:Int)(L:QA)(A:Int)(J:QA):(Uac 0 (kSeq (veC PZ (mkΓ [(76,con iF)]) N (cAt aW [1,1,1,1]) (pAt (Uaa aW [([11],[7])]).1 [1,1,1,1]) (SV×Eff×Bool)) (finK PZ [.row L 38] [.cell 8 97]))) (.exit 0) (left (writes (cAt aW [1,1,1,0,1,0,0])) [11] [7] (Zko O U V L) ([.a (.i .i64 A)],[.row J 97]))=oz PZ N O U V L A J:=by kernel_rfl
theorem BG(N:Nat)(J L O:Int)(A:QA):au (Uab (Uaf PZ (mkΓ [(76,con iF)]) N (cAt aW [1,1,1,0,1,0,0]) (pAt (Uaa aW [([11],[7])]).1 [1,1,1,0,1,0]) [11] [7] (Zko J L O A)) N ([.a (.i .i64 0)],[.row (byV PZ A J L O.toNat) 97])) (λe s=>(Uac 0 (kSeq (veC PZ (mkΓ [(76,con iF)]) N (cAt aW [1,1,1,1]) (pAt (Uaa aW [([11],[7])]).1 [1,1,1,1]) (SV×Eff×Bool)) (finK PZ [.row A 38] [.cell 8 97]))) e (left (writes (cAt aW [1,1,1,0,1,0,0])) [11] [7] (Zko J L O A) s))=Uah (Uab (Zfa PZ J L O A) N ((0:Int),(byV PZ A J L O.toNat))) (λx=>oz PZ N J L O A x.1 x.2):=by refine aP Zm4 qz _ _ (Yo7 N J L O A) N ((0:Int),(byV PZ A J L O.toNat)) _ _ ?_;intro x;exact BF N J L O A x.1 x.2
theorem Ync(N:Nat)(J L O:Int)(A:QA):ansV PZ (mkΓ [(76,con iF)]) N f54 [([11],[7])] [.w 0,.i .i64 J,.i .i64 L,.i .i64 O] [.row A 38]=(bif (okS A&&((Zab J A&&Zaa L 0 1)&&Zaa O 0 14)) then (bif (okS A&&((Zab J A&&Zaa L 0 1)&&Zaa (i64.wrap (O - (1:Int))) 0 14)) then (Uah (Uab (Zfa PZ J L O A) N ((0:Int),(byV PZ A J L O.toNat))) (λx=>oz PZ N J L O A x.1 x.2)) else (none)) else (none)):=by
 conv=>rhs;simp only[<- BG N J L O A]
 kernel_rfl
theorem BH(J L A:Int)(O:QA)(V:i64.min<=J/\J<=i64.max)(Z:i64.min<=L/\L<=i64.max)(b5:i64.min<=A/\A<=i64.max)(b7:WT PZ 38 O)(hg:((okS O&&((Zab J O&&Zaa L 0 1)&&Zaa A 1 14)))=true):ansV PZ (mkΓ [(76,con iF)]) 1000 f54 [([11],[7])] [.w 0,.i .i64 J,.i .i64 L,.i .i64 A] [.row O 38]=some (.a (.g (subV (byV PZ O J L A.toNat) (byV PZ O J L (A.toNat - 1)) 12) 97),.none,true):=by
 simp only[Q7]at hg;obtain⟨q0,⟨q1,q2⟩,q3⟩:=hg;have r3:=Zik q3;obtain⟨e1,e2⟩:=dk A r3;refine(Ync 1000 J L A O).trans ?_;rw[q0,q1,q2,dj (x:=A) (a:=0) (b:=14) (by omega),dj (x:=i64.wrap (A - 1)) (a:=0) (b:=14) (by omega)];simp only[jB,Q1];have h:=iB (g:=Zfa PZ J L A O) (λr k=>((k:Int),r)) (subF (byV PZ O J L (A.toNat - 1)) 12) (m:=36) (t:=byV PZ O J L A.toNat) (x:=((36:Int),subV (byV PZ O J L A.toNat) (byV PZ O J L (A.toNat - 1)) 12)) (N:=1000) (λk s hk _=>by
  have U:decide ((k:Int)<36)=true:=Q3 (by omega);have h0:decide (0<=(k:Int))=true:=Q3 (by omega);have h3:i64.wrap ((k:Int)+1)=((k+1:Nat):Int):=by rw[aI (by omega)];omega
  simp only[Zfa,U,h0,h3,e2,Q9,jB,Q1];unfold subF;rw[Int.mul_comm (12:Int)]) (by
  have U:decide (((36:Nat):Int)<36)=false:=by decide
  simp only[Zfa,U,Q2];rfl) (by omega)
 have hq:∀q,Uab (Zfa PZ J L A O) 1000 ((0:Int),byV PZ O J L A.toNat)=some ((36:Int),q)->Uah (Uab (Zfa PZ J L A O) 1000 ((0:Int),byV PZ O J L A.toNat)) (λx=>oz PZ 1000 J L A O x.1 x.2)=some (.a (.g q 97),.none,true):=λq e=>by rw[e];rfl
 exact hq _ h
def qA:af:=λargs h=>match args,h with|[.w 0,.i .i64 a1,.i .i64 a2,.i .i64 a3],[.row a0 38]=>some (.a (.g (subV (byV PZ a0 a1 a2 a3.toNat) (byV PZ a0 a1 a2 (a3.toNat - 1)) 12) 97),.none,(okS a0&&((Zab a1 a0&&Zaa a2 0 1)&&Zaa a3 1 14)))|_,_=>none
theorem BI:EntX PZ 54:=Zaj (fn:=f54)
theorem BJ:Uad (md F) PZ 54 qA:=(ansY (N:=1000) (mKc (Zae BD) BC mKn) f54 [([11],[7])]).of (by
 intro ρ h w args vals r e J O A;unfold qA at A;split at A
 ·rename_i U V Z a0;obtain⟨rfl,rfl,L⟩:=ai A;exact BH U V Z a0 (J.rng 1 rfl) (J.rng 2 rfl) (J.rng 3 rfl) (O.wt 0 rfl) L
 ·cases A)
def Zdz(J A:Int)(L:QO)(O:Nat)(U:QA):St:=(⟨.a (.l 0)::.a (.i .i64 J)::.a (.i .i64 A)::us 3 (.a (.w 1)::.a (.w 6)::.a (.u)::.a (.u)::.a (.l 0)::.a (.i .i64 A)::.a (.q 0 (((A).toNat*36)) 97)::.a (.g (U.extract ((A).toNat*36) (((A).toNat*36)+36)) 97)::.a (.l 0)::.a (.i .i64 J)::.a (.q 0 (((J).toNat*36)) 97)::.a (.g (U.extract ((J).toNat*36) (((J).toNat*36)+36)) 97)::.a (.i .i64 0)::us 16 ([])),[.sl (.came L) O U 97,.row (zc PZ 97) 97,.no,.no,.no,.no,.row (U.extract ((A).toNat*36) (((A).toNat*36)+36)) 97,.no],[6]⟩:St)
def Ze8:Int×QA->LS
 |(A,J)=>([.a (.i .i64 A)],[.row J 97])
def qB:Int×QA->QP×LS
 |t=>((.exit 0),Ze8 t)
def Zbe(P:QD)(L O:Int)(U:QO)(V:Nat)(Z:QA):Int×QA->Option (Stp (Int×QA) (Int×QA))
 |(A,J)=>bif decide (A<(36:Int)) then (bif (decide (0<=A)&&decide (A<36)) then (bif (decide (0<=A)&&decide (A<36)) then (bif (decide (0<=(i64.wrap (O - L)))&&decide ((i64.wrap (O - L))<=14)) then (bif (decide (0<=A)&&decide (A<36)) then (some (.more ((i64.wrap (A+(1:Int))),(J.setIfInBounds ((A).toNat*1) (.int .i64 (i64.wrap ((num J ((A).toNat*1)) - (i64.wrap ((num (Z.extract ((L).toNat*36) (((L).toNat*36)+36)) ((A).toNat*1))*(12^(i64.wrap (O - L)).toNat)))))))))) else (none)) else (none)) else (none)) else (none)) else (some (.done (A,J)))
noncomputable abbrev aE:=codeOf f108
theorem Zy1(N:Nat)(O U:Int)(A:QO)(J:Nat)(V:QA):∀t:Int×QA,Uaf PZ (mkΓ [(117,con iP)]) N (cAt aE [1,1,0,1,0,0]) (pAt (Uaa aE [([18],[6])]).1 [1,1,0,1,0]) [18] [6] (Zdz O U A J V) (Ze8 t)=aa Ze8 qB (Zbe PZ O U A J V t):=by
 rintro⟨L,Z⟩
 conv=>rhs;simp only[Zbe,aM,aJ,aK,aL,Ze8,qB]
 kernel_rfl
def oB(P:QD)(N:Nat)(U V:Int)(L:QO)(O:Nat)(Z:QA)(J:Int)(A:QA):Option (SV×Eff×Bool):=some (.a (.g A 97),.none,true)
theorem BK(N:Nat)(V Z:Int)(A:QO)(J:Nat)(U:QA)(L:Int)(O:QA):(Uac 0 (kSeq (veC PZ (mkΓ [(117,con iP)]) N (cAt aE [1,1,1]) (pAt (Uaa aE [([18],[6])]).1 [1,1,1]) (SV×Eff×Bool)) (finK PZ [.sl (.came A) J U 97] [.cell 6 97]))) (.exit 0) (left (writes (cAt aE [1,1,0,1,0,0])) [18] [6] (Zdz V Z A J U) ([.a (.i .i64 L)],[.row O 97]))=oB PZ N V Z A J U L O:=by kernel_rfl
theorem BL(N:Nat)(U L:Int)(A:QO)(J:Nat)(O:QA):au (Uab (Uaf PZ (mkΓ [(117,con iP)]) N (cAt aE [1,1,0,1,0,0]) (pAt (Uaa aE [([18],[6])]).1 [1,1,0,1,0]) [18] [6] (Zdz U L A J O)) N ([.a (.i .i64 0)],[.row (O.extract ((L).toNat*36) (((L).toNat*36)+36)) 97])) (λe s=>(Uac 0 (kSeq (veC PZ (mkΓ [(117,con iP)]) N (cAt aE [1,1,1]) (pAt (Uaa aE [([18],[6])]).1 [1,1,1]) (SV×Eff×Bool)) (finK PZ [.sl (.came A) J O 97] [.cell 6 97]))) e (left (writes (cAt aE [1,1,0,1,0,0])) [18] [6] (Zdz U L A J O) s))=Uah (Uab (Zbe PZ U L A J O) N ((0:Int),(O.extract ((L).toNat*36) (((L).toNat*36)+36)))) (λx=>oB PZ N U L A J O x.1 x.2):=by refine aP Ze8 qB _ _ (Zy1 N U L A J O) N ((0:Int),(O.extract ((L).toNat*36) (((L).toNat*36)+36))) _ _ ?_;intro x;exact BK N U L A J O x.1 x.2
theorem Zu9(N:Nat)(O L:Int)(J:QO)(A:Nat)(U:QA):ansV PZ (mkΓ [(117,con iP)]) N f108 [([18],[6])] [.l 0,.i .i64 O,.i .i64 L] [.sl (.came J) A U 97]=(bif (decide (0<=L)&&decide (L<(A:Int))) then (bif (decide (0<=O)&&decide (O<(A:Int))) then (Uah (Uab (Zbe PZ O L J A U) N ((0:Int),(U.extract ((L).toNat*36) (((L).toNat*36)+36)))) (λx=>oB PZ N O L J A U x.1 x.2)) else (none)) else (none)):=by
 conv=>rhs;simp only[<- BL N O L J A U]
 kernel_rfl
theorem BM(L J:Int)(O:QO)(A:Nat)(U:QA)(Z:i64.min<=L/\L<=i64.max)(b5:i64.min<=J/\J<=i64.max)(b7:U.size=A*(lay PZ 97).length/\(∀k,k<A->WT PZ 97 (U.extract (k*(lay PZ 97).length) (k*(lay PZ 97).length+(lay PZ 97).length)))/\A<=9223372036854775807)(hg:(((decide (0<=L)&&decide (L<=J))&&(decide (J<=L+14)&&decide (J<(A:Int)))))=true):ansV PZ (mkΓ [(117,con iP)]) 1000 f108 [([18],[6])] [.l 0,.i .i64 L,.i .i64 J] [.sl (.came O) A U 97]=some (.a (.g (subV (U.extract (J.toNat*36) (J.toNat*36+36)) (U.extract (L.toNat*36) (L.toNat*36+36)) (12^(J - L).toNat)) 97),.none,true):=by
 simp only[Q7,decide_eq_true_eq]at hg;obtain⟨⟨q0,q1⟩,q2,q3⟩:=hg;have ew:i64.wrap (J - L)=J - L:=aI (by omega);refine(Zu9 1000 L J O A U).trans ?_;rw[cl (show 0<=J by omega) q3,cl q0 (show L<(A:Int) by omega)];simp only[Q1];have hq:∀q,Uab (Zbe PZ L J O A U) 1000 ((0:Int),U.extract (J.toNat*36) (J.toNat*36+36))=some ((36:Int),q)->Uah (Uab (Zbe PZ L J O A U) 1000 ((0:Int),U.extract (J.toNat*36) (J.toNat*36+36))) (λx=>oB PZ 1000 L J O A U x.1 x.2)=some (.a (.g q 97),.none,true):=λq e=>by rw[e];rfl
 refine hq _ ?_;unfold subV;have hF:∀(k:Nat) (s:QA),k<36->Zbe PZ L J O A U ((k:Int),s)=some (.more (((k+1:Nat):Int),subF (U.extract (L.toNat*36) (L.toNat*36+36)) (12^(J - L).toNat) s k)):=λk s hk=>by
  have V:decide ((k:Int)<36)=true:=Q3 (by omega);have h0:decide (0<=(k:Int))=true:=Q3 (by omega);have h3:i64.wrap ((k:Int)+1)=((k+1:Nat):Int):=by rw[aI (by omega)];omega
  have h4:decide (0<=J - L)=true:=Q3 (by omega);have h5:decide (J - L<=14)=true:=Q3 (by omega);simp only[Zbe,V,h0,h3,ew,h4,h5,Q9,jB,Q1,subF]
 generalize U.extract (J.toNat*36) (J.toNat*36+36)=C;generalize hD:U.extract (L.toNat*36) (L.toNat*36+36)=D at hF|-
 generalize hm:(12:Int)^(J - L).toNat=m at hF|-
 exact iB (g:=Zbe PZ L J O A U) (λr k=>((k:Int),r)) (subF D m) (m:=36) (t:=C) (x:=((36:Int),folds (subF D m) C 36)) (N:=1000) (λk s hk _=>hF k s hk) (by
  have V:decide (((36:Nat):Int)<36)=false:=by decide
  generalize folds (subF D m) C 36=q;simp only[Zbe,V,Q2];rfl) (by omega)
def oD:af:=λargs h=>match args,h with|[.l 0,.i .i64 a1,.i .i64 a2],[.sl (.came b_a0) n_a0 a0 97]=>some (.a (.g (subV (a0.extract (a2.toNat*36) (a2.toNat*36+36)) (a0.extract (a1.toNat*36) (a1.toNat*36+36)) (12^(a2 - a1).toNat)) 97),.none,((decide (0<=a1)&&decide (a1<=a2))&&(decide (a2<=a1+14)&&decide (a2<(n_a0:Int)))))|_,_=>none
theorem BN:EntX PZ 108:=Zaj (fn:=f108)
theorem BO:Uad (md F) PZ 108 oD:=(ansY (N:=1000) (mKc (Zae HL) HK mKn) f108 [([18],[6])]).of (by
 intro ρ h w args vals r e U V L;unfold oD at L;split at L
 ·rename_i Z a2 A J a0;obtain⟨rfl,rfl,O⟩:=ai L;exact BM Z a2 A J a0 (U.rng 1 rfl) (U.rng 2 rfl) (V.slw 0 rfl) O
 ·cases L)
def lu:Cons:=(mkΓ [(85,con qr),(86,con qu),(87,con qk)])
def Zgq(L:QA)(A J O:Int):St:=(⟨.a (.g L 38)::.a (.i .i64 A)::.a (.i .i64 J)::.a (.i .i64 O)::.a (.w 0)::us 3 (.a (.v (.slice none 0 0))::.a (.w 5)::.a (.l 12)::.a (.i .i64 A)::.a (.i .i64 J)::.a (.g (Zay PZ A (1:Int) J) 129)::.a (.g L 38)::.a (.g (Zay PZ A (1:Int) J) 129)::.a (.g (Ub8 PZ L (Zay PZ A (1:Int) J)) 97)::.a (.l 10)::.a (.i .i64 O)::.a (.i .i64 0)::us 12 ([])),[.row L 38,.no,.no,.no,.no,.row (Zay PZ A (1:Int) J) 129,.no,.no,.no,.no,.sp,.no,.sl .own 1 (spl (repC (zc PZ 97) 1) 0 (Ub8 PZ L (Zay PZ A (1:Int) J)).toList) 97],[10,5]⟩:St)
def Zi1:Int×QA×Nat×QA->LS
 |(A,O,J,L)=>([.a (.i .i64 A),.a (.l 12)],[.row O 129,.sl .own J L 97])
def qC:Int×QA×Nat×QA->QP×LS
 |t=>((.exit 0),Zi1 t)
def Zd8(P:QD)(U:QA)(Z a2 V:Int):Int×QA×Nat×QA->Option (Stp (Int×QA×Nat×QA) (Int×QA×Nat×QA))
 |(A,L,J,O)=>bif decide (A<V) then (bif (goG U L) then (bif okS U then (bif (jA ((J+1)*bytesOf PZ 97) 140737488355328) then (some (.more ((i64.wrap (A+(1:Int))),(Ubn PZ U L),(J+1),(O++(spl (repC (zc PZ 97) 1) 0 (Ub8 PZ U (Ubn PZ U L)).toList))))) else (none)) else (none)) else (none)) else (some (.done (A,L,J,O)))
noncomputable abbrev aX:=codeOf f60
theorem Yh3(N:Nat)(O:QA)(U V Z:Int):∀t:Int×QA×Nat×QA,Ubi PZ lu N (cAt aX [1,1,1,0,1,0,0]) (pAt (Uaa aX [([19],[5,1000010,97])]).1 [1,1,1,0,1,0]) [19] [5] 10 97 12 (Zgq O U V Z) (Zi1 t)=aa Zi1 qC (Zd8 PZ O U V Z t):=by
 rintro⟨A,b5,J,L⟩
 conv=>rhs;simp only[Zd8,aM,aJ,aK,aL,Zi1,qC]
 kernel_rfl
def qD(P:QD)(N:Nat)(U:QA)(V Z a3:Int)(L:Int)(O:QA)(A:Nat)(J:QA):Option (SV×Eff×Bool):=some (.a .x,.newS none A J 97,true)
theorem BP(N:Nat)(U:QA)(V Z a3:Int)(A:Int)(O:QA)(J:Nat)(L:QA):(Uac 0 (kSeq (veC PZ lu N (cAt aX [1,1,1,1]) (pAt (Uaa aX [([19],[5,1000010,97])]).1 [1,1,1,1]) (SV×Eff×Bool)) (finK PZ [] [.tmp 8]))) (.exit 0) (left (writes (cAt aX [1,1,1,0,1,0,0])) [19,10] [5,12] (Zgq U V Z a3) ([.a (.i .i64 A),.a (.l 12)],[.row O 129,.sl .own J L 97]))=qD PZ N U V Z a3 A O J L:=by kernel_rfl
theorem BQ(N:Nat)(L:QA)(A J O:Int):au (Uab (Ubi PZ lu N (cAt aX [1,1,1,0,1,0,0]) (pAt (Uaa aX [([19],[5,1000010,97])]).1 [1,1,1,0,1,0]) [19] [5] 10 97 12 (Zgq L A J O)) N ([.a (.i .i64 0),.a (.l 12)],[.row (Zay PZ A (1:Int) J) 129,.sl .own 1 (spl (repC (zc PZ 97) 1) 0 (Ub8 PZ L (Zay PZ A (1:Int) J)).toList) 97])) (λe s=>(Uac 0 (kSeq (veC PZ lu N (cAt aX [1,1,1,1]) (pAt (Uaa aX [([19],[5,1000010,97])]).1 [1,1,1,1]) (SV×Eff×Bool)) (finK PZ [] [.tmp 8]))) e (left (writes (cAt aX [1,1,1,0,1,0,0])) [19,10] [5,12] (Zgq L A J O) s))=Uah (Uab (Zd8 PZ L A J O) N ((0:Int),(Zay PZ A (1:Int) J),1,(spl (repC (zc PZ 97) 1) 0 (Ub8 PZ L (Zay PZ A (1:Int) J)).toList))) (λx=>qD PZ N L A J O x.1 x.2.1 x.2.2.1 x.2.2.2):=by refine aP Zi1 qC _ _ (Yh3 N L A J O) N ((0:Int),(Zay PZ A (1:Int) J),1,(spl (repC (zc PZ 97) 1) 0 (Ub8 PZ L (Zay PZ A (1:Int) J)).toList)) _ _ ?_;intro x;exact BP N L A J O x.1 x.2.1 x.2.2.1 x.2.2.2
theorem Ygj(N:Nat)(J:QA)(A L O:Int):ansV PZ lu N f60 [([19],[5,1000010,97])] [.g J 38,.i .i64 A,.i .i64 L,.i .i64 O] []=(bif (decide (0<=A)&&decide (A<36)) then (bif okS J then (Uah (Uab (Zd8 PZ J A L O) N ((0:Int),(Zay PZ A (1:Int) L),1,(spl (repC (zc PZ 97) 1) 0 (Ub8 PZ J (Zay PZ A (1:Int) L)).toList))) (λx=>qD PZ N J A L O x.1 x.2.1 x.2.2.1 x.2.2.2)) else (none)) else (none)):=by
 conv=>rhs;simp only[<- BQ N J A L O]
 kernel_rfl
theorem BR(L:QA)(A J O:Int)(U:WT PZ 38 L)(b5:i64.min<=A/\A<=i64.max)(b7:i64.min<=J/\J<=i64.max)(b9:i64.min<=O/\O<=i64.max)(hg:((okS L&&((Zab A L&&Zaa J 0 1)&&Zaa O 0 14)))=true):ansV PZ lu 1000 f60 [([19],[5,1000010,97])] [.g L 38,.i .i64 A,.i .i64 J,.i .i64 O] []=some (.a .x,.newS none (O.toNat+1) (recC PZ L A J O.toNat) 97,true):=by
 simp only[Q7]at hg;obtain⟨V,⟨q1,q2⟩,q3⟩:=hg;have r1:=Zkk q1;have r3:=Zik q3;obtain⟨m,rfl⟩:=jM r3.1;refine(Ygj 1000 L A J (m:Int)).trans ?_;rw[cl r1.1 (show A<36 by omega),V];simp only[Q1];have e0:Zay PZ A 1 J=oneX PZ A J:=rfl;have e1:spl (repC (zc PZ 97) 1) 0 (Ub8 PZ L (oneX PZ A J)).toList=recC PZ L A J 0:=wE PZ 97 (by rw[qx,oy]);rw[e0,e1,Q9];have h:=bP (g:=Zd8 PZ L A J (m:Int)) (λj=>((j:Int),Uar PZ L (oneX PZ A J) j,j+1,recC PZ L A J j)) (m:=m) (x:=((m:Int),Uar PZ L (oneX PZ A J) m,m+1,recC PZ L A J m)) (N:=1000) (λj hj=>by
  have Z:decide ((j:Int)<(m:Int))=true:=Q3 (by omega);have h3:i64.wrap ((j:Int)+1)=((j+1:Nat):Int):=by rw[aI (by omega)];omega
  have h4:=ju U V q1 q2 (show j<=14 by omega);have h6:jA ((j+1+1)*bytesOf PZ 97) 140737488355328=true:=Nat.ble_eq_true_of_le (by rw[BE];omega);have h7:spl (repC (zc PZ 97) 1) 0 (Ub8 PZ L (Ubn PZ L (Uar PZ L (oneX PZ A J) j))).toList=byV PZ L A J (j+1):=wE PZ 97 (by rw[qx,oy]);simp only[Zd8,Z,h3,h4,V,h6,h7,Q1];rfl) (by
  have Z:decide ((m:Int)<(m:Int))=false:=Q4 (by omega);simp only[Zd8,Z,Q2]) (by omega)
 have h':Uab (Zd8 PZ L A J (m:Int)) 1000 ((0:Int),oneX PZ A J,1,recC PZ L A J 0)=some ((m:Int),Uar PZ L (oneX PZ A J) m,m+1,recC PZ L A J m):=h;rw[h'];rfl
def qE:af:=λargs h=>match args,h with|[.g a0 38,.i .i64 a1,.i .i64 a2,.i .i64 a3],[]=>some (.a .x,.newS none (a3.toNat+1) (recC PZ a0 a1 a2 a3.toNat) 97,(okS a0&&((Zab a1 a0&&Zaa a2 0 1)&&Zaa a3 0 14)))|_,_=>none
theorem BT:EntX PZ 60:=Zaj (fn:=f60)
theorem BU:Uad (md F) PZ 60 qE:=(ansY (N:=1000) (mKc (Zae Bs) Br (mKc (Zae By) Bx (mKc (Zae AX) AW mKn))) f60 [([19],[5,1000010,97])]).of (by
 intro ρ h w args vals r e A hH J;unfold qE at J;split at J
 ·rename_i O U V Z;obtain⟨rfl,rfl,L⟩:=ai J;exact BR O U V Z (A.wt 0 rfl) (A.rng 1 rfl) (A.rng 2 rfl) (A.rng 3 rfl) L
 ·cases J)
end
noncomputable section
variable {F:Vc.Fd}
def qF:af:=λargs h=>match args,h with|[.g a0 38,.i .i64 a1,.i .i64 a2,.b a3],[.gl 0 185 g_e0 101973,.gl 1 185 g_e1 93330,.gl 3 185 g_e2 124718,.gl 2 185 g_e3 112315,.gl 4 185 g_e4 94254]=>some (.a (.e 2),.none,(okS a0&&(rl a0 a1 a2 a3&&(Zah a1 a0))))|_,_=>none
theorem BV:Uad (md F) PZ 59 qF:=Uad.of ox (by
 intro ρ h w args vals r e hA hH J;unfold qF at J;split at J
 ·rename_i a0 a1 a2 a3 L O U V Z;obtain⟨rfl,rfl,A⟩:=ai J
  try simp only[Q7,Bool.not_eq_true']at A
  obtain⟨q0,q1,q2⟩:=A
  show Uak (Za4 _ _)=_
  unfold Za4;simp only[Uak,q0,q1,q2,Q1,Q2]
 ·cases J)
def qG:af:=λargs h=>match args,h with|[.g a0 38,.i .i64 a1,.i .i64 a2,.b a3],[.gl 0 185 g_e0 101973,.gl 1 185 g_e1 93330,.gl 3 185 g_e2 124718,.gl 2 185 g_e3 112315,.gl 4 185 g_e4 94254]=>some (.a (.v .nilIface),.none,(okS a0&&(rl a0 a1 a2 a3&&((!(Zah a1 a0))))))|_,_=>none
theorem BW:Uad (md F) PZ 59 qG:=Uad.of ox (by
 intro ρ h w args vals r e hA hH J;unfold qG at J;split at J
 ·rename_i a0 a1 a2 a3 L O U V Z;obtain⟨rfl,rfl,A⟩:=ai J
  try simp only[Q7,Bool.not_eq_true']at A
  obtain⟨q0,q1,q2⟩:=A
  show Uak (Za4 _ _)=_
  unfold Za4;simp only[Uak,q0,q1,q2,Q1,Q2]
 ·cases J)
def qH:af:=λargs h=>match args,h with|[.g a0 38,.i .i64 a1,.i .i64 a2,.b a3],[.gl 0 185 g_e0 101973,.gl 1 185 g_e1 93330,.gl 3 185 g_e2 124718,.gl 2 185 g_e3 112315,.gl 4 185 g_e4 94254]=>some (.a (.e 1),.none,(okS a0&&((!(rl a0 a1 a2 a3)))))|_,_=>none
theorem BX:Uad (md F) PZ 59 qH:=Uad.of ox (by
 intro ρ h w args vals r e hA hH J;unfold qH at J;split at J
 ·rename_i a0 a1 a2 a3 L O U V Z;obtain⟨rfl,rfl,A⟩:=ai J
  try simp only[Q7,Bool.not_eq_true']at A
  obtain⟨q0,q1⟩:=A
  show Uak (Za4 _ _)=_
  unfold Za4;simp only[Uak,q0,q1,Q1,Q2]
 ·cases J)
def qI:af:=λargs h=>match args,h with|[.g a0 38,.i .i64 a1,.i .i64 a2,.b a3],[.gl 0 185 g_e0 101973,.gl 1 185 g_e1 93330,.gl 3 185 g_e2 124718,.gl 2 185 g_e3 112315,.gl 4 185 g_e4 94254]=>some (.a (.e 0),.none,(!(okS a0)))|_,_=>none
theorem BY:Uad (md F) PZ 59 qI:=Uad.of ox (by
 intro ρ h w args vals r e hA hH J;unfold qI at J;split at J
 ·rename_i a0 a1 a2 a3 L O U V Z;obtain⟨rfl,rfl,A⟩:=ai J
  try simp only[Q7,Bool.not_eq_true']at A
  have q0:=A
  show Uak (Za4 _ _)=_
  unfold Za4;simp only[Uak,q0,Q1,Q2]
 ·cases J)
end
noncomputable section
variable {F:Vc.Fd}
def len8:ByteArray:=⟨#[0,1,2,2,3,3,3,3,4,4,4,4,4,4,4,4,5,5,5,5,5,5,5,5,5,5,5,5,5,5,5,5,6,6,6,6,6,6,6,6,6,6,6,6,6,6,6,6,6,6,6,6,6,6,6,6,6,6,6,6,6,6,6,6,7,7,7,7,7,7,7,7,7,7,7,7,7,7,7,7,7,7,7,7,7,7,7,7,7,7,7,7,7,7,7,7,7,7,7,7,7,7,7,7,7,7,7,7,7,7,7,7,7,7,7,7,7,7,7,7,7,7,7,7,7,7,7,7,8,8,8,8,8,8,8,8,8,8,8,8,8,8,8,8,8,8,8,8,8,8,8,8,8,8,8,8,8,8,8,8,8,8,8,8,8,8,8,8,8,8,8,8,8,8,8,8,8,8,8,8,8,8,8,8,8,8,8,8,8,8,8,8,8,8,8,8,8,8,8,8,8,8,8,8,8,8,8,8,8,8,8,8,8,8,8,8,8,8,8,8,8,8,8,8,8,8,8,8,8,8,8,8,8,8,8,8,8,8,8,8,8,8,8,8,8,8,8,8,8,8,8,8,8,8,8,8]⟩
def Uau(a:Int):Int:=bif decide (0<a) then (jC a.toNat:Int)+1 else 0
theorem dl:(jD 256).all (λi=>Ucl len8 i==(if i=0 then 0 else (jC i:Int)+1))=true:=by decide +kernel
theorem fF{m:Nat}(h:m<256):Ucl len8 m=(if m=0 then 0 else (jC m:Int)+1):=eq_of_beq (jJ.1 dl m (jG.2 h))
theorem BZ{n s:Nat}(h:1<=n / 2^s):jC n=jC (n / 2^s)+s:=by
 have A:0<2^s:=Nat.pow_pos (by omega);have L:n≠0:=by rintro rfl;simp at h
 refine(Nat.log2_eq_iff L).2 ?_;obtain⟨J,h2⟩:=(Nat.log2_eq_iff (show n / 2^s≠0 by omega)).1 rfl;generalize jC (n / 2^s)=j at J h2;constructor
 ·rw[Nat.pow_add];exact(Nat.le_div_iff_mul_le A).1 J
 ·rw[show j+s+1=(j+1)+s by omega,Nat.pow_add];exact(Nat.div_lt_iff_lt_mul A).1 h2
theorem wH(n:Nat):Uau (n:Int)=if n=0 then 0 else (jC n:Int)+1:=by
 unfold Uau
 by_cases h:n=0
 ·subst h;rfl
 ·rw[Q3 (show (0:Int)<n by omega),if_neg h,Q9];rfl
theorem mw(n k:Nat)(b:Nat)(h:k<=b):((n:Int)).fdiv (2^(min k b))=((n / 2^k:Nat):Int):=by rw[Nat.min_eq_left h,jS _ (Int.le_of_lt (Int.pow_pos (by omega)))];simp
theorem iG{n s:Nat}(C:Int)(Z:s<=56)(J:n / 2^s<256)(A:s=0\/1<=n / 2^s)(U:C=s):
  (bif (decide (0<=IntKind.u8.wrap ((n / 2^s:Nat):Int))&&decide (IntKind.u8.wrap ((n / 2^s:Nat):Int)<(len8.size:Int))) then (some (.a (.i .i64 (i64.wrap (C+i64.wrap (Ucl len8 (IntKind.u8.wrap ((n / 2^s:Nat):Int)).toNat)))),.none,true)) else none:Option (SV×Eff×Bool))=some (.a (.i .i64 (Uau (n:Int))),.none,true):=by
 have V:IntKind.u8.wrap ((n / 2^s:Nat):Int)=((n / 2^s:Nat):Int):=(λ(q:Nat) (hq:q<256)=>(by rw[IntKind.wrap_u8];omega:IntKind.u8.wrap (q:Int)=(q:Int))) _ J;have L:(len8.size:Int)=256:=by decide +kernel
 rw[V,L,Q3 (Int.natCast_nonneg _),Q3 (show ((n / 2^s:Nat):Int)<256 from Int.ofNat_lt.2 J),Q9,fF J,wH];have hl:jC (n / 2^s)<=8:=by
  by_cases h0:n / 2^s=0
  ·rw[h0];decide
  ·exact Nat.le_of_lt ((Nat.log2_lt h0).2 (by omega))
 have key:C+(if n / 2^s=0 then 0 else (jC (n / 2^s):Int)+1)=if n=0 then 0 else (jC n:Int)+1:=by
  rcases A with rfl|A
  ·rw[Nat.pow_zero,Nat.div_one] at *;rw[U];simp
  ·rw[if_neg (by omega),if_neg (by rintro rfl;simp at A),BZ A,U];omega
 have O:i64.wrap (if n / 2^s=0 then 0 else (jC (n / 2^s):Int)+1)=(if n / 2^s=0 then 0 else (jC (n / 2^s):Int)+1):=IntWalk.i64_in _ (by split<;>omega);rw[O,key];have:i64.wrap (if n=0 then 0 else (jC n:Int)+1)=(if n=0 then 0 else (jC n:Int)+1):=IntWalk.i64_in _ (by rw[<- key];split<;>omega);rw[this];rfl
theorem Yap(N:Nat)(A:Int):ansV PZ (mkΓ []) N f109 [] [.i .u64 A] []=(bif decide (A>=(4294967296:Int)) then (bif decide (((A).fdiv (2^(min ((32:Int)).toNat IntKind.u64.bits)))>=(65536:Int)) then (bif decide (((((A).fdiv (2^(min ((32:Int)).toNat IntKind.u64.bits)))).fdiv (2^(min ((16:Int)).toNat IntKind.u64.bits)))>=(256:Int)) then (bif (decide (0<=(IntKind.u8.wrap ((((((A).fdiv (2^(min ((32:Int)).toNat IntKind.u64.bits)))).fdiv (2^(min ((16:Int)).toNat IntKind.u64.bits)))).fdiv (2^(min ((8:Int)).toNat IntKind.u64.bits)))))&&decide ((IntKind.u8.wrap ((((((A).fdiv (2^(min ((32:Int)).toNat IntKind.u64.bits)))).fdiv (2^(min ((16:Int)).toNat IntKind.u64.bits)))).fdiv (2^(min ((8:Int)).toNat IntKind.u64.bits))))<(len8.size:Int))) then (some (.a (.i .i64 (i64.wrap ((i64.wrap ((i64.wrap ((32:Int)+(16:Int)))+(8:Int)))+(i64.wrap (Ucl len8 ((IntKind.u8.wrap ((((((A).fdiv (2^(min ((32:Int)).toNat IntKind.u64.bits)))).fdiv (2^(min ((16:Int)).toNat IntKind.u64.bits)))).fdiv (2^(min ((8:Int)).toNat IntKind.u64.bits))))).toNat))))),.none,true)) else (none)) else (bif (decide (0<=(IntKind.u8.wrap ((((A).fdiv (2^(min ((32:Int)).toNat IntKind.u64.bits)))).fdiv (2^(min ((16:Int)).toNat IntKind.u64.bits)))))&&decide ((IntKind.u8.wrap ((((A).fdiv (2^(min ((32:Int)).toNat IntKind.u64.bits)))).fdiv (2^(min ((16:Int)).toNat IntKind.u64.bits))))<(len8.size:Int))) then (some (.a (.i .i64 (i64.wrap ((i64.wrap ((32:Int)+(16:Int)))+(i64.wrap (Ucl len8 ((IntKind.u8.wrap ((((A).fdiv (2^(min ((32:Int)).toNat IntKind.u64.bits)))).fdiv (2^(min ((16:Int)).toNat IntKind.u64.bits))))).toNat))))),.none,true)) else (none))) else (bif decide (((A).fdiv (2^(min ((32:Int)).toNat IntKind.u64.bits)))>=(256:Int)) then (bif (decide (0<=(IntKind.u8.wrap ((((A).fdiv (2^(min ((32:Int)).toNat IntKind.u64.bits)))).fdiv (2^(min ((8:Int)).toNat IntKind.u64.bits)))))&&decide ((IntKind.u8.wrap ((((A).fdiv (2^(min ((32:Int)).toNat IntKind.u64.bits)))).fdiv (2^(min ((8:Int)).toNat IntKind.u64.bits))))<(len8.size:Int))) then (some (.a (.i .i64 (i64.wrap ((i64.wrap ((32:Int)+(8:Int)))+(i64.wrap (Ucl len8 ((IntKind.u8.wrap ((((A).fdiv (2^(min ((32:Int)).toNat IntKind.u64.bits)))).fdiv (2^(min ((8:Int)).toNat IntKind.u64.bits))))).toNat))))),.none,true)) else (none)) else (bif (decide (0<=(IntKind.u8.wrap ((A).fdiv (2^(min ((32:Int)).toNat IntKind.u64.bits)))))&&decide ((IntKind.u8.wrap ((A).fdiv (2^(min ((32:Int)).toNat IntKind.u64.bits))))<(len8.size:Int))) then (some (.a (.i .i64 (i64.wrap ((32:Int)+(i64.wrap (Ucl len8 ((IntKind.u8.wrap ((A).fdiv (2^(min ((32:Int)).toNat IntKind.u64.bits))))).toNat))))),.none,true)) else (none)))) else (bif decide (A>=(65536:Int)) then (bif decide (((A).fdiv (2^(min ((16:Int)).toNat IntKind.u64.bits)))>=(256:Int)) then (bif (decide (0<=(IntKind.u8.wrap ((((A).fdiv (2^(min ((16:Int)).toNat IntKind.u64.bits)))).fdiv (2^(min ((8:Int)).toNat IntKind.u64.bits)))))&&decide ((IntKind.u8.wrap ((((A).fdiv (2^(min ((16:Int)).toNat IntKind.u64.bits)))).fdiv (2^(min ((8:Int)).toNat IntKind.u64.bits))))<(len8.size:Int))) then (some (.a (.i .i64 (i64.wrap ((i64.wrap ((i64.wrap ((0:Int)+(16:Int)))+(8:Int)))+(i64.wrap (Ucl len8 ((IntKind.u8.wrap ((((A).fdiv (2^(min ((16:Int)).toNat IntKind.u64.bits)))).fdiv (2^(min ((8:Int)).toNat IntKind.u64.bits))))).toNat))))),.none,true))
          else (none)) else (bif (decide (0<=(IntKind.u8.wrap ((A).fdiv (2^(min ((16:Int)).toNat IntKind.u64.bits)))))&&decide ((IntKind.u8.wrap ((A).fdiv (2^(min ((16:Int)).toNat IntKind.u64.bits))))<(len8.size:Int))) then (some (.a (.i .i64 (i64.wrap ((i64.wrap ((0:Int)+(16:Int)))+(i64.wrap (Ucl len8 ((IntKind.u8.wrap ((A).fdiv (2^(min ((16:Int)).toNat IntKind.u64.bits))))).toNat))))),.none,true)) else (none))) else (bif decide (A>=(256:Int)) then (bif (decide (0<=(IntKind.u8.wrap ((A).fdiv (2^(min ((8:Int)).toNat IntKind.u64.bits)))))&&decide ((IntKind.u8.wrap ((A).fdiv (2^(min ((8:Int)).toNat IntKind.u64.bits))))<(len8.size:Int))) then (some (.a (.i .i64 (i64.wrap ((i64.wrap ((0:Int)+(8:Int)))+(i64.wrap (Ucl len8 ((IntKind.u8.wrap ((A).fdiv (2^(min ((8:Int)).toNat IntKind.u64.bits))))).toNat))))),.none,true)) else (none)) else (bif (decide (0<=(IntKind.u8.wrap A))&&decide ((IntKind.u8.wrap A)<(len8.size:Int))) then (some (.a (.i .i64 (i64.wrap ((0:Int)+(i64.wrap (Ucl len8 ((IntKind.u8.wrap A)).toNat))))),.none,true)) else (none))))):=by kernel_rfl
theorem Ca(J:Int)(A:IntKind.u64.min<=J/\J<=IntKind.u64.max)(hg:(true)=true):ansV PZ (mkΓ []) 1000 f109 [] [.i .u64 J] []=some (.a (.i .i64 (Uau J)),.none,true):=by
 obtain⟨n,rfl⟩:=jM (show 0<=J from A.1);have hn:n<18446744073709551616:=by have:=A.2;have e:IntKind.u64.max=18446744073709551615:=rfl;omega
 refine(Yap 1000 _).trans ?_;have L:((32:Int)).toNat=32:=rfl;have O:((16:Int)).toNat=16:=rfl;have U:((8:Int)).toNat=8:=rfl;have V:IntKind.u64.bits=64:=rfl;have dd:∀a b:Nat,n / 2^a / 2^b=n / 2^(a+b):=λa b=>by rw[Nat.div_div_eq_div_mul,<- Nat.pow_add]
 simp only[L,O,U,V,mw _ _ 64 (show 32<=64 by omega),mw _ _ 64 (show 16<=64 by omega),mw _ _ 64 (show 8<=64 by omega),dd];have Z:i64.wrap ((32:Int)+16)=48:=by decide
 have w2:i64.wrap ((48:Int)+8)=56:=by decide
 have w3:i64.wrap ((32:Int)+8)=40:=by decide
 have w4:i64.wrap ((16:Int)+8)=24:=by decide
 have w5:i64.wrap ((0:Int)+32)=32:=by decide
 have w6:i64.wrap ((0:Int)+16)=16:=by decide
 have w7:i64.wrap ((0:Int)+8)=8:=by decide
 simp only[Z,w2,w3,w4,w5,w6,w7,show (32+16:Nat)=48 from rfl,show (48+8:Nat)=56 from rfl,show (32+8:Nat)=40 from rfl,show (16+8:Nat)=24 from rfl]
 by_cases a:n>=4294967296
 ·rw[Q3 (show ((n:Nat):Int)>=4294967296 by omega),Q1]
  by_cases b:n / 2^32>=65536
  ·rw[Q3 (show ((n / 2^32:Nat):Int)>=65536 by omega),Q1]
   by_cases c:n / 2^48>=256
   ·rw[Q3 (show ((n / 2^48:Nat):Int)>=256 by omega),Q1];exact iG (s:=56) _ (by omega) (by omega) (.inr (by omega)) rfl
   ·rw[Q4 (show ¬((n / 2^48:Nat):Int)>=256 by omega),Q2];exact iG (s:=48) _ (by omega) (by omega) (.inr (by omega)) rfl
  ·rw[Q4 (show ¬((n / 2^32:Nat):Int)>=65536 by omega),Q2]
   by_cases c:n / 2^32>=256
   ·rw[Q3 (show ((n / 2^32:Nat):Int)>=256 by omega),Q1];exact iG (s:=40) _ (by omega) (by omega) (.inr (by omega)) rfl
   ·rw[Q4 (show ¬((n / 2^32:Nat):Int)>=256 by omega),Q2];exact iG (s:=32) _ (by omega) (by omega) (.inr (by omega)) rfl
 ·rw[Q4 (show ¬((n:Nat):Int)>=4294967296 by omega),Q2]
  by_cases b:n>=65536
  ·rw[Q3 (show ((n:Nat):Int)>=65536 by omega),Q1]
   by_cases c:n / 2^16>=256
   ·rw[Q3 (show ((n / 2^16:Nat):Int)>=256 by omega),Q1];exact iG (s:=24) _ (by omega) (by omega) (.inr (by omega)) rfl
   ·rw[Q4 (show ¬((n / 2^16:Nat):Int)>=256 by omega),Q2];exact iG (s:=16) _ (by omega) (by omega) (.inr (by omega)) rfl
  ·rw[Q4 (show ¬((n:Nat):Int)>=65536 by omega),Q2]
   by_cases c:n>=256
   ·rw[Q3 (show ((n:Nat):Int)>=256 by omega),Q1];exact iG (s:=8) _ (by omega) (by omega) (.inr (by omega)) rfl
   ·rw[Q4 (show ¬((n:Nat):Int)>=256 by omega),Q2];have:=iG (n:=n) (s:=0) 0 (by omega) (by rw[Nat.pow_zero,Nat.div_one];omega) (.inl rfl) rfl;rw[Nat.pow_zero,Nat.div_one]at this;exact this
def iH:af:=λargs h=>match args,h with|[.i .u64 a0],[]=>some (.a (.i .i64 (Uau a0)),.none,true)|_,_=>none
theorem Cc:EntX PZ 109:=Zaj (fn:=f109)
theorem Cd:Uad (md F) PZ 109 iH:=(ansY (N:=1000) mKn f109 []).of (by
 intro ρ h w args vals r e L U A;unfold iH at A;split at A
 ·rename_i O;obtain⟨rfl,rfl,J⟩:=ai A;exact Ca O (L.rng 0 rfl) J
 ·cases A)
def xq(x:Int):Int:=(i64.wrap (x*x)).fdiv (2^(min ((30:Int)).toNat i64.bits))
def ck(x:Int):Bool:=decide (xq x>=2147483648)
def xnx(x:Int):Int:=bif ck x then (xq x) / 2 else xq x
def bC(x:Int):Int:=bif ck x then 1 else 0
def xsq(A:Int):Nat->Int
 |0=>A
 |i+1=>xnx (xsq A i)
def dg(A:Int):Nat->Int
 |0=>0
 |i+1=>2*dg A i+bC (xsq A i)
def lgx(k:Nat)(n:Int):Int:=bif decide ((k:Int) > 30) then n.fdiv (2^(min (k - 30) 64)) else i64.wrap (n*2^(min (30 - k) 64))
def lg(n:Int):Int:=16*(jC n.toNat:Int)+dg (lgx (jC n.toNat) n) 4
theorem cj(x:Int):0<=bC x/\bC x<=1:=by unfold bC;cases ck x<;>simp
theorem qJ(A:Int):∀i,i<=4->0<=dg A i/\dg A i<=15
 |0,_=>by simp[dg]
 |1,_=>by have:=cj (xsq A 0);simp only[dg];omega
 |2,_=>by have:=cj (xsq A 0);have:=cj (xsq A 1);simp only[dg];omega
 |3,_=>by have:=cj (xsq A 0);have:=cj (xsq A 1);have:=cj (xsq A 2);simp only[dg];omega
 |4,_=>by have:=cj (xsq A 0);have:=cj (xsq A 1);have:=cj (xsq A 2);have:=cj (xsq A 3);simp only[dg];omega
 |_+5,h=>absurd h (by omega)
theorem my(x:Int):xq x<=9223372036854775807:=by
 unfold xq;have h:=(Zhx .i64 (x*x)).2;have h0:=(Zhx .i64 (x*x)).1;have e:i64.max=9223372036854775807:=rfl;rw[e]at h;rw[jS _ (Int.le_of_lt (Int.pow_pos (by omega)))];have A:((2:Int)^(min ((30:Int)).toNat i64.bits))=1073741824:=by decide
 rw[A];omega
theorem Ugv{x:Int}(h:xq x>=2147483648):i64.wrap ((xq x).tdiv 2)=(xq x) / 2/\(xq x).fdiv (2^(min ((1:Int)).toNat i64.bits))=(xq x) / 2:=by
 have hl:=my x;have A:((2:Int)^(min ((1:Int)).toNat i64.bits))=2:=by decide
 rw[A,jS _ (by omega),Int.tdiv_eq_ediv_of_nonneg (by omega)];exact⟨IntWalk.i64_in _ (by omega),rfl⟩
def lgL(k:Nat)(A:Int):Nat->Int
 |0=>k
 |i+1=>2*lgL k A i+bC (xsq A i)
theorem oE(k:Nat)(A:Int)(hk:k<=64):∀i,i<=4->0<=lgL k A i/\lgL k A i<=2000
 |0,_=>by simp only[lgL];omega
 |1,_=>by have:=cj (xsq A 0);simp only[lgL];omega
 |2,_=>by have:=cj (xsq A 0);have:=cj (xsq A 1);simp only[lgL];omega
 |3,_=>by have:=cj (xsq A 0);have:=cj (xsq A 1);have:=cj (xsq A 2);simp only[lgL];omega
 |4,_=>by have:=cj (xsq A 0);have:=cj (xsq A 1);have:=cj (xsq A 2);have:=cj (xsq A 3);simp only[lgL];omega
 |_+5,h=>absurd h (by omega)
theorem iI(k:Nat)(A:Int):lgL k A 4=16*(k:Int)+dg A 4:=by simp only[lgL,dg];omega
theorem wI{m:Nat}(h0:m≠0)(h:m<=9223372036854775807):jC m<=62:=by have:=(Nat.log2_lt h0 (k:=63)).2 (by omega);omega
def Zi8(A:Int):St:=(⟨.a (.i .i64 A)::.a (.u)::.a (.i .i64 0)::.a (.i .i64 0)::us 43 ([]),[],[]⟩:St)
def Zlb:Int->LS
 |A=>([.a (.i .i64 A)],[])
def qK:Int->QP×LS
 |t=>((.exit 0),Zlb t)
def Zfj(P:QD)(J:Int):Int->Option (Stp (Int) (Int))
 |A=>bif decide (0<=(IntKind.u64.wrap A)) then (bif decide (((J).fdiv (2^(min ((IntKind.u64.wrap A)).toNat i64.bits))) > (1:Int)) then (some (.more (i64.wrap (A+(1:Int))))) else (some (.done A))) else (none)
noncomputable abbrev ae:=codeOf f55
theorem Ymr(N:Nat)(A:Int):∀t:Int,Uaf PZ (mkΓ []) N (cAt ae [1,1,0,0,0]) (pAt (Uaa ae [([3],[]),([4,5,6],[])]).1 [1,1,0,0]) [3] [] (Zi8 A) (Zlb t)=aa Zlb qK (Zfj PZ A t):=by
 rintro J
 conv=>rhs;simp only[Zfj,aM,aJ,aK,aL,Zlb,qK]
 kernel_rfl
def Zi7(J:Int)(A:Int):St:=(⟨.a (.i .i64 J)::.a (.u)::.a (.i .i64 0)::.a (.i .i64 A)::.a (.i .i64 (i64.wrap (J*2^(min ((IntKind.u64.wrap (i64.wrap ((30:Int) - A)))).toNat i64.bits))))::.a (.i .i64 0)::.a (.i .i64 0)::xs 7 (.a (.i .i64 J)::.a (.i .i64 A)::.a (.b (decide (A<=(30:Int))))::.a (.i .i64 J)::.a (.i .i64 A)::.a (.i .i64 (i64.wrap ((30:Int) - A)))::.a (.i .u64 (IntKind.u64.wrap (i64.wrap ((30:Int) - A))))::.a (.i .i64 (i64.wrap (J*2^(min ((IntKind.u64.wrap (i64.wrap ((30:Int) - A)))).toNat i64.bits))))::us 25 ([])),[],[]⟩:St)
def Zlg:Int×Int×Int->LS
 |(A,J,L)=>([.a (.i .i64 A),.a (.i .i64 J),.a (.i .i64 L)],[])
def qL:Int×Int×Int->QP×LS
 |t=>((.exit 2),Zlg t)
def Zei(P:QD)(U:Int)(O:Int):Int×Int×Int->Option (Stp (Int×Int×Int) (Int×Int×Int))
 |(A,L,J)=>bif decide (J<(4:Int)) then (bif decide ((((i64.wrap (A*A))).fdiv (2^(min ((30:Int)).toNat i64.bits)))>=(2147483648:Int)) then (some (.more ((((((i64.wrap (A*A))).fdiv (2^(min ((30:Int)).toNat i64.bits)))).fdiv (2^(min ((1:Int)).toNat i64.bits))),(i64.wrap ((i64.wrap (L*(2:Int)))+(1:Int))),(i64.wrap (J+(1:Int)))))) else (some (.more ((((i64.wrap (A*A))).fdiv (2^(min ((30:Int)).toNat i64.bits))),(i64.wrap (L*(2:Int))),(i64.wrap (J+(1:Int))))))) else (some (.done (A,L,J)))
theorem Ym9(N:Nat)(J:Int)(A:Int):∀t:Int×Int×Int,Uaf PZ (mkΓ []) N (cAt ae [1,1,1,1,1,1,0,1,0,0]) (pAt (Uaa ae [([3],[]),([4,5,6],[])]).1 [1,1,1,1,1,1,0,1,0]) [4,5,6] [] (Zi7 J A) (Zlg t)=aa Zlg qL (Zei PZ J A t):=by
 rintro⟨L,O,U⟩
 conv=>rhs;simp only[Zei,aM,aJ,aK,aL,Zlg,qL]
 kernel_rfl
def mz(P:QD)(N:Nat)(U:Int)(A:Int)(L:Int)(J:Int)(O:Int):Option (SV×Eff×Bool):=some (.a (.i .i64 (i64.wrap ((i64.wrap ((16:Int)*A))+J))),.none,true)
theorem Cf(N:Nat)(U:Int)(A:Int)(J:Int)(L:Int)(O:Int):(Uac 2 (kSeq (veC PZ (mkΓ []) N (cAt ae [1,1,1,1,1,1,1]) (pAt (Uaa ae [([3],[]),([4,5,6],[])]).1 [1,1,1,1,1,1,1]) (SV×Eff×Bool)) (finK PZ [] [.tmp 2]))) (.exit 2) (left (writes (cAt ae [1,1,1,1,1,1,0,1,0,0])) [4,5,6] [] (Zi7 U A) ([.a (.i .i64 J),.a (.i .i64 L),.a (.i .i64 O)],[]))=mz PZ N U A J L O:=by kernel_rfl
theorem Cg(N:Nat)(J:Int)(A:Int):au (Uab (Uaf PZ (mkΓ []) N (cAt ae [1,1,1,1,1,1,0,1,0,0]) (pAt (Uaa ae [([3],[]),([4,5,6],[])]).1 [1,1,1,1,1,1,0,1,0]) [4,5,6] [] (Zi7 J A)) N ([.a (.i .i64 (i64.wrap (J*2^(min ((IntKind.u64.wrap (i64.wrap ((30:Int) - A)))).toNat i64.bits)))),.a (.i .i64 0),.a (.i .i64 0)],[])) (λe s=>(Uac 2 (kSeq (veC PZ (mkΓ []) N (cAt ae [1,1,1,1,1,1,1]) (pAt (Uaa ae [([3],[]),([4,5,6],[])]).1 [1,1,1,1,1,1,1]) (SV×Eff×Bool)) (finK PZ [] [.tmp 2]))) e (left (writes (cAt ae [1,1,1,1,1,1,0,1,0,0])) [4,5,6] [] (Zi7 J A) s))=Uah (Uab (Zei PZ J A) N ((i64.wrap (J*2^(min ((IntKind.u64.wrap (i64.wrap ((30:Int) - A)))).toNat i64.bits))),(0:Int),(0:Int))) (λx=>mz PZ N J A x.1 x.2.1 x.2.2):=by refine aP Zlg qL _ _ (Ym9 N J A) N ((i64.wrap (J*2^(min ((IntKind.u64.wrap (i64.wrap ((30:Int) - A)))).toNat i64.bits))),(0:Int),(0:Int)) _ _ ?_;intro x;exact Cf N J A x.1 x.2.1 x.2.2
def Zgf(J:Int)(A:Int):St:=(⟨.a (.i .i64 J)::.a (.u)::.a (.i .i64 0)::.a (.i .i64 A)::.a (.i .i64 ((J).fdiv (2^(min ((IntKind.u64.wrap (i64.wrap (A - (30:Int))))).toNat i64.bits))))::.a (.i .i64 0)::.a (.i .i64 0)::xs 7 (.a (.i .i64 J)::.a (.i .i64 A)::.a (.b (decide (A<=(30:Int))))::us 5 (.a (.i .i64 J)::.a (.i .i64 A)::.a (.i .i64 (i64.wrap (A - (30:Int))))::.a (.i .u64 (IntKind.u64.wrap (i64.wrap (A - (30:Int)))))::.a (.i .i64 ((J).fdiv (2^(min ((IntKind.u64.wrap (i64.wrap (A - (30:Int))))).toNat i64.bits))))::us 20 ([]))),[],[]⟩:St)
def Ziw:Int×Int×Int->LS
 |(A,J,L)=>([.a (.i .i64 A),.a (.i .i64 J),.a (.i .i64 L)],[])
def qM:Int×Int×Int->QP×LS
 |t=>((.exit 2),Ziw t)
def Zc4(P:QD)(U:Int)(O:Int):Int×Int×Int->Option (Stp (Int×Int×Int) (Int×Int×Int))
 |(A,L,J)=>bif decide (J<(4:Int)) then (bif decide ((((i64.wrap (A*A))).fdiv (2^(min ((30:Int)).toNat i64.bits)))>=(2147483648:Int)) then (some (.more ((((((i64.wrap (A*A))).fdiv (2^(min ((30:Int)).toNat i64.bits)))).fdiv (2^(min ((1:Int)).toNat i64.bits))),(i64.wrap ((i64.wrap (L*(2:Int)))+(1:Int))),(i64.wrap (J+(1:Int)))))) else (some (.more ((((i64.wrap (A*A))).fdiv (2^(min ((30:Int)).toNat i64.bits))),(i64.wrap (L*(2:Int))),(i64.wrap (J+(1:Int))))))) else (some (.done (A,L,J)))
theorem Yho(N:Nat)(U:Int)(A:Int):∀t:Int×Int×Int,Uaf PZ (mkΓ []) N (cAt ae [1,1,1,1,1,1,0,1,0,0]) (pAt (Uaa ae [([3],[]),([4,5,6],[])]).1 [1,1,1,1,1,1,0,1,0]) [4,5,6] [] (Zgf U A) (Ziw t)=aa Ziw qM (Zc4 PZ U A t):=by
 rintro⟨J,L,O⟩
 conv=>rhs;simp only[Zc4,aM,aJ,aK,aL,Ziw,qM]
 kernel_rfl
def mA(P:QD)(N:Nat)(U:Int)(J:Int)(L:Int)(A:Int)(O:Int):Option (SV×Eff×Bool):=some (.a (.i .i64 (i64.wrap ((i64.wrap ((16:Int)*J))+A))),.none,true)
theorem Ch(N:Nat)(U:Int)(O:Int)(A:Int)(J:Int)(L:Int):(Uac 2 (kSeq (veC PZ (mkΓ []) N (cAt ae [1,1,1,1,1,1,1]) (pAt (Uaa ae [([3],[]),([4,5,6],[])]).1 [1,1,1,1,1,1,1]) (SV×Eff×Bool)) (finK PZ [] [.tmp 2]))) (.exit 2) (left (writes (cAt ae [1,1,1,1,1,1,0,1,0,0])) [4,5,6] [] (Zgf U O) ([.a (.i .i64 A),.a (.i .i64 J),.a (.i .i64 L)],[]))=mA PZ N U O A J L:=by kernel_rfl
theorem Ci(N:Nat)(J:Int)(A:Int):au (Uab (Uaf PZ (mkΓ []) N (cAt ae [1,1,1,1,1,1,0,1,0,0]) (pAt (Uaa ae [([3],[]),([4,5,6],[])]).1 [1,1,1,1,1,1,0,1,0]) [4,5,6] [] (Zgf J A)) N ([.a (.i .i64 ((J).fdiv (2^(min ((IntKind.u64.wrap (i64.wrap (A - (30:Int))))).toNat i64.bits)))),.a (.i .i64 0),.a (.i .i64 0)],[])) (λe s=>(Uac 2 (kSeq (veC PZ (mkΓ []) N (cAt ae [1,1,1,1,1,1,1]) (pAt (Uaa ae [([3],[]),([4,5,6],[])]).1 [1,1,1,1,1,1,1]) (SV×Eff×Bool)) (finK PZ [] [.tmp 2]))) e (left (writes (cAt ae [1,1,1,1,1,1,0,1,0,0])) [4,5,6] [] (Zgf J A) s))=Uah (Uab (Zc4 PZ J A) N (((J).fdiv (2^(min ((IntKind.u64.wrap (i64.wrap (A - (30:Int))))).toNat i64.bits))),(0:Int),(0:Int))) (λx=>mA PZ N J A x.1 x.2.1 x.2.2):=by refine aP Ziw qM _ _ (Yho N J A) N (((J).fdiv (2^(min ((IntKind.u64.wrap (i64.wrap (A - (30:Int))))).toNat i64.bits))),(0:Int),(0:Int)) _ _ ?_;intro x;exact Ch N J A x.1 x.2.1 x.2.2
def lv(P:QD)(N:Nat)(J:Int)(A:Int):Option (SV×Eff×Bool):=bif decide (A<=(30:Int)) then (bif decide (0<=(IntKind.u64.wrap (i64.wrap ((30:Int) - A)))) then (Uah (Uab (Zei P J A) N ((i64.wrap (J*2^(min ((IntKind.u64.wrap (i64.wrap ((30:Int) - A)))).toNat i64.bits))),(0:Int),(0:Int))) (λx=>mz P N J A x.1 x.2.1 x.2.2)) else (none)) else (bif decide (0<=(IntKind.u64.wrap (i64.wrap (A - (30:Int))))) then (Uah (Uab (Zc4 P J A) N (((J).fdiv (2^(min ((IntKind.u64.wrap (i64.wrap (A - (30:Int))))).toNat i64.bits))),(0:Int),(0:Int))) (λx=>mA P N J A x.1 x.2.1 x.2.2)) else (none))
theorem Cj(N:Nat)(J:Int)(A:Int):(Uac 0 (kSeq (veC PZ (mkΓ []) N (cAt ae [1,1,1]) (pAt (Uaa ae [([3],[]),([4,5,6],[])]).1 [1,1,1]) (SV×Eff×Bool)) (finK PZ [] [.tmp 2]))) (.exit 0) (left (writes (cAt ae [1,1,0,0,0])) [3] [] (Zi8 J) ([.a (.i .i64 A)],[]))=lv PZ N J A:=by
 conv=>rhs;simp only[<- Cg N J A,<- Ci N J A,lv]
 kernel_rfl
theorem Ck(N:Nat)(A:Int):au (Uab (Uaf PZ (mkΓ []) N (cAt ae [1,1,0,0,0]) (pAt (Uaa ae [([3],[]),([4,5,6],[])]).1 [1,1,0,0]) [3] [] (Zi8 A)) N ([.a (.i .i64 0)],[])) (λe s=>(Uac 0 (kSeq (veC PZ (mkΓ []) N (cAt ae [1,1,1]) (pAt (Uaa ae [([3],[]),([4,5,6],[])]).1 [1,1,1]) (SV×Eff×Bool)) (finK PZ [] [.tmp 2]))) e (left (writes (cAt ae [1,1,0,0,0])) [3] [] (Zi8 A) s))=Uah (Uab (Zfj PZ A) N (0:Int)) (λx=>lv PZ N A x):=by refine aP Zlb qK _ _ (Ymr N A) N (0:Int) _ _ ?_;intro x;exact Cj N A x
theorem Ylf(N:Nat)(A:Int):ansV PZ (mkΓ []) N f55 [([3],[]),([4,5,6],[])] [.i .i64 A] []=(Uah (Uab (Zfj PZ A) N (0:Int)) (λx=>lv PZ N A x)):=by
 conv=>rhs;simp only[<- Ck N A]
 kernel_rfl
theorem Cl(L:Int)(V:i64.min<=L/\L<=i64.max)(hg:(decide (1<=L))=true):ansV PZ (mkΓ []) 1000 f55 [([3],[]),([4,5,6],[])] [.i .i64 L] []=some (.a (.i .i64 (lg L)),.none,true):=by
 have h0:1<=L:=of_decide_eq_true hg;obtain⟨m,rfl⟩:=jM (show 0<=L by omega);have Z:m≠0:=by omega
 have hmx:m<=9223372036854775807:=by have:=V.2;have e:i64.max=9223372036854775807:=rfl;omega
 refine(Ylf 1000 _).trans ?_;obtain⟨q1,q2⟩:=(Nat.log2_eq_iff Z).1 rfl;have hk:=wI Z hmx;have U:i64.bits=64:=rfl;have first:Uab (Zfj PZ (m:Int)) 1000 (0:Int)=some (jC m:Int):=by
  have h:=bP (g:=Zfj PZ (m:Int)) (λi=>(i:Int)) (m:=jC m) (x:=(jC m:Int)) (N:=1000) (λi hi=>by
   have u:IntKind.u64.wrap (i:Int)=(i:Int):=by rw[IntKind.wrap_u64];omega
   have h3:i64.wrap ((i:Int)+1)=((i+1:Nat):Int):=by rw[IntWalk.i64_in _ (by omega)];omega
   have hd:2<=m / 2^i:=(Nat.le_div_iff_mul_le (Nat.pow_pos (by omega))).2 (by
    have:2^(i+1)<=2^jC m:=Nat.pow_le_pow_right (by omega) (by omega);rw[Nat.pow_succ]at this;omega)
   simp only[Zfj,u,Q9,U,mw m i 64 (by omega),h3];rw[Q3 (show (0:Int)<=(i:Int) by omega),Q3 (show ((m / 2^i:Nat):Int) > 1 by omega)];rfl) (by
   have u:IntKind.u64.wrap ((jC m:Nat):Int)=((jC m:Nat):Int):=by rw[IntKind.wrap_u64];omega
   have hd:m / 2^jC m<2:=(Nat.div_lt_iff_lt_mul (Nat.pow_pos (by omega))).2 (by rw[Nat.pow_succ]at q2;omega);simp only[Zfj,u,Q9,U,mw m _ 64 (show jC m<=64 by omega)];rw[Q3 (show (0:Int)<=((jC m:Nat):Int) by omega),Q4 (show ¬((m / 2^jC m:Nat):Int) > 1 by omega)];rfl) (by omega)
  exact h
 rw[first]
 show lv PZ 1000 (m:Int) (jC m:Int)=some (.a (.i .i64 (lg (m:Int))),.none,true)
 have hlg:lg (m:Int)=16*(jC m:Int)+dg (lgx (jC m) (m:Int)) 4:=by unfold lg;rw[Q9]
 rw[hlg];generalize hkk:jC m=k at hk;have fin:∀A:Int,i64.wrap (i64.wrap (16*(k:Int))+dg A 4)=16*(k:Int)+dg A 4:=λA=>by
  have:=qJ A 4 (by omega);rw[IntWalk.i64_in (16*(k:Int)) (by omega),IntWalk.i64_in _ (by omega)]
 unfold lv lgx
 by_cases hc:30<k
 ·rw[Q4 (show ¬(k:Int)<=30 by omega),Q3 (show (k:Int) > 30 by omega)];simp only[Q2,Q1];have e0:IntKind.u64.wrap (i64.wrap ((k:Int) - 30))=((k - 30:Nat):Int):=by rw[IntWalk.i64_in _ (by omega),IntKind.wrap_u64];omega
  rw[e0,Q3 (by omega),Q1,Q9,U];generalize ((m:Int)).fdiv (2^(min (k - 30) 64))=A;have r:=(by
  have h:=bP (g:=Zc4 PZ (m:Int) (k:Int)) (λi=>(xsq A i,dg A i,(i:Int))) (m:=4) (x:=(xsq A 4,dg A 4,(4:Int))) (N:=1000) (λi hi=>by
   have O:decide ((i:Int)<4)=true:=Q3 (by omega);have h3:i64.wrap ((i:Int)+1)=((i+1:Nat):Int):=by rw[IntWalk.i64_in _ (by omega)];omega
   have U:=qJ A i (by omega);have h4:i64.wrap (dg A i*2)=dg A i*2:=IntWalk.i64_in _ (by omega);have h5:i64.wrap (dg A i*2+1)=dg A i*2+1:=IntWalk.i64_in _ (by omega)
   show Zc4 PZ (m:Int) (k:Int) (xsq A i,dg A i,(i:Int))=some (.more (xnx (xsq A i),2*dg A i+bC (xsq A i),((i+1:Nat):Int)))
   have hq:((i64.wrap (xsq A i*xsq A i))).fdiv (2^(min ((30:Int)).toNat i64.bits))=xq (xsq A i):=rfl;simp only[Zc4,O,Q1,hq,h3,h4,h5];unfold xnx bC ck
   by_cases J:xq (xsq A i)>=2147483648
   ·rw[Q3 J];simp only[Q1,(Ugv J).2];rw[show dg A i*2+1=2*dg A i+1 by omega]
   ·rw[Q4 J];simp only[Q2];rw[show dg A i*2=2*dg A i+0 by omega]) (by
   have O:decide (((4:Nat):Int)<4)=false:=by decide
   simp only[Zc4,O,Q2];rfl) (by omega)
  exact h)
  have r':Uab (Zc4 PZ (m:Int) (k:Int)) 1000 (A,(0:Int),(0:Int))=some (xsq A 4,dg A 4,(4:Int)):=r;rw[r']
  show mA PZ 1000 (m:Int) (k:Int) (xsq A 4) (dg A 4) 4=_
  unfold mA;rw[fin]
 ·rw[Q3 (show (k:Int)<=30 by omega),Q4 (show ¬(k:Int) > 30 by omega)];simp only[Q2,Q1];have e0:IntKind.u64.wrap (i64.wrap (30 - (k:Int)))=((30 - k:Nat):Int):=by rw[IntWalk.i64_in _ (by omega),IntKind.wrap_u64];omega
  rw[e0,Q3 (by omega),Q1,Q9,U];generalize i64.wrap ((m:Int)*2^(min (30 - k) 64))=A;have r:=(by
  have h:=bP (g:=Zei PZ (m:Int) (k:Int)) (λi=>(xsq A i,dg A i,(i:Int))) (m:=4) (x:=(xsq A 4,dg A 4,(4:Int))) (N:=1000) (λi hi=>by
   have O:decide ((i:Int)<4)=true:=Q3 (by omega);have h3:i64.wrap ((i:Int)+1)=((i+1:Nat):Int):=by rw[IntWalk.i64_in _ (by omega)];omega
   have U:=qJ A i (by omega);have h4:i64.wrap (dg A i*2)=dg A i*2:=IntWalk.i64_in _ (by omega);have h5:i64.wrap (dg A i*2+1)=dg A i*2+1:=IntWalk.i64_in _ (by omega)
   show Zei PZ (m:Int) (k:Int) (xsq A i,dg A i,(i:Int))=some (.more (xnx (xsq A i),2*dg A i+bC (xsq A i),((i+1:Nat):Int)))
   have hq:((i64.wrap (xsq A i*xsq A i))).fdiv (2^(min ((30:Int)).toNat i64.bits))=xq (xsq A i):=rfl;simp only[Zei,O,Q1,hq,h3,h4,h5];unfold xnx bC ck
   by_cases J:xq (xsq A i)>=2147483648
   ·rw[Q3 J];simp only[Q1,(Ugv J).2];rw[show dg A i*2+1=2*dg A i+1 by omega]
   ·rw[Q4 J];simp only[Q2];rw[show dg A i*2=2*dg A i+0 by omega]) (by
   have O:decide (((4:Nat):Int)<4)=false:=by decide
   simp only[Zei,O,Q2];rfl) (by omega)
  exact h)
  have r':Uab (Zei PZ (m:Int) (k:Int)) 1000 (A,(0:Int),(0:Int))=some (xsq A 4,dg A 4,(4:Int)):=r;rw[r']
  show mz PZ 1000 (m:Int) (k:Int) (xsq A 4) (dg A 4) 4=_
  unfold mz;rw[fin]
def qN:af:=λargs h=>match args,h with|[.i .i64 a0],[]=>some (.a (.i .i64 (lg a0)),.none,decide (1<=a0))|_,_=>none
theorem Cn:EntX PZ 55:=Zaj (fn:=f55)
theorem Co:Uad (md F) PZ 55 qN:=(ansY (N:=1000) mKn f55 [([3],[]),([4,5,6],[])]).of (by
 intro ρ h w args vals r e L U A;unfold qN at A;split at A
 ·rename_i O;obtain⟨rfl,rfl,J⟩:=ai A;exact Cl O (L.rng 0 rfl) J
 ·cases A)
def Zku(A:Int):St:=(⟨.a (.i .i64 A)::.a (.u)::.a (.i .i64 0)::.a (.i .i64 (i64.wrap ((Uau (IntKind.u64.wrap A)) - (1:Int))))::.a (.i .i64 ((A).fdiv (2^(min ((i64.wrap ((i64.wrap ((Uau (IntKind.u64.wrap A)) - (1:Int))) - (30:Int)))).toNat i64.bits))))::.a (.i .i64 0)::.a (.i .i64 A)::.a (.i .u64 (IntKind.u64.wrap A))::.a (.i .i64 (Uau (IntKind.u64.wrap A)))::.a (.i .i64 (i64.wrap ((Uau (IntKind.u64.wrap A)) - (1:Int))))::.a (.i .i64 A)::.a (.i .i64 (i64.wrap ((Uau (IntKind.u64.wrap A)) - (1:Int))))::.a (.b (decide ((i64.wrap ((Uau (IntKind.u64.wrap A)) - (1:Int))) > (30:Int))))::.a (.i .i64 A)::.a (.i .i64 (i64.wrap ((Uau (IntKind.u64.wrap A)) - (1:Int))))::.a (.i .i64 (i64.wrap ((i64.wrap ((Uau (IntKind.u64.wrap A)) - (1:Int))) - (30:Int))))::.a (.i .i64 ((A).fdiv (2^(min ((i64.wrap ((i64.wrap ((Uau (IntKind.u64.wrap A)) - (1:Int))) - (30:Int)))).toNat i64.bits))))::us 21 ([]),[],[]⟩:St)
def Zm0:Int×Int×Int×Int->LS
 |(A,J,L,O)=>([.a (.i .i64 A),.a (.i .i64 J),.a (.i .i64 L),.a (.i .i64 O)],[])
def qO:Int×Int×Int×Int->QP×LS
 |t=>(.ret,Zm0 t)
def Zfi(P:QD)(U:Int):Int×Int×Int×Int->Option (Stp (Int×Int×Int×Int) (Int×Int×Int×Int))
 |(O,J,A,L)=>bif decide ((((i64.wrap (A*A))).fdiv (2^(min ((30:Int)).toNat i64.bits)))>=(2147483648:Int)) then (bif decide ((i64.wrap (L+(1:Int)))<(4:Int)) then (some (.more (O,(i64.wrap ((i64.wrap (J*(2:Int)))+(1:Int))),(i64.wrap (((((i64.wrap (A*A))).fdiv (2^(min ((30:Int)).toNat i64.bits)))).tdiv (2:Int))),(i64.wrap (L+(1:Int)))))) else (some (.done ((i64.wrap ((i64.wrap (J*(2:Int)))+(1:Int))),(i64.wrap ((i64.wrap (J*(2:Int)))+(1:Int))),(i64.wrap (((((i64.wrap (A*A))).fdiv (2^(min ((30:Int)).toNat i64.bits)))).tdiv (2:Int))),(i64.wrap (L+(1:Int))))))) else (bif decide ((i64.wrap (L+(1:Int)))<(4:Int)) then (some (.more (O,(i64.wrap (J*(2:Int))),(((i64.wrap (A*A))).fdiv (2^(min ((30:Int)).toNat i64.bits))),(i64.wrap (L+(1:Int)))))) else (some (.done ((i64.wrap (J*(2:Int))),(i64.wrap (J*(2:Int))),(((i64.wrap (A*A))).fdiv (2^(min ((30:Int)).toNat i64.bits))),(i64.wrap (L+(1:Int)))))))
noncomputable abbrev aF:=codeOf f89
theorem Yor(N:Nat)(A:Int):∀t:Int×Int×Int×Int,Ub1 PZ (mkΓ [(109,con iH)]) N (cAt aF [1,0,1,1,1,1,1]) (pAt (Uaa aF [([2,3,4,5],[])]).1 [1,1,1,1,1]) 0 [2,3,4,5] [] (Zku A) (Zm0 t)=aa Zm0 qO (Zfi PZ A t):=by
 rintro⟨J,L,O,U⟩
 conv=>rhs;simp only[Zfi,aM,aJ,aK,aL,Zm0,qO]
 kernel_rfl
def qP(P:QD)(N:Nat)(U:Int)(A:Int)(J:Int)(L:Int)(O:Int):Option (SV×Eff×Bool):=some (.a (.i .i64 A),.none,true)
theorem Cp(N:Nat)(U:Int)(A:Int)(J:Int)(L:Int)(O:Int):(Ubv (finK PZ [] [.tmp 2])) .ret (left (writes (cAt aF [1,0,1,1,1,1,1])) [2,3,4,5] [] (Zku U) ([.a (.i .i64 A),.a (.i .i64 J),.a (.i .i64 L),.a (.i .i64 O)],[]))=qP PZ N U A J L O:=by kernel_rfl
theorem Cq(N:Nat)(A:Int):au (Uab (Ub1 PZ (mkΓ [(109,con iH)]) N (cAt aF [1,0,1,1,1,1,1]) (pAt (Uaa aF [([2,3,4,5],[])]).1 [1,1,1,1,1]) 0 [2,3,4,5] [] (Zku A)) N ([.a (.i .i64 0),.a (.i .i64 (i64.wrap ((Uau (IntKind.u64.wrap A)) - (1:Int)))),.a (.i .i64 ((A).fdiv (2^(min ((i64.wrap ((i64.wrap ((Uau (IntKind.u64.wrap A)) - (1:Int))) - (30:Int)))).toNat i64.bits)))),.a (.i .i64 0)],[])) (λe s=>(Ubv (finK PZ [] [.tmp 2])) e (left (writes (cAt aF [1,0,1,1,1,1,1])) [2,3,4,5] [] (Zku A) s))=Uah (Uab (Zfi PZ A) N ((0:Int),(i64.wrap ((Uau (IntKind.u64.wrap A)) - (1:Int))),((A).fdiv (2^(min ((i64.wrap ((i64.wrap ((Uau (IntKind.u64.wrap A)) - (1:Int))) - (30:Int)))).toNat i64.bits))),(0:Int))) (λx=>qP PZ N A x.1 x.2.1 x.2.2.1 x.2.2.2):=by refine aP Zm0 qO _ _ (Yor N A) N ((0:Int),(i64.wrap ((Uau (IntKind.u64.wrap A)) - (1:Int))),((A).fdiv (2^(min ((i64.wrap ((i64.wrap ((Uau (IntKind.u64.wrap A)) - (1:Int))) - (30:Int)))).toNat i64.bits))),(0:Int)) _ _ ?_;intro x;exact Cp N A x.1 x.2.1 x.2.2.1 x.2.2.2
def Zhk(A:Int):St:=(⟨.a (.i .i64 A)::.a (.u)::.a (.i .i64 0)::.a (.i .i64 (i64.wrap ((Uau (IntKind.u64.wrap A)) - (1:Int))))::.a (.i .i64 (i64.wrap (A*2^(min ((i64.wrap ((30:Int) - (i64.wrap ((Uau (IntKind.u64.wrap A)) - (1:Int)))))).toNat i64.bits))))::.a (.i .i64 0)::.a (.i .i64 A)::.a (.i .u64 (IntKind.u64.wrap A))::.a (.i .i64 (Uau (IntKind.u64.wrap A)))::.a (.i .i64 (i64.wrap ((Uau (IntKind.u64.wrap A)) - (1:Int))))::.a (.i .i64 A)::.a (.i .i64 (i64.wrap ((Uau (IntKind.u64.wrap A)) - (1:Int))))::.a (.b (decide ((i64.wrap ((Uau (IntKind.u64.wrap A)) - (1:Int))) > (30:Int))))::us 4 (.a (.i .i64 A)::.a (.i .i64 (i64.wrap ((Uau (IntKind.u64.wrap A)) - (1:Int))))::.a (.i .i64 (i64.wrap ((30:Int) - (i64.wrap ((Uau (IntKind.u64.wrap A)) - (1:Int))))))::.a (.i .i64 (i64.wrap (A*2^(min ((i64.wrap ((30:Int) - (i64.wrap ((Uau (IntKind.u64.wrap A)) - (1:Int)))))).toNat i64.bits))))::us 17 ([])),[],[]⟩:St)
def Zj8:Int×Int×Int×Int->LS
 |(A,J,L,O)=>([.a (.i .i64 A),.a (.i .i64 J),.a (.i .i64 L),.a (.i .i64 O)],[])
def qQ:Int×Int×Int×Int->QP×LS
 |t=>(.ret,Zj8 t)
def Zdn(P:QD)(U:Int):Int×Int×Int×Int->Option (Stp (Int×Int×Int×Int) (Int×Int×Int×Int))
 |(O,J,A,L)=>bif decide ((((i64.wrap (A*A))).fdiv (2^(min ((30:Int)).toNat i64.bits)))>=(2147483648:Int)) then (bif decide ((i64.wrap (L+(1:Int)))<(4:Int)) then (some (.more (O,(i64.wrap ((i64.wrap (J*(2:Int)))+(1:Int))),(i64.wrap (((((i64.wrap (A*A))).fdiv (2^(min ((30:Int)).toNat i64.bits)))).tdiv (2:Int))),(i64.wrap (L+(1:Int)))))) else (some (.done ((i64.wrap ((i64.wrap (J*(2:Int)))+(1:Int))),(i64.wrap ((i64.wrap (J*(2:Int)))+(1:Int))),(i64.wrap (((((i64.wrap (A*A))).fdiv (2^(min ((30:Int)).toNat i64.bits)))).tdiv (2:Int))),(i64.wrap (L+(1:Int))))))) else (bif decide ((i64.wrap (L+(1:Int)))<(4:Int)) then (some (.more (O,(i64.wrap (J*(2:Int))),(((i64.wrap (A*A))).fdiv (2^(min ((30:Int)).toNat i64.bits))),(i64.wrap (L+(1:Int)))))) else (some (.done ((i64.wrap (J*(2:Int))),(i64.wrap (J*(2:Int))),(((i64.wrap (A*A))).fdiv (2^(min ((30:Int)).toNat i64.bits))),(i64.wrap (L+(1:Int)))))))
theorem Ykw(N:Nat)(U:Int):∀t:Int×Int×Int×Int,Ub1 PZ (mkΓ [(109,con iH)]) N (cAt aF [1,0,1,1,1,1,1]) (pAt (Uaa aF [([2,3,4,5],[])]).1 [1,1,1,1,1]) 0 [2,3,4,5] [] (Zhk U) (Zj8 t)=aa Zj8 qQ (Zdn PZ U t):=by
 rintro⟨A,J,L,O⟩
 conv=>rhs;simp only[Zdn,aM,aJ,aK,aL,Zj8,qQ]
 kernel_rfl
def qR(P:QD)(N:Nat)(U:Int)(A:Int)(J:Int)(L:Int)(O:Int):Option (SV×Eff×Bool):=some (.a (.i .i64 A),.none,true)
theorem Cr(N:Nat)(U:Int)(A:Int)(J:Int)(L:Int)(O:Int):(Ubv (finK PZ [] [.tmp 2])) .ret (left (writes (cAt aF [1,0,1,1,1,1,1])) [2,3,4,5] [] (Zhk U) ([.a (.i .i64 A),.a (.i .i64 J),.a (.i .i64 L),.a (.i .i64 O)],[]))=qR PZ N U A J L O:=by kernel_rfl
theorem Cs(N:Nat)(A:Int):au (Uab (Ub1 PZ (mkΓ [(109,con iH)]) N (cAt aF [1,0,1,1,1,1,1]) (pAt (Uaa aF [([2,3,4,5],[])]).1 [1,1,1,1,1]) 0 [2,3,4,5] [] (Zhk A)) N ([.a (.i .i64 0),.a (.i .i64 (i64.wrap ((Uau (IntKind.u64.wrap A)) - (1:Int)))),.a (.i .i64 (i64.wrap (A*2^(min ((i64.wrap ((30:Int) - (i64.wrap ((Uau (IntKind.u64.wrap A)) - (1:Int)))))).toNat i64.bits)))),.a (.i .i64 0)],[])) (λe s=>(Ubv (finK PZ [] [.tmp 2])) e (left (writes (cAt aF [1,0,1,1,1,1,1])) [2,3,4,5] [] (Zhk A) s))=Uah (Uab (Zdn PZ A) N ((0:Int),(i64.wrap ((Uau (IntKind.u64.wrap A)) - (1:Int))),(i64.wrap (A*2^(min ((i64.wrap ((30:Int) - (i64.wrap ((Uau (IntKind.u64.wrap A)) - (1:Int)))))).toNat i64.bits))),(0:Int))) (λx=>qR PZ N A x.1 x.2.1 x.2.2.1 x.2.2.2):=by refine aP Zj8 qQ _ _ (Ykw N A) N ((0:Int),(i64.wrap ((Uau (IntKind.u64.wrap A)) - (1:Int))),(i64.wrap (A*2^(min ((i64.wrap ((30:Int) - (i64.wrap ((Uau (IntKind.u64.wrap A)) - (1:Int)))))).toNat i64.bits))),(0:Int)) _ _ ?_;intro x;exact Cr N A x.1 x.2.1 x.2.2.1 x.2.2.2
theorem Ymh(N:Nat)(A:Int):ansV PZ (mkΓ [(109,con iH)]) N f89 [([2,3,4,5],[])] [.i .i64 A] []=(bif decide ((i64.wrap ((Uau (IntKind.u64.wrap A)) - (1:Int))) > (30:Int)) then (bif decide (0<=(i64.wrap ((i64.wrap ((Uau (IntKind.u64.wrap A)) - (1:Int))) - (30:Int)))) then (Uah (Uab (Zfi PZ A) N ((0:Int),(i64.wrap ((Uau (IntKind.u64.wrap A)) - (1:Int))),((A).fdiv (2^(min ((i64.wrap ((i64.wrap ((Uau (IntKind.u64.wrap A)) - (1:Int))) - (30:Int)))).toNat i64.bits))),(0:Int))) (λx=>qP PZ N A x.1 x.2.1 x.2.2.1 x.2.2.2)) else (none)) else (bif decide (0<=(i64.wrap ((30:Int) - (i64.wrap ((Uau (IntKind.u64.wrap A)) - (1:Int)))))) then (Uah (Uab (Zdn PZ A) N ((0:Int),(i64.wrap ((Uau (IntKind.u64.wrap A)) - (1:Int))),(i64.wrap (A*2^(min ((i64.wrap ((30:Int) - (i64.wrap ((Uau (IntKind.u64.wrap A)) - (1:Int)))))).toNat i64.bits))),(0:Int))) (λx=>qR PZ N A x.1 x.2.1 x.2.2.1 x.2.2.2)) else (none))):=by
 conv=>rhs;simp only[<- Cq N A,<- Cs N A]
 kernel_rfl
theorem Ct(J:Int)(h_a0:i64.min<=J/\J<=i64.max)(hg:(decide (1<=J))=true):ansV PZ (mkΓ [(109,con iH)]) 1000 f89 [([2,3,4,5],[])] [.i .i64 J] []=some (.a (.i .i64 (lg J)),.none,true):=by
 have h0:1<=J:=of_decide_eq_true hg;obtain⟨m,rfl⟩:=jM (show 0<=J by omega);have hm0:m≠0:=by omega
 have hmx:m<=9223372036854775807:=by have:=h_a0.2;have e:i64.max=9223372036854775807:=rfl;omega
 refine(Ymh 1000 _).trans ?_;have hk:=wI hm0 hmx;have hb:i64.bits=64:=rfl;have u:IntKind.u64.wrap (m:Int)=(m:Int):=by rw[IntKind.wrap_u64];omega
 have hlg:lg (m:Int)=16*(jC m:Int)+dg (lgx (jC m) (m:Int)) 4:=by unfold lg;rw[Q9]
 rw[u,wH,if_neg hm0,hlg];generalize hkk:jC m=k at hk;have e1:i64.wrap ((k:Int)+1 - 1)=(k:Int):=by rw[IntWalk.i64_in _ (by omega)];omega
 rw[e1];unfold lgx
 by_cases hc:30<k
 ·rw[Q3 (show (k:Int) > 30 by omega)];simp only[Q1];have e0:i64.wrap ((k:Int) - 30)=((k - 30:Nat):Int):=by rw[IntWalk.i64_in _ (by omega)];omega
  rw[e0,Q3 (by omega),Q1,Q9,hb];generalize ((m:Int)).fdiv (2^(min (k - 30) 64))=x0;have r:=(by
  have h:=bP (g:=Zfi PZ (m:Int)) (λi=>((0:Int),lgL k x0 i,xsq x0 i,(i:Int))) (m:=3) (x:=(lgL k x0 4,lgL k x0 4,xsq x0 4,(4:Int))) (N:=1000) (λi hi=>by
   have L:decide (((i+1:Nat):Int)<4)=true:=Q3 (by omega);have O:i64.wrap ((i:Int)+1)=((i+1:Nat):Int):=by rw[IntWalk.i64_in _ (by omega)];omega
   have hb:=oE k x0 (by omega) i (by omega);have U:i64.wrap (lgL k x0 i*2)=lgL k x0 i*2:=IntWalk.i64_in _ (by omega);have V:i64.wrap (lgL k x0 i*2+1)=lgL k x0 i*2+1:=IntWalk.i64_in _ (by omega)
   show Zfi PZ (m:Int) ((0:Int),lgL k x0 i,xsq x0 i,(i:Int))=some (.more ((0:Int),2*lgL k x0 i+bC (xsq x0 i),xnx (xsq x0 i),((i+1:Nat):Int)))
   have Z:((i64.wrap (xsq x0 i*xsq x0 i))).fdiv (2^(min ((30:Int)).toNat i64.bits))=xq (xsq x0 i):=rfl;simp only[Zfi,Z,O,L,U,V];unfold xnx bC ck
   by_cases A:xq (xsq x0 i)>=2147483648
   ·rw[Q3 A];simp only[Q1,(Ugv A).1];rw[show lgL k x0 i*2+1=2*lgL k x0 i+1 by omega]
   ·rw[Q4 A];simp only[Q2,Q1];rw[show lgL k x0 i*2=2*lgL k x0 i+0 by omega]) (by
   have O:i64.wrap (((3:Nat):Int)+1)=4:=by decide
   have L:decide ((4:Int)<4)=false:=by decide
   have hb:=oE k x0 (by omega) 3 (by omega);have U:i64.wrap (lgL k x0 3*2)=lgL k x0 3*2:=IntWalk.i64_in _ (by omega);have V:i64.wrap (lgL k x0 3*2+1)=lgL k x0 3*2+1:=IntWalk.i64_in _ (by omega);have Z:((i64.wrap (xsq x0 3*xsq x0 3))).fdiv (2^(min ((30:Int)).toNat i64.bits))=xq (xsq x0 3):=rfl;have eL:lgL k x0 4=2*lgL k x0 3+bC (xsq x0 3):=rfl;have eX:xsq x0 4=xnx (xsq x0 3):=rfl;rw[eL,eX];simp only[Zfi,Z,O,L,U,V];unfold xnx bC ck
   by_cases A:xq (xsq x0 3)>=2147483648
   ·rw[Q3 A];simp only[Q1,Q2,(Ugv A).1];rw[show lgL k x0 3*2+1=2*lgL k x0 3+1 by omega]
   ·rw[Q4 A];simp only[Q2];rw[show lgL k x0 3*2=2*lgL k x0 3+0 by omega]) (by omega)
  exact h)
  have r':Uab (Zfi PZ (m:Int)) 1000 ((0:Int),(k:Int),x0,(0:Int))=some (lgL k x0 4,lgL k x0 4,xsq x0 4,(4:Int)):=r;rw[r']
  show some (SV.a (SA.i .i64 (lgL k x0 4)),Eff.none,true)=_
  rw[iI]
 ·rw[Q4 (show ¬(k:Int) > 30 by omega)];simp only[Q2];have e0:i64.wrap (30 - (k:Int))=((30 - k:Nat):Int):=by rw[IntWalk.i64_in _ (by omega)];omega
  rw[e0,Q3 (by omega),Q1,Q9,hb];generalize i64.wrap ((m:Int)*2^(min (30 - k) 64))=x0;have r:=(by
  have h:=bP (g:=Zdn PZ (m:Int)) (λi=>((0:Int),lgL k x0 i,xsq x0 i,(i:Int))) (m:=3) (x:=(lgL k x0 4,lgL k x0 4,xsq x0 4,(4:Int))) (N:=1000) (λi hi=>by
   have L:decide (((i+1:Nat):Int)<4)=true:=Q3 (by omega);have O:i64.wrap ((i:Int)+1)=((i+1:Nat):Int):=by rw[IntWalk.i64_in _ (by omega)];omega
   have hb:=oE k x0 (by omega) i (by omega);have U:i64.wrap (lgL k x0 i*2)=lgL k x0 i*2:=IntWalk.i64_in _ (by omega);have V:i64.wrap (lgL k x0 i*2+1)=lgL k x0 i*2+1:=IntWalk.i64_in _ (by omega)
   show Zdn PZ (m:Int) ((0:Int),lgL k x0 i,xsq x0 i,(i:Int))=some (.more ((0:Int),2*lgL k x0 i+bC (xsq x0 i),xnx (xsq x0 i),((i+1:Nat):Int)))
   have Z:((i64.wrap (xsq x0 i*xsq x0 i))).fdiv (2^(min ((30:Int)).toNat i64.bits))=xq (xsq x0 i):=rfl;simp only[Zdn,Z,O,L,U,V];unfold xnx bC ck
   by_cases A:xq (xsq x0 i)>=2147483648
   ·rw[Q3 A];simp only[Q1,(Ugv A).1];rw[show lgL k x0 i*2+1=2*lgL k x0 i+1 by omega]
   ·rw[Q4 A];simp only[Q2,Q1];rw[show lgL k x0 i*2=2*lgL k x0 i+0 by omega]) (by
   have O:i64.wrap (((3:Nat):Int)+1)=4:=by decide
   have L:decide ((4:Int)<4)=false:=by decide
   have hb:=oE k x0 (by omega) 3 (by omega);have U:i64.wrap (lgL k x0 3*2)=lgL k x0 3*2:=IntWalk.i64_in _ (by omega);have V:i64.wrap (lgL k x0 3*2+1)=lgL k x0 3*2+1:=IntWalk.i64_in _ (by omega);have Z:((i64.wrap (xsq x0 3*xsq x0 3))).fdiv (2^(min ((30:Int)).toNat i64.bits))=xq (xsq x0 3):=rfl;have eL:lgL k x0 4=2*lgL k x0 3+bC (xsq x0 3):=rfl;have eX:xsq x0 4=xnx (xsq x0 3):=rfl;rw[eL,eX];simp only[Zdn,Z,O,L,U,V];unfold xnx bC ck
   by_cases A:xq (xsq x0 3)>=2147483648
   ·rw[Q3 A];simp only[Q1,Q2,(Ugv A).1];rw[show lgL k x0 3*2+1=2*lgL k x0 3+1 by omega]
   ·rw[Q4 A];simp only[Q2];rw[show lgL k x0 3*2=2*lgL k x0 3+0 by omega]) (by omega)
  exact h)
  have r':Uab (Zdn PZ (m:Int)) 1000 ((0:Int),(k:Int),x0,(0:Int))=some (lgL k x0 4,lgL k x0 4,xsq x0 4,(4:Int)):=r;rw[r']
  show some (SV.a (SA.i .i64 (lgL k x0 4)),Eff.none,true)=_
  rw[iI]
def qS:af:=λargs h=>match args,h with|[.i .i64 a0],[]=>some (.a (.i .i64 (lg a0)),.none,decide (1<=a0))|_,_=>none
theorem Cu:EntX PZ 89:=Zaj (fn:=f89)
theorem Cv:Uad (md F) PZ 89 qS:=(ansY (N:=1000) (mKc (Zae Cd) Cc mKn) f89 [([2,3,4,5],[])]).of (by
 intro ρ h w args vals r e L U A;unfold qS at A;split at A
 ·rename_i O;obtain⟨rfl,rfl,J⟩:=ai A;exact Ct O (L.rng 0 rfl) J
 ·cases A)
end
noncomputable section
variable {F:Vc.Fd}
theorem wJ{C:QA}{b m o:Nat}(ho:o<m):num (C.extract b (b+m)) o=num C (b+o):=by
 have A:(C.extract b (b+m))[o]?=C[b+o]?:=by
  simp only[jN]
  by_cases h:b+o<C.size
  ·rw[if_pos (by omega)]
  ·rw[if_neg (by omega),jO (by omega)]
 unfold num;rw[A]
theorem Yjm(N:Nat)(A:QA):ansV PZ (mkΓ []) N f37 [] [.g A 72] []=(some (.a (.g #[.int .i8 (num A 0),.int .i8 (num A 1)] 69),.none,true)):=by kernel_rfl
theorem Cw(J:QA)(A:WT PZ 72 J)(V:(true)=true):ansV PZ (mkΓ []) 1000 f37 [] [.g J 72] []=some (.a (.g J 69),.none,true):=by
 have Z:J.size=2:=by rw[A.layLen];kernel_rfl
 have L:=(A.int (o:=0) (k:=.i8) (by kernel_rfl)).1;have O:=(A.int (o:=1) (k:=.i8) (by kernel_rfl)).1;have U:(#[.int .i8 (num J 0),.int .i8 (num J 1)]:QA)=J:=Zie λi=>by
  match i with|0=>exact L.symm|1=>exact O.symm|i+2=>rw[jO (by simp),jO (by omega)]
 refine(Yjm 1000 J).trans ?_;rw[U]
def iJ:af:=λargs h=>match args,h with|[.g a0 72],[]=>some (.a (.g a0 69),.none,true)|_,_=>none
theorem Cx:EntX PZ 37:=Zaj (fn:=f37)
theorem Cy:Uad (md F) PZ 37 iJ:=(ansY (N:=1000) mKn f37 []).of (by
 intro ρ h w args vals r e L U A;unfold iJ at A;split at A
 ·rename_i O;obtain⟨rfl,rfl,J⟩:=ai A;exact Cw O (L.wt 0 rfl) J
 ·cases A)
def Zhl(J:QO)(A:Nat)(L:QA):St:=(⟨.a (.l 0)::.a (.u)::.a (.v (.slice none 0 0))::.a (.l 3)::.a (.i .i64 0)::.a (.l 0)::.a (.i .i64 (A:Int))::.a (.l 3)::us 15 ([]),[.sl (.came J) A L 72,.no,.no,.sl .own ((A:Int).toNat) (madeCells (zc PZ 69) ((A:Int).toNat*2)) 69,.no],[]⟩:St)
def Zj3(A:Nat):Int×QA->LS
 |(J,L)=>([.a (.i .i64 J)],[.sl .own ((A:Int).toNat) L 69])
def Zqy(A:Nat):Int×QA->QP×LS
 |t=>((.exit 0),(Zj3 A) t)
def Zej(P:QD)(O:QO)(J:Nat)(U:QA):Int×QA->Option (Stp (Int×QA) (Int×QA))
 |(A,L)=>bif decide (A<(J:Int)) then (bif (decide (0<=A)&&decide (A<(J:Int))) then (bif (decide (0<=A)&&decide (A<(((J:Int).toNat):Int))) then (some (.more ((i64.wrap (A+(1:Int))),(spl L ((A).toNat*2) (U.extract ((A).toNat*2) (((A).toNat*2)+2)).toList)))) else (none)) else (none)) else (some (.done (A,L)))
noncomputable abbrev aY:=codeOf f12
theorem Yk4(N:Nat)(J:QO)(A:Nat)(L:QA):∀t:Int×QA,Uaf PZ (mkΓ [(37,con iJ)]) N (cAt aY [1,1,0,1,0,0]) (pAt (Uaa aY [([4],[3])]).1 [1,1,0,1,0]) [4] [3] (Zhl J A L) ((Zj3 A) t)=aa (Zj3 A) (Zqy A) (Zej PZ J A L t):=by
 rintro⟨O,U⟩
 conv=>rhs;simp only[Zej,aM,aJ,aK,aL,Zj3,Zqy]
 kernel_rfl
def qT(P:QD)(N:Nat)(L:QO)(A:Nat)(U:QA)(O:Int)(J:QA):Option (SV×Eff×Bool):=some (.a .x,.newS none ((A:Int).toNat) J 69,true)
theorem Cz(N:Nat)(J:QO)(A:Nat)(U:QA)(L:Int)(O:QA):(Uac 0 (kSeq (veC PZ (mkΓ [(37,con iJ)]) N (cAt aY [1,1,1]) (pAt (Uaa aY [([4],[3])]).1 [1,1,1]) (SV×Eff×Bool)) (finK PZ [.sl (.came J) A U 72] [.tmp 2]))) (.exit 0) (left (writes (cAt aY [1,1,0,1,0,0])) [4] [3] (Zhl J A U) ([.a (.i .i64 L)],[.sl .own ((A:Int).toNat) O 69]))=qT PZ N J A U L O:=by kernel_rfl
theorem CA(N:Nat)(J:QO)(A:Nat)(L:QA):au (Uab (Uaf PZ (mkΓ [(37,con iJ)]) N (cAt aY [1,1,0,1,0,0]) (pAt (Uaa aY [([4],[3])]).1 [1,1,0,1,0]) [4] [3] (Zhl J A L)) N ([.a (.i .i64 0)],[.sl .own ((A:Int).toNat) (madeCells (zc PZ 69) ((A:Int).toNat*2)) 69])) (λe s=>(Uac 0 (kSeq (veC PZ (mkΓ [(37,con iJ)]) N (cAt aY [1,1,1]) (pAt (Uaa aY [([4],[3])]).1 [1,1,1]) (SV×Eff×Bool)) (finK PZ [.sl (.came J) A L 72] [.tmp 2]))) e (left (writes (cAt aY [1,1,0,1,0,0])) [4] [3] (Zhl J A L) s))=Uah (Uab (Zej PZ J A L) N ((0:Int),(madeCells (zc PZ 69) ((A:Int).toNat*2)))) (λx=>qT PZ N J A L x.1 x.2):=by refine aP (Zj3 A) (Zqy A) _ _ (Yk4 N J A L) N ((0:Int),(madeCells (zc PZ 69) ((A:Int).toNat*2))) _ _ ?_;intro x;exact Cz N J A L x.1 x.2
theorem Yij(N:Nat)(J:QO)(A:Nat)(L:QA):ansV PZ (mkΓ [(37,con iJ)]) N f12 [([4],[3])] [.l 0] [.sl (.came J) A L 72]=(bif (decide (0<=(A:Int))&&((A:Int)==(A:Int)&&decide ((bytesOf PZ 69:Int)*(A:Int)<=281474976710656))) then (Uah (Uab (Zej PZ J A L) N ((0:Int),(madeCells (zc PZ 69) ((A:Int).toNat*2)))) (λx=>qT PZ N J A L x.1 x.2)) else (none)):=by
 conv=>rhs;simp only[<- CA N J A L]
 kernel_rfl
theorem CB(L:QO)(A:Nat)(J:QA)(O:J.size=A*(lay PZ 72).length/\(∀k,k<A->WT PZ 72 (J.extract (k*(lay PZ 72).length) (k*(lay PZ 72).length+(lay PZ 72).length)))/\A<=9223372036854775807)(hg:(decide (A<=1048576))=true):ansV PZ (mkΓ [(37,con iJ)]) 18446744073709551616 f12 [([4],[3])] [.l 0] [.sl (.came L) A J 72]=some (.a .x,.newS none A J 69,true):=by
 have hn:A<=1048576:=of_decide_eq_true hg;have hm:(lay PZ 72).length=2:=by kernel_rfl
 have hb:bytesOf PZ 69=2:=by kernel_rfl
 obtain⟨V,s2,s3⟩:=O;rw[hm]at V s2;have hq:(lay PZ 72)[0]?=some 0:=by kernel_rfl
 refine(Yij 18446744073709551616 L A J).trans ?_;have b5:(decide (0<=(A:Int))&&((A:Int)==(A:Int)&&decide ((bytesOf PZ 69:Int)*(A:Int)<=281474976710656)))=true:=by rw[hb,Q3 (show (0:Int)<=A by omega),beq_self_eq_true,Q3 (show (((2:Nat):Int))*(A:Int)<=281474976710656 by omega)];rfl
 rw[b5,Q1];have U:J.size=(madeCells (zc PZ 69) ((A:Int).toNat*2)).size:=by rw[size_madeCells,Q9];exact V
 generalize (madeCells (zc PZ 69) ((A:Int).toNat*2))=Z at U|-
 have h:=bP (g:=Zej PZ L A J) (λk=>((k:Int),upto J Z (k*2))) (m:=A) (x:=((A:Int),upto J Z (A*2))) (N:=18446744073709551616) (λk hk=>by
  have h1:decide ((k:Int)<(A:Int))=true:=Q3 (by omega);have h0:decide (0<=(k:Int))=true:=Q3 (by omega);have h3:i64.wrap ((k:Int)+1)=((k+1:Nat):Int):=by rw[IntWalk.i64_in _ (by omega)];omega
  have h5:spl (upto J Z (k*2)) (k*2) (J.extract (k*2) (k*2+2)).toList=upto J Z ((k+1)*2):=by rw[Nat.add_mul];exact qh U (by have:(k+1)*2<=A*2:=Nat.mul_le_mul_right _ hk;omega) rfl
  simp only[Zej,h1,h0,jB,Q9,Q1,h3,h5]) (by
  have h1:decide ((A:Int)<(A:Int))=false:=Q4 (by omega);simp only[Zej,h1,Q2]) (by omega)
 rw[jr U V]at h;simp only[Nat.zero_mul,jq U]at h;have h':Uab (Zej PZ L A J) 18446744073709551616 ((0:Int),Z)=some ((A:Int),J):=h;rw[h']
 show some (_,Eff.newS none ((A:Int).toNat) J 69,true)=_
 rw[Q9]
def qU:af:=λargs h=>match args,h with|[.l 0],[.sl (.came b_a0) n_a0 a0 72]=>some (.a .x,.newS none n_a0 a0 69,decide (n_a0<=1048576))|_,_=>none
theorem CC:EntX PZ 12:=Zaj (fn:=f12)
theorem CD:Uad (md F) PZ 12 qU:=(ansY (N:=18446744073709551616) (mKc (Zae Cy) Cx mKn) f12 [([4],[3])]).of (by
 intro ρ h w args vals r e Z U L;unfold qU at L;split at L
 ·rename_i A J V;obtain⟨rfl,rfl,O⟩:=ai L;exact CB A J V (U.slw 0 rfl) O
 ·cases L)
def bcF(A:QA)(k:Nat):Int:=i64.wrap (num A (k*2+0))
def hcF(A:QA)(k:Nat):Int:=i64.wrap (num A (k*2+1))
def fndB(S A:QA)(k:Nat):Bool:=Zab (bcF A k) S&&(Zah (bcF A k) S&&Zaa (hcF A k) 1 14)
def Ubc(S:QA)(n:Nat)(A:QA):Bool:=(jD n).all (fndB S A)
theorem Ygi(S:QA)(n:Nat)(A:QA):Ubc S n A=true ↔ ∀k,k<n->fndB S A k=true:=by unfold Ubc;rw[jJ];exact⟨λh k hk=>h k (jG.2 hk),λh k hk=>h k (jG.1 hk)⟩
theorem qV(A:QA)(k:Nat):i64.wrap (num (A.extract (k*2) (k*2+2)) 0)=bcF A k/\i64.wrap (num (A.extract (k*2) (k*2+2)) 1)=hcF A k:=by rw[wJ (by omega),wJ (by omega)];exact⟨rfl,rfl⟩
theorem wK(n:Int):Zhi n=Zaa n 1 14:=rfl
def jv:Cons:=(mkΓ [(72,con dH),(73,con lz),(74,con qn)])
def Ze5(L:QA)(A:QO)(J:Nat)(O:QA):St:=(⟨.a (.w 0)::.a (.l 1)::.a (.u)::.a (.u)::.a (.b false)::.a (.i .i64 0)::us 36 ([]),[.row L 38,.sl (.came A) J O 69],[]⟩:St)
def Zgm:Bool×Int->LS
 |(A,J)=>([.a (.b A),.a (.i .i64 J)],[])
def qW:(Stp (Bool×Int) (Bool×Int))->QP×LS
 |.more t=>(.ret,Zgm t)
 |.done t=>((.exit 0),Zgm t)
def Zcg(P:QD)(U:QA)(V:QO)(J:Nat)(O:QA):Bool×Int->Option (Stp (Bool×Int) (Stp (Bool×Int) (Bool×Int)))
  |(L,A)=>bif decide (A<(J:Int)) then (bif (decide (0<=A)&&decide (A<(J:Int))) then (bif (!((Zab (i64.wrap (num O (((A).toNat*2)+0))) U))) then (some (.done (.more (false,A)))) else (bif decide (0<=(IntKind.u64.wrap (i64.wrap (num O (((A).toNat*2)+0))))) then (bif (!((Zah (i64.wrap (num O (((A).toNat*2)+0))) U))) then (some (.done (.more (false,A)))) else (bif (decide (0<=A)&&decide (A<(J:Int))) then (bif (!((Zaa (i64.wrap (num O (((A).toNat*2)+1))) (1:Int) (14:Int)))) then (some (.done (.more (false,A)))) else (some (.more (L,(i64.wrap (A+(1:Int))))))) else (none))) else (none))) else (none)) else (some (.done (.done (L,A))))
noncomputable abbrev av:=codeOf f52
theorem Yin(N:Nat)(L:QA)(A:QO)(J:Nat)(O:QA):∀t:Bool×Int,Uaf PZ jv N (cAt av [1,0,1,0,0]) (pAt (Uaa av [([4,5],[])]).1 [1,0,1,0]) [4,5] [] (Ze5 L A J O) (Zgm t)=aa Zgm qW (Zcg PZ L A J O t):=by
  rintro⟨U,V⟩
  conv=>rhs;simp only[Zcg,aM,aJ,aK,aL,Zgm,qW]
  kernel_rfl
def qX(P:QD)(N:Nat)(U:QA)(J:QO)(L:Nat)(V:QA)(A:Bool)(O:Int):Option (SV×Eff×Bool):=some (.a (.b A),.none,true)
theorem CE(N:Nat)(U:QA)(A:QO)(J:Nat)(V:QA)(L:Bool)(O:Int):(Uac 0 (kSeq (veC PZ jv N (cAt av [1,1]) (pAt (Uaa av [([4,5],[])]).1 [1,1]) (SV×Eff×Bool)) (finK PZ [.row U 38,.sl (.came A) J V 69] [.tmp 4]))) .ret (left (writes (cAt av [1,0,1,0,0])) [4,5] [] (Ze5 U A J V) ([.a (.b L),.a (.i .i64 O)],[]))=qX PZ N U A J V L O:=by kernel_rfl
def qY(P:QD)(N:Nat)(U:QA)(J:QO)(A:Nat)(V:QA)(L:Bool)(O:Int):Option (SV×Eff×Bool):=some (.a (.b (decide ((A:Int)<=(60:Int)))),.none,true)
theorem CF(N:Nat)(U:QA)(A:QO)(J:Nat)(V:QA)(L:Bool)(O:Int):(Uac 0 (kSeq (veC PZ jv N (cAt av [1,1]) (pAt (Uaa av [([4,5],[])]).1 [1,1]) (SV×Eff×Bool)) (finK PZ [.row U 38,.sl (.came A) J V 69] [.tmp 4]))) (.exit 0) (left (writes (cAt av [1,0,1,0,0])) [4,5] [] (Ze5 U A J V) ([.a (.b L),.a (.i .i64 O)],[]))=qY PZ N U A J V L O:=by kernel_rfl
theorem CG(N:Nat)(L:QA)(A:QO)(J:Nat)(O:QA):au (Uab (Uaf PZ jv N (cAt av [1,0,1,0,0]) (pAt (Uaa av [([4,5],[])]).1 [1,0,1,0]) [4,5] [] (Ze5 L A J O)) N ([.a (.b false),.a (.i .i64 0)],[])) (λe s=>(Uac 0 (kSeq (veC PZ jv N (cAt av [1,1]) (pAt (Uaa av [([4,5],[])]).1 [1,1]) (SV×Eff×Bool)) (finK PZ [.row L 38,.sl (.came A) J O 69] [.tmp 4]))) e (left (writes (cAt av [1,0,1,0,0])) [4,5] [] (Ze5 L A J O) s))=Uah (Uab (Zcg PZ L A J O) N (false,(0:Int))) (st2 (λx=>qX PZ N L A J O x.1 x.2) (λx=>qY PZ N L A J O x.1 x.2)):=by refine aP Zgm qW _ _ (Yin N L A J O) N (false,(0:Int)) _ _ ?_;intro x;cases x with|more x=>exact CE N L A J O x.1 x.2|done x=>exact CF N L A J O x.1 x.2
theorem Ygg(N:Nat)(L:QA)(A:QO)(J:Nat)(O:QA):ansV PZ jv N f52 [([4,5],[])] [.w 0,.l 1] [.row L 38,.sl (.came A) J O 69]=(Uah (Uab (Zcg PZ L A J O) N (false,(0:Int))) (st2 (λx=>qX PZ N L A J O x.1 x.2) (λx=>qY PZ N L A J O x.1 x.2))):=by
 conv=>rhs;simp only[<- CG N L A J O]
 kernel_rfl
theorem CH(O:QA)(U:QO)(A:Nat)(J:QA)(h_a0:WT PZ 38 O)(Z:J.size=A*(lay PZ 69).length/\(∀k,k<A->WT PZ 69 (J.extract (k*(lay PZ 69).length) (k*(lay PZ 69).length+(lay PZ 69).length)))/\A<=9223372036854775807)(hg:(true)=true):ansV PZ jv 18446744073709551616 f52 [([4,5],[])] [.w 0,.l 1] [.row O 38,.sl (.came U) A J 69]=some (.a (.b ((Ubc O A J&&decide ((A:Int)<=60)))),.none,true):=by
 have hn:=Z.2.2;refine(Ygg 18446744073709551616 O U A J).trans ?_;refine(Zn9 (g:=Zcg PZ O U A J) (λk=>(false,(k:Int))) (fndB O J) A (N:=18446744073709551616) (xd:=.done (false,(A:Int))) (by omega) (λk hk hp=>by
  have V:decide ((k:Int)<(A:Int))=true:=Q3 (by omega);have h0:decide (0<=(k:Int))=true:=Q3 (by omega);have h3:i64.wrap ((k:Int)+1)=((k+1:Nat):Int):=by rw[IntWalk.i64_in _ (by omega)];omega
  have h4:decide (0<=IntKind.u64.wrap (bcF J k))=true:=Q3 (Zhx .u64 _).1;have hb:i64.wrap (num J (k*2+0))=bcF J k:=rfl;have hc:i64.wrap (num J (k*2+1))=hcF J k:=rfl;have L:fndB O J k=true:=hp;unfold fndB at L;simp only[Q7]at L;simp only[Zcg,V,h0,h3,jB,Q9,Q1,Q2,hb,hc,h4,L.1,L.2.1,L.2.2,jE]) (by
  have V:decide ((A:Int)<(A:Int))=false:=Q4 (by omega);simp only[Zcg,V,Q2]) (Ubc O A J) (Ygi O A J) (some (.a (.b (decide ((A:Int)<=60))),.none,true)) (some (.a (.b false),.none,true)) rfl (λk hk hp=>by
  refine⟨.more (false,(k:Int)),?_,rfl⟩;have V:decide ((k:Int)<(A:Int))=true:=Q3 (by omega);have h0:decide (0<=(k:Int))=true:=Q3 (by omega);have h3:i64.wrap ((k:Int)+1)=((k+1:Nat):Int):=by rw[IntWalk.i64_in _ (by omega)];omega
  have h4:decide (0<=IntKind.u64.wrap (bcF J k))=true:=Q3 (Zhx .u64 _).1;have hb:i64.wrap (num J (k*2+0))=bcF J k:=rfl;have hc:i64.wrap (num J (k*2+1))=hcF J k:=rfl;have L:fndB O J k=false:=hp;unfold fndB at L;cases x1:Zab (bcF J k) O
  ·simp only[Zcg,V,h0,h3,jB,Q9,Q1,hb,x1,jF]
  ·cases x2:Zah (bcF J k) O
   ·simp only[Zcg,V,h0,h3,jB,Q9,Q1,Q2,hb,h4,x1,x2,jE,jF]
   ·rw[x1,x2]at L;simp only[jI]at L;simp only[Zcg,V,h0,h3,jB,Q9,Q1,Q2,hb,hc,h4,x1,x2,L,jE,jF])).trans ?_
 cases Ubc O A J<;>rfl
def qZ:af:=λargs h=>match args,h with|[.w 0,.l 1],[.row a0 38,.sl (.came b_a1) n_a1 a1 69]=>some (.a (.b ((Ubc a0 n_a1 a1&&decide ((n_a1:Int)<=60)))),.none,true)|_,_=>none
theorem CI:EntX PZ 52:=Zaj (fn:=f52)
theorem CJ:Uad (md F) PZ 52 qZ:=(ansY (N:=18446744073709551616) (mKc (Zae mK) mJ (mKc (Zae oS) oR (mKc (Zae Bf) Be mKn))) f52 [([4,5],[])]).of (by
 intro ρ h w args vals r e hA U L;unfold qZ at L;split at L
 ·rename_i V A J Z;obtain⟨rfl,rfl,O⟩:=ai L;exact CH V A J Z (U.wt 0 rfl) (U.slw 1 rfl) O
 ·cases L)
def jw:Cons:=(mkΓ [(81,con pg),(82,con mL),(95,con lC),(96,con qo)])
def Zdu(J:QA)(L:QO)(A:Nat)(O:QA):St:=(⟨.a (.g J 38)::.a (.l 0)::.a (.w 1)::.a (.u)::.a (.b false)::us 3 (.a (.g J 38)::.a (.b ((okS J)))::.a (.b ((!((okS J)))))::.a (.b false)::.a (.l 0)::.a (.i .i64 (A:Int))::.a (.b (decide ((A:Int) > (60:Int))))::.a (.b (decide ((A:Int) > (60:Int))))::.a (.l 0)::.a (.i .i64 (A:Int))::.a (.i .i64 0)::us 23 ([])),[.sl (.came L) A O 69,.row J 38,.no],[]⟩:St)
def Zer:Bool×Int->LS
 |(J,A)=>([.a (.b J),.a (.i .i64 A)],[])
def ra:(Stp (Bool×Int) (Bool×Int))->QP×LS
 |.more t=>(.ret,Zer t)
 |.done t=>((.exit 0),Zer t)
def Zbu(P:QD)(U:QA)(V:QO)(J:Nat)(O:QA):Bool×Int->Option (Stp (Bool×Int) (Stp (Bool×Int) (Bool×Int)))
  |(L,A)=>bif decide (A<(J:Int)) then (bif (decide (0<=A)&&decide (A<(J:Int))) then (bif (!((Zaw U (i64.wrap (num (O.extract ((A).toNat*2) (((A).toNat*2)+2)) 0))))) then (some (.done (.more (false,A)))) else (bif decide (0<=(i64.wrap (num (O.extract ((A).toNat*2) (((A).toNat*2)+2)) 0))) then (bif (Zac U (i64.wrap (num (O.extract ((A).toNat*2) (((A).toNat*2)+2)) 0))) then (some (.done (.more (false,A)))) else (bif (!((Zhi (i64.wrap (num (O.extract ((A).toNat*2) (((A).toNat*2)+2)) 1))))) then (some (.done (.more (false,A)))) else (some (.more (L,(i64.wrap (A+(1:Int)))))))) else (none))) else (none)) else (some (.done (.done (L,A))))
noncomputable abbrev aw:=codeOf f78
theorem Ybb(N:Nat)(O:QA)(A:QO)(J:Nat)(U:QA):∀t:Bool×Int,Uaf PZ jw N (cAt aw [1,1,0,1,0,0]) (pAt (Uaa aw [([4,18],[])]).1 [1,1,0,1,0]) [4,18] [] (Zdu O A J U) (Zer t)=aa Zer ra (Zbu PZ O A J U t):=by
  rintro⟨V,L⟩
  conv=>rhs;simp only[Zbu,aM,aJ,aK,aL,Zer,ra]
  kernel_rfl
def rb(P:QD)(N:Nat)(U:QA)(L:QO)(O:Nat)(V:QA)(A:Bool)(J:Int):Option (SV×Eff×Bool):=some (.a (.b A),.none,true)
theorem CK(N:Nat)(V:QA)(A:QO)(J:Nat)(U:QA)(O:Bool)(L:Int):(Uac 0 (kSeq (veC PZ jw N (cAt aw [1,1,1]) (pAt (Uaa aw [([4,18],[])]).1 [1,1,1]) (SV×Eff×Bool)) (finK PZ [.sl (.came A) J U 69] [.tmp 4]))) .ret (left (writes (cAt aw [1,1,0,1,0,0])) [4,18] [] (Zdu V A J U) ([.a (.b O),.a (.i .i64 L)],[]))=rb PZ N V A J U O L:=by kernel_rfl
def rc(P:QD)(N:Nat)(U:QA)(J:QO)(L:Nat)(V:QA)(O:Bool)(A:Int):Option (SV×Eff×Bool):=some (.a (.b true),.none,true)
theorem CL(N:Nat)(V:QA)(A:QO)(J:Nat)(U:QA)(O:Bool)(L:Int):(Uac 0 (kSeq (veC PZ jw N (cAt aw [1,1,1]) (pAt (Uaa aw [([4,18],[])]).1 [1,1,1]) (SV×Eff×Bool)) (finK PZ [.sl (.came A) J U 69] [.tmp 4]))) (.exit 0) (left (writes (cAt aw [1,1,0,1,0,0])) [4,18] [] (Zdu V A J U) ([.a (.b O),.a (.i .i64 L)],[]))=rc PZ N V A J U O L:=by kernel_rfl
theorem CM(N:Nat)(O:QA)(A:QO)(J:Nat)(L:QA):au (Uab (Uaf PZ jw N (cAt aw [1,1,0,1,0,0]) (pAt (Uaa aw [([4,18],[])]).1 [1,1,0,1,0]) [4,18] [] (Zdu O A J L)) N ([.a (.b false),.a (.i .i64 0)],[])) (λe s=>(Uac 0 (kSeq (veC PZ jw N (cAt aw [1,1,1]) (pAt (Uaa aw [([4,18],[])]).1 [1,1,1]) (SV×Eff×Bool)) (finK PZ [.sl (.came A) J L 69] [.tmp 4]))) e (left (writes (cAt aw [1,1,0,1,0,0])) [4,18] [] (Zdu O A J L) s))=Uah (Uab (Zbu PZ O A J L) N (false,(0:Int))) (st2 (λx=>rb PZ N O A J L x.1 x.2) (λx=>rc PZ N O A J L x.1 x.2)):=by refine aP Zer ra _ _ (Ybb N O A J L) N (false,(0:Int)) _ _ ?_;intro x;cases x with|more x=>exact CK N O A J L x.1 x.2|done x=>exact CL N O A J L x.1 x.2
theorem Zzn(N:Nat)(L:QA)(J:QO)(A:Nat)(O:QA):ansV PZ jw N f78 [([4,18],[])] [.g L 38,.l 0] [.sl (.came J) A O 69]=(bif (!((okS L))) then (some (.a (.b false),.none,true)) else (bif decide ((A:Int) > (60:Int)) then (some (.a (.b false),.none,true)) else (Uah (Uab (Zbu PZ L J A O) N (false,(0:Int))) (st2 (λx=>rb PZ N L J A O x.1 x.2) (λx=>rc PZ N L J A O x.1 x.2))))):=by
 conv=>rhs;simp only[<- CM N L J A O]
 kernel_rfl
theorem CN (a0:QA) (b_a1:QO) (n_a1:Nat) (a1:QA) (h_a0:WT PZ 38 a0) (h_a1:a1.size=n_a1*(lay PZ 69).length∧(∀ k,k<n_a1→WT PZ 69 (a1.extract (k*(lay PZ 69).length) (k*(lay PZ 69).length+(lay PZ 69).length)))∧n_a1≤9223372036854775807) (hg:(true)=true):ansV PZ jw 18446744073709551616 f78 [([4,18],[])] [.g a0 38,.l 0] [.sl (.came b_a1) n_a1 a1 69]=some (.a (.b ((okS a0&&(Ubc a0 n_a1 a1&&decide ((n_a1:Int)≤60))))),.none,true):=by
  have hn:=h_a1.2.2;have hS:=Ywq h_a0;refine(Zzn 18446744073709551616 a0 b_a1 n_a1 a1).trans ?_;cases hok:okS a0
  . rfl
  by_cases hl:(n_a1:Int) > 60
  · rw [Q3 hl,Q4 (show ¬ (n_a1:Int)≤60 by omega),Bool.and_false];rfl
  rw[Q4 hl,Q3 (show (n_a1:Int)<=60 by omega),Bool.and_true];simp only[jE,Q2,jI]
  refine (Zn9 (g:=Zbu PZ a0 b_a1 n_a1 a1) (fun k=>(false,(k:Int))) (fndB a0 a1) n_a1 (N:=18446744073709551616) (xd:=.done (false,(n_a1:Int))) (by omega) (fun k hk hp=>by
    have h1:decide ((k:Int)<(n_a1:Int))=true:=Q3 (by omega);have h0:decide (0<=(k:Int))=true:=Q3 (by omega);have h3:i64.wrap ((k:Int)+1)=((k+1:Nat):Int):=by rw[IntWalk.i64_in _ (by omega)];omega
    have hx:=qV a1 k;have hp':fndB a0 a1 k=true:=hp;unfold fndB at hp';simp only[Q7]at hp';have hr:=Zkk hp'.1;have h4:decide (0<=bcF a1 k)=true:=Q3 hr.1;have hw:Zac a0 (bcF a1 k)=false:=by unfold Zac;rw[mu h_a0 hr,hp'.2.1];rfl
    simp only[Zbu,h1,h0,h3,jB,Q9,Q1,Q2,hx.1,hx.2,iN,wK,h4,hw,hp'.1,hp'.2.2,jE]) (by
    have h1:decide ((n_a1:Int)<(n_a1:Int))=false:=Q4 (by omega);simp only[Zbu,h1,Q2]) (Ubc a0 n_a1 a1) (Ygi a0 n_a1 a1) (some (.a (.b true),.none,true)) (some (.a (.b false),.none,true)) rfl (λk hk hp=>by
    refine⟨.more (false,(k:Int)),?_,rfl⟩;have h1:decide ((k:Int)<(n_a1:Int))=true:=Q3 (by omega);have h0:decide (0<=(k:Int))=true:=Q3 (by omega);have h3:i64.wrap ((k:Int)+1)=((k+1:Nat):Int):=by rw[IntWalk.i64_in _ (by omega)];omega
    have hx:=qV a1 k;have hp':fndB a0 a1 k=false:=hp;unfold fndB at hp';cases x1:Zab (bcF a1 k) a0
    . simp only[Zbu,h1,h0,h3,jB,Q9,Q1,hx.1,iN,x1,jF]
    · have hr:=Zkk x1;have h4:decide (0<=bcF a1 k)=true:=Q3 hr.1;cases x2:Zah (bcF a1 k) a0
      · have hw:Zac a0 (bcF a1 k)=true:=by
          unfold Zac;rw[mu h_a0 hr,x2];rfl
        simp only[Zbu,h1,h0,h3,jB,Q9,Q1,Q2,hx.1,iN,h4,x1,hw,jE]
      · have hw:Zac a0 (bcF a1 k)=false:=by
          unfold Zac;rw[mu h_a0 hr,x2];rfl
        rw[x1,x2]at hp';simp only[jI]at hp';simp only[Zbu,h1,h0,h3,jB,Q9,Q1,Q2,hx.1,hx.2,iN,wK,h4,x1,hw,hp',jE,jF])).trans ?_
  cases Ubc a0 n_a1 a1<;>rfl
def rf:af:=λargs h=>match args,h with|[.g a0 38,.l 0],[.sl (.came b_a1) n_a1 a1 69]=>some (.a (.b ((okS a0&&(Ubc a0 n_a1 a1&&decide ((n_a1:Int)<=60))))),.none,true)|_,_=>none
theorem CO:EntX PZ 78:=Zaj (fn:=f78)
theorem CP:Uad (md F) PZ 78 rf:=(ansY (N:=18446744073709551616) (mKc (Zae mZ) mY (mKc (Zae lB) lA (mKc (Zae oX) oW (mKc (Zae Bi) Bh mKn)))) f78 [([4,18],[])]).of (by
 intro ρ h w args vals r e U V L;unfold rf at L;split at L
 ·rename_i Z A J a1;obtain⟨rfl,rfl,O⟩:=ai L;exact CN Z A J a1 (U.wt 0 rfl) (V.slw 0 rfl) O
 ·cases L)
def vf(S:QA)(n:Nat)(a:QA):Bool:=(okS S&&(Ubc S n a&&decide ((n:Int)<=60)))
theorem Ufy{S a:QA}{n:Nat}(h:vf S n a=true):okS S=true/\n<=60/\∀k,k<n->fndB S a k=true:=by unfold vf at h;simp only[Q7,decide_eq_true_eq]at h;exact⟨h.1,by omega,(Ygi S n a).1 h.2.1⟩
theorem jx{S a:QA}{k:Nat}(h:fndB S a k=true):Zab (bcF a k) S=true/\Zah (bcF a k) S=true/\Zaa (hcF a k) 1 14=true:=by unfold fndB at h;simp only[Q7]at h;exact h
theorem Zvw{C:QA}(h:WT PZ 69 C):C.size=2/\i64.wrap (num C 0)=num C 0/\i64.wrap (num C 1)=num C 1/\bcF C 0=num C 0/\hcF C 0=num C 1:=by have h0:=(h.int (o:=0) (k:=.i8) (by kernel_rfl)).2;have O:=(h.int (o:=1) (k:=.i8) (by kernel_rfl)).2;have A:IntKind.i8.min=-128/\IntKind.i8.max=127:=⟨rfl,rfl⟩;rw[A.1,A.2]at h0 O;have J:i64.wrap (num C 0)=num C 0:=aI (by omega);have L:i64.wrap (num C 1)=num C 1:=aI (by omega);exact⟨by rw[h.layLen];kernel_rfl,J,L,J,L⟩
def prtV(J A:QA):Int:=(num (subV (J.extract ((num A 1).toNat*36) ((num A 1).toNat*36+36)) (J.extract (((num A 1).toNat - 1)*36) (((num A 1).toNat - 1)*36+36)) 12) (num A 0).toNat)
theorem Zv9(N:Nat)(A:QA)(L:QO)(J:Nat)(O:QA):ansV PZ (mkΓ [(108,con oD)]) N f88 [] [.l 0,.g A 69] [.sl (.came L) J O 97]=(bif ((decide (0<=(i64.wrap ((i64.wrap (num A 1)) - (1:Int))))&&decide ((i64.wrap ((i64.wrap (num A 1)) - (1:Int)))<=(i64.wrap (num A 1))))&&(decide ((i64.wrap (num A 1))<=(i64.wrap ((i64.wrap (num A 1)) - (1:Int)))+14)&&decide ((i64.wrap (num A 1))<(J:Int)))) then (bif (decide (0<=(num A 0))&&decide ((num A 0)<36)) then (some (.a (.i .i64 (num (subV (O.extract ((i64.wrap (num A 1)).toNat*36) ((i64.wrap (num A 1)).toNat*36+36)) (O.extract ((i64.wrap ((i64.wrap (num A 1)) - (1:Int))).toNat*36) ((i64.wrap ((i64.wrap (num A 1)) - (1:Int))).toNat*36+36)) (12^((i64.wrap (num A 1)) - (i64.wrap ((i64.wrap (num A 1)) - (1:Int)))).toNat)) ((num A 0).toNat*1))),.none,true)) else (none)) else (none)):=by kernel_rfl
theorem CQ(J:QA)(L:QO)(A:Nat)(O:QA)(U:WT PZ 69 J)(V:O.size=A*(lay PZ 97).length/\(∀k,k<A->WT PZ 97 (O.extract (k*(lay PZ 97).length) (k*(lay PZ 97).length+(lay PZ 97).length)))/\A<=9223372036854775807)(Z:((Zaa (num J 1) 1 14&&(decide (num J 1<(A:Int))&&(decide (0<=num J 0)&&decide (num J 0<36)))))=true):ansV PZ (mkΓ [(108,con oD)]) 1000 f88 [] [.l 0,.g J 69] [.sl (.came L) A O 97]=some (.a (.i .i64 (prtV O J)),.none,true):=by
 obtain⟨z,e0,e1,_,_⟩:=Zvw U;rw[Q7,Q7]at Z;obtain⟨q3,q4,q5⟩:=Z;have r3:=Zik q3;have e2:i64.wrap (num J 1 - 1)=num J 1 - 1:=aI (by omega);have e3:(num J 1 - (num J 1 - 1)).toNat=1:=by omega
 have e4:(num J 1 - 1).toNat=(num J 1).toNat - 1:=by omega
 have e5:(12:Int)^1=12:=by decide
 have g1:decide (0<=num J 1 - 1)=true:=Q3 (by omega);have g2:decide (num J 1 - 1<=num J 1)=true:=Q3 (by omega);have g3:decide (num J 1<=num J 1 - 1+14)=true:=Q3 (by omega);refine(Zv9 1000 J L A O).trans ?_;unfold prtV;simp only[e1,e2,e3,e4,e5,g1,g2,g3,q4,q5,jB,Q1,jK]
def rg:af:=λargs h=>match args,h with|[.l 0,.g a1 69],[.sl (.came b_a0) n_a0 a0 97]=>some (.a (.i .i64 (prtV a0 a1)),.none,(Zaa (num a1 1) 1 14&&(decide (num a1 1<(n_a0:Int))&&(decide (0<=num a1 0)&&decide (num a1 0<36)))))|_,_=>none
theorem CR:EntX PZ 88:=Zaj (fn:=f88)
theorem CS:Uad (md F) PZ 88 rg:=(ansY (N:=1000) (mKc (Zae BO) BN mKn) f88 []).of (by
 intro ρ h w args vals r e U V L;unfold rg at L;split at L
 ·rename_i Z A J a0;obtain⟨rfl,rfl,O⟩:=ai L;exact CQ Z A J a0 (U.wt 1 rfl) (V.slw 0 rfl) O
 ·cases L)
theorem Zz0(N:Nat)(A J:QA):ansV PZ (mkΓ []) N f79 [] [.g A 38,.g J 38] []=(bif ((num A 0)==(num J 0)) then (bif ((num A 1)==(num J 1)) then (some (.a (.b (((num A 2)==(num J 2)))),.none,true)) else (some (.a (.b false),.none,true))) else (some (.a (.b false),.none,true))):=by kernel_rfl
def Zbv(A J:QA):Bool:=(bif ((num A 0)==(num J 0)) then (bif ((num A 1)==(num J 1)) then ((num A 2)==(num J 2)) else false) else false)
theorem CT(J L:QA)(O:WT PZ 38 J)(U:WT PZ 38 L)(A:(true)=true):ansV PZ (mkΓ []) 1000 f79 [] [.g J 38,.g L 38] []=some (.a (.b ((Zbv J L))),.none,true):=by
 refine(Zz0 1000 J L).trans ?_;unfold Zbv;revert A;generalize (((num J 0)==(num L 0)))=b2;intro A;cases b2
 ·skip
  first|rfl|exact(nomatch (A:false=true))
 ·skip
  revert A;generalize (((num J 1)==(num L 1)))=b4;intro A;cases b4
  ·skip
   first|rfl|exact(nomatch (A:false=true))
  ·skip
   first|rfl|exact(nomatch (A:false=true))
def rh:af:=λargs h=>match args,h with|[.g a0 38,.g a1 38],[]=>some (.a (.b ((Zbv a0 a1))),.none,true)|_,_=>none
theorem CU:EntX PZ 79:=Zaj (fn:=f79)
theorem CV:Uad (md F) PZ 79 rh:=(ansY (N:=1000) mKn f79 []).of (by
 intro ρ h w args vals r e L V A;unfold rh at A;split at A
 ·rename_i O U;obtain⟨rfl,rfl,J⟩:=ai A;exact CT O U (L.wt 0 rfl) (L.wt 1 rfl) J
 ·cases A)
theorem Ye5(N:Nat)(A J:QA):ansV PZ (mkΓ []) N f91 [] [.w 0,.w 1] [.row A 38,.row J 38]=(bif ((num A 0)==(num J 0)) then (bif ((num A 1)==(num J 1)) then (some (.a (.b (((num A 2)==(num J 2)))),.none,true)) else (some (.a (.b false),.none,true))) else (some (.a (.b false),.none,true))):=by kernel_rfl
def Zag(A J:QA):Bool:=(bif ((num A 0)==(num J 0)) then (bif ((num A 1)==(num J 1)) then ((num A 2)==(num J 2)) else false) else false)
theorem CW(J L:QA)(O:WT PZ 38 J)(U:WT PZ 38 L)(A:(true)=true):ansV PZ (mkΓ []) 1000 f91 [] [.w 0,.w 1] [.row J 38,.row L 38]=some (.a (.b ((Zag J L))),.none,true):=by
 refine(Ye5 1000 J L).trans ?_;unfold Zag;revert A;generalize (((num J 0)==(num L 0)))=b2;intro A;cases b2
 ·skip
  first|rfl|exact(nomatch (A:false=true))
 ·skip
  revert A;generalize (((num J 1)==(num L 1)))=b4;intro A;cases b4
  ·skip
   first|rfl|exact(nomatch (A:false=true))
  ·skip
   first|rfl|exact(nomatch (A:false=true))
def ri:af:=λargs h=>match args,h with|[.w 0,.w 1],[.row a0 38,.row a1 38]=>some (.a (.b ((Zag a0 a1))),.none,true)|_,_=>none
theorem CX:EntX PZ 91:=Zaj (fn:=f91)
theorem CY:Uad (md F) PZ 91 ri:=(ansY (N:=1000) mKn f91 []).of (by
 intro ρ h w args vals r e V L A;unfold ri at A;split at A
 ·rename_i O U;obtain⟨rfl,rfl,J⟩:=ai A;exact CW O U (L.wt 0 rfl) (L.wt 1 rfl) J
 ·cases A)
def wL:Cons:=(mkΓ [(51,con nb),(91,con ri)])
theorem Yg7(N:Nat)(A J:QA):ansV PZ wL N f65 [] [.w 0,.w 1] [.row A 38,.row J 38]=(bif (!((okS A))) then (some (.a (.i .i64 1),.none,true)) else (bif (!((okS J))) then (some (.a (.i .i64 1),.none,true)) else (bif (!((Zag A J))) then (some (.a (.i .i64 4),.none,true)) else (some (.a (.i .i64 0),.none,true))))):=by kernel_rfl
def Zcy(A J:QA):Int:=(bif (!((okS A))) then (1:Int) else (bif (!((okS J))) then (1:Int) else (bif (!((Zag A J))) then (4:Int) else (0:Int))))
theorem CZ(J L:QA)(O:WT PZ 38 J)(U:WT PZ 38 L)(A:(true)=true):ansV PZ wL 1000 f65 [] [.w 0,.w 1] [.row J 38,.row L 38]=some (.a (.i .i64 (Zcy J L)),.none,true):=by
 refine(Yg7 1000 J L).trans ?_;unfold Zcy;revert A;generalize ((!((okS J))))=b2;intro A;cases b2
 ·skip
  revert A;generalize ((!((okS L))))=b4;intro A;cases b4
  ·skip
   revert A;generalize ((!((Zag J L))))=b6;intro A;cases b6
   ·skip
    first|rfl|exact(nomatch (A:false=true))
   ·skip
    first|rfl|exact(nomatch (A:false=true))
  ·skip
   first|rfl|exact(nomatch (A:false=true))
 ·skip
  first|rfl|exact(nomatch (A:false=true))
def rj:af:=λargs h=>match args,h with|[.w 0,.w 1],[.row a0 38,.row a1 38]=>some (.a (.i .i64 (Zcy a0 a1)),.none,true)|_,_=>none
theorem Da:EntX PZ 65:=Zaj (fn:=f65)
theorem Db:Uad (md F) PZ 65 rj:=(ansY (N:=1000) (mKc (Zae tN) tM (mKc (Zae CY) CX mKn)) f65 []).of (by
 intro ρ h w args vals r e V L A;unfold rj at A;split at A
 ·rename_i O U;obtain⟨rfl,rfl,J⟩:=ai A;exact CZ O U (L.wt 0 rfl) (L.wt 1 rfl) J
 ·cases A)
def da:Cons:=(mkΓ [(78,con rf),(79,con rh)])
def Ze0(J:QO)(A:Nat)(U:QA)(L:QO)(O:Nat)(V:QA):St:=(⟨.a (.l 0)::.a (.l 1)::.a (.u)::.a (.u)::.a (.i .i64 0)::us 4 (.a (.l 0)::.a (.i .i64 (A:Int))::.a (.i .i64 0)::us 24 ([])),[.sl (.came J) A U 38,.sl (.came L) O V 69],[]⟩:St)
def Zgh:Int×Int->LS
 |(J,A)=>([.a (.i .i64 J),.a (.i .i64 A)],[])
def rk:(Stp (Int×Int) (Int×Int))->QP×LS
 |.more t=>(.ret,Zgh t)
 |.done t=>((.exit 0),Zgh t)
def Zcz(P:QD)(U:QO)(J:Nat)(V:QA)(Z:QO)(L:Nat)(a1:QA):Int×Int->Option (Stp (Int×Int) (Stp (Int×Int) (Int×Int)))
 |(O,A)=>bif decide (A<(J:Int)) then (bif (decide (0<=A)&&decide (A<(J:Int))) then (bif (!((okS (V.extract ((A).toNat*363) (((A).toNat*363)+363))&&(Ubc (V.extract ((A).toNat*363) (((A).toNat*363)+363)) L a1&&decide ((L:Int)<=60))))) then (some (.done (.more ((1:Int),A)))) else (some (.more (O,(i64.wrap (A+(1:Int))))))) else (none)) else (some (.done (.done (O,A))))
noncomputable abbrev ah:=codeOf f57
theorem Yiw(N:Nat)(A:QO)(J:Nat)(V:QA)(L:QO)(O:Nat)(Z:QA):∀t:Int×Int,Uaf PZ da N (cAt ah [1,0,1,0,0]) (pAt (Uaa ah [([4,11],[]),([4,25],[])]).1 [1,0,1,0]) [4,11] [] (Ze0 A J V L O Z) (Zgh t)=aa Zgh rk (Zcz PZ A J V L O Z t):=by
 rintro⟨b5,U⟩
 conv=>rhs;simp only[Zcz,aM,aJ,aK,aL,Zgh,rk]
 kernel_rfl
def Zey(L:QO)(A:Nat)(Z:QA)(O:QO)(U:Nat)(a1:QA)(V:Int)(J:Int):St:=(⟨.a (.l 0)::.a (.l 1)::.a (.u)::.a (.u)::.a (.i .i64 V)::.a (.u)::.a (.x)::.a (.u)::.a (.u)::.a (.l 0)::.a (.i .i64 (A:Int))::.a (.i .i64 J)::xs 8 (.a (.l 0)::.a (.i .i64 (A:Int))::.a (.b (decide ((A:Int) > (8:Int))))::.a (.l 0)::.a (.i .i64 (A:Int))::.a (.i .i64 0)::us 10 ([])),[.sl (.came L) A Z 38,.sl (.came O) U a1 69],[]⟩:St)
def Zgt:Int×Int->LS
 |(J,A)=>([.a (.i .i64 J),.a (.i .i64 A)],[])
def rm:(Stp (Int×Int) (Int×Int))->QP×LS
 |.more t=>(.ret,Zgt t)
 |.done t=>((.exit 2),Zgt t)
def Zc2(P:QD)(U:QO)(J:Nat)(V:QA)(Z:QO)(b5:Nat)(a1:QA)(b7:Int)(O:Int):Int×Int->Option (Stp (Int×Int) (Stp (Int×Int) (Int×Int)))
 |(L,A)=>bif decide (A<(J:Int)) then (bif (decide (0<=A)&&decide (A<(J:Int))) then (bif (decide (0<=(0:Int))&&decide ((0:Int)<(J:Int))) then (bif (!((Zbv (V.extract ((A).toNat*363) (((A).toNat*363)+363)) (V.extract ((0:Int).toNat*363) (((0:Int).toNat*363)+363))))) then (some (.done (.more ((4:Int),A)))) else (some (.more (L,(i64.wrap (A+(1:Int))))))) else (none)) else (none)) else (some (.done (.done (L,A))))
theorem Yha(N:Nat)(J:QO)(L:Nat)(a0:QA)(O:QO)(U:Nat)(a1:QA)(V:Int)(A:Int):∀t:Int×Int,Uaf PZ da N (cAt ah [1,1,1,0,1,0,0]) (pAt (Uaa ah [([4,11],[]),([4,25],[])]).1 [1,1,1,0,1,0]) [4,25] [] (Zey J L a0 O U a1 V A) (Zgt t)=aa Zgt rm (Zc2 PZ J L a0 O U a1 V A t):=by
 rintro⟨y1_4,Z⟩
 conv=>rhs;simp only[Zc2,aM,aJ,aK,aL,Zgt,rm]
 kernel_rfl
def rn(P:QD)(N:Nat)(O:QO)(U:Nat)(a0:QA)(V:QO)(Z:Nat)(a1:QA)(b5:Int)(J:Int)(A:Int)(L:Int):Option (SV×Eff×Bool):=some (.a (.i .i64 A),.none,true)
theorem Dc(N:Nat)(A:QO)(J:Nat)(a0:QA)(L:QO)(O:Nat)(a1:QA)(Z:Int)(U:Int)(b5:Int)(V:Int):(Uac 2 (kSeq (veC PZ da N (cAt ah [1,1,1,1]) (pAt (Uaa ah [([4,11],[]),([4,25],[])]).1 [1,1,1,1]) (SV×Eff×Bool)) (finK PZ [.sl (.came A) J a0 38,.sl (.came L) O a1 69] [.tmp 4]))) .ret (left (writes (cAt ah [1,1,1,0,1,0,0])) [4,25] [] (Zey A J a0 L O a1 Z U) ([.a (.i .i64 b5),.a (.i .i64 V)],[]))=rn PZ N A J a0 L O a1 Z U b5 V:=by kernel_rfl
def rp(P:QD)(N:Nat)(L:QO)(O:Nat)(a0:QA)(U:QO)(V:Nat)(a1:QA)(Z:Int)(A:Int)(b5:Int)(J:Int):Option (SV×Eff×Bool):=some (.a (.i .i64 0),.none,true)
theorem Dd(N:Nat)(A:QO)(J:Nat)(a0:QA)(L:QO)(O:Nat)(a1:QA)(Z:Int)(U:Int)(b5:Int)(V:Int):(Uac 2 (kSeq (veC PZ da N (cAt ah [1,1,1,1]) (pAt (Uaa ah [([4,11],[]),([4,25],[])]).1 [1,1,1,1]) (SV×Eff×Bool)) (finK PZ [.sl (.came A) J a0 38,.sl (.came L) O a1 69] [.tmp 4]))) (.exit 2) (left (writes (cAt ah [1,1,1,0,1,0,0])) [4,25] [] (Zey A J a0 L O a1 Z U) ([.a (.i .i64 b5),.a (.i .i64 V)],[]))=rp PZ N A J a0 L O a1 Z U b5 V:=by kernel_rfl
theorem De(N:Nat)(L:QO)(O:Nat)(Z:QA)(U:QO)(V:Nat)(a1:QA)(A:Int)(J:Int):au (Uab (Uaf PZ da N (cAt ah [1,1,1,0,1,0,0]) (pAt (Uaa ah [([4,11],[]),([4,25],[])]).1 [1,1,1,0,1,0]) [4,25] [] (Zey L O Z U V a1 A J)) N ([.a (.i .i64 A),.a (.i .i64 0)],[])) (λe s=>(Uac 2 (kSeq (veC PZ da N (cAt ah [1,1,1,1]) (pAt (Uaa ah [([4,11],[]),([4,25],[])]).1 [1,1,1,1]) (SV×Eff×Bool)) (finK PZ [.sl (.came L) O Z 38,.sl (.came U) V a1 69] [.tmp 4]))) e (left (writes (cAt ah [1,1,1,0,1,0,0])) [4,25] [] (Zey L O Z U V a1 A J) s))=Uah (Uab (Zc2 PZ L O Z U V a1 A J) N (A,(0:Int))) (st2 (λx=>rn PZ N L O Z U V a1 A J x.1 x.2) (λx=>rp PZ N L O Z U V a1 A J x.1 x.2)):=by refine aP Zgt rm _ _ (Yha N L O Z U V a1 A J) N (A,(0:Int)) _ _ ?_;intro x;cases x with|more x=>exact Dc N L O Z U V a1 A J x.1 x.2|done x=>exact Dd N L O Z U V a1 A J x.1 x.2
def rq(P:QD)(N:Nat)(L:QO)(O:Nat)(Z:QA)(U:QO)(V:Nat)(a1:QA)(A:Int)(J:Int):Option (SV×Eff×Bool):=some (.a (.i .i64 A),.none,true)
theorem Df(N:Nat)(A:QO)(J:Nat)(Z:QA)(L:QO)(O:Nat)(a1:QA)(V:Int)(U:Int):(Uac 0 (kSeq (veC PZ da N (cAt ah [1,1]) (pAt (Uaa ah [([4,11],[]),([4,25],[])]).1 [1,1]) (SV×Eff×Bool)) (finK PZ [.sl (.came A) J Z 38,.sl (.came L) O a1 69] [.tmp 4]))) .ret (left (writes (cAt ah [1,0,1,0,0])) [4,11] [] (Ze0 A J Z L O a1) ([.a (.i .i64 V),.a (.i .i64 U)],[]))=rq PZ N A J Z L O a1 V U:=by kernel_rfl
def mB(P:QD)(N:Nat)(O:QO)(J:Nat)(Z:QA)(U:QO)(V:Nat)(a1:QA)(L:Int)(A:Int):Option (SV×Eff×Bool):=bif decide ((J:Int) > (8:Int)) then (some (.a (.i .i64 3),.none,true)) else (Uah (Uab (Zc2 P O J Z U V a1 L A) N (L,(0:Int))) (st2 (λx=>rn P N O J Z U V a1 L A x.1 x.2) (λx=>rp P N O J Z U V a1 L A x.1 x.2)))
theorem Dg(N:Nat)(J:QO)(L:Nat)(Z:QA)(O:QO)(U:Nat)(a1:QA)(V:Int)(A:Int):(Uac 0 (kSeq (veC PZ da N (cAt ah [1,1]) (pAt (Uaa ah [([4,11],[]),([4,25],[])]).1 [1,1]) (SV×Eff×Bool)) (finK PZ [.sl (.came J) L Z 38,.sl (.came O) U a1 69] [.tmp 4]))) (.exit 0) (left (writes (cAt ah [1,0,1,0,0])) [4,11] [] (Ze0 J L Z O U a1) ([.a (.i .i64 V),.a (.i .i64 A)],[]))=mB PZ N J L Z O U a1 V A:=by
 conv=>rhs;simp only[<- De N J L Z O U a1 V A,mB]
 kernel_rfl
theorem Dh(N:Nat)(A:QO)(J:Nat)(U:QA)(L:QO)(O:Nat)(V:QA):au (Uab (Uaf PZ da N (cAt ah [1,0,1,0,0]) (pAt (Uaa ah [([4,11],[]),([4,25],[])]).1 [1,0,1,0]) [4,11] [] (Ze0 A J U L O V)) N ([.a (.i .i64 0),.a (.i .i64 0)],[])) (λe s=>(Uac 0 (kSeq (veC PZ da N (cAt ah [1,1]) (pAt (Uaa ah [([4,11],[]),([4,25],[])]).1 [1,1]) (SV×Eff×Bool)) (finK PZ [.sl (.came A) J U 38,.sl (.came L) O V 69] [.tmp 4]))) e (left (writes (cAt ah [1,0,1,0,0])) [4,11] [] (Ze0 A J U L O V) s))=Uah (Uab (Zcz PZ A J U L O V) N ((0:Int),(0:Int))) (st2 (λx=>rq PZ N A J U L O V x.1 x.2) (λx=>mB PZ N A J U L O V x.1 x.2)):=by refine aP Zgh rk _ _ (Yiw N A J U L O V) N ((0:Int),(0:Int)) _ _ ?_;intro x;cases x with|more x=>exact Df N A J U L O V x.1 x.2|done x=>exact Dg N A J U L O V x.1 x.2
theorem Yfe(N:Nat)(A:QO)(J:Nat)(U:QA)(L:QO)(O:Nat)(V:QA):ansV PZ da N f57 [([4,11],[]),([4,25],[])] [.l 0,.l 1] [.sl (.came A) J U 38,.sl (.came L) O V 69]=(Uah (Uab (Zcz PZ A J U L O V) N ((0:Int),(0:Int))) (st2 (λx=>rq PZ N A J U L O V x.1 x.2) (λx=>mB PZ N A J U L O V x.1 x.2))):=by
 conv=>rhs;simp only[<- Dh N A J U L O V]
 kernel_rfl
def badM(a:QA)(n:Nat)(D:QA)(k:Nat):Bool:= !(vf (a.extract (k*363) (k*363+363)) n D)
def offM(a:QA)(k:Nat):Bool:= !(Zbv (a.extract (k*363) (k*363+363)) (a.extract (0*363) (0*363+363)))
def Ua5(m:Nat)(a:QA)(n:Nat)(D:QA):Int:=bif ((jD m).find? (badM a n D)).isSome then 1 else bif ((jD m).find? (offM a)).isSome then 4 else 0
theorem Di(b_a0:QO)(n_a0:Nat)(a0:QA)(b_a1:QO)(n_a1:Nat)(a1:QA)(h_a0:a0.size=n_a0*(lay PZ 38).length/\(∀k,k<n_a0->WT PZ 38 (a0.extract (k*(lay PZ 38).length) (k*(lay PZ 38).length+(lay PZ 38).length)))/\n_a0<=9223372036854775807)(h_a1:a1.size=n_a1*(lay PZ 69).length/\(∀k,k<n_a1->WT PZ 69 (a1.extract (k*(lay PZ 69).length) (k*(lay PZ 69).length+(lay PZ 69).length)))/\n_a1<=9223372036854775807)(hg:(jA n_a0 8)=true):ansV PZ da 1000 f57 [([4,11],[]),([4,25],[])] [.l 0,.l 1] [.sl (.came b_a0) n_a0 a0 38,.sl (.came b_a1) n_a1 a1 69]=some (.a (.i .i64 (Ua5 n_a0 a0 n_a1 a1)),.none,true):=by
 have hn:n_a0<=8:=jL hg;refine(Yfe 1000 b_a0 n_a0 a0 b_a1 n_a1 a1).trans ?_;have w1:∀k:Nat,k<n_a0->i64.wrap ((k:Int)+1)=((k+1:Nat):Int):=λk hk=>by rw[aI (by omega)];omega
 have l0:=iC (g:=Zcz PZ b_a0 n_a0 a0 b_a1 n_a1 a1) (λk=>((0:Int),(k:Int))) (badM a0 n_a1 a1) n_a0 (N:=1000) (xd:=.done ((0:Int),(n_a0:Int))) (by omega) (λk=>.more ((1:Int),(k:Int))) (λk hk hp=>by
  have h1:decide ((k:Int)<(n_a0:Int))=true:=Q3 (by omega);have h2:decide (0<=(k:Int))=true:=Q3 (by omega);unfold badM vf at hp;simp only[Zcz,h1,h2,w1 k hk,Q9,hp,jB,Q1,Q2]) (λk hk hp=>by
  have h1:decide ((k:Int)<(n_a0:Int))=true:=Q3 (by omega);have h2:decide (0<=(k:Int))=true:=Q3 (by omega);unfold badM vf at hp;simp only[Zcz,h1,h2,Q9,hp,jB,Q1,Q2]) (by
  have h1:decide ((n_a0:Int)<(n_a0:Int))=false:=Q4 (by omega);simp only[Zcz,h1,Q2])
 have l0':Uab (Zcz PZ b_a0 n_a0 a0 b_a1 n_a1 a1) 1000 ((0:Int),(0:Int))=some (match (jD n_a0).find? (badM a0 n_a1 a1) with|some k=>.more ((1:Int),(k:Int))|none=>.done ((0:Int),(n_a0:Int))):=l0;rw[l0'];unfold Ua5;cases hb:(jD n_a0).find? (badM a0 n_a1 a1) with
 |some k=>rfl
 | none=>
  have h8:decide ((n_a0:Int) > (8:Int))=false:=Q4 (by omega);simp only[Uah,st2,mB,h8,Q2,Option.isSome_none];have l1:=iC (g:=Zc2 PZ b_a0 n_a0 a0 b_a1 n_a1 a1 0 (n_a0:Int)) (λk=>((0:Int),(k:Int))) (offM a0) n_a0 (N:=1000) (xd:=.done ((0:Int),(n_a0:Int))) (by omega) (λk=>.more ((4:Int),(k:Int))) (λk hk hp=>by
   have h1:decide ((k:Int)<(n_a0:Int))=true:=Q3 (by omega);have h2:decide (0<=(k:Int))=true:=Q3 (by omega);have h3:decide ((0:Int)<(n_a0:Int))=true:=Q3 (by omega);have h4:decide ((0:Int)<=0)=true:=rfl;unfold offM at hp;simp only[Zc2,h1,h2,h3,h4,w1 k hk,Q9,Int.toNat_zero,hp,jB,Q1,Q2]) (λk hk hp=>by
   have h1:decide ((k:Int)<(n_a0:Int))=true:=Q3 (by omega);have h2:decide (0<=(k:Int))=true:=Q3 (by omega);have h3:decide ((0:Int)<(n_a0:Int))=true:=Q3 (by omega);have h4:decide ((0:Int)<=0)=true:=rfl;unfold offM at hp;simp only[Zc2,h1,h2,h3,h4,Q9,Int.toNat_zero,hp,jB,Q1,Q2]) (by
   have h1:decide ((n_a0:Int)<(n_a0:Int))=false:=Q4 (by omega);simp only[Zc2,h1,Q2])
  have l1':Uab (Zc2 PZ b_a0 n_a0 a0 b_a1 n_a1 a1 0 (n_a0:Int)) 1000 ((0:Int),(0:Int))=some (match (jD n_a0).find? (offM a0) with|some k=>.more ((4:Int),(k:Int))|none=>.done ((0:Int),(n_a0:Int))):=l1;rw[l1'];cases (jD n_a0).find? (offM a0)<;>rfl
def lw:af:=λargs h=>match args,h with|[.l 0,.l 1],[.sl (.came b_a0) n_a0 a0 38,.sl (.came b_a1) n_a1 a1 69]=>some (.a (.i .i64 (Ua5 n_a0 a0 n_a1 a1)),.none,jA n_a0 8)|_,_=>none
theorem oF:EntX PZ 57:=Zaj (fn:=f57)
theorem oG:Uad (md F) PZ 57 lw:=(ansY (N:=1000) (mKc (Zae CP) CO (mKc (Zae CV) CU mKn)) f57 [([4,11],[]),([4,25],[])]).of (by
 intro ρ h w args vals r e hA Z U;unfold lw at U;split at U
 ·rename_i A J a0 L O a1;obtain⟨rfl,rfl,V⟩:=ai U;exact Di A J a0 L O a1 (Z.slw 0 rfl) (Z.slw 1 rfl) V
 ·cases U)
def wM:Cons:=(mkΓ [(57,con lw),(58,conG mt),(59,conG qF)])
theorem Zp7(N:Nat)(a0:QA)(a1:Bool)(L O U V Z:QR)(bQ:QO)(nQ:Nat)(aQ:QA)(b5:QO)(A:Nat)(J:QA):ansV PZ wM N f38 [] [.r a0 74 [(2,5)],.b a1,.l 6] [.gl 0 185 L 101973,.gl 1 185 O 93330,.gl 3 185 U 124718,.gl 2 185 V 112315,.gl 4 185 Z 94254,.sl (.came bQ) nQ aQ 69,.sl (.came b5) A J 38]=(bif jA A 8 then (bif ((Ua5 A J nQ aQ)==(0:Int)) then (bif decide ((A:Int) > (0:Int)) then (bif (decide (0<=(0:Int))&&decide ((0:Int)<(A:Int))) then (bif (okS (J.extract ((0:Int).toNat*363) (((0:Int).toNat*363)+363))&&(rl (J.extract ((0:Int).toNat*363) (((0:Int).toNat*363)+363)) (num a0 0) (num a0 1) a1&&(Zah (num a0 0) (J.extract ((0:Int).toNat*363) (((0:Int).toNat*363)+363))))) then (some (.a (.i .i64 4),.none,true)) else (none)) else (none)) else (some (.a (.i .i64 (Ua5 A J nQ aQ)),.none,true))) else (some (.a (.i .i64 (Ua5 A J nQ aQ)),.none,true))) else (none)):=by kernel_rfl
def wN:Cons:=(mkΓ [(57,con lw),(58,conG mt),(59,conG qG)])
theorem Zqa(N:Nat)(a0:QA)(a1:Bool)(L O U V Z:QR)(bQ:QO)(nQ:Nat)(aQ:QA)(b5:QO)(A:Nat)(J:QA):ansV PZ wN N f38 [] [.r a0 74 [(2,5)],.b a1,.l 6] [.gl 0 185 L 101973,.gl 1 185 O 93330,.gl 3 185 U 124718,.gl 2 185 V 112315,.gl 4 185 Z 94254,.sl (.came bQ) nQ aQ 69,.sl (.came b5) A J 38]=(bif jA A 8 then (bif ((Ua5 A J nQ aQ)==(0:Int)) then (bif decide ((A:Int) > (0:Int)) then (bif (decide (0<=(0:Int))&&decide ((0:Int)<(A:Int))) then (bif (okS (J.extract ((0:Int).toNat*363) (((0:Int).toNat*363)+363))&&(rl (J.extract ((0:Int).toNat*363) (((0:Int).toNat*363)+363)) (num a0 0) (num a0 1) a1&&((!(Zah (num a0 0) (J.extract ((0:Int).toNat*363) (((0:Int).toNat*363)+363))))))) then (some (.a (.i .i64 0),.none,true)) else (none)) else (none)) else (some (.a (.i .i64 (Ua5 A J nQ aQ)),.none,true))) else (some (.a (.i .i64 (Ua5 A J nQ aQ)),.none,true))) else (none)):=by kernel_rfl
def wO:Cons:=(mkΓ [(57,con lw),(58,conG mt),(59,conG qH)])
theorem Zqb(N:Nat)(a0:QA)(a1:Bool)(L O U V Z:QR)(bQ:QO)(nQ:Nat)(aQ:QA)(b5:QO)(A:Nat)(J:QA):ansV PZ wO N f38 [] [.r a0 74 [(2,5)],.b a1,.l 6] [.gl 0 185 L 101973,.gl 1 185 O 93330,.gl 3 185 U 124718,.gl 2 185 V 112315,.gl 4 185 Z 94254,.sl (.came bQ) nQ aQ 69,.sl (.came b5) A J 38]=(bif jA A 8 then (bif ((Ua5 A J nQ aQ)==(0:Int)) then (bif decide ((A:Int) > (0:Int)) then (bif (decide (0<=(0:Int))&&decide ((0:Int)<(A:Int))) then (bif (okS (J.extract ((0:Int).toNat*363) (((0:Int).toNat*363)+363))&&((!(rl (J.extract ((0:Int).toNat*363) (((0:Int).toNat*363)+363)) (num a0 0) (num a0 1) a1)))) then (some (.a (.i .i64 2),.none,true)) else (none)) else (none)) else (some (.a (.i .i64 (Ua5 A J nQ aQ)),.none,true))) else (some (.a (.i .i64 (Ua5 A J nQ aQ)),.none,true))) else (none)):=by kernel_rfl
def wP:Cons:=(mkΓ [(57,con lw),(58,conG mt),(59,conG qI)])
theorem Zp2(N:Nat)(a0:QA)(a1:Bool)(J L O U V:QR)(bQ:QO)(nQ:Nat)(aQ:QA)(Z:QO)(A:Nat)(a2:QA):ansV PZ wP N f38 [] [.r a0 74 [(2,5)],.b a1,.l 6] [.gl 0 185 J 101973,.gl 1 185 L 93330,.gl 3 185 O 124718,.gl 2 185 U 112315,.gl 4 185 V 94254,.sl (.came bQ) nQ aQ 69,.sl (.came Z) A a2 38]=(bif jA A 8 then (bif ((Ua5 A a2 nQ aQ)==(0:Int)) then (bif decide ((A:Int) > (0:Int)) then (bif (decide (0<=(0:Int))&&decide ((0:Int)<(A:Int))) then (bif (!(okS (a2.extract ((0:Int).toNat*363) (((0:Int).toNat*363)+363)))) then (some (.a (.i .i64 1),.none,true)) else (none)) else (none)) else (some (.a (.i .i64 (Ua5 A a2 nQ aQ)),.none,true))) else (some (.a (.i .i64 (Ua5 A a2 nQ aQ)),.none,true))) else (none)):=by kernel_rfl
theorem Zp3(a0:QA)(a1:Bool)(L O U V Z:QR)(bQ:QO)(nQ:Nat)(aQ:QA)(b5:QO)(A:Nat)(J:QA)(h_a0:WT PZ 74 a0)(h_a0x2:aQ.size=nQ*(lay PZ 69).length/\(∀k,k<nQ->WT PZ 69 (aQ.extract (k*(lay PZ 69).length) (k*(lay PZ 69).length+(lay PZ 69).length)))/\nQ<=9223372036854775807)(h_a2:J.size=A*(lay PZ 38).length/\(∀k,k<A->WT PZ 38 (J.extract (k*(lay PZ 38).length) (k*(lay PZ 38).length+(lay PZ 38).length)))/\A<=9223372036854775807)(hc0:(okS (J.extract 0 363))=false)(hg:((jA 1 A&&jA A 8))=true):ansV PZ wP 1000 f38 [] [.r a0 74 [(2,5)],.b a1,.l 6] [.gl 0 185 L 101973,.gl 1 185 O 93330,.gl 3 185 U 124718,.gl 2 185 V 112315,.gl 4 185 Z 94254,.sl (.came bQ) nQ aQ 69,.sl (.came b5) A J 38]=some (.a (.i .i64 (bif (Ua5 A J nQ aQ==(0:Int)) then (1:Int) else Ua5 A J nQ aQ)),.none,true):=by
 rw[Q7]at hg;obtain⟨g1,g2⟩:=hg;have hn:=jL g1;refine(Zp2 1000 a0 a1 L O U V Z bQ nQ aQ b5 A J).trans ?_;have x0:J.extract ((0:Int).toNat*363) ((0:Int).toNat*363+363)=(J.extract 0 363):=rfl;have d2:decide ((A:Int) > 0)=true:=Q3 (by omega);have d3:decide ((0:Int)<(A:Int))=true:=Q3 (by omega);have d4:decide ((0:Int)<=0)=true:=rfl;rw[x0,g2,d2]
 try rw[d3]
 rw[d4];cases hz:(Ua5 A J nQ aQ==(0:Int))<;>simp only[hc0,jB,Bool.and_true,jI,jF,jE,Q1,Q2]
theorem Zp0(a0:QA)(a1:Bool)(L O U V Z:QR)(bQ:QO)(nQ:Nat)(aQ:QA)(b5:QO)(A:Nat)(J:QA)(h_a0:WT PZ 74 a0)(h_a0x2:aQ.size=nQ*(lay PZ 69).length/\(∀k,k<nQ->WT PZ 69 (aQ.extract (k*(lay PZ 69).length) (k*(lay PZ 69).length+(lay PZ 69).length)))/\nQ<=9223372036854775807)(h_a2:J.size=A*(lay PZ 38).length/\(∀k,k<A->WT PZ 38 (J.extract (k*(lay PZ 38).length) (k*(lay PZ 38).length+(lay PZ 38).length)))/\A<=9223372036854775807)(hc0:(okS (J.extract 0 363))=true)(hc1:(rl (J.extract 0 363) (num a0 0) (num a0 1) a1)=false)(hg:((jA 1 A&&jA A 8))=true):ansV PZ wO 1000 f38 [] [.r a0 74 [(2,5)],.b a1,.l 6] [.gl 0 185 L 101973,.gl 1 185 O 93330,.gl 3 185 U 124718,.gl 2 185 V 112315,.gl 4 185 Z 94254,.sl (.came bQ) nQ aQ 69,.sl (.came b5) A J 38]=some (.a (.i .i64 (bif (Ua5 A J nQ aQ==(0:Int)) then (2:Int) else Ua5 A J nQ aQ)),.none,true):=by
 rw[Q7]at hg;obtain⟨g1,g2⟩:=hg;have hn:=jL g1;refine(Zqb 1000 a0 a1 L O U V Z bQ nQ aQ b5 A J).trans ?_;have x0:J.extract ((0:Int).toNat*363) ((0:Int).toNat*363+363)=(J.extract 0 363):=rfl;have d2:decide ((A:Int) > 0)=true:=Q3 (by omega);have d3:decide ((0:Int)<(A:Int))=true:=Q3 (by omega);have d4:decide ((0:Int)<=0)=true:=rfl;rw[x0,g2,d2]
 try rw[d3]
 rw[d4];cases hz:(Ua5 A J nQ aQ==(0:Int))<;>simp only[hc0,hc1,jB,Bool.and_true,jI,jF,jE,Q1,Q2]
theorem Zp4(a0:QA)(a1:Bool)(L O U V Z:QR)(bQ:QO)(nQ:Nat)(aQ:QA)(b5:QO)(A:Nat)(J:QA)(h_a0:WT PZ 74 a0)(h_a0x2:aQ.size=nQ*(lay PZ 69).length/\(∀k,k<nQ->WT PZ 69 (aQ.extract (k*(lay PZ 69).length) (k*(lay PZ 69).length+(lay PZ 69).length)))/\nQ<=9223372036854775807)(h_a2:J.size=A*(lay PZ 38).length/\(∀k,k<A->WT PZ 38 (J.extract (k*(lay PZ 38).length) (k*(lay PZ 38).length+(lay PZ 38).length)))/\A<=9223372036854775807)(hc0:(okS (J.extract 0 363))=true)(hc1:(rl (J.extract 0 363) (num a0 0) (num a0 1) a1)=true)(hc2:(Zah (num a0 0) (J.extract 0 363))=false)(hg:((jA 1 A&&jA A 8))=true):ansV PZ wN 1000 f38 [] [.r a0 74 [(2,5)],.b a1,.l 6] [.gl 0 185 L 101973,.gl 1 185 O 93330,.gl 3 185 U 124718,.gl 2 185 V 112315,.gl 4 185 Z 94254,.sl (.came bQ) nQ aQ 69,.sl (.came b5) A J 38]=some (.a (.i .i64 (bif (Ua5 A J nQ aQ==(0:Int)) then (0:Int) else Ua5 A J nQ aQ)),.none,true):=by
 rw[Q7]at hg;obtain⟨g1,g2⟩:=hg;have hn:=jL g1;refine(Zqa 1000 a0 a1 L O U V Z bQ nQ aQ b5 A J).trans ?_;have x0:J.extract ((0:Int).toNat*363) ((0:Int).toNat*363+363)=(J.extract 0 363):=rfl;have d2:decide ((A:Int) > 0)=true:=Q3 (by omega);have d3:decide ((0:Int)<(A:Int))=true:=Q3 (by omega);have d4:decide ((0:Int)<=0)=true:=rfl;rw[x0,g2,d2]
 try rw[d3]
 rw[d4];cases hz:(Ua5 A J nQ aQ==(0:Int))<;>simp only[hc0,hc1,hc2,jB,Bool.and_true,jI,jF,jE,Q1,Q2]
theorem Zp1(a0:QA)(a1:Bool)(L O U V Z:QR)(bQ:QO)(nQ:Nat)(aQ:QA)(b5:QO)(A:Nat)(J:QA)(h_a0:WT PZ 74 a0)(h_a0x2:aQ.size=nQ*(lay PZ 69).length/\(∀k,k<nQ->WT PZ 69 (aQ.extract (k*(lay PZ 69).length) (k*(lay PZ 69).length+(lay PZ 69).length)))/\nQ<=9223372036854775807)(h_a2:J.size=A*(lay PZ 38).length/\(∀k,k<A->WT PZ 38 (J.extract (k*(lay PZ 38).length) (k*(lay PZ 38).length+(lay PZ 38).length)))/\A<=9223372036854775807)(hc0:(okS (J.extract 0 363))=true)(hc1:(rl (J.extract 0 363) (num a0 0) (num a0 1) a1)=true)(hc2:(Zah (num a0 0) (J.extract 0 363))=true)(hg:((jA 1 A&&jA A 8))=true):ansV PZ wM 1000 f38 [] [.r a0 74 [(2,5)],.b a1,.l 6] [.gl 0 185 L 101973,.gl 1 185 O 93330,.gl 3 185 U 124718,.gl 2 185 V 112315,.gl 4 185 Z 94254,.sl (.came bQ) nQ aQ 69,.sl (.came b5) A J 38]=some (.a (.i .i64 (bif (Ua5 A J nQ aQ==(0:Int)) then (4:Int) else Ua5 A J nQ aQ)),.none,true):=by
 rw[Q7]at hg;obtain⟨g1,g2⟩:=hg;have hn:=jL g1;refine(Zp7 1000 a0 a1 L O U V Z bQ nQ aQ b5 A J).trans ?_;have x0:J.extract ((0:Int).toNat*363) ((0:Int).toNat*363+363)=(J.extract 0 363):=rfl;have d2:decide ((A:Int) > 0)=true:=Q3 (by omega);have d3:decide ((0:Int)<(A:Int))=true:=Q3 (by omega);have d4:decide ((0:Int)<=0)=true:=rfl;rw[x0,g2,d2]
 try rw[d3]
 rw[d4];cases hz:(Ua5 A J nQ aQ==(0:Int))<;>simp only[hc0,hc1,hc2,jB,Bool.and_true,jI,jF,jE,Q1,Q2]
def Zdi:bk:=λargs h=>match args,h with|[.r a0 74 [(2,5)],.b a1,.l 6],[.gl 0 185 g_e0 101973,.gl 1 185 g_e1 93330,.gl 3 185 g_e2 124718,.gl 2 185 g_e3 112315,.gl 4 185 g_e4 94254,.sl (.came bQ) nQ aQ 69,.sl (.came b_a2) n_a2 a2 38]=>.two (okS (a2.extract 0 363)) (.two (rl (a2.extract 0 363) (num a0 0) (num a0 1) a1) (.two (Zah (num a0 0) (a2.extract 0 363)) (.one (some (.a (.i .i64 (bif (Ua5 n_a2 a2 nQ aQ==(0:Int)) then (4:Int) else Ua5 n_a2 a2 nQ aQ)),.none,(jA 1 n_a2&&jA n_a2 8)))) (.one (some (.a (.i .i64 (bif (Ua5 n_a2 a2 nQ aQ==(0:Int)) then (0:Int) else Ua5 n_a2 a2 nQ aQ)),.none,(jA 1 n_a2&&jA n_a2 8))))) (.one (some (.a (.i .i64 (bif (Ua5 n_a2 a2 nQ aQ==(0:Int)) then (2:Int) else Ua5 n_a2 a2 nQ aQ)),.none,(jA 1 n_a2&&jA n_a2 8))))) (.one (some (.a (.i .i64 (bif (Ua5 n_a2 a2 nQ aQ==(0:Int)) then (1:Int) else Ua5 n_a2 a2 nQ aQ)),.none,(jA 1 n_a2&&jA n_a2 8))))|_,_=>.one none
theorem wQ:EntX PZ 38:=Zaj (fn:=f38)
theorem Dj:Uad (md F) PZ 38 (λargs h=>Uak (Zdi args h)):=by
 intro ρ h w args vals r e hn A hA hH;dsimp only at A;unfold Zdi at A;split at A
 ·rename_i a0 a1 L O U V Z bQ nQ aQ b5 b7 a2;simp only[Uak]at A;cases b9:(okS (a2.extract 0 363))
  ·rw[b9]at A;simp only[Uak,Q1,Q2]at A;obtain⟨rfl,rfl,J⟩:=ai A;exact((ansY (N:=1000) (mKc (Zae oG) oF (mKc (Zlj ov) ou (mKc (Zlj BY) ow mKn))) f38 [])) ρ _ w _ vals _ _ hn ((Zp3 a0 a1 L O U V Z bQ nQ aQ b5 b7 a2 (hA.wtr 0 rfl) (hH.slw 5 rfl) (hH.slw 6 rfl) b9 J)) hA hH
  ·rw[b9]at A;simp only[Uak,Q1,Q2]at A;cases hc1:(rl (a2.extract 0 363) (num a0 0) (num a0 1) a1)
   ·rw[hc1]at A;simp only[Uak,Q1,Q2]at A;obtain⟨rfl,rfl,J⟩:=ai A;exact((ansY (N:=1000) (mKc (Zae oG) oF (mKc (Zlj ov) ou (mKc (Zlj BX) ow mKn))) f38 [])) ρ _ w _ vals _ _ hn ((Zp0 a0 a1 L O U V Z bQ nQ aQ b5 b7 a2 (hA.wtr 0 rfl) (hH.slw 5 rfl) (hH.slw 6 rfl) b9 hc1 J)) hA hH
   ·rw[hc1]at A;simp only[Uak,Q1,Q2]at A;cases hc2:(Zah (num a0 0) (a2.extract 0 363))
    ·rw[hc2]at A;simp only[Uak,Q1,Q2]at A;obtain⟨rfl,rfl,J⟩:=ai A;exact((ansY (N:=1000) (mKc (Zae oG) oF (mKc (Zlj ov) ou (mKc (Zlj BW) ow mKn))) f38 [])) ρ _ w _ vals _ _ hn ((Zp4 a0 a1 L O U V Z bQ nQ aQ b5 b7 a2 (hA.wtr 0 rfl) (hH.slw 5 rfl) (hH.slw 6 rfl) b9 hc1 hc2 J)) hA hH
    ·rw[hc2]at A;simp only[Uak,Q1,Q2]at A;obtain⟨rfl,rfl,J⟩:=ai A;exact((ansY (N:=1000) (mKc (Zae oG) oF (mKc (Zlj ov) ou (mKc (Zlj BV) ow mKn))) f38 [])) ρ _ w _ vals _ _ hn ((Zp1 a0 a1 L O U V Z bQ nQ aQ b5 b7 a2 (hA.wtr 0 rfl) (hH.slw 5 rfl) (hH.slw 6 rfl) b9 hc1 hc2 J)) hA hH
 ·simp only[Uak]at A;cases A
def Ubt(m:Nat)(a:QA)(n:Nat)(D:QA)(c b:Int)(f:Bool):Int:=bif (Ua5 m a n D==(0:Int)) then Zcf c b f (a.extract 0 363) else Ua5 m a n D
def rt:af:=λargs h=>match args,h with|[.r a0 74 [(2,5)],.b a1,.l 6],[.gl 0 185 g_e0 101973,.gl 1 185 g_e1 93330,.gl 3 185 g_e2 124718,.gl 2 185 g_e3 112315,.gl 4 185 g_e4 94254,.sl (.came bQ) nQ aQ 69,.sl (.came b_a2) n_a2 a2 38]=>some (.a (.i .i64 (Ubt n_a2 a2 nQ aQ (num a0 0) (num a0 1) a1)),.none,(jA 1 n_a2&&jA n_a2 8))|_,_=>none
theorem wR:Uad (md F) PZ 38 rt:=Uad.of Dj (by
 intro ρ h w args vals r e hA hH A;unfold rt at A;split at A
 ·rename_i J a1 U V Z b5 b7 bQ nQ aQ b9 c7 L;obtain⟨rfl,rfl,O⟩:=ai A
  show Uak (Zdi _ _)=_
  unfold Zdi;simp only[Uak];rw[O];unfold Ubt;rw[wD];cases (okS (L.extract 0 363))<;>cases (rl (L.extract 0 363) (num J 0) (num J 1) a1)<;>cases (Zah (num J 0) (L.extract 0 363))<;>simp only[Q1,Q2]
 ·cases A)
theorem dm{A C:QA}(O:A.size=363)(U:C.size=363):(spl (spl (repC (zc PZ 38) 2) 0 A.toList) 363 C.toList).extract 0 363=A/\(spl (spl (repC (zc PZ 38) 2) 0 A.toList) 363 C.toList).extract 363 726=C:=by
 have J:(repC (zc PZ 38) 2).size=726:=by kernel_rfl
 have hl:A.toList.length=363:=by rw[Array.length_toList,O]
 have L:C.toList.length=363:=by rw[Array.length_toList,U]
 constructor
 ·refine jQ λi=> ?_
  rw[jN,cn _ _ _ (by rw[cE,J,L];omega),cn _ _ _ (by rw[J,hl];omega),cE,cE,J,hl,L]
  by_cases hi:i<363
  ·rw[if_pos (by omega),if_neg (by omega),if_pos (by omega)];simp
  ·rw[if_neg (by omega),jO (by omega)]
 ·refine jQ λi=> ?_
  rw[jN,cn _ _ _ (by rw[cE,J,L];omega),cE,cE,J,L]
  by_cases hi:i<363
  ·rw[if_pos (by omega),if_pos (by omega),show 363+i - 363=i by omega];simp
  ·rw[if_neg (by omega),jO (by omega)]
theorem Dl(S:QA):Zbv S S=true:=by unfold Zbv;simp
theorem Zlk{S:QA}(h:WT PZ 38 S):S.size=363:=by rw[h.layLen];kernel_rfl
end
noncomputable section
variable {F:Vc.Fd}
def scV(z:Bool)(n:Int):QC:=.iface (bif z then 135 else 136) (bif z then .agg #[] else .int .i64 n)
def isSc(y:QC):Bool:=(Ubl 136 y&&okI .i64 136 y)||(Ubl 135 y&&Udu 135 y)
def noSc(y:QC):Bool:=Ubl 135 y
theorem wT{y:QC}(h:isSc y=true):(∃n,y=.iface 136 (.int .i64 n)/\i64.min<=n/\n<=i64.max)\/y=.iface 135 (.agg #[]):=by
 unfold isSc at h
 match y,h with
 | .iface t p,h=>
  simp only[Ubl,okI,Udu]at h;cases h1:Nat.beq t 136 with
  |true=>
   obtain rfl:=Nat.eq_of_beq_eq_true h1;have e2:Nat.beq 136 135=false:=by decide
   simp only[h1,e2,Q1,jI,Bool.false_and,Bool.or_false]at h;split at h
   case h_2=>cases h
   rename_i k n;simp only[Q7,decide_eq_true_eq]at h;obtain⟨hk,h2,h3⟩:=h;obtain rfl:=cY hk;exact .inl ⟨n,rfl,h2,h3⟩
  |false=>
   simp only[h1,Q2,Bool.false_and,Bool.false_or,Q7]at h;obtain⟨h2,h3⟩:=h;obtain rfl:=Nat.eq_of_beq_eq_true h2;simp only[h2,Q1]at h3;split at h3
   case h_2=>cases h3
   rename_i D;obtain rfl:D=#[]:=Array.eq_empty_of_size_eq_zero (Nat.eq_of_beq_eq_true h3);exact .inr rfl
theorem dn{z:Bool}{n:Int}(h:i64.min<=n/\n<=i64.max):isSc (scV z n)=true:=by cases z with|true=>rfl|false=>unfold isSc scV;simp only[Q2,Ubl,okI,Q3 h.1,Q3 h.2];rfl
theorem mC(z:Bool)(n:Int):noSc (scV z n)=z:=by cases z<;>rfl
theorem jy(n:Int):cX (scV false n)=n:=rfl
def Ugt(y:QC):Int:=bif noSc y then 0 else cX y
def Udc(y:QC):Int:=bif noSc y then 6 else 0
def Yod:af:=λargs h=>match args with|[.v y]=>some (.t [.i .i64 (Ugt y),.i .i64 (Udc y)],.none,isSc y)|_=>none
theorem Zx5(N:Nat)(A:Int):ansV PZ (mkΓ []) N f147 [] [.i .i64 A] []=(some (.t [.i .i64 A,.i .i64 0],.none,true)):=by kernel_rfl
theorem Dm(A:Int)(J:i64.min<=A/\A<=i64.max)(L:(true)=true):ansV PZ (mkΓ []) 1000 f147 [] [.i .i64 A] []=some (.t [.i .i64 A,.i .i64 0],.none,true):=by refine(Zx5 1000 A).trans ?_;rfl
def wU:af:=λargs h=>match args,h with|[.i .i64 a0],[]=>some (.t [.i .i64 a0,.i .i64 0],.none,true)|_,_=>none
theorem Dn:Uad (md F) PZ 147 wU:=(ansY (N:=1000) mKn f147 []).of (by
 intro ρ h w args vals r e L U A;unfold wU at A;split at A
 ·rename_i O;obtain⟨rfl,rfl,J⟩:=ai A;exact Dm O (L.rng 0 rfl) J
 ·cases A)
theorem Zu7(N:Nat)(A:QA):ansV PZ (mkΓ []) N f146 [] [.g A 135] []=(some (.t [.i .i64 0,.i .i64 6],.none,true)):=by kernel_rfl
theorem Do(A:QA)(J:WT PZ 135 A)(L:(true)=true):ansV PZ (mkΓ []) 1000 f146 [] [.g A 135] []=some (.t [.i .i64 0,.i .i64 6],.none,true):=by refine(Zu7 1000 A).trans ?_;rfl
def wV:af:=λargs h=>match args,h with|[.g a0 135],[]=>some (.t [.i .i64 0,.i .i64 6],.none,true)|_,_=>none
theorem Dp:Uad (md F) PZ 146 wV:=(ansY (N:=1000) mKn f146 []).of (by
 intro ρ h w args vals r e L U A;unfold wV at A;split at A
 ·rename_i O;obtain⟨rfl,rfl,J⟩:=ai A;exact Do O (L.wt 0 rfl) J
 ·cases A)
theorem Yse (n : Int) : ∀ w es, (callMethod (.iface 136 (.int .i64 n)) "loop.example/g01300/impl.told" (#[] : QA)).runT PZ w es = (.ok (.enter 147 #[.int .i64 n]) w, es) := λ w es => by kernel_rfl
theorem Yxm : ∀ w es, (callMethod (.iface 135 (.agg #[])) "loop.example/g01300/impl.told" (#[] : QA)).runT PZ w es = (.ok (.enter 146 #[.agg #[]]) w, es) := λ w es => by kernel_rfl
theorem Yyp {z : QC} {r : Next} {v : World} (h : ∀ w es, (callMethod z "loop.example/g01300/impl.told" (#[] : QA)).runT PZ w es = (.ok r w, es)) : Tr PZ (callMethod z "loop.example/g01300/impl.told" (#[] : QA)) v r v := Ys2 h
theorem told_mok : Uft (md F) PZ "loop.example/g01300/impl.told" Yod := by
 intro ρ h v z args vals r ef U Z V;cases args with
 |cons q l=>cases U
 |nil=>
  obtain rfl:vals=[]:=List.eq_nil_of_length_eq_zero Z.1.symm;obtain⟨rfl,J⟩:=Q6 (Q5 U);obtain⟨rfl,L⟩:=Q6 J;rcases wT L with ⟨n,rfl,h1,h2⟩|rfl
  ·exact⟨147,#[.int .i64 n],Yyp (Yse n),Zae Dn ρ h v [.i .i64 n] [.int .i64 n] _ _ rfl ⟨rfl,λi y v A O=>by
    match i with
    |0=>cases A;cases O;exact⟨rfl,h1,h2⟩
    |i+1=>cases A⟩ V⟩
  ·exact⟨146,#[.agg #[]],Yyp Yxm,Zae Dp ρ h v [.g #[] 135] [.agg #[]] _ _ rfl ⟨rfl,λi y v A O=>by
    match i with
    |0=>cases A;cases O;exact⟨rfl,by kernel_rfl,λ_ h=>by cases h⟩
    |i+1=>cases A⟩ V⟩
theorem Zzi(N:Nat)(A:Int):ansV PZ (mkΓ []) N f90 [] [.i .i64 A] []=(some (.a (.b ((A != A))),.none,true)):=by kernel_rfl
theorem Dq(A:Int)(J:i64.min<=A/\A<=i64.max)(L:(true)=true):ansV PZ (mkΓ []) 1000 f90 [] [.i .i64 A] []=some (.a (.b ((A != A))),.none,true):=by refine(Zzi 1000 A).trans ?_;rfl
def oH:af:=λargs h=>match args,h with|[.i .i64 a0],[]=>some (.a (.b ((a0 != a0))),.none,true)|_,_=>none
theorem Dr:EntX PZ 90:=Zaj (fn:=f90)
theorem Ds:Uad (md F) PZ 90 oH:=(ansY (N:=1000) mKn f90 []).of (by
 intro ρ h w args vals r e L U A;unfold oH at A;split at A
 ·rename_i O;obtain⟨rfl,rfl,J⟩:=ai A;exact Dq O (L.rng 0 rfl) J
 ·cases A)
theorem Zvb(N:Nat)(J A:Int):ansV PZ (mkΓ [(90,con oH)]) N f64 [] [.i .i64 J,.i .i64 A] []=(bif (J != J) then (bif (A != A) then (some (.a (.i .i64 0),.none,true)) else (some (.a (.i .i64 (-1:Int)),.none,true))) else (bif (A != A) then (some (.a (.i .i64 1),.none,true)) else (bif decide (J<A) then (some (.a (.i .i64 (-1:Int)),.none,true)) else (bif decide (J > A) then (some (.a (.i .i64 1),.none,true)) else (some (.a (.i .i64 0),.none,true)))))):=by kernel_rfl
def Za8(J A:Int):Int:=(bif (J != J) then (bif (A != A) then (0:Int) else (-1:Int)) else (bif (A != A) then (1:Int) else (bif decide (J<A) then (-1:Int) else (bif decide (J > A) then (1:Int) else (0:Int)))))
theorem Dt(L J:Int)(O:i64.min<=L/\L<=i64.max)(U:i64.min<=J/\J<=i64.max)(A:(true)=true):ansV PZ (mkΓ [(90,con oH)]) 1000 f64 [] [.i .i64 L,.i .i64 J] []=some (.a (.i .i64 (Za8 L J)),.none,true):=by
 refine(Zvb 1000 L J).trans ?_;unfold Za8;revert A;generalize ((L != L))=b2;intro A;cases b2
 ·skip
  revert A;generalize ((J != J))=b4;intro A;cases b4
  ·skip
   revert A;generalize (decide (L<J))=b6;intro A;cases b6
   ·skip
    revert A;generalize (decide (L > J))=b8;intro A;cases b8
    ·skip
     first|rfl|exact(nomatch (A:false=true))
    ·skip
     first|rfl|exact(nomatch (A:false=true))
   ·skip
    first|rfl|exact(nomatch (A:false=true))
  ·skip
   first|rfl|exact(nomatch (A:false=true))
 ·skip
  revert A;generalize ((J != J))=b4;intro A;cases b4
  ·skip
   first|rfl|exact(nomatch (A:false=true))
  ·skip
   first|rfl|exact(nomatch (A:false=true))
def Zjw:af:=λargs h=>match args,h with|[.i .i64 a0,.i .i64 a1],[]=>some (.a (.i .i64 (Za8 a0 a1)),.none,true)|_,_=>none
theorem Ztm:EntX PZ 64:=Zaj (fn:=f64)
theorem Zy2:Uad (md F) PZ 64 Zjw:=(ansY (N:=1000) (mKc (Zae Ds) Dr mKn) f64 []).of (by
 intro ρ h w args vals r e L V A;unfold Zjw at A;split at A
 ·rename_i O U;obtain⟨rfl,rfl,J⟩:=ai A;exact Dt O U (L.rng 0 rfl) (L.rng 1 rfl) J
 ·cases A)
def Zpv : Cons := (withM [("loop.example/g01300/impl.told", Yod)] (mkΓ [(64, con Zjw)]))
theorem Zui(N:Nat)(A J:QC):ansV PZ Zpv N f43 [] [.v (A),.v J] []=(bif (isSc A) then (bif (isSc J) then (bif ((Udc A) != (Udc J)) then (some (.a (.i .i64 (Za8 (Udc J) (Udc A))),.none,true)) else (some (.a (.i .i64 (Za8 (Ugt A) (Ugt J))),.none,true))) else (none)) else (none)):=by kernel_rfl
def Zcc(A J:QC):Int:=(bif ((Udc A) != (Udc J)) then (Za8 (Udc J) (Udc A)) else (Za8 (Ugt A) (Ugt J)))
theorem Du(J L:QC) (A:((bif (isSc J) then (isSc L) else false))=true):ansV PZ Zpv 1000 f43 [] [.v (J),.v L] []=some (.a (.i .i64 (Zcc J L)),.none,true):=by
 refine(Zui 1000 J L).trans ?_;unfold Zcc;revert A;generalize ((isSc J))=b2;intro A;cases b2
 ·skip
  first|exact(nomatch (A:false=true))|rfl
 ·skip
  revert A;generalize ((isSc L))=b4;intro A;cases b4
  ·skip
   first|exact(nomatch (A:false=true))|rfl
  ·skip
   revert A;generalize (((Udc J) != (Udc L)))=b6;intro A;cases b6
   ·skip
    first|rfl|exact(nomatch (A:false=true))
   ·skip
    first|rfl|exact(nomatch (A:false=true))
def Zji:af:=λargs h=>match args,h with|[.v a0,.v a1],[]=>some (.a (.i .i64 (Zcc a0 a1)),.none,(bif (isSc a0) then (isSc a1) else false))|_,_=>none
theorem Dv:EntX PZ 43:=Zaj (fn:=f43)
theorem Zvj : Uad (md F) PZ 43 Zji := (ansY (N := 1000) (Yxc (m := [("loop.example/g01300/impl.told", Yod)]) (λ q hq => by simp only [List.mem_cons, List.not_mem_nil, or_false] at hq; subst hq; first | exact told_mok) (mKc (Zae Zy2) Ztm mKn)) f43 []).of (by
 intro ρ h w args vals r e hA hH hr;unfold Zji at hr;split at hr
 ·rename_i a0 a1;obtain⟨rfl,rfl,hg2⟩:=ai hr;exact Du a0 a1  hg2
 ·cases hr)
def Zev(J:QO)(A:Nat)(L:QA):St:=(⟨.a (.l 0)::.a (.u)::.a (.i .i64 0)::.a (.i .i64 0)::.a (.u)::.a (.u)::.a (.l 0)::.a (.i .i64 (A:Int))::.a (.i .i64 0)::us 10 ([]),[.sl (.came J) A L 69],[]⟩:St)
def Zgx:Int×Int->LS
 |(A,J)=>([.a (.i .i64 A),.a (.i .i64 J)],[])
def ru:Int×Int->QP×LS
 |t=>((.exit 0),Zgx t)
def Zcq(P:QD)(O:QO)(L:Nat)(U:QA):Int×Int->Option (Stp (Int×Int) (Int×Int))
 |(J,A)=>bif decide (A<(L:Int)) then (bif (decide (0<=A)&&decide (A<(L:Int))) then (some (.more ((bif decide ((i64.wrap (num (U.extract ((A).toNat*2) (((A).toNat*2)+2)) 1)) > J) then (i64.wrap (num (U.extract ((A).toNat*2) (((A).toNat*2)+2)) 1)) else J),(i64.wrap (A+(1:Int)))))) else (none)) else (some (.done (J,A)))
noncomputable abbrev aZ:=codeOf f61
theorem Yb9(N:Nat)(A:QO)(J:Nat)(L:QA):∀t:Int×Int,Uaf PZ (mkΓ []) N (cAt aZ [1,1,0,1,0,0]) (pAt (Uaa aZ [([3,8],[])]).1 [1,1,0,1,0]) [3,8] [] (Zev A J L) (Zgx t)=aa Zgx ru (Zcq PZ A J L t):=by
 rintro⟨O,U⟩
 conv=>rhs;simp only[Zcq,aM,aJ,aK,aL,Zgx,ru]
 kernel_rfl
def rv(P:QD)(N:Nat)(J:QO)(L:Nat)(U:QA)(A:Int)(O:Int):Option (SV×Eff×Bool):=some (.a (.i .i64 A),.none,true)
theorem Dw(N:Nat)(A:QO)(J:Nat)(U:QA)(L:Int)(O:Int):(Uac 0 (kSeq (veC PZ (mkΓ []) N (cAt aZ [1,1,1]) (pAt (Uaa aZ [([3,8],[])]).1 [1,1,1]) (SV×Eff×Bool)) (finK PZ [.sl (.came A) J U 69] [.tmp 2]))) (.exit 0) (left (writes (cAt aZ [1,1,0,1,0,0])) [3,8] [] (Zev A J U) ([.a (.i .i64 L),.a (.i .i64 O)],[]))=rv PZ N A J U L O:=by kernel_rfl
theorem Dx(N:Nat)(A:QO)(J:Nat)(L:QA):au (Uab (Uaf PZ (mkΓ []) N (cAt aZ [1,1,0,1,0,0]) (pAt (Uaa aZ [([3,8],[])]).1 [1,1,0,1,0]) [3,8] [] (Zev A J L)) N ([.a (.i .i64 0),.a (.i .i64 0)],[])) (λe s=>(Uac 0 (kSeq (veC PZ (mkΓ []) N (cAt aZ [1,1,1]) (pAt (Uaa aZ [([3,8],[])]).1 [1,1,1]) (SV×Eff×Bool)) (finK PZ [.sl (.came A) J L 69] [.tmp 2]))) e (left (writes (cAt aZ [1,1,0,1,0,0])) [3,8] [] (Zev A J L) s))=Uah (Uab (Zcq PZ A J L) N ((0:Int),(0:Int))) (λx=>rv PZ N A J L x.1 x.2):=by refine aP Zgx ru _ _ (Yb9 N A J L) N ((0:Int),(0:Int)) _ _ ?_;intro x;exact Dw N A J L x.1 x.2
theorem Zz9(N:Nat)(A:QO)(J:Nat)(L:QA):ansV PZ (mkΓ []) N f61 [([3,8],[])] [.l 0] [.sl (.came A) J L 69]=(Uah (Uab (Zcq PZ A J L) N ((0:Int),(0:Int))) (λx=>rv PZ N A J L x.1 x.2)):=by
 conv=>rhs;simp only[<- Dx N A J L]
 kernel_rfl
theorem dp{x:Int}(h:0<=x)(h0:(x==0)=false):decide (1<=x)=true:=Q3 (by
 have:x≠0:=λe=>by subst e;exact nomatch h0
 omega)
def latF(a:QA)(s:Int)(k:Nat):Int:=bif decide (i64.wrap (num (a.extract (k*2) (k*2+2)) 1) > s) then i64.wrap (num (a.extract (k*2) (k*2+2)) 1) else s
def latV(a:QA)(n:Nat):Int:=folds (latF a) 0 n
theorem dq(a:QA)(s:Int)(k:Nat):s<=latF a s k/\i64.wrap (num (a.extract (k*2) (k*2+2)) 1)<=latF a s k:=by unfold latF;cases h:decide (i64.wrap (num (a.extract (k*2) (k*2+2)) 1) > s) with|true=>have:=of_decide_eq_true h;simp only[Q1];omega|false=>have:=of_decide_eq_false h;simp only[Q2];omega
theorem dr(a:QA):∀n k,k<n->i64.wrap (num (a.extract (k*2) (k*2+2)) 1)<=latV a n
 |0,k,hk=>by omega
 | n+1,k,hk=>by
  have e:latV a (n+1)=latF a (latV a n) n:=cz _ _ _;obtain⟨h1,h2⟩:=dq a (latV a n) n
  by_cases h:k<n
  ·have:=dr a n k h;omega
  ·obtain rfl:k=n:=by omega
   omega
theorem du(a:QA):∀n,(∀k,k<n->1<=i64.wrap (num (a.extract (k*2) (k*2+2)) 1)/\i64.wrap (num (a.extract (k*2) (k*2+2)) 1)<=14)->0<=latV a n/\latV a n<=14
 |0,_=>by
  have e:latV a 0=0:=rfl;omega
 |n+1,h=>by
  have A:=du a n (λk hk=>h k (by omega));have e:latV a (n+1)=latF a (latV a n) n:=cz _ _ _;have J:=h n (by omega);rw[e];unfold latF;cases decide (i64.wrap (num (a.extract (n*2) (n*2+2)) 1) > latV a n) with|true=>simp only[Q1];omega|false=>simp only[Q2];omega
theorem Dy(J:QO)(A:Nat)(L:QA)(U:L.size=A*(lay PZ 69).length/\(∀k,k<A->WT PZ 69 (L.extract (k*(lay PZ 69).length) (k*(lay PZ 69).length+(lay PZ 69).length)))/\A<=9223372036854775807)(V:(jA A 60)=true):ansV PZ (mkΓ []) 1000 f61 [([3,8],[])] [.l 0] [.sl (.came J) A L 69]=some (.a (.i .i64 (latV L A)),.none,true):=by
 have hn:A<=60:=jL V;refine(Zz9 1000 J A L).trans ?_;have h:=iB (g:=Zcq PZ J A L) (λ(s:Int) k=>(s,(k:Int))) (latF L) (m:=A) (t:=(0:Int)) (x:=(latV L A,(A:Int))) (N:=1000) (λk s hk _=>by
  have O:decide ((k:Int)<(A:Int))=true:=Q3 (by omega);have h0:decide (0<=(k:Int))=true:=Q3 (by omega);have Z:i64.wrap ((k:Int)+1)=((k+1:Nat):Int):=by rw[aI (by omega)];omega
  simp only[Zcq,O,h0,Z,latF,Q9,jB,Q1]) (by
  have O:decide ((A:Int)<(A:Int))=false:=Q4 (by omega);simp only[Zcq,O,Q2];rfl) (by omega)
 have h':Uab (Zcq PZ J A L) 1000 ((0:Int),(0:Int))=some (latV L A,(A:Int)):=h;rw[h'];rfl
def rx:af:=λargs h=>match args,h with|[.l 0],[.sl (.came b_a0) n_a0 a0 69]=>some (.a (.i .i64 (latV a0 n_a0)),.none,jA n_a0 60)|_,_=>none
theorem Dz:EntX PZ 61:=Zaj (fn:=f61)
theorem DA:Uad (md F) PZ 61 rx:=(ansY (N:=1000) mKn f61 [([3,8],[])]).of (by
 intro ρ h w args vals r e Z U L;unfold rx at L;split at L
 ·rename_i A J V;obtain⟨rfl,rfl,O⟩:=ai L;exact Dy A J V (U.slw 0 rfl) O
 ·cases L)
def wW:Cons:=(mkΓ [(88,con rg),(89,con qS)])
theorem Zv2(N:Nat)(A:QA)(L:QO)(J:Nat)(O:QA):ansV PZ wW N f62 [] [.l 0,.g A 69] [.sl (.came L) J O 97]=(bif (Zaa (num A 1) 1 14&&(decide (num A 1<(J:Int))&&(decide (0<=num A 0)&&decide (num A 0<36)))) then (bif ((prtV O A)==(0:Int)) then (some (.a (.v (.iface 135 (.agg #[]))),.none,true)) else (bif decide (1<=(prtV O A)) then (bif decide (1<=(12:Int)) then (some (.a (.v (.iface 136 (.int .i64 (i64.wrap ((lg (prtV O A)) - (i64.wrap ((i64.wrap (num A 1))*(lg (12:Int))))))))),.none,true)) else (none)) else (none))) else (none)):=by kernel_rfl
def scN(p h:Int):Int:=i64.wrap (lg p - i64.wrap (h*lg (12:Int)))
theorem DB(J:QA)(L:QO)(A:Nat)(O:QA)(U:WT PZ 69 J)(V:O.size=A*(lay PZ 97).length/\(∀k,k<A->WT PZ 97 (O.extract (k*(lay PZ 97).length) (k*(lay PZ 97).length+(lay PZ 97).length)))/\A<=9223372036854775807)(Z:(((Zaa (num J 1) 1 14&&(decide (num J 1<(A:Int))&&(decide (0<=num J 0)&&decide (num J 0<36))))&&decide (0<=(prtV O J))))=true):ansV PZ wW 1000 f62 [] [.l 0,.g J 69] [.sl (.came L) A O 97]=some (.a (.v ((scV ((prtV O J)==(0:Int)) (scN (prtV O J) (num J 1))))),.none,true):=by
 obtain⟨z,e0,e1,_,_⟩:=Zvw U;rw[Q7]at Z;obtain⟨q1,q2⟩:=Z;refine(Zv2 1000 J L A O).trans ?_;rw[q1,e1];generalize (prtV O J)=p at q2|-
 cases hp:(p==(0:Int)) with|true=>rfl|false=>have h1:=dp (of_decide_eq_true q2) hp;rw[h1];rfl
def ry:af:=λargs h=>match args,h with|[.l 0,.g a1 69],[.sl (.came b_a0) n_a0 a0 97]=>some (.a (.v ((scV ((prtV a0 a1)==(0:Int)) (scN (prtV a0 a1) (num a1 1))))),.none,((Zaa (num a1 1) 1 14&&(decide (num a1 1<(n_a0:Int))&&(decide (0<=num a1 0)&&decide (num a1 0<36))))&&decide (0<=(prtV a0 a1))))|_,_=>none
theorem DC:EntX PZ 62:=Zaj (fn:=f62)
theorem DD:Uad (md F) PZ 62 ry:=(ansY (N:=1000) (mKc (Zae CS) CR (mKc (Zae Cv) Cu mKn)) f62 []).of (by
 intro ρ h w args vals r e U V L;unfold ry at L;split at L
 ·rename_i Z A J a0;obtain⟨rfl,rfl,O⟩:=ai L;exact DB Z A J a0 (U.wt 1 rfl) (V.slw 0 rfl) O
 ·cases L)
def Zio(J:QO)(A:Nat)(L:QA):St:=(⟨.a (.l 0)::.a (.u)::.a (.v .nilIface)::.a (.i .i64 0)::us 4 (.a (.l 0)::.a (.i .i64 (A:Int))::.a (.i .i64 0)::us 18 ([])),[.sl (.came J) A L 79],[]⟩:St)
def Zkg:QC×Int×Int->LS
 |(J,L,A)=>([.a (.v J),.a (.i .i64 L),.a (.i .i64 A)],[])
def rz:(Stp (QC×Int×Int) (QC×Int×Int))->QP×LS
 |.more t=>(.ret,Zkg t)
 |.done t=>((.exit 0),Zkg t)
def Zfd(P:QD)(V:QO)(O:Nat)(U:QA):QC×Int×Int->Option (Stp (QC×Int×Int) (Stp (QC×Int×Int) (QC×Int×Int)))
 |(L,J,A)=>bif decide (A<(O:Int)) then (bif (decide (0<=A)&&decide (A<(O:Int))) then (bif (okI .i64 136 (cel U ((A).toNat*1))) then (bif Ubl 136 (cel U ((A).toNat*1)) then (some (.more (L,(i64.wrap (J+(bif Ubl 136 (cel U ((A).toNat*1)) then cX (cel U ((A).toNat*1)) else 0))),(i64.wrap (A+(1:Int)))))) else (bif (Udu 135 (cel U ((A).toNat*1))) then (bif Ubl 135 (cel U ((A).toNat*1)) then (some (.done (.more (.iface 135 (.agg #[]),J,A)))) else (some (.more (L,J,(i64.wrap (A+(1:Int))))))) else (none))) else (none)) else (none)) else (some (.done (.done (L,J,A))))
noncomputable abbrev ax:=codeOf f63
theorem Yon(N:Nat)(A:QO)(J:Nat)(O:QA):∀t:QC×Int×Int,Uaf PZ (mkΓ []) N (cAt ax [1,1,0,1,0,0]) (pAt (Uaa ax [([2,3,10],[])]).1 [1,1,0,1,0]) [2,3,10] [] (Zio A J O) (Zkg t)=aa Zkg rz (Zfd PZ A J O t):=by
 rintro⟨U,V,L⟩
 conv=>rhs;simp only[Zfd,aM,aJ,aK,aL,Zkg,rz]
 kernel_rfl
def rA(P:QD)(N:Nat)(L:QO)(O:Nat)(V:QA)(A:QC)(U:Int)(J:Int):Option (SV×Eff×Bool):=some (.a (.v A),.none,true)
theorem DE(N:Nat)(A:QO)(J:Nat)(V:QA)(O:QC)(U:Int)(L:Int):(Uac 0 (kSeq (veC PZ (mkΓ []) N (cAt ax [1,1,1]) (pAt (Uaa ax [([2,3,10],[])]).1 [1,1,1]) (SV×Eff×Bool)) (finK PZ [.sl (.came A) J V 79] [.tmp 2]))) .ret (left (writes (cAt ax [1,1,0,1,0,0])) [2,3,10] [] (Zio A J V) ([.a (.v O),.a (.i .i64 U),.a (.i .i64 L)],[]))=rA PZ N A J V O U L:=by kernel_rfl
def rB(P:QD)(N:Nat)(L:QO)(O:Nat)(V:QA)(U:QC)(A:Int)(J:Int):Option (SV×Eff×Bool):=some (.a (.v (.iface 136 (.int .i64 A))),.none,true)
theorem DF(N:Nat)(A:QO)(J:Nat)(V:QA)(O:QC)(U:Int)(L:Int):(Uac 0 (kSeq (veC PZ (mkΓ []) N (cAt ax [1,1,1]) (pAt (Uaa ax [([2,3,10],[])]).1 [1,1,1]) (SV×Eff×Bool)) (finK PZ [.sl (.came A) J V 79] [.tmp 2]))) (.exit 0) (left (writes (cAt ax [1,1,0,1,0,0])) [2,3,10] [] (Zio A J V) ([.a (.v O),.a (.i .i64 U),.a (.i .i64 L)],[]))=rB PZ N A J V O U L:=by kernel_rfl
theorem DG(N:Nat)(A:QO)(J:Nat)(L:QA):au (Uab (Uaf PZ (mkΓ []) N (cAt ax [1,1,0,1,0,0]) (pAt (Uaa ax [([2,3,10],[])]).1 [1,1,0,1,0]) [2,3,10] [] (Zio A J L)) N ([.a (.v ((.nilIface))),.a (.i .i64 0),.a (.i .i64 0)],[])) (λe s=>(Uac 0 (kSeq (veC PZ (mkΓ []) N (cAt ax [1,1,1]) (pAt (Uaa ax [([2,3,10],[])]).1 [1,1,1]) (SV×Eff×Bool)) (finK PZ [.sl (.came A) J L 79] [.tmp 2]))) e (left (writes (cAt ax [1,1,0,1,0,0])) [2,3,10] [] (Zio A J L) s))=Uah (Uab (Zfd PZ A J L) N ((.nilIface),(0:Int),(0:Int))) (st2 (λx=>rA PZ N A J L x.1 x.2.1 x.2.2) (λx=>rB PZ N A J L x.1 x.2.1 x.2.2)):=by refine aP Zkg rz _ _ (Yon N A J L) N ((.nilIface),(0:Int),(0:Int)) _ _ ?_;intro x;cases x with|more x=>exact DE N A J L x.1 x.2.1 x.2.2|done x=>exact DF N A J L x.1 x.2.1 x.2.2
theorem Ymp(N:Nat)(A:QO)(J:Nat)(L:QA):ansV PZ (mkΓ []) N f63 [([2,3,10],[])] [.l 0] [.sl (.came A) J L 79]=(Uah (Uab (Zfd PZ A J L) N ((.nilIface),(0:Int),(0:Int))) (st2 (λx=>rA PZ N A J L x.1 x.2.1 x.2.2) (λx=>rB PZ N A J L x.1 x.2.1 x.2.2))):=by
 conv=>rhs;simp only[<- DG N A J L]
 kernel_rfl
def allSc(C:QA)(n:Nat):Bool:=(jD n).all λk=>isSc (cel C k)
def totF(C:QA)(s:Int)(k:Nat):Int:=i64.wrap (s+cX (cel C k))
def totZ(C:QA)(n:Nat):Bool:=((jD n).find? λk=>noSc (cel C k)).isSome
def totS(C:QA)(n:Nat):Int:=folds (totF C) 0 n
theorem wY{y:QC}(h:isSc y=true):okI .i64 136 y=true/\Udu 135 y=true/\Ubl 136 y=!(noSc y)/\Ubl 135 y=noSc y:=by
 rcases wT h with ⟨n,rfl,A,h2⟩|rfl
 ·refine⟨?_,rfl,rfl,rfl⟩;simp only[okI,Q3 A,Q3 h2];rfl
 ·exact⟨rfl,rfl,rfl,rfl⟩
theorem DH(L:QO)(A:Nat)(J:QA)(h_a0:J.size=A*(lay PZ 79).length/\(∀k,k<A->WT PZ 79 (J.extract (k*(lay PZ 79).length) (k*(lay PZ 79).length+(lay PZ 79).length)))/\A<=9223372036854775807)(hg:((allSc J A&&jA A 60))=true):ansV PZ (mkΓ []) 1000 f63 [([2,3,10],[])] [.l 0] [.sl (.came L) A J 79]=some (.a (.v ((scV (totZ J A) (totS J A)))),.none,true):=by
 rw[Q7]at hg;obtain⟨q1,q2⟩:=hg;have hn:A<=60:=jL q2;have hs:∀k,k<A->isSc (cel J k)=true:=λk hk=>jJ.1 q1 k (jG.2 hk)
 refine(Ymp 1000 L A J).trans ?_;have l0:=iC (g:=Zfd PZ L A J) (λk=>(Value.nilIface,folds (totF J) 0 k,(k:Int))) (λk=>noSc (cel J k)) A (N:=1000) (xd:=.done (Value.nilIface,folds (totF J) 0 A,(A:Int))) (by omega) (λk=>.more (Value.iface 135 (.agg #[]),folds (totF J) 0 k,(k:Int))) (λk hk Z=>by
  have O:decide ((k:Int)<(A:Int))=true:=Q3 (by omega);have h2:decide (0<=(k:Int))=true:=Q3 (by omega);have h3:i64.wrap ((k:Int)+1)=((k+1:Nat):Int):=by rw[aI (by omega)];omega
  obtain⟨f1,f2,U,V⟩:=wY (hs k hk);rw[Z]at U V;have ef:folds (totF J) 0 (k+1)=totF J (folds (totF J) 0 k) k:=cz _ _ _;rw[ef];simp only[Zfd,O,h2,h3,Q9,jK,f1,f2,U,V,totF,jB,jF,Q1,Q2]) (λk hk Z=>by
  have O:decide ((k:Int)<(A:Int))=true:=Q3 (by omega);have h2:decide (0<=(k:Int))=true:=Q3 (by omega);obtain⟨f1,f2,U,V⟩:=wY (hs k hk);rw[Z]at U V;simp only[Zfd,O,h2,Q9,jK,f1,f2,U,V,jB,jE,Q1,Q2]) (by
  have O:decide ((A:Int)<(A:Int))=false:=Q4 (by omega);simp only[Zfd,O,Q2])
 have l0':Uab (Zfd PZ L A J) 1000 (Value.nilIface,(0:Int),(0:Int))=some (match (jD A).find? (λk=>noSc (cel J k)) with|some k=>.more (Value.iface 135 (.agg #[]),folds (totF J) 0 k,(k:Int))|none=>.done (Value.nilIface,folds (totF J) 0 A,(A:Int))):=l0;rw[l0'];unfold totZ totS;cases (jD A).find? (λk=>noSc (cel J k))<;>rfl
def rC:af:=λargs h=>match args,h with|[.l 0],[.sl (.came b_a0) n_a0 a0 79]=>some (.a (.v ((scV (totZ a0 n_a0) (totS a0 n_a0)))),.none,(allSc a0 n_a0&&jA n_a0 60))|_,_=>none
theorem DI:EntX PZ 63:=Zaj (fn:=f63)
theorem DJ:Uad (md F) PZ 63 rC:=(ansY (N:=1000) mKn f63 [([2,3,10],[])]).of (by
 intro ρ h w args vals r e Z U L;unfold rC at L;split at L
 ·rename_i A J V;obtain⟨rfl,rfl,O⟩:=ai L;exact DH A J V (U.slw 0 rfl) O
 ·cases L)
end
noncomputable section
variable {F:Vc.Fd}
theorem oI{f:Nat->Int}:∀n,(∀k,k<n->0<=f k)->0<=sumI f n
 |0,_=>Int.le_refl _
 |n+1,h=>by
  have A:=oI n λk hk=>h k (by omega)
  have h2:=h n (by omega);rw[sumI];omega
theorem mD{f:Nat->Int}{i:Nat}:∀n,i<n->(∀k,k<n->0<=f k)->f i<=sumI f n
 |0,hi,_=>by omega
 | n+1,hi,h=>by
  rw[sumI]
  by_cases e:i=n
  ·subst e;have:=oI i λk hk=>h k (by omega)
   omega
  ·have h1:=mD (f:=f) (i:=i) n (by omega) λk hk=>h k (by omega)
   have h2:=h n (by omega);omega
theorem rD(c:Int)(f:Nat->Int):∀n,sumI (λk=>c*f k) n=c*sumI f n
 |0=>(Int.mul_zero c).symm
 |n+1=>by rw[sumI,sumI,rD c f n,Int.mul_add]
theorem mE(m:Int){d o:Nat}:∀n,sumI (λi=>if d=o+i then m else 0) n=if o<=d/\d<o+n then m else 0
 |0=>by rw[if_neg (by omega)];rfl
 | n+1=>by
  rw[sumI,mE m n]
  by_cases h:d=o+n
  ·rw[if_pos h,if_neg (by omega),if_pos (by omega)];omega
  ·rw[if_neg h]
   by_cases h2:o<=d/\d<o+n
   ·rw[if_pos h2,if_pos (by omega)];omega
   ·rw[if_neg h2,if_neg (by omega)];rfl
theorem Ytu{a:QA}{f:Nat->Int}(A:∀w,w<5->num a (w*1)=f w/\0<=f w/\f w<=255):∀n,n<=5->sumW a n=sumI f n/\0<=sumI f n/\sumI f n<=255*n
 |0,_=>⟨rfl,Int.le_refl _,Int.le_refl _⟩
 |n+1,O=>by
  obtain⟨J,h2,U⟩:=Ytu A n (by omega);obtain⟨L,V,Z⟩:=A n (by omega);rw[sumW,sumI,J,L,aI (n:=f n) (by omega),IntWalk.i64_in _ (by omega)];refine⟨rfl,by omega,by omega⟩
def chP(S:QA)(t k w:Nat):Int:=num S (3+t*180+k*5+w)
theorem jz{S:QA}(V:WT PZ 38 S)(L:okS S=true){t k:Nat}(Z:t<2)(hk:k<36)(A:(inC (num S 0) (num S 1) k && !(bitI (num S 2) k))=true):sumI (chP S t k) 5=12/\∀w,w<5->0<=chP S t k w/\chP S t k w<=12:=by
 have O:∀w,w<5->0<=chP S t k w/\chP S t k w<=255:=λw A=>by
  have:=(sea_u8 V (i:=t*180+k*5+w) (by omega)).2;unfold chP;rw[show 3+t*180+k*5+w=3+(t*180+k*5+w) by omega];exact this
 have U:=fX L Z hk;unfold fitS at U;rw[A,Q1]at U;have hs:=(Ytu (a:=chR S t k) (f:=chP S t k) (λw A=>⟨by unfold chR chP;rw[fY (by omega),jK],O w A⟩) 5 (Nat.le_refl _)).1;have J:sumI (chP S t k) 5=12:=by rw[<- hs];exact eq_of_beq U
 refine⟨J,λw A=>⟨(O w A).1,?_⟩⟩;rw[<- J];exact mD (f:=chP S t k) 5 A λq hq=>(O q hq).1
def Mass(X:QA)(T:Int):Prop:=(∀i,i<37->0<=num X (3+i))/\sumI (λi=>num X (3+i)) 37=T
theorem Mass.le{X:QA}{T:Int}(h:Mass X T){i:Nat}(hi:i<37):0<=num X (3+i)/\num X (3+i)<=T:=⟨h.1 i hi,by rw[<- h.2];exact mD (f:=λi=>num X (3+i)) 37 hi h.1⟩
def cQ(S X:QA)(j k:Nat):Int:=if Zaq (k:Int) S=true then sumI (λw=>if fv (Zai (k:Int) (w:Int) S)=j then muF S X (tdS X) k w else 0) 5 else if 3+k*1=j then num X (3+k*1)*12 else 0
theorem dv{S X:QA}(hS:WT PZ 38 S)(hok:okS S=true){T:Int}(hM:Mass X T)(hT:T*12<=9223372036854775807){t:Nat}(ht:t<2)(htd:tdS X=(t:Int)){k:Nat}(hk:k<36):(∀j,0<=cQ S X j k)/\sumI (λi=>cQ S X (3+i) k) 37=12*num X (3+k):=by
 obtain⟨x0,x1⟩:=hM.le (i:=k) (by omega);have hwet:=(Ylq hS hk).2;unfold cQ;cases hw:Zaq (k:Int) S with
 | false=>
  simp only[Bool.false_eq_true,if_false];refine⟨λj=> ?_,?_⟩
  ·split
   ·rw[show 3+k*1=3+k by omega];omega
   ·exact Int.le_refl _
  ·rw[mE (num X (3+k*1)*12) (d:=3+k*1) (o:=3) 37,if_pos (by omega),show 3+k*1=3+k by omega,Int.mul_comm]
 | true=>
  rw[hw]at hwet;obtain⟨c1,c2⟩:=jz hS hok ht hk hwet.symm;have hi:inC (num S 0) (num S 1) k=true:=(Bool.and_eq_true_iff.1 hwet.symm).1;have hmu:∀w,w<5->muF S X (tdS X) k w=num X (3+k)*chP S t k w/\0<=num X (3+k)*chP S t k w:=λw hw5=>by
   obtain⟨d1,d2⟩:=c2 w hw5;have hp:0<=num X (3+k)*chP S t k w:=Int.mul_nonneg x0 d1;have hq:num X (3+k)*chP S t k w<=T*12:=Int.mul_le_mul x1 d2 d1 (by omega);refine⟨?_,hp⟩;unfold muF pi;rw[htd,Q9,Q9,show 3+k*1=3+k by omega];have e:num S (((3+(t*180))+(k*5))+w)=chP S t k w:=rfl;rw[e,aI (n:=chP S t k w) (by omega),IntWalk.i64_in _ (by omega)]
  simp only[if_true];refine⟨λj=>oI 5 λw hw5=> ?_,?_⟩
  ·split
   ·rw[(hmu w hw5).1];exact(hmu w hw5).2
   ·exact Int.le_refl _
  ·rw[pn (λi w=>if fv (Zai (k:Int) (w:Int) S)=3+i then muF S X (tdS X) k w else 0) 5 37];refine(Zkp 5 (g:=λw=>num X (3+k)*chP S t k w) λw hw5=> ?_).trans ?_
   ·rw[mE (muF S X (tdS X) k w) (d:=fv (Zai (k:Int) (w:Int) S)) (o:=3) 37,if_pos,(hmu w hw5).1];unfold fv
    by_cases hg:Zai (k:Int) (w:Int) S<0
    ·rw[if_pos hg];omega
    ·rw[if_neg hg];obtain⟨r1,r2⟩:=xX (Zxg hok) hk hi hw5 hg;omega
   ·rw[rD,c1,Int.mul_comm]
theorem DK{S X:QA}(hS:WT PZ 38 S)(hX:WT PZ 129 X)(U:okS S=true){T:Int}(V:Mass X T)(hT:T*12<=9223372036854775807){t:Nat}(ht:t<2)(Z:tdS X=(t:Int)):
  Mass (Ubn PZ S X) (12*T)/\∀k:Nat,k<36->Zaq (k:Int) S=false->12*num X (3+k)<=num (Ubn PZ S X) (3+k):=by
 obtain⟨i1,i2⟩:=uW X;have o1:0<=num X 39/\num X 39<=T:=V.le (i:=36) (by omega);have A:=λk hk=>dv hS U V hT ht Z (k:=k) hk
 have L:sumI (λi=>(if 39=3+i then num X 39*12 else 0)+sumI (λk=>cQ S X (3+i) k) 36) 37=12*T:=by rw[Yjb,mE (num X 39*12) (d:=39) (o:=3) 37,if_pos (by omega),pn (λi k=>cQ S X (3+i) k) 36 37,Zkp 36 (g:=λk=>12*num X (3+k)) λk hk=>(A k hk).2,rD,<- V.2];have b5:sumI (λi=>num X (3+i)) 37=sumI (λi=>num X (3+i)) 36+num X 39:=rfl;rw[b5,Int.mul_add];omega
 have O:∀i,i<37->0<=(if 39=3+i then num X 39*12 else 0)+sumI (λk=>cQ S X (3+i) k) 36:=λi hi=>by
  have h1:=oI (f:=λk=>cQ S X (3+i) k) 36 λk hk=>(A k hk).1 (3+i)
  split
  ·have:=o1.1;omega
  ·omega
 have J:∀i,i<37->num (Ubn PZ S X) (3+i)=(if 39=3+i then num X 39*12 else 0)+sumI (λk=>cQ S X (3+i) k) 36:=λi hi=>by
  have hw:=(Zxi (S:=S) hX).int (o:=3+i) (k:=.i64) (Zq7 (by omega) (by omega));have hle:(if 39=3+i then num X 39*12 else 0)+sumI (λk=>cQ S X (3+i) k) 36<=12*T:=by rw[<- L];exact mD (f:=λi=>(if 39=3+i then num X 39*12 else 0)+sumI (λk=>cQ S X (3+i) k) 36) 37 hi O
  have:=O i hi;refine dK ((Yog i1 (j:=3+i) (by omega)).trans (((i2 (3+i) (by omega) (by omega)).add (.refl _)).trans (.of ?_))) hw.2 (by omega);rw[if_neg (show ¬3+i=2 by omega)]
  by_cases e:3+i=39
  ·rw[if_pos e,if_pos e.symm];rfl
  ·rw[if_neg e,if_neg (λh=>e h.symm)];rfl
 refine⟨⟨λi hi=>by rw[J i hi];exact O i hi,?_⟩,λk hk hd=> ?_⟩
 ·rw[<- L];exact Zkp 37 J
 ·rw[J k (by omega)];have h1:=mD (f:=λq=>cQ S X (3+k) q) (i:=k) 36 hk λq hq=>(A q hq).1 (3+k)
  have h2:cQ S X (3+k) k=num X (3+k)*12:=by unfold cQ;rw[hd,if_neg (by simp),if_pos (by omega),show 3+k*1=3+k by omega]
  rw[if_neg (show ¬39=3+k by omega)];omega
theorem Ydw:∀n:Nat,0<(12:Int)^n:=λn=>Int.pow_pos (by omega)
theorem wZ{n m:Nat}(h:n<=m):(12:Int)^n<=12^m:=by obtain⟨d,rfl⟩:=Nat.exists_eq_add_of_le h;rw[Int.pow_add];have A:=Ydw n;have h2:=Ydw d;exact Int.le_trans (by omega) (Int.mul_le_mul_of_nonneg_left (show (1:Int)<=12^d by omega) (Int.le_of_lt A))
theorem xa:(12:Int)^14=1283918464548864:=by decide
theorem dw{c b:Int}(J:0<=c/\c<=35)(L:0<=b/\b<=1):Mass (oneX PZ c b) 1:=by
 obtain⟨_,_,_,O⟩:=Ybr (c:=c) (b:=b) L J;have A:∀i,i<37->num (oneX PZ c b) (3+i)=if c.toNat=0+i then 1 else 0:=λi hi=>by
  by_cases h:i<36
  ·rw[O i h]
   by_cases e:i=c.toNat
   ·rw[if_pos e,if_pos (by omega)]
   ·rw[if_neg e,if_neg (by omega)]
  ·obtain rfl:i=36:=by omega
   rw[if_neg (by omega)];have U:=nj.2 39 (by omega) (by omega);unfold oneX;rw[cT,if_neg (by omega),cT,if_neg (by omega),cT,if_neg (by omega)];exact U
 refine⟨λi hi=>by rw[A i hi];split<;>omega,?_⟩;rw[Zkp 37 A,mE 1 37,if_pos (by omega)]
theorem Yex{S:QA}(hS:WT PZ 38 S)(hok:okS S=true){c b:Int}(hc:Zab c S=true)(hb:Zaa b 0 1=true):∀n,n<=14->Mass (Uar PZ S (oneX PZ c b) n) (12^n) /\
  ∀m,m<n->∀k:Nat,k<36->Zaq (k:Int) S=false->12*num (Uar PZ S (oneX PZ c b) m) (3+k)<=num (Uar PZ S (oneX PZ c b) (m+1)) (3+k)
 |0,_=>⟨dw (Zkk hc) (Zik hb),λm hm=>by omega⟩
 | n+1,hn=>by
  obtain⟨h1,h2⟩:=Yex hS hok hc hb n (by omega);have hl:=wF hc hb;have hp:=wZ (n:=n+1) (m:=14) hn;rw[xa]at hp;have ht:=wz (S:=S) hl.1 hl.2 (n:=n) (by omega);obtain⟨q1,q2⟩:=DK hS (Yuh (S:=S) (Yxh (Zkk hc)) n) hok h1 (by rw[<- Int.pow_succ];omega) (t:=(tdS (Uar PZ S (oneX PZ c b) n)).toNat) (by omega) (by omega);refine⟨by rw[Int.pow_succ,Int.mul_comm];exact q1,λm hm k hk hd=> ?_⟩
  by_cases e:m<n
  ·exact h2 m e k hk hd
  ·obtain rfl:m=n:=by omega
   exact q2 k hk hd
theorem xb{S:QA}(J:WT PZ 38 S)(A:okS S=true){c b:Int}(L:Zab c S=true)(O:Zaa b 0 1=true){k:Nat}(hk:k<36)(U:Zaq (k:Int) S=false)(n:Nat):∀d,n+d<=14->num (Uar PZ S (oneX PZ c b) n) (3+k)*12^d<=num (Uar PZ S (oneX PZ c b) (n+d)) (3+k)
 |0,_=>by rw[Int.pow_zero,Int.mul_one];exact Int.le_refl _
 |d+1,h=>by
  have V:=xb J A L O hk U n d (by omega);have h2:=(Yex J A L O (n+d+1) (by omega)).2 (n+d) (by omega) k hk U;rw[Int.pow_succ,<- Int.mul_assoc,show n+(d+1)=n+d+1 by omega];omega
theorem xc(r:QA)(i j:Nat)(n:Int)(h:r.size=36)(hi:i<36):num (r.setIfInBounds (i*1) (.int .i64 n)) j=if i=j then n else num r j:=by
 unfold num;rw[jH]
 by_cases e:i=j
 ·rw[if_pos (by omega),if_pos (by omega),if_pos e]
 ·rw[if_neg (by omega),if_neg e]
theorem DL{j:Nat}(A:j<36):num (zc PZ 97) j=0:=by
 have J:(jD 36).all (λj=>(num (zc PZ 97) j==0))=true:=by kernel_rfl
 exact eq_of_beq (jJ.1 J j (jG.2 A))
theorem mF(S X:QA){k:Nat}(hk:k<36):num (Ub8 PZ S X) k=if (inC (num S 0) (num S 1) k&&Zad S (k:Int))=true then num X (3+k) else 0:=by
 have key:∀ n,n≤36→(folds (fun r k=>if inC (num S 0) (num S 1) k&&Zad S (k:Int) then Ue1 X r k else r) (zc PZ 97) n).size=36∧num (folds (fun r k=>if inC (num S 0) (num S 1) k&&Zad S (k:Int) then Ue1 X r k else r) (zc PZ 97) n) k=if k<n∧(inC (num S 0) (num S 1) k&&Zad S (k:Int))=true then num X (3+k) else 0:=by
  intro n
  induction n with
  |zero=>intro _;exact⟨oy,by rw[if_neg (by omega)];exact DL hk⟩
  | succ n ih=>
   intro hn;obtain⟨h1,h2⟩:=ih (by omega);rw[cz];generalize folds (λr k=>if inC (num S 0) (num S 1) k&&Zad S (k:Int) then Ue1 X r k else r) (zc PZ 97) n=r at h1 h2|-
   by_cases hq:(inC (num S 0) (num S 1) n&&Zad S (n:Int))=true
   ·rw[if_pos hq];unfold Ue1;refine⟨by rw[jR];exact h1,?_⟩;rw[xc _ _ _ _ h1 (by omega),h2]
    by_cases e:n=k
    ·subst e;rw[if_pos rfl,if_pos ⟨by omega,hq⟩,show 3+n*1=3+n by omega]
    ·rw[if_neg e]
     by_cases hkn:k<n/\(inC (num S 0) (num S 1) k&&Zad S (k:Int))=true
     ·rw[if_pos hkn,if_pos ⟨by omega,hkn.2⟩]
     ·rw[if_neg hkn,if_neg (λh=>hkn ⟨by omega,h.2⟩)]
   ·rw[if_neg hq];refine⟨h1,?_⟩;rw[h2]
    by_cases hkn:k<n/\(inC (num S 0) (num S 1) k&&Zad S (k:Int))=true
    ·rw[if_pos hkn,if_pos ⟨by omega,hkn.2⟩]
    ·rw[if_neg hkn,if_neg (λh=>hkn ⟨by
      by_cases e:k=n
      ·subst e;exact absurd h.2 hq
      ·omega,h.2⟩)]
 have:=(key 36 (Nat.le_refl _)).2;unfold Ub8;rw[this]
 by_cases hq:(inC (num S 0) (num S 1) k&&Zad S (k:Int))=true
 ·rw[if_pos ⟨hk,hq⟩,if_pos hq]
 ·rw[if_neg (λh=>hq h.2),if_neg hq]
theorem dx(C D:QA)(m:Int)(hC:C.size=36){k:Nat}(hk:k<36):num (subV C D m) k=i64.wrap (num C k - i64.wrap (num D k*m)):=by
 have key:∀n,n<=36->(folds (subF D m) C n).size=36/\num (folds (subF D m) C n) k=if k<n then i64.wrap (num C k - i64.wrap (num D k*m)) else num C k:=by
  intro n
  induction n with
  |zero=>intro _;exact⟨hC,by rw[if_neg (by omega)];rfl⟩
  | succ n ih=>
   intro hn;obtain⟨h1,h2⟩:=ih (by omega);rw[cz];generalize folds (subF D m) C n=r at h1 h2|-
   unfold subF;refine⟨by rw[jR];exact h1,?_⟩;rw[xc _ _ _ _ h1 (by omega),h2]
   by_cases e:n=k
   ·subst e;rw[if_pos rfl,if_pos (by omega),jK,h2,if_neg (by omega)]
   ·rw[if_neg e]
    by_cases hkn:k<n
    ·rw[if_pos hkn,if_pos (by omega)]
    ·rw[if_neg hkn,if_neg (by omega)]
 unfold subV;rw[(key 36 (Nat.le_refl _)).2,if_pos hk]
def ka(P:QD)(S:QA)(c b:Int)(k before d:Nat):Int:=num (byV P S c b (before+d)) k - num (byV P S c b before) k*12^d
theorem xe{S:QA}(J:WT PZ 38 S)(A:okS S=true){c b:Int}(L:Zab c S=true)(O:Zaa b 0 1=true){k n:Nat}(hk:k<36)(U:n<=14):0<=num (byV PZ S c b n) k/\num (byV PZ S c b n) k<=12^n:=by obtain⟨V,Z⟩:=(Yex J A L O n U).1.le (i:=k) (by omega);have hp:=Ydw n;unfold byV;rw[mF _ _ hk];split<;>omega
theorem fG{S:QA}(L:WT PZ 38 S)(A:okS S=true){c b:Int}(O:Zab c S=true)(U:Zaa b 0 1=true){k before d:Nat}(hk:k<36)(V:before+d<=14):0<=ka PZ S c b k before d/\ka PZ S c b k before d<=1283918464548864 /\
  i64.wrap (num (byV PZ S c b (before+d)) k - i64.wrap (num (byV PZ S c b before) k*12^d))=ka PZ S c b k before d:=by
 obtain⟨a0,a1⟩:=xe L A O U hk V;obtain⟨Z,b1⟩:=xe L A O U hk (show before<=14 by omega);have hp:=wZ V;rw[xa]at hp;have hm0:0<=num (byV PZ S c b before) k*12^d:=Int.mul_nonneg Z (Int.le_of_lt (Ydw d));have hle:num (byV PZ S c b before) k*12^d<=num (byV PZ S c b (before+d)) k:=by
  unfold byV;rw[mF _ _ hk,mF _ _ hk]
  by_cases J:(inC (num S 0) (num S 1) k&&Zad S (k:Int))=true
  ·rw[if_pos J,if_pos J];refine xb L A O U hk ?_ before d V;rw[(Ylq L hk).2];rw[mV hk,Q7]at J;rw[J.2];simp
  ·rw[if_neg J,if_neg J];omega
 unfold ka;refine⟨by omega,by omega,?_⟩;rw[IntWalk.i64_in (num (byV PZ S c b before) k*12^d) (by omega),IntWalk.i64_in _ (by omega)]
def inH(P:QD)(S:QA)(c b:Int)(n:Nat):QA:=subV (byV P S c b n) (byV P S c b (n - 1)) 12
theorem Yx1{S:QA}(L:WT PZ 38 S)(A:okS S=true){c b:Int}(O:Zab c S=true)(U:Zaa b 0 1=true){k n:Nat}(hk:k<36)(V:1<=n/\n<=14):
  num (inH PZ S c b n) k=ka PZ S c b k (n - 1) 1/\0<=num (inH PZ S c b n) k/\num (inH PZ S c b n) k<=1283918464548864/\((inC (num S 0) (num S 1) k&&Zad S (k:Int))=false->num (inH PZ S c b n) k=0):=by
 obtain⟨Z,p1,J⟩:=fG L A O U (k:=k) (before:=n - 1) (d:=1) hk (by omega);rw[show n - 1+1=n by omega,show (12:Int)^1=12 by decide]at J;have e:num (inH PZ S c b n) k=ka PZ S c b k (n - 1) 1:=by unfold inH;rw[dx _ _ _ (Ztu S c b n) hk,J]
 refine⟨e,by omega,by omega,λh=> ?_⟩;rw[e];unfold ka byV;rw[mF _ _ hk,mF _ _ hk,h];simp
end
noncomputable section
variable {F:Vc.Fd}
theorem kb{S a:QA}{k:Nat}(L:WT PZ 69 (a.extract (k*2) (k*2+2)))(O:fndB S a k=true):Zaa (num (a.extract (k*2) (k*2+2)) 1) 1 14=true/\0<=num (a.extract (k*2) (k*2+2)) 0/\num (a.extract (k*2) (k*2+2)) 0<36:=by obtain⟨z,U,V,e2,e3⟩:=Zvw L;obtain⟨Z,x1⟩:=qV a k;obtain⟨A,f2,J⟩:=jx O;rw[<- Z,U]at A;rw[<- x1,V]at J;have r4:=Zkk A;exact⟨J,r4.1,by omega⟩
def ptK(P:QD)(S:QA)(c b:Int)(D:QA)(k:Nat):Int:=num (inH P S c b (num (D.extract (k*2) (k*2+2)) 1).toNat) (num (D.extract (k*2) (k*2+2)) 0).toNat
def noK(P:QD)(S:QA)(c b:Int)(D:QA)(k:Nat):Bool:=ptK P S c b D k==(0:Int)
def nuK(P:QD)(S:QA)(c b:Int)(D:QA)(k:Nat):Int:=scN (ptK P S c b D k) (num (D.extract (k*2) (k*2+2)) 1)
def scsC(P:QD)(S:QA)(c b:Int)(D:QA):Nat->QA
 |0=>#[]
 |k+1=>scsC P S c b D k++#[scV (noK P S c b D k) (nuK P S c b D k)]
theorem rE(S:QA)(c b:Int)(D:QA):∀n,(scsC PZ S c b D n).size=n
 |0=>rfl
 |n+1=>by rw[scsC,jP,rE S c b D n];rfl
theorem rF(S:QA)(c b:Int)(D:QA):∀n k,k<n->(scsC PZ S c b D n)[k]?=some (scV (noK PZ S c b D k) (nuK PZ S c b D k))
 |0,k,hk=>by omega
 | n+1,k,hk=>by
  have hz:=rE S c b D n;rw[scsC,Array.getElem?_append,hz]
  by_cases h:k<n
  ·rw[if_pos h];exact rF S c b D n k h
  ·obtain rfl:k=n:=by omega
   rw[if_neg h,Nat.sub_self];rfl
theorem rG(S:QA)(c b:Int)(D:QA){n k:Nat}(hk:k<n):cel (scsC PZ S c b D n) k=scV (noK PZ S c b D k) (nuK PZ S c b D k):=by unfold cel;rw[rF S c b D n k hk]
theorem scN_in(p h:Int):i64.min<=scN p h/\scN p h<=i64.max:=Zhx .i64 _
theorem fH(S:QA)(c b:Int)(D:QA)(n:Nat):allSc (scsC PZ S c b D n) n=true:=
 jJ.2 λk hk=>by rw[rG S c b D (jG.1 hk)];exact dn (scN_in _ _)
def finZ(P:QD)(S:QA)(c b:Int)(D:QA)(n:Nat):Bool:=((jD n).find? (noK P S c b D)).isSome
def finF(P:QD)(S:QA)(c b:Int)(D:QA)(s:Int)(k:Nat):Int:=i64.wrap (s+nuK P S c b D k)
def finS(P:QD)(S:QA)(c b:Int)(D:QA)(n:Nat):Int:=folds (finF P S c b D) 0 n
theorem rH{p q:Nat->Bool}:∀(l:List Nat),(∀k∈l,p k=q k)->l.find? p=l.find? q
 |[],_=>rfl
 |a::l,h=>by
  rw[List.find?_cons,List.find?_cons,h a (List.mem_cons_self ..),rH l λk hk=>h k (List.mem_cons_of_mem _ hk)]
theorem Zqt{T:Type}{f g:T->Nat->T}{t:T}:∀n,(∀k s,k<n->f s k=g s k)->folds f t n=folds g t n
 |0,_=>rfl
 |n+1,h=>by rw[cz,cz,Zqt n λk s hk=>h k s (by omega),h n _ (by omega)]
theorem fI(a b:Int):scV true a=scV true b:=rfl
theorem fJ(S:QA)(c b:Int)(D:QA)(n:Nat):scV (totZ (scsC PZ S c b D n) n) (totS (scsC PZ S c b D n) n)=scV (finZ PZ S c b D n) (finS PZ S c b D n):=by
 have hz:totZ (scsC PZ S c b D n) n=finZ PZ S c b D n:=by unfold totZ finZ;rw[rH (q:=noK PZ S c b D) (jD n) λk hk=>by rw[rG S c b D (jG.1 hk),mC]]
 rw[hz];cases hf:finZ PZ S c b D n with
 |true=>exact fI _ _
 | false=>
  have hn:∀k,k<n->noK PZ S c b D k=false:=λk hk=>by
   unfold finZ at hf;cases h:noK PZ S c b D k with|false=>rfl|true=>have:((jD n).find? (noK PZ S c b D)).isSome=true:=List.find?_isSome.2 ⟨k,jG.2 hk,h⟩;rw[this]at hf;cases hf
  have hs:totS (scsC PZ S c b D n) n=finS PZ S c b D n:=by
   unfold totS finS;refine Zqt n λk s hk=> ?_
   unfold totF finF;rw[rG S c b D hk,hn k hk,jy]
  rw[hs]
theorem rI{S D:QA}{n:Nat}(A:vf S n D=true)(h_D:∀k,k<n->WT PZ 69 (D.extract (k*2) (k*2+2))):∀k,k<n->Zaa (num (D.extract (k*2) (k*2+2)) 1) 1 14=true/\0<=(num (D.extract (k*2) (k*2+2)) 0)/\(num (D.extract (k*2) (k*2+2)) 0)<36/\i64.wrap (num (D.extract (k*2) (k*2+2)) 1)=(num (D.extract (k*2) (k*2+2)) 1):=λk hk=>by
 obtain⟨V,Z,J⟩:=Ufy A;obtain⟨L,O,U⟩:=kb (h_D k hk) (J k hk);exact⟨L,O,U,(Zvw (h_D k hk)).2.2.1⟩
theorem kc{S D:QA}{n:Nat}(A:vf S n D=true)(h_D:∀k,k<n->WT PZ 69 (D.extract (k*2) (k*2+2))):0<=latV D n/\latV D n<=14/\∀k,k<n->(num (D.extract (k*2) (k*2+2)) 1)<=latV D n:=by
 have hh:=rI A h_D;have:=du D n λk hk=>by
  obtain⟨J,_,_,e⟩:=hh k hk;rw[e];exact Zik J
 refine⟨this.1,this.2,λk hk=> ?_⟩;have h2:=dr D n k hk;rw[(hh k hk).2.2.2]at h2;exact h2
theorem dy:bytesOf PZ 79=16:=by kernel_rfl
def lx:Cons:=(mkΓ [(60,con qE),(61,con rx),(62,con ry)])
def Zbr(A J:QA)(bQ:QO)(nQ:Nat)(aQ:QA):St:=(⟨.a (.r A 74 [(2,0)])::.a (.g J 38)::.a (.w 1)::.a (.w 2)::.a (.v (.slice none 0 0))::.a (.l 12)::.a (.l 17)::.a (.u)::.a (.u)::.a (.g J 38)::.a (.p 1 (0) 2)::.a (.i .i64 (num A 0))::.a (.p 1 (1) 2)::.a (.i .i64 (num A 1))::.a (.p 1 (2) 40)::.a (.l 0)::.a (.i .i64 (latV aQ nQ))::.a (.l 12)::.a (.p 1 (2) 40)::.a (.l 0)::.a (.i .i64 (nQ:Int))::.a (.l 17)::.a (.p 1 (2) 40)::.a (.l 0)::.a (.i .i64 (nQ:Int))::.a (.i .i64 0)::us 12 ([]),[.sl (.came bQ) nQ aQ 69,.one (.r A 74 [(2,0)]) 74,.row J 38,.no,.no,.no,.no,.no,.no,.no,.no,.no,.sl .own (((latV aQ nQ).toNat+1)) (recC PZ J (num A 0) (num A 1) (latV aQ nQ).toNat) 97,.no,.no,.no,.no,.sl .own ((nQ:Int).toNat) (madeCells (zc PZ 79) ((nQ:Int).toNat*1)) 79,.no],[]⟩:St)
def Zca(nQ:Nat):Int×QA->LS
 |(A,J)=>([.a (.i .i64 A)],[.sl .own ((nQ:Int).toNat) J 79])
def Zga(nQ:Nat):Int×QA->QP×LS
 |t=>((.exit 0),(Zca nQ) t)
def Zat(P:QD)(L O:QA)(bQ:QO)(nQ:Nat)(aQ:QA):Int×QA->Option (Stp (Int×QA) (Int×QA))
 |(A,J)=>bif decide (A<(nQ:Int)) then (bif (decide (0<=A)&&decide (A<(nQ:Int))) then (bif ((Zaa (num (aQ.extract ((A).toNat*2) (((A).toNat*2)+2)) 1) 1 14&&(decide (num (aQ.extract ((A).toNat*2) (((A).toNat*2)+2)) 1<((((latV aQ nQ).toNat+1)):Int))&&(decide (0<=num (aQ.extract ((A).toNat*2) (((A).toNat*2)+2)) 0)&&decide (num (aQ.extract ((A).toNat*2) (((A).toNat*2)+2)) 0<36))))&&decide (0<=(prtV (recC PZ O (num L 0) (num L 1) (latV aQ nQ).toNat) (aQ.extract ((A).toNat*2) (((A).toNat*2)+2))))) then (bif (decide (0<=A)&&decide (A<(((nQ:Int).toNat):Int))) then (some (.more ((i64.wrap (A+(1:Int))),(J.setIfInBounds ((A).toNat*1) ((scV ((prtV (recC PZ O (num L 0) (num L 1) (latV aQ nQ).toNat) (aQ.extract ((A).toNat*2) (((A).toNat*2)+2)))==(0:Int)) (scN (prtV (recC PZ O (num L 0) (num L 1) (latV aQ nQ).toNat) (aQ.extract ((A).toNat*2) (((A).toNat*2)+2))) (num (aQ.extract ((A).toNat*2) (((A).toNat*2)+2)) 1)))))))) else (none)) else (none)) else (none)) else (some (.done (A,J)))
noncomputable abbrev ba:=codeOf f39
theorem Zrg(N:Nat)(L O:QA)(bQ:QO)(nQ:Nat)(aQ:QA):∀t:Int×QA,Uaf PZ lx N (cAt ba [1,1,1,0,1,0,0]) (pAt (Uaa ba [([25],[17])]).1 [1,1,1,0,1,0]) [25] [17] (Zbr L O bQ nQ aQ) ((Zca nQ) t)=aa (Zca nQ) (Zga nQ) (Zat PZ L O bQ nQ aQ t):=by
 rintro⟨A,J⟩
 conv=>rhs;simp only[Zat,aM,aJ,aK,aL,Zca,Zga]
 kernel_rfl
def oJ(P:QD)(N:Nat)(L O:QA)(bQ:QO)(nQ:Nat)(aQ:QA)(J:Int)(A:QA):Option (SV×Eff×Bool):=some (.a .x,.newS none ((nQ:Int).toNat) A 79,true)
theorem DM(N:Nat)(L O:QA)(bQ:QO)(nQ:Nat)(aQ:QA)(A:Int)(J:QA):(Uac 0 (kSeq (veC PZ lx N (cAt ba [1,1,1,1]) (pAt (Uaa ba [([25],[17])]).1 [1,1,1,1]) (SV×Eff×Bool)) (finK PZ [.sl (.came bQ) nQ aQ 69] [.tmp 4]))) (.exit 0) (left (writes (cAt ba [1,1,1,0,1,0,0])) [25] [17] (Zbr L O bQ nQ aQ) ([.a (.i .i64 A)],[.sl .own ((nQ:Int).toNat) J 79]))=oJ PZ N L O bQ nQ aQ A J:=by kernel_rfl
theorem DN(N:Nat)(A J:QA)(bQ:QO)(nQ:Nat)(aQ:QA):au (Uab (Uaf PZ lx N (cAt ba [1,1,1,0,1,0,0]) (pAt (Uaa ba [([25],[17])]).1 [1,1,1,0,1,0]) [25] [17] (Zbr A J bQ nQ aQ)) N ([.a (.i .i64 0)],[.sl .own ((nQ:Int).toNat) (madeCells (zc PZ 79) ((nQ:Int).toNat*1)) 79])) (λe s=>(Uac 0 (kSeq (veC PZ lx N (cAt ba [1,1,1,1]) (pAt (Uaa ba [([25],[17])]).1 [1,1,1,1]) (SV×Eff×Bool)) (finK PZ [.sl (.came bQ) nQ aQ 69] [.tmp 4]))) e (left (writes (cAt ba [1,1,1,0,1,0,0])) [25] [17] (Zbr A J bQ nQ aQ) s))=Uah (Uab (Zat PZ A J bQ nQ aQ) N ((0:Int),(madeCells (zc PZ 79) ((nQ:Int).toNat*1)))) (λx=>oJ PZ N A J bQ nQ aQ x.1 x.2):=by refine aP (Zca nQ) (Zga nQ) _ _ (Zrg N A J bQ nQ aQ) N ((0:Int),(madeCells (zc PZ 79) ((nQ:Int).toNat*1))) _ _ ?_;intro x;exact DM N A J bQ nQ aQ x.1 x.2
theorem Zp9(N:Nat)(A J:QA)(bQ:QO)(nQ:Nat)(aQ:QA):ansV PZ lx N f39 [([25],[17])] [.r A 74 [(2,0)],.g J 38] [.sl (.came bQ) nQ aQ 69]=(bif jA nQ 60 then (bif (okS J&&((Zab (num A 0) J&&Zaa (num A 1) 0 1)&&Zaa (latV aQ nQ) 0 14)) then (bif (decide (0<=(nQ:Int))&&((nQ:Int)==(nQ:Int)&&decide ((bytesOf PZ 79:Int)*(nQ:Int)<=281474976710656))) then (Uah (Uab (Zat PZ A J bQ nQ aQ) N ((0:Int),(madeCells (zc PZ 79) ((nQ:Int).toNat*1)))) (λx=>oJ PZ N A J bQ nQ aQ x.1 x.2)) else (none)) else (none)) else (none)):=by
 conv=>rhs;simp only[<- DN N A J bQ nQ aQ]
 kernel_rfl
theorem DO(A J:QA)(bQ:QO)(nQ:Nat)(aQ:QA)(h_a0:WT PZ 74 A)(U:WT PZ 38 J)(h_a0x2:aQ.size=nQ*(lay PZ 69).length/\(∀k,k<nQ->WT PZ 69 (aQ.extract (k*(lay PZ 69).length) (k*(lay PZ 69).length+(lay PZ 69).length)))/\nQ<=9223372036854775807)(hg:((vf J nQ aQ&&(Zab (num A 0) J&&Zaa (num A 1) 0 1)))=true):ansV PZ lx 1000 f39 [([25],[17])] [.r A 74 [(2,0)],.g J 38] [.sl (.came bQ) nQ aQ 69]=some (.a .x,.newS none nQ (scsC PZ J (num A 0) (num A 1) aQ nQ) 79,true):=by
 have hl:(lay PZ 69).length=2:=by kernel_rfl
 rw[hl]at h_a0x2;obtain⟨s1,s2,s3⟩:=h_a0x2;simp only[Q7]at hg;obtain⟨hv,i0,t0⟩:=hg;obtain⟨o0,hn,_⟩:=Ufy hv;obtain⟨L0,L1,L2⟩:=kc hv s2;have hh:=rI hv s2;refine(Zp9 1000 A J bQ nQ aQ).trans ?_;have g1:jA nQ 60=true:=Nat.ble_eq_true_of_le hn;have g2:(decide (0<=(nQ:Int))&&((nQ:Int)==(nQ:Int)&&decide ((bytesOf PZ 79:Int)*(nQ:Int)<=281474976710656)))=true:=by rw[dy,Q3 (show 0<=(nQ:Int) by omega),beq_self_eq_true,Q3 (show ((16:Nat):Int)*(nQ:Int)<=281474976710656 by omega)];rfl
 rw[g1,g2,o0,i0,t0,dj (x:=latV aQ nQ) (a:=0) (b:=14) ⟨L0,L1⟩];simp only[jB,Q1,Q9];have hq:∀q:QA,Uab (Zat PZ A J bQ nQ aQ) 1000 ((0:Int),madeCells (zc PZ 79) (nQ*1))=some ((nQ:Int),q)->Uah (Uab (Zat PZ A J bQ nQ aQ) 1000 ((0:Int),madeCells (zc PZ 79) (nQ*1))) (λx=>oJ PZ 1000 A J bQ nQ aQ x.1 x.2)=some (.a .x,.newS none nQ q 79,true):=λq e=>by rw[e];rfl
 refine hq _ ?_;have hz:(zc PZ 79).size=1:=by kernel_rfl
 have O:=rE J (num A 0) (num A 1) aQ nQ;have V:(scsC PZ J (num A 0) (num A 1) aQ nQ).size=(madeCells (zc PZ 79) (nQ*1)).size:=by rw[O,size_madeCells];omega
 have hF:∀(k:Nat) (s:QA),k<nQ->Zat PZ A J bQ nQ aQ ((k:Int),s)=some (.more (((k+1:Nat):Int),s.setIfInBounds (k*1) (scV (noK PZ J (num A 0) (num A 1) aQ k) (nuK PZ J (num A 0) (num A 1) aQ k)))):=λk s hk=>by
  obtain⟨p3,p4,p5,p6⟩:=hh k hk;have r3:=Zik p3;have hL:=L2 k hk;have h1:decide ((k:Int)<(nQ:Int))=true:=Q3 (by omega);have h2:decide (0<=(k:Int))=true:=Q3 (by omega);have h3:i64.wrap ((k:Int)+1)=((k+1:Nat):Int):=by rw[aI (by omega)];omega
  have e1:prtV (recC PZ J (num A 0) (num A 1) (latV aQ nQ).toNat) (aQ.extract (k*2) (k*2+2))=ptK PZ J (num A 0) (num A 1) aQ k:=by unfold prtV ptK inH;rw[qy J (num A 0) (num A 1) (latV aQ nQ).toNat _ (by omega),qy J (num A 0) (num A 1) (latV aQ nQ).toNat _ (by omega)]
  have e2:0<=ptK PZ J (num A 0) (num A 1) aQ k:=(Yx1 U o0 i0 t0 (k:=(num (aQ.extract (k*2) (k*2+2)) 0).toNat) (n:=(num (aQ.extract (k*2) (k*2+2)) 1).toNat) (by omega) (by omega)).2.1;have g3:decide ((num (aQ.extract (k*2) (k*2+2)) 1)<(((latV aQ nQ).toNat+1:Nat):Int))=true:=Q3 (by omega);have g3':decide ((num (aQ.extract (k*2) (k*2+2)) 1)<((latV aQ nQ).toNat:Int)+1)=true:=Q3 (by omega);have g4:decide (0<=(num (aQ.extract (k*2) (k*2+2)) 0))=true:=Q3 p4;have g5:decide ((num (aQ.extract (k*2) (k*2+2)) 0)<36)=true:=Q3 p5;simp only[Zat,h1,h2,h3,p3,g3,g3',g4,g5,e1,Q3 e2,Q9,jB,Q1];rfl
 have hat:=rF J (num A 0) (num A 1) aQ nQ;generalize madeCells (zc PZ 79) (nQ*1)=Z at V|-
 generalize hW:(λk=>scV (noK PZ J (num A 0) (num A 1) aQ k) (nuK PZ J (num A 0) (num A 1) aQ k))=W;have hF':∀(k:Nat) (s:QA),k<nQ->Zat PZ A J bQ nQ aQ ((k:Int),s)=some (.more (((k+1:Nat):Int),s.setIfInBounds (k*1) (W k))):=λk s hk=>by rw[<- hW];exact hF k s hk
 have L:∀k,k<nQ->(scsC PZ J (num A 0) (num A 1) aQ nQ)[k]?=some (W k):=λk hk=>by rw[<- hW];exact hat k hk
 generalize scsC PZ J (num A 0) (num A 1) aQ nQ=C at V O L|-
 have h:=bP (g:=Zat PZ A J bQ nQ aQ) (λk=>((k:Int),upto C Z k)) (m:=nQ) (x:=((nQ:Int),upto C Z nQ)) (N:=1000) (λk hk=>by
  rw[hF' k _ hk,jK,iz V (L k hk)]) (by
  have h1:decide ((nQ:Int)<(nQ:Int))=false:=Q4 (by omega);simp only[Zat,h1,Q2]) (by omega)
 rw[jr V O,jq V]at h;exact h
def rJ:af:=λargs h=>match args,h with|[.r a0 74 [(2,0)],.g a1 38],[.sl (.came bQ) nQ aQ 69]=>some (.a .x,.newS none nQ (scsC PZ a1 (num a0 0) (num a0 1) aQ nQ) 79,(vf a1 nQ aQ&&(Zab (num a0 0) a1&&Zaa (num a0 1) 0 1)))|_,_=>none
theorem DP:EntX PZ 39:=Zaj (fn:=f39)
theorem DQ:Uad (md F) PZ 39 rJ:=(ansY (N:=1000) (mKc (Zae BU) BT (mKc (Zae DA) Dz (mKc (Zae DD) DC mKn))) f39 [([25],[17])]).of (by
 intro ρ h w args vals r e L O A;unfold rJ at A;split at A
 ·rename_i U V bQ nQ aQ;obtain⟨rfl,rfl,J⟩:=ai A;exact DO U V bQ nQ aQ (L.wtr 0 rfl) (L.wt 1 rfl) (O.slw 0 rfl) J
 ·cases A)
def xh:Cons:=(mkΓ [(39,con rJ),(63,con rC)])
theorem Zqi(N:Nat)(A J:QA)(bQ:QO)(nQ:Nat)(aQ:QA):ansV PZ xh N f42 [] [.r A 74 [(2,0)],.g J 38] [.sl (.came bQ) nQ aQ 69]=(bif (vf J nQ aQ&&(Zab (num A 0) J&&Zaa (num A 1) 0 1)) then (bif (allSc (scsC PZ J (num A 0) (num A 1) aQ nQ) nQ&&jA nQ 60) then (some (.a (.v ((scV (totZ (scsC PZ J (num A 0) (num A 1) aQ nQ) nQ) (totS (scsC PZ J (num A 0) (num A 1) aQ nQ) nQ)))),.none,true)) else (none)) else (none)):=by kernel_rfl
theorem DR(A J:QA)(bQ:QO)(nQ:Nat)(aQ:QA)(L:WT PZ 74 A)(O:WT PZ 38 J)(h_a0x2:aQ.size=nQ*(lay PZ 69).length/\(∀k,k<nQ->WT PZ 69 (aQ.extract (k*(lay PZ 69).length) (k*(lay PZ 69).length+(lay PZ 69).length)))/\nQ<=9223372036854775807)(U:((vf J nQ aQ&&(Zab (num A 0) J&&Zaa (num A 1) 0 1)))=true):ansV PZ xh 1000 f42 [] [.r A 74 [(2,0)],.g J 38] [.sl (.came bQ) nQ aQ 69]=some (.a (.v ((scV (finZ PZ J (num A 0) (num A 1) aQ nQ) (finS PZ J (num A 0) (num A 1) aQ nQ)))),.none,true):=by have V:=(Ufy (Bool.and_eq_true_iff.1 U).1).2.1;refine(Zqi 1000 A J bQ nQ aQ).trans ?_;rw[U,fH,fJ,show jA nQ 60=true from Nat.ble_eq_true_of_le V];rfl
def rK:af:=λargs h=>match args,h with|[.r a0 74 [(2,0)],.g a1 38],[.sl (.came bQ) nQ aQ 69]=>some (.a (.v ((scV (finZ PZ a1 (num a0 0) (num a0 1) aQ nQ) (finS PZ a1 (num a0 0) (num a0 1) aQ nQ)))),.none,(vf a1 nQ aQ&&(Zab (num a0 0) a1&&Zaa (num a0 1) 0 1)))|_,_=>none
theorem DS:EntX PZ 42:=Zaj (fn:=f42)
theorem DT:Uad (md F) PZ 42 rK:=(ansY (N:=1000) (mKc (Zae DQ) DP (mKc (Zae DJ) DI mKn)) f42 []).of (by
 intro ρ h w args vals r e L O A;unfold rK at A;split at A
 ·rename_i U V bQ nQ aQ;obtain⟨rfl,rfl,J⟩:=ai A;exact DR U V bQ nQ aQ (L.wtr 0 rfl) (L.wt 1 rfl) (O.slw 0 rfl) J
 ·cases A)
end
noncomputable section
variable {F:Vc.Fd}
def xi:Cons:=(mkΓ [(54,con qA),(55,con qN)])
theorem Yjq(N:Nat)(L O:Int)(A J:QA):ansV PZ xi N f35 [] [.w 0,.i .i64 L,.i .i64 O,.g A 69] [.row J 38]=(bif (okS J&&((Zab L J&&Zaa O 0 1)&&Zaa (i64.wrap (num A 1)) 1 14)) then (bif (decide (0<=(num A 0))&&decide ((num A 0)<36)) then (bif ((num (subV (byV PZ J L O (i64.wrap (num A 1)).toNat) (byV PZ J L O ((i64.wrap (num A 1)).toNat - 1)) 12) ((num A 0).toNat*1))==(0:Int)) then (some (.t [.i .i64 0,.b false],.none,true)) else (bif (decide (0<=(num A 0))&&decide ((num A 0)<36)) then (bif decide (1<=(num (subV (byV PZ J L O (i64.wrap (num A 1)).toNat) (byV PZ J L O ((i64.wrap (num A 1)).toNat - 1)) 12) ((num A 0).toNat*1))) then (bif decide (1<=(12:Int)) then (some (.t [.i .i64 (i64.wrap ((lg (num (subV (byV PZ J L O (i64.wrap (num A 1)).toNat) (byV PZ J L O ((i64.wrap (num A 1)).toNat - 1)) 12) ((num A 0).toNat*1))) - (i64.wrap ((i64.wrap (num A 1))*(lg (12:Int)))))),.b true],.none,true)) else (none)) else (none)) else (none))) else (none)) else (none)):=by kernel_rfl
theorem DU(J L:Int)(A O:QA)(Z:i64.min<=J/\J<=i64.max)(b5:i64.min<=L/\L<=i64.max)(U:WT PZ 69 A)(V:WT PZ 38 O)(hg:(((okS O&&(Zab J O&&Zaa L 0 1))&&(Zaa (num A 1) 1 14&&(decide (0<=num A 0)&&decide (num A 0<36)))))=true):ansV PZ xi 1000 f35 [] [.w 0,.i .i64 J,.i .i64 L,.g A 69] [.row O 38]=some (.t [.i .i64 (bif ((num (inH PZ O J L (num A 1).toNat) (num A 0).toNat)==(0:Int)) then 0 else scN (num (inH PZ O J L (num A 1).toNat) (num A 0).toNat) (num A 1)),.b ((!((num (inH PZ O J L (num A 1).toNat) (num A 0).toNat)==(0:Int))))],.none,true):=by
 obtain⟨z,e0,e1,_,_⟩:=Zvw U;simp only[Q7,decide_eq_true_eq]at hg;obtain⟨⟨o0,i0,t0⟩,q3,q4,q5⟩:=hg;have r3:=Zik q3;have hp:=(Yx1 V o0 i0 t0 (k:=(num A 0).toNat) (n:=(num A 1).toNat) (by omega) (by omega)).2.1;have eI:subV (byV PZ O J L (num A 1).toNat) (byV PZ O J L ((num A 1).toNat - 1)) 12=inH PZ O J L (num A 1).toNat:=rfl;refine(Yjq 1000 J L A O).trans ?_;simp only[e1,o0,i0,t0,q3,Q3 q4,Q3 q5,jK,jB,Q1]
 try rw[eI]
 generalize (num (inH PZ O J L (num A 1).toNat) (num A 0).toNat)=p at hp|-
 cases h0:(p==(0:Int)) with|true=>rfl|false=>have h1:=dp hp h0;simp only[h1,Q1,Q2,jF];rfl
def fK:af:=λargs h=>match args,h with|[.w 0,.i .i64 a1,.i .i64 a2,.g a3 69],[.row a0 38]=>some (.t [.i .i64 (bif ((num (inH PZ a0 a1 a2 (num a3 1).toNat) (num a3 0).toNat)==(0:Int)) then 0 else scN (num (inH PZ a0 a1 a2 (num a3 1).toNat) (num a3 0).toNat) (num a3 1)),.b ((!((num (inH PZ a0 a1 a2 (num a3 1).toNat) (num a3 0).toNat)==(0:Int))))],.none,((okS a0&&(Zab a1 a0&&Zaa a2 0 1))&&(Zaa (num a3 1) 1 14&&(decide (0<=num a3 0)&&decide (num a3 0<36)))))|_,_=>none
theorem DV:EntX PZ 35:=Zaj (fn:=f35)
theorem DW:Uad (md F) PZ 35 fK:=(ansY (N:=1000) (mKc (Zae BJ) BI (mKc (Zae Co) Cn mKn)) f35 []).of (by
 intro ρ h w args vals r e J O A;unfold fK at A;split at A
 ·rename_i U V Z a0;obtain⟨rfl,rfl,L⟩:=ai A;exact DU U V Z a0 (J.rng 1 rfl) (J.rng 2 rfl) (J.wt 3 rfl) (O.wt 0 rfl) L
 ·cases A)
theorem Ysn(S:QA)(c b:Int)(D:QA):∀n,i64.min<=finS PZ S c b D n/\finS PZ S c b D n<=i64.max
 |0=>by
  have e:finS PZ S c b D 0=0:=rfl;rw[e];exact Ysp .i64
 |n+1=>by
  have e:finS PZ S c b D (n+1)=finF PZ S c b D (finS PZ S c b D n) n:=cz _ _ _;rw[e];exact Zhx .i64 _
theorem Ypk(z:Bool)(n:Int):Ugt (scV z n)=(bif z then 0 else n)/\Udc (scV z n)=(bif z then 6 else 0):=by cases z<;>exact⟨rfl,rfl⟩
theorem dz(a b:Int):num (#[.int .i64 a,.int .i64 b,.slice none 0 0]:QA) 0=a/\num (#[.int .i64 a,.int .i64 b,.slice none 0 0]:QA) 1=b:=⟨rfl,rfl⟩
def Ze2(L O:Int)(U:QA)(A:QO)(J:Nat)(V:QA):St:=(⟨.a (.w 0)::.a (.i .i64 L)::.a (.i .i64 O)::.a (.l 1)::us 4 (.a (.i .i64 0)::.a (.b false)::.a (.i .i64 0)::.a (.i .i64 0)::us 25 ([])),[.row U 38,.sl (.came A) J V 69],[]⟩:St)
def Zgo:Int×Bool×Int×Int->LS
 |(L,O,A,J)=>([.a (.i .i64 L),.a (.b O),.a (.i .i64 A),.a (.i .i64 J)],[])
def rL:(Stp (Int×Bool×Int×Int) (Int×Bool×Int×Int))->QP×LS
 |.more t=>(.ret,Zgo t)
 |.done t=>((.exit 0),Zgo t)
def Zc1(P:QD)(a1 a2:Int)(Z:QA)(b_a3:QO)(O:Nat)(L:QA):Int×Bool×Int×Int->Option (Stp (Int×Bool×Int×Int) (Stp (Int×Bool×Int×Int) (Int×Bool×Int×Int)))
 |(U,V,J,A)=>bif decide (A<(O:Int)) then (bif (decide (0<=A)&&decide (A<(O:Int))) then (bif ((okS Z&&(Zab a1 Z&&Zaa a2 0 1))&&(Zaa (num (L.extract ((A).toNat*2) (((A).toNat*2)+2)) 1) 1 14&&(decide (0<=num (L.extract ((A).toNat*2) (((A).toNat*2)+2)) 0)&&decide (num (L.extract ((A).toNat*2) (((A).toNat*2)+2)) 0<36)))) then (bif (!((!((num (inH PZ Z a1 a2 (num (L.extract ((A).toNat*2) (((A).toNat*2)+2)) 1).toNat) (num (L.extract ((A).toNat*2) (((A).toNat*2)+2)) 0).toNat)==(0:Int))))) then (some (.done (.more ((0:Int),false,J,A)))) else (some (.more (U,V,(i64.wrap (J+(bif ((num (inH PZ Z a1 a2 (num (L.extract ((A).toNat*2) (((A).toNat*2)+2)) 1).toNat) (num (L.extract ((A).toNat*2) (((A).toNat*2)+2)) 0).toNat)==(0:Int)) then 0 else scN (num (inH PZ Z a1 a2 (num (L.extract ((A).toNat*2) (((A).toNat*2)+2)) 1).toNat) (num (L.extract ((A).toNat*2) (((A).toNat*2)+2)) 0).toNat) (num (L.extract ((A).toNat*2) (((A).toNat*2)+2)) 1)))),(i64.wrap (A+(1:Int))))))) else (none)) else (none)) else (some (.done (.done (U,V,J,A))))
noncomputable abbrev ay:=codeOf f41
theorem Yip(N:Nat)(U V:Int)(Z:QA)(A:QO)(J:Nat)(a3:QA):∀t:Int×Bool×Int×Int,Uaf PZ (mkΓ [(35,con fK)]) N (cAt ay [1,1,0,1,0,0]) (pAt (Uaa ay [([8,9,10,11],[])]).1 [1,1,0,1,0]) [8,9,10,11] [] (Ze2 U V Z A J a3) (Zgo t)=aa Zgo rL (Zc1 PZ U V Z A J a3 t):=by
 rintro⟨y0_8,y0_9,L,O⟩
 conv=>rhs;simp only[Zc1,aM,aJ,aK,aL,Zgo,rL]
 kernel_rfl
def rM(P:QD)(N:Nat)(Z a2:Int)(a0:QA)(U:QO)(V:Nat)(a3:QA)(A:Int)(J:Bool)(L:Int)(O:Int):Option (SV×Eff×Bool):=some (.t [.i .i64 A,.b J],.none,true)
theorem DX(N:Nat)(a1 a2:Int)(Z:QA)(A:QO)(J:Nat)(a3:QA)(U:Int)(V:Bool)(L:Int)(O:Int):(Uac 0 (kSeq (veC PZ (mkΓ [(35,con fK)]) N (cAt ay [1,1,1]) (pAt (Uaa ay [([8,9,10,11],[])]).1 [1,1,1]) (SV×Eff×Bool)) (finK PZ [.row Z 38,.sl (.came A) J a3 69] [.tmp 8,.tmp 9]))) .ret (left (writes (cAt ay [1,1,0,1,0,0])) [8,9,10,11] [] (Ze2 a1 a2 Z A J a3) ([.a (.i .i64 U),.a (.b V),.a (.i .i64 L),.a (.i .i64 O)],[]))=rM PZ N a1 a2 Z A J a3 U V L O:=by kernel_rfl
def rN(P:QD)(N:Nat)(Z a2:Int)(a0:QA)(L:QO)(O:Nat)(a3:QA)(U:Int)(V:Bool)(A:Int)(J:Int):Option (SV×Eff×Bool):=some (.t [.i .i64 A,.b true],.none,true)
theorem DY(N:Nat)(a1 a2:Int)(Z:QA)(A:QO)(J:Nat)(a3:QA)(U:Int)(V:Bool)(L:Int)(O:Int):(Uac 0 (kSeq (veC PZ (mkΓ [(35,con fK)]) N (cAt ay [1,1,1]) (pAt (Uaa ay [([8,9,10,11],[])]).1 [1,1,1]) (SV×Eff×Bool)) (finK PZ [.row Z 38,.sl (.came A) J a3 69] [.tmp 8,.tmp 9]))) (.exit 0) (left (writes (cAt ay [1,1,0,1,0,0])) [8,9,10,11] [] (Ze2 a1 a2 Z A J a3) ([.a (.i .i64 U),.a (.b V),.a (.i .i64 L),.a (.i .i64 O)],[]))=rN PZ N a1 a2 Z A J a3 U V L O:=by kernel_rfl
theorem DZ(N:Nat)(U V:Int)(L:QA)(A:QO)(J:Nat)(O:QA):au (Uab (Uaf PZ (mkΓ [(35,con fK)]) N (cAt ay [1,1,0,1,0,0]) (pAt (Uaa ay [([8,9,10,11],[])]).1 [1,1,0,1,0]) [8,9,10,11] [] (Ze2 U V L A J O)) N ([.a (.i .i64 0),.a (.b false),.a (.i .i64 0),.a (.i .i64 0)],[])) (λe s=>(Uac 0 (kSeq (veC PZ (mkΓ [(35,con fK)]) N (cAt ay [1,1,1]) (pAt (Uaa ay [([8,9,10,11],[])]).1 [1,1,1]) (SV×Eff×Bool)) (finK PZ [.row L 38,.sl (.came A) J O 69] [.tmp 8,.tmp 9]))) e (left (writes (cAt ay [1,1,0,1,0,0])) [8,9,10,11] [] (Ze2 U V L A J O) s))=Uah (Uab (Zc1 PZ U V L A J O) N ((0:Int),false,(0:Int),(0:Int))) (st2 (λx=>rM PZ N U V L A J O x.1 x.2.1 x.2.2.1 x.2.2.2) (λx=>rN PZ N U V L A J O x.1 x.2.1 x.2.2.1 x.2.2.2)):=by refine aP Zgo rL _ _ (Yip N U V L A J O) N ((0:Int),false,(0:Int),(0:Int)) _ _ ?_;intro x;cases x with|more x=>exact DX N U V L A J O x.1 x.2.1 x.2.2.1 x.2.2.2|done x=>exact DY N U V L A J O x.1 x.2.1 x.2.2.1 x.2.2.2
theorem Ye2(N:Nat)(L O:Int)(U:QA)(A:QO)(J:Nat)(V:QA):ansV PZ (mkΓ [(35,con fK)]) N f41 [([8,9,10,11],[])] [.w 0,.i .i64 L,.i .i64 O,.l 1] [.row U 38,.sl (.came A) J V 69]=(Uah (Uab (Zc1 PZ L O U A J V) N ((0:Int),false,(0:Int),(0:Int))) (st2 (λx=>rM PZ N L O U A J V x.1 x.2.1 x.2.2.1 x.2.2.2) (λx=>rN PZ N L O U A J V x.1 x.2.1 x.2.2.1 x.2.2.2))):=by
 conv=>rhs;simp only[<- DZ N L O U A J V]
 kernel_rfl
theorem Ea(J L:Int)(O:QA)(V:QO)(A:Nat)(U:QA)(h_a1:i64.min<=J/\J<=i64.max)(h_a2:i64.min<=L/\L<=i64.max)(h_a0:WT PZ 38 O)(Z:U.size=A*(lay PZ 69).length/\(∀k,k<A->WT PZ 69 (U.extract (k*(lay PZ 69).length) (k*(lay PZ 69).length+(lay PZ 69).length)))/\A<=9223372036854775807)(hg:((vf O A U&&(Zab J O&&Zaa L 0 1)))=true):ansV PZ (mkΓ [(35,con fK)]) 1000 f41 [([8,9,10,11],[])] [.w 0,.i .i64 J,.i .i64 L,.l 1] [.row O 38,.sl (.came V) A U 69]=some (.t [.i .i64 (bif (finZ PZ O J L U A) then 0 else (finS PZ O J L U A)),.b ((!(finZ PZ O J L U A)))],.none,true):=by
 have hl:(lay PZ 69).length=2:=by kernel_rfl
 rw[hl]at Z;obtain⟨s1,s2,s3⟩:=Z;simp only[Q7]at hg;obtain⟨hv,i0,t0⟩:=hg;obtain⟨o0,hn,_⟩:=Ufy hv;have hh:=rI hv s2;refine(Ye2 1000 J L O V A U).trans ?_;have l0:=iC (g:=Zc1 PZ J L O V A U) (λk=>((0:Int),false,finS PZ O J L U k,(k:Int))) (noK PZ O J L U) A (N:=1000) (xd:=.done ((0:Int),false,(finS PZ O J L U A),(A:Int))) (by omega) (λk=>.more ((0:Int),false,finS PZ O J L U k,(k:Int))) (λk hk hp=>by
  obtain⟨p3,p4,p5,p6⟩:=hh k hk;have h1:decide ((k:Int)<(A:Int))=true:=Q3 (by omega);have h2:decide (0<=(k:Int))=true:=Q3 (by omega);have h3:i64.wrap ((k:Int)+1)=((k+1:Nat):Int):=by rw[aI (by omega)];omega
  have g4:=Q3 p4;have g5:=Q3 p5;have ef:finS PZ O J L U (k+1)=finF PZ O J L U (finS PZ O J L U k) k:=cz _ _ _;rw[ef];generalize finS PZ O J L U k=s;unfold noK ptK at hp;simp only[Zc1,h1,h2,h3,o0,i0,t0,p3,g4,g5,hp,finF,nuK,ptK,Q9,jB,jE,jF,Q1,Q2]) (λk hk hp=>by
  obtain⟨p3,p4,p5,p6⟩:=hh k hk;have h1:decide ((k:Int)<(A:Int))=true:=Q3 (by omega);have h2:decide (0<=(k:Int))=true:=Q3 (by omega);have h3:i64.wrap ((k:Int)+1)=((k+1:Nat):Int):=by rw[aI (by omega)];omega
  have g4:=Q3 p4;have g5:=Q3 p5;unfold noK ptK at hp;generalize finS PZ O J L U k=s;simp only[Zc1,h1,h2,o0,i0,t0,p3,g4,g5,hp,Q9,jB,jE,jF,Q1,Q2]) (by
  have h1:decide ((A:Int)<(A:Int))=false:=Q4 (by omega);generalize (finS PZ O J L U A)=s;simp only[Zc1,h1,Q2])
 have l0':Uab (Zc1 PZ J L O V A U) 1000 ((0:Int),false,(0:Int),(0:Int))=some (match (jD A).find? (noK PZ O J L U) with|some k=>.more ((0:Int),false,finS PZ O J L U k,(k:Int))|none=>.done ((0:Int),false,(finS PZ O J L U A),(A:Int))):=l0;rw[l0'];unfold finZ;cases (jD A).find? (noK PZ O J L U)<;>rfl
def rO:af:=λargs h=>match args,h with|[.w 0,.i .i64 a1,.i .i64 a2,.l 1],[.row a0 38,.sl (.came b_a3) n_a3 a3 69]=>some (.t [.i .i64 (bif (finZ PZ a0 a1 a2 a3 n_a3) then 0 else (finS PZ a0 a1 a2 a3 n_a3)),.b ((!(finZ PZ a0 a1 a2 a3 n_a3)))],.none,(vf a0 n_a3 a3&&(Zab a1 a0&&Zaa a2 0 1)))|_,_=>none
theorem Eb:EntX PZ 41:=Zaj (fn:=f41)
theorem Ec:Uad (md F) PZ 41 rO:=(ansY (N:=1000) (mKc (Zae DW) DV mKn) f41 [([8,9,10,11],[])]).of (by
 intro ρ h w args vals r e U V L;unfold rO at L;split at L
 ·rename_i Z a2 a0 A J a3;obtain⟨rfl,rfl,O⟩:=ai L;exact Ea Z a2 a0 A J a3 (U.rng 1 rfl) (U.rng 2 rfl) (V.wt 0 rfl) (V.slw 1 rfl) O
 ·cases L)
end
noncomputable section
variable {F:Vc.Fd}
theorem Ed(A C:QA):Zbv C A=Zag A C:=by
 have bc:∀x y:Int,(x==y)=(y==x):=λx y=>by rw[Bool.eq_iff_iff,beq_iff_eq,beq_iff_eq];exact eq_comm
 unfold Zbv Zag;rw[bc (num C 0),bc (num C 1),bc (num C 2)]
def Uax(A C:QA)(n:Nat)(D:QA)(c b:Int)(f:Bool):Int:=bif (vf A n D&&vf C n D) then (bif Zag A C then Zcf c b f A else 4) else 1
theorem xj{A C:QA}(O:A.size=363)(U:C.size=363)(n:Nat)(D:QA)(c b:Int)(f:Bool):Ubt 2 (spl (spl (repC (zc PZ 38) 2) 0 A.toList) 363 C.toList) n D c b f=Uax A C n D c b f:=by
 obtain⟨J,L⟩:=dm O U;generalize spl (spl (repC (zc PZ 38) 2) 0 A.toList) 363 C.toList=W at J L|-
 have V:W.extract (0*363) (0*363+363)=A:=J;have Z:W.extract (1*363) (1*363+363)=C:=L;have hm:Ua5 2 W n D=bif (vf A n D&&vf C n D) then (bif Zag A C then 0 else 4) else 1:=by unfold Ua5;have r2:jD 2=[0,1]:=rfl;rw[r2];simp only[List.find?,badM,offM,V,Z,Dl,Ed,jE];cases vf A n D<;>cases vf C n D<;>cases Zag A C<;>rfl
 unfold Ubt Uax;rw[hm,J];cases (vf A n D&&vf C n D)<;>cases Zag A C<;>rfl
theorem rQ{A C D:QA}{n:Nat}{c b:Int}{f:Bool}(h:(Uax A C n D c b f != (0:Int))=false):vf A n D=true/\vf C n D=true/\Zag A C=true/\Zab c A=true/\Zab c C=true/\Zaa b 0 1=true/\f=true/\Zah c A=false:=by
 unfold Uax at h;cases J:vf A n D with
 |false=>rw[J,Bool.false_and,Q2]at h;exact absurd h (by decide)
 |true=>
 cases h2:vf C n D with
 |false=>rw[J,h2,Bool.and_false,Q2]at h;exact absurd h (by decide)
 |true=>
 rw[J,h2,jB,Q1]at h;cases L:Zag A C with
 |false=>rw[L,Q2]at h;exact absurd h (by decide)
 |true=>
 rw[L,Q1]at h;obtain⟨_,O,U,V,Z⟩:=Bm h;refine⟨rfl,rfl,rfl,O,?_,U,V,Z⟩;unfold Zag at L;have e:num A 0=num C 0/\num A 1=num C 1:=by cases h0:(num A 0==num C 0)<;>cases J:(num A 1==num C 1)<;>rw[h0,J]at L<;>first|exact⟨eq_of_beq h0,eq_of_beq J⟩|cases L
 unfold Zab at O|-
 rw[<- e.1,<- e.2];exact O
def betV(z A:Bool)(x y:Int):Int:=bif z then (bif A then 0 else -1) else bif A then 1 else bif decide (x > y) then 1 else bif decide (x<y) then -1 else 0
theorem fL(z A:Bool)(x y:Int):Zcc (scV z x) (scV A y)=betV z A x y:=by
 unfold Zcc betV;simp only[(Ypk z x).1,(Ypk z x).2,(Ypk A y).1,(Ypk A y).2];cases z<;>cases A
 ·simp only[Q2,show ((0:Int) != 0)=false from rfl,Za8,bne_self_eq_false]
  by_cases h:x<y
  ·rw[Q3 h,Q4 (show ¬x > y by omega)];rfl
  ·rw[Q4 h];rfl
 ·exact(by decide:Za8 6 0=1)
 ·exact(by decide:Za8 0 6=-1)
 ·exact(by decide:Za8 0 0=0)
def xk:Cons:=(mkΓ [(51,con nb),(52,con qZ),(53,con qp),(65,con rj)])
theorem Yi5(N:Nat)(O U:Int)(V:Bool)(J L:QA)(Z:QO)(A:Nat)(a4:QA):ansV PZ xk N f44 [] [.w 0,.w 1,.i .i64 O,.i .i64 U,.l 2,.b V] [.row J 38,.row L 38,.sl (.came Z) A a4 69]=(bif (okS J) then (bif (okS L) then (bif (!((Ubc J A a4&&decide ((A:Int)<=60)))) then (some (.a (.i .i64 1),.none,true)) else (bif (!((Ubc L A a4&&decide ((A:Int)<=60)))) then (some (.a (.i .i64 1),.none,true)) else (bif ((Zcy J L) != (0:Int)) then (some (.a (.i .i64 (Zcy J L)),.none,true)) else (bif (Zem O U V J) then (some (.a (.i .i64 (Zcf O U V J)),.none,true)) else (none))))) else (bif ((Zcy J L) != (0:Int)) then (some (.a (.i .i64 (Zcy J L)),.none,true)) else (bif (Zem O U V J) then (some (.a (.i .i64 (Zcf O U V J)),.none,true)) else (none)))) else (bif ((Zcy J L) != (0:Int)) then (some (.a (.i .i64 (Zcy J L)),.none,true)) else (bif (Zem O U V J) then (some (.a (.i .i64 (Zcf O U V J)),.none,true)) else (none)))):=by kernel_rfl
theorem Ee(V Z:Int)(a5:Bool)(L O:QA)(J:QO)(A:Nat)(U:QA)(h_a2:i64.min<=V/\V<=i64.max)(h_a3:i64.min<=Z/\Z<=i64.max)(h_a0:WT PZ 38 L)(h_a1:WT PZ 38 O)(h_a4:U.size=A*(lay PZ 69).length/\(∀k,k<A->WT PZ 69 (U.extract (k*(lay PZ 69).length) (k*(lay PZ 69).length+(lay PZ 69).length)))/\A<=9223372036854775807)(hg:(true)=true):ansV PZ xk 1000 f44 [] [.w 0,.w 1,.i .i64 V,.i .i64 Z,.l 2,.b a5] [.row L 38,.row O 38,.sl (.came J) A U 69]=some (.a (.i .i64 (Uax L O A U V Z a5)),.none,true):=by refine(Yi5 1000 V Z a5 L O J A U).trans ?_;rw[fE];unfold Uax vf Zcy;generalize (Ubc L A U&&decide ((A:Int)<=60))=p;generalize (Ubc O A U&&decide ((A:Int)<=60))=q;cases okS L<;>cases okS O<;>cases p<;>cases q<;>cases Zag L O<;>rfl
def rR:af:=λargs h=>match args,h with|[.w 0,.w 1,.i .i64 a2,.i .i64 a3,.l 2,.b a5],[.row a0 38,.row a1 38,.sl (.came b_a4) n_a4 a4 69]=>some (.a (.i .i64 (Uax a0 a1 n_a4 a4 a2 a3 a5)),.none,true)|_,_=>none
theorem xl:EntX PZ 44:=Zaj (fn:=f44)
theorem xm:Uad (md F) PZ 44 rR:=(ansY (N:=1000) (mKc (Zae tN) tM (mKc (Zae CJ) CI (mKc (Zae Bl) Bk (mKc (Zae Db) Da mKn)))) f44 []).of (by
 intro ρ h w args vals r e V O L;unfold rR at L;split at L
 ·rename_i Z a3 a5 a0 a1 A J a4;obtain⟨rfl,rfl,U⟩:=ai L;exact Ee Z a3 a5 a0 a1 A J a4 (V.rng 2 rfl) (V.rng 3 rfl) (O.wt 0 rfl) (O.wt 1 rfl) (O.slw 2 rfl) U
 ·cases L)
end
end Go.Proofs.YtefjogahegolbaaGreatDoor
