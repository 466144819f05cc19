/- The spots at which two seas differ, both sides. -/
import Derived.Test.YtefjogahegolbaaGreatDoorProg
import Derived.Test.YtefjogahegolbaaGreatDoorCuA
set_option linter.unusedVariables false
set_option linter.unusedSimpArgs false
open _root_.List renaming length_append->jE
open _root_.Array renaming getElem?_extract->jF,getElem?_eq_none->jH
open _root_.Nat renaming ble->jA,le_of_ble_eq_true->jG
open _root_.Bool renaming and_self->jB,not_false->jC,not_true->jD
open _root_.Go renaming Value->QC,Program->QD,Exit->QP,Addr->QR
namespace Go.Proofs.YtefjogahegolbaaGreatDoor
open Tryz (f9 f15 f16 f27 f28 f29 f31 f32 f33 f40 f45 f46 f48 f49 f66 f67)
open Go.ChangeShapes Go.WideShapes Go.ChangeAt Go.RowKit Ve Vc
open Tryz renaming prog -> PZ
open IntKind (i64)
set_option maxRecDepth 100000
noncomputable section
variable {F:Vc.Fd}
def cd(A C:QA)(t k:Nat):Bool:= !(Uag (A.extract (3+t*180+k*5) (3+t*180+k*5+5)) (C.extract (3+t*180+k*5) (3+t*180+k*5+5)))
def dfL(A C:QA)(t:Nat):Nat->List (Nat×Nat)
 |0=>[]
 |k+1=>bif cd A C t k then dfL A C t k++[(t,k)] else dfL A C t k
def dfT(A C:QA):Nat->List (Nat×Nat)
 |0=>[]
 |t+1=>dfT A C t++dfL A C t 36
theorem oK(A C:QA)(t:Nat):∀k,(dfL A C t k).length<=k
 |0=>Nat.le_refl _
 |k+1=>by
  have:=oK A C t k;rw[dfL];cases cd A C t k with|false=>rw[Q2];omega|true=>rw[Q1,jE];show _+1<=_;omega
theorem mG(A C:QA):∀t,(dfT A C t).length<=t*36
 |0=>Nat.le_refl _
 |t+1=>by
  have:=mG A C t;have:=oK A C t 36;rw[dfT,jE];omega
def duoL(q:Nat×Nat):List QC:=[.int .i8 (IntKind.i8.wrap (q.1:Int)),.int .i8 (IntKind.i8.wrap (q.2:Int))]
def arrD(l:List (Nat×Nat)):QA:=⟨l.flatMap duoL⟩
theorem rS(l m:List (Nat×Nat)):arrD (l++m)=arrD l++arrD m:=by unfold arrD;rw[List.flatMap_append];simp
theorem oL:∀l:List (Nat×Nat),(arrD l).size=l.length*2
 |[]=>rfl
 |a::m=>by
  have e:arrD (a::m)=arrD [a]++arrD m:=rS [a] m;rw[e,Array.size_append,oL m]
  show 2+m.length*2=(m.length+1)*2
  omega
theorem fM:bytesOf PZ 53<=1000:=jG (by kernel_rfl)
theorem oM{n:Nat}(h:n<=100000):jA (n*bytesOf PZ 53) 140737488355328=true:=Nat.ble_eq_true_of_le (Nat.le_trans (Nat.mul_le_mul h fM) (by decide))
def Zgl(O U:QA)(A:Int)(J:Nat)(L:QA):St:=(⟨.a (.w 0)::.a (.w 1)::.a (.u)::.a (.u)::.a (.v (.slice none 0 0))::.a (.l 5)::.a (.i .i64 A)::.a (.i .i64 0)::.a (.l 2)::.a (.i .i64 A)::.a (.b (decide (A<(2:Int))))::xs 31 (.a (.u)::[]),[.row O 38,.row U 38,.sp,.no,.sp,.sl .own J L 53],[4,4]⟩:St)
def Ze4:Int×Nat×QA->LS
 |(A,J,L)=>([.a (.i .i64 A),.a (.l 5)],[.sl .own J L 53])
def mH:Int×Nat×QA->QP×LS
 |t=>((.exit 2),Ze4 t)
def Zd5(P:QD)(Z a1:QA)(J:Int)(U:Nat)(V:QA):Int×Nat×QA->Option (Stp (Int×Nat×QA) (Int×Nat×QA))
 |(A,L,O)=>bif decide (A<(36:Int)) then (bif (decide (0<=J)&&decide (J<2)) then (bif (decide (0<=A)&&decide (A<36)) then (bif (decide (0<=J)&&decide (J<2)) then (bif (decide (0<=A)&&decide (A<36)) then (bif (!(Uag (Z.extract ((3+((J).toNat*180))+((A).toNat*5)) (((3+((J).toNat*180))+((A).toNat*5))+5)) (a1.extract ((3+((J).toNat*180))+((A).toNat*5)) (((3+((J).toNat*180))+((A).toNat*5))+5)))) then (bif (jA ((L+1)*bytesOf PZ 53) 140737488355328) then (some (.more ((i64.wrap (A+(1:Int))),(L+1),(O++(#[.int .i8 (IntKind.i8.wrap J),.int .i8 (IntKind.i8.wrap A)]:QA))))) else (none)) else (some (.more ((i64.wrap (A+(1:Int))),L,O)))) else (none)) else (none)) else (none)) else (none)) else (some (.done (A,L,O)))
noncomputable abbrev ak:=codeOf f66
theorem Zpf(N:Nat)(O U:QA)(A:Int)(J:Nat)(L:QA):∀t:Int×Nat×QA,Ubi PZ (mkΓ []) N (cAt ak [1,1,0,1,0,0,1,0,0,1,0,0]) (pAt (Uaa ak [([6],[1000005,53]),([7],[1000005,53])]).1 [1,1,0,1,0,1,0,1,0]) [7] [] 5 53 5 (Zgl O U A J L) (Ze4 t)=aa Ze4 mH (Zd5 PZ O U A J L t):=by
 rintro⟨V,Z,b5⟩
 conv=>rhs;simp only[Zd5,aM,aJ,aK,aL,Ze4,mH]
 kernel_rfl
def Zgr(A J:QA):St:=(⟨.a (.w 0)::.a (.w 1)::.a (.u)::.a (.u)::.a (.v (.slice none 0 0))::.a (.l 4)::.a (.i .i64 0)::.a (.u)::.a (.l 2)::us 34 ([]),[.row A 38,.row J 38,.sp,.no,.sl .own 0 (#[]:QA) 53],[2]⟩:St)
def Zc7:Int×Nat×QA->LS
 |(A,J,L)=>([.a (.i .i64 A),.a (.l 4)],[.sl .own J L 53])
def ke:Int×Nat×QA->QP×LS
 |t=>((.exit 0),Zc7 t)
def Zg7(P:QD)(N:Nat)(Z a1:QA)(A:Int)(O:Nat)(U:QA)(V:Int)(J:Nat)(L:QA):Option (Stp (Int×Nat×QA) (Int×Nat×QA)):=some (.more ((i64.wrap (A+(1:Int))),J,L))
theorem Ef(N:Nat)(Z a1:QA)(A:Int)(J:Nat)(L:QA)(O:Int)(U:Nat)(V:QA):(Uac 2 (Uac 1 (kSeq (veC PZ (mkΓ []) N (cAt ak [1,1,0,1,0,0,1,1]) (pAt (Uaa ak [([6],[1000005,53]),([7],[1000005,53])]).1 [1,1,0,1,0,1,1]) (Stp LS (QP×LS))) (Uco 4 [6] [] 5 53)))) (.exit 2) (left (writes (cAt ak [1,1,0,1,0,0,1,0,0,1,0,0])) [7,5] [5] (Zgl Z a1 A J L) ([.a (.i .i64 O),.a (.l 5)],[.sl .own U V 53]))=aa Zc7 ke (Zg7 PZ N Z a1 A J L O U V):=by
 conv=>rhs;simp only[Zg7,aM,aJ,aK,aL,Zc7,ke]
 kernel_rfl
theorem Eg(N:Nat)(O U:QA)(L:Int)(A:Nat)(J:QA):au (Uab (Ubi PZ (mkΓ []) N (cAt ak [1,1,0,1,0,0,1,0,0,1,0,0]) (pAt (Uaa ak [([6],[1000005,53]),([7],[1000005,53])]).1 [1,1,0,1,0,1,0,1,0]) [7] [] 5 53 5 (Zgl O U L A J)) N ([.a (.i .i64 0),.a (.l 5)],[.sl .own A J 53])) (λe s=>(Uac 2 (Uac 1 (kSeq (veC PZ (mkΓ []) N (cAt ak [1,1,0,1,0,0,1,1]) (pAt (Uaa ak [([6],[1000005,53]),([7],[1000005,53])]).1 [1,1,0,1,0,1,1]) (Stp LS (QP×LS))) (Uco 4 [6] [] 5 53)))) e (left (writes (cAt ak [1,1,0,1,0,0,1,0,0,1,0,0])) [7,5] [5] (Zgl O U L A J) s))=aa Zc7 ke (Uah (Uab (Zd5 PZ O U L A J) N ((0:Int),A,J)) (λx=>Zg7 PZ N O U L A J x.1 x.2.1 x.2.2)):=by
 rw[qc Zc7 ke]
 first
 |(have h:=aP (α:=Stp LS (QP×LS)) Ze4 mH _ _ (Zpf N O U L A J) N ((0:Int),A,J);refine h _ _ ?_)
 |(have h:=aP (α:=Stp BS (QP×BS)) Ze4 mH _ _ (Zpf N O U L A J) N ((0:Int),A,J);refine h _ _ ?_)
 |(have h:=aP (α:=Stp LS ((QP×LS)⊕(SV×Eff×Bool))) Ze4 mH _ _ (Zpf N O U L A J) N ((0:Int),A,J);refine h _ _ ?_)
 intro x;exact Ef N O U L A J x.1 x.2.1 x.2.2
def Zd4(P:QD)(N:Nat)(O U:QA):Int×Nat×QA->Option (Stp (Int×Nat×QA) (Int×Nat×QA))
 |(A,J,L)=>bif decide (A<(2:Int)) then (Uah (Uab (Zd5 P O U A J L) N ((0:Int),J,L)) (λx=>Zg7 P N O U A J L x.1 x.2.1 x.2.2)) else (some (.done (A,J,L)))
theorem Yid(N:Nat)(O U:QA):∀t:Int×Nat×QA,Ubi PZ (mkΓ []) N (cAt ak [1,1,0,1,0,0]) (pAt (Uaa ak [([6],[1000005,53]),([7],[1000005,53])]).1 [1,1,0,1,0]) [6] [] 5 53 4 (Zgr O U) (Zc7 t)=aa Zc7 ke (Zd4 PZ N O U t):=by
 rintro⟨A,J,L⟩
 conv=>rhs;simp only[<- Eg N O U A J L,Zd4,aM,aJ,aK,aL,Zc7,ke]
 kernel_rfl
def rT(P:QD)(N:Nat)(O U:QA)(L:Int)(A:Nat)(J:QA):Option (SV×Eff×Bool):=some (.a .x,.newS none A J 53,true)
theorem Eh(N:Nat)(O U:QA)(A:Int)(J:Nat)(L:QA):(Uac 0 (kSeq (veC PZ (mkΓ []) N (cAt ak [1,1,1]) (pAt (Uaa ak [([6],[1000005,53]),([7],[1000005,53])]).1 [1,1,1]) (SV×Eff×Bool)) (finK PZ [.row O 38,.row U 38] [.tmp 4]))) (.exit 0) (left (writes (cAt ak [1,1,0,1,0,0])) [6,5] [4] (Zgr O U) ([.a (.i .i64 A),.a (.l 4)],[.sl .own J L 53]))=rT PZ N O U A J L:=by kernel_rfl
theorem Ei(N:Nat)(A J:QA):au (Uab (Ubi PZ (mkΓ []) N (cAt ak [1,1,0,1,0,0]) (pAt (Uaa ak [([6],[1000005,53]),([7],[1000005,53])]).1 [1,1,0,1,0]) [6] [] 5 53 4 (Zgr A J)) N ([.a (.i .i64 0),.a (.l 4)],[.sl .own 0 (#[]:QA) 53])) (λe s=>(Uac 0 (kSeq (veC PZ (mkΓ []) N (cAt ak [1,1,1]) (pAt (Uaa ak [([6],[1000005,53]),([7],[1000005,53])]).1 [1,1,1]) (SV×Eff×Bool)) (finK PZ [.row A 38,.row J 38] [.tmp 4]))) e (left (writes (cAt ak [1,1,0,1,0,0])) [6,5] [4] (Zgr A J) s))=Uah (Uab (Zd4 PZ N A J) N ((0:Int),0,(#[]:QA))) (λx=>rT PZ N A J x.1 x.2.1 x.2.2):=by refine aP Zc7 ke _ _ (Yid N A J) N ((0:Int),0,(#[]:QA)) _ _ ?_;intro x;exact Eh N A J x.1 x.2.1 x.2.2
theorem Yfv(N:Nat)(A J:QA):ansV PZ (mkΓ []) N f66 [([6],[1000005,53]),([7],[1000005,53])] [.w 0,.w 1] [.row A 38,.row J 38]=(Uah (Uab (Zd4 PZ N A J) N ((0:Int),0,(#[]:QA))) (λx=>rT PZ N A J x.1 x.2.1 x.2.2)):=by
 conv=>rhs;simp only[<- Ei N A J]
 kernel_rfl
theorem Ej(A J:QA)(V:WT PZ 38 A)(Z:WT PZ 38 J)(hg:(true)=true):ansV PZ (mkΓ []) 18446744073709551616 f66 [([6],[1000005,53]),([7],[1000005,53])] [.w 0,.w 1] [.row A 38,.row J 38]=some (.a .x,.newS none (dfT A J 2).length (arrD (dfT A J 2)) 53,true):=by
 have O:∀(t:Nat),t<2->∀(l:List (Nat×Nat)),l.length<=1000->Uab (Zd5 PZ A J (t:Int) l.length (arrD l)) 18446744073709551616 ((0:Int),l.length,arrD l)=some ((36:Int),(l++dfL A J t 36).length,arrD (l++dfL A J t 36)):=by
  intro t ht l hl;have h:=bP (g:=Zd5 PZ A J (t:Int) l.length (arrD l)) (λk=>((k:Int),(l++dfL A J t k).length,arrD (l++dfL A J t k))) (m:=36) (x:=((36:Int),(l++dfL A J t 36).length,arrD (l++dfL A J t 36))) (N:=18446744073709551616) (λk hk=>by
   have L:decide ((k:Int)<36)=true:=Q3 (by omega);have h0:decide (0<=(k:Int))=true:=Q3 (by omega);have t1:decide ((t:Int)<2)=true:=Q3 (by omega);have t0:decide (0<=(t:Int))=true:=Q3 (by omega);have U:i64.wrap ((k:Int)+1)=((k+1:Nat):Int):=by rw[IntWalk.i64_in _ (by omega)];omega
   have hlen:(l++dfL A J t k).length<=1036:=by have:=oK A J t k;rw[jE];omega
   have hb:=oM (n:=(l++dfL A J t k).length+1) (by omega);have ed:(!(Uag (A.extract (3+t*180+k*5) (3+t*180+k*5+5)) (J.extract (3+t*180+k*5) (3+t*180+k*5+5))))=cd A J t k:=rfl;simp only[Zd5,L,h0,t1,t0,U,ed,hb,Q9,jB,Q1];rw[dfL];cases cd A J t k with
   |false=>simp only[Q2]
   |true=>simp only[Q1];rw[<- List.append_assoc,rS (l++dfL A J t k),show ((l++dfL A J t k)++[(t,k)]).length=(l++dfL A J t k).length+1 from jE];rfl) (by
   have L:decide (((36:Nat):Int)<36)=false:=by decide
   simp only[Zd5,L,Q2];rfl) (by omega)
  rw[show dfL A J t 0=[] from rfl,List.append_nil]at h;exact h
 have h:=bP (g:=Zd4 PZ 18446744073709551616 A J) (λt=>((t:Int),(dfT A J t).length,arrD (dfT A J t))) (m:=2) (x:=((2:Int),(dfT A J 2).length,arrD (dfT A J 2))) (N:=18446744073709551616) (λt ht=>by
  have L:decide ((t:Int)<2)=true:=Q3 (by omega);have U:i64.wrap ((t:Int)+1)=((t+1:Nat):Int):=by rw[IntWalk.i64_in _ (by omega)];omega
  have hl:=mG A J t;have hi:=O t ht (dfT A J t) (by omega);simp only[Zd4,L,Q1];rw[hi];simp only[Uah,Zg7,U];rfl) (by
  have L:decide (((2:Nat):Int)<2)=false:=by decide
  simp only[Zd4,L,Q2];rfl) (by omega)
 refine(Yfv 18446744073709551616 A J).trans ?_;have h':Uab (Zd4 PZ 18446744073709551616 A J) 18446744073709551616 ((0:Int),0,(#[]:QA))=some ((2:Int),(dfT A J 2).length,arrD (dfT A J 2)):=h;rw[h'];rfl
def rU:af:=λargs h=>match args,h with|[.w 0,.w 1],[.row a0 38,.row a1 38]=>some (.a .x,.newS none (dfT a0 a1 2).length (arrD (dfT a0 a1 2)) 53,true)|_,_=>none
theorem Ek:EntX PZ 66:=Zaj (fn:=f66)
theorem El:Uad (md F) PZ 66 rU:=(ansY (N:=18446744073709551616) mKn f66 [([6],[1000005,53]),([7],[1000005,53])]).of (by
 intro ρ h w args vals r e V L A;unfold rU at A;split at A
 ·rename_i O U;obtain⟨rfl,rfl,J⟩:=ai A;exact Ej O U (L.wt 0 rfl) (L.wt 1 rfl) J
 ·cases A)
theorem fN{A C:QA}(L:okS A=true)(O:okS C=true)(h0:num C 0=num A 0)(U:num C 1=num A 1)(h2:num C 2=num A 2){t k:Nat}(V:t<2)(hk:k<36)(J:(inC (num A 0) (num A 1) k && !(bitI (num A 2) k))=false):cd A C t k=false:=by
 have fit:∀{S:QA},okS S=true->fitS S t k=true:=λ{S} hS=>by
  unfold okS at hS;simp only[Q7]at hS;have:=List.all_eq_true.1 hS.2.2 k (List.mem_range.2 hk);rw[Q7]at this
  match t,V with|0,_=>exact this.1|1,_=>exact this.2
 have fA:=fit L;have fC:=fit O;unfold fitS at fA fC;rw[h0,U,h2,J,Q2]at fC;rw[J,Q2]at fA;have eA:=bT.1 fA;have eC:=bT.1 fC;unfold cd;unfold chR at eA eC;rw[eA,eC,fq];rfl
theorem Em{T X:Type}{g:Int->T->Option (Stp T X)}(F:Nat->T){wd hi:Int}{q:Int->Bool}(U:∀k,k<36->inC wd hi k=true->q (k:Int)=true->g (k:Int) (F k)=some (.more (F (k+1))))(O:∀k,k<36->(inC wd hi k&&q (k:Int))=false->F (k+1)=F k):
  Uat g ((Uam wd hi 36).filter q) (F 0)=some (.more (F 36)):=by
 have key:∀n,n<=36->Uat g ((Uam wd hi n).filter q) (F 0)=some (.more (F n)):=by
  intro n
  induction n with
  |zero=>intro _;rfl
  | succ n J=>intro V;have J:=J (by omega);cases A:inC wd hi n with|false=>rw[qi A,J,O n (by omega) (by rw[A];rfl)]| true=>rw[oj A,List.filter_append,io,J];cases L:q (n:Int) with|false=>rw[show List.filter q [(n:Int)]=[] by simp[L],O n (by omega) (by rw[A,L];rfl)];rfl|true=>rw[show List.filter q [(n:Int)]=[(n:Int)] by simp[L]];simp only[Uat,U n (by omega) A L]
 exact key 36 (Nat.le_refl _)
theorem xn{A C:QA}(h:Zag A C=true):num C 0=num A 0/\num C 1=num A 1/\num C 2=num A 2:=by
 unfold Zag at h;cases J:(num A 0==num C 0) with
 |false=>rw[J]at h;cases h
 | true=>
  cases L:(num A 1==num C 1) with
  |false=>rw[J,L]at h;cases h
  |true=>rw[J,L]at h;simp only[Q1]at h;exact⟨(beq_iff_eq.1 J).symm,(beq_iff_eq.1 L).symm,(beq_iff_eq.1 h).symm⟩
theorem En{A C:QA}(h:(okS A&&(okS C&&Zag A C))=true):okS A=true/\okS C=true/\num C 0=num A 0/\num C 1=num A 1/\num C 2=num A 2:=by simp only[Q7]at h;exact⟨h.1,h.2.1,xn h.2.2⟩
def dA:Cons:=(mkΓx [] [(92,pc)] [(110,mQ)])
def Zek(J L:QA)(A:Int)(m0_b:Nat)(y0_b:QA):St:=(⟨.a (.g J 38)::.a (.g L 38)::.a (.w 0)::.a (.w 1)::.a (.v (.slice none 0 0))::.a (.w 3)::.a (.w 6)::.a (.u)::.a (.i .i64 A)::.a (.b (decide (A<(2:Int))))::.a (.i .i64 A)::.a (.g J 38)::.a (.c 110 [11])::us 22 (.a (.x)::.a (.u)::[]),[.row J 38,.row L 38,.no,.one (.l 16) 57,.sp,.no,.row #[.int .i64 A] 3,.no,.no,.no,.no,.row J 38,.no,.no,.no,.no,.sl .own m0_b y0_b 53],[3,4,6,4]⟩:St)
def Zm3:Nat×QA->BS
 |(m1_b,y1_b)=>([.sl .own m1_b y1_b 53]:BS)
def rV:Empty->QP×BS:=λx=>nomatch x
def Zf1(P:QD)(L O:QA)(A:Int)(m0_b:Nat)(y0_b:QA)(J:Int):Nat×QA->Option (Stp (Nat×QA) Empty)
 |(m1_b,y1_b)=>bif (decide (0<=A)&&decide (A<2)) then (bif (decide (0<=J)&&decide (J<36)) then (bif (decide (0<=A)&&decide (A<2)) then (bif (decide (0<=J)&&decide (J<36)) then (bif (!(Uag (L.extract ((3+((A).toNat*180))+((J).toNat*5)) (((3+((A).toNat*180))+((J).toNat*5))+5)) (O.extract ((3+((A).toNat*180))+((J).toNat*5)) (((3+((A).toNat*180))+((J).toNat*5))+5)))) then (bif (jA ((m1_b+1)*bytesOf PZ 53) 140737488355328) then (some (.more ((m1_b+1),(y1_b++(#[.int .i8 (IntKind.i8.wrap A),.int .i8 (IntKind.i8.wrap J)]:QA))))) else (none)) else (some (.more (m1_b,y1_b)))) else (none)) else (none)) else (none)) else (none)
noncomputable abbrev am:=codeOf f67
theorem Eo(N:Nat)(J L:QA)(A:Int)(m0_b:Nat)(y0_b:QA)(O:Int):∀t:Nat×QA,As PZ dA N (cAt am [1,1,0,1,0,0,1,1,0,0,1,1,0,0]) (pAt (Uaa am [([8],[2000003,53]),([],[2000003,53])]).1 [1,1,0,1,0,1,1,0,1,1,0]) 16 [] 3 53 [13] [(7,13)] (Zek J L A m0_b y0_b) [.i .i64 O] (Zm3 t)=aa Zm3 rV (Zf1 PZ J L A m0_b y0_b O t):=by
 rintro⟨m1_b,y1_b⟩
 conv=>rhs;simp only[Zf1,aM,aJ,aK,aL,Zm3,rV]
 kernel_rfl
def Zh2(A J:QA):St:=(⟨.a (.g A 38)::.a (.g J 38)::.a (.w 0)::.a (.w 1)::.a (.v (.slice none 0 0))::.a (.w 3)::.a (.u)::.a (.u)::.a (.i .i64 0)::us 28 ([]),[.row A 38,.row J 38,.no,.one (.l 4) 57,.sl .own 0 (#[]:QA) 53],[3]⟩:St)
def Zcb:Int×Nat×QA->LS
 |(A,m0_b,y0_b)=>([.a (.i .i64 A)],[.sl .own m0_b y0_b 53])
def fO:Int×Nat×QA->QP×LS
 |t=>((.exit 0),Zcb t)
def Zft(P:QD)(N:Nat)(J L:QA)(A:Int)(m0_b:Nat)(y0_b:QA)(p1_b:Nat)(z1_b:QA):Option (Stp (Int×Nat×QA) (Int×Nat×QA)):=some (.more ((i64.wrap (A+(1:Int))),p1_b,z1_b))
theorem Ep(N:Nat)(J L:QA)(A:Int)(m0_b:Nat)(y0_b:QA)(p1_b:Nat)(z1_b:QA):(Uac 2 (Uac 1 (kSeq (veC PZ dA N (cAt am [1,1,0,1,0,0,1,1,1]) (pAt (Uaa am [([8],[2000003,53]),([],[2000003,53])]).1 [1,1,0,1,0,1,1,1]) (Stp LS (QP×LS))) (Ubz Uag (.l 4) 4 [8] [] 3 53)))) .normal (Ua2 [16] (Zek J L A m0_b y0_b) ([.sl .own p1_b z1_b 53]:BS))=aa Zcb fO (Zft PZ N J L A m0_b y0_b p1_b z1_b):=by
 conv=>rhs;simp only[Zft,aM,aJ,aK,aL,Zcb,fO]
 kernel_rfl
theorem Er(N:Nat)(J L:QA)(A:Int)(m0_b:Nat)(y0_b:QA):fb (Uat (λ(U:Int) (O:BS)=>As PZ dA N (cAt am [1,1,0,1,0,0,1,1,0,0,1,1,0,0]) (pAt (Uaa am [([8],[2000003,53]),([],[2000003,53])]).1 [1,1,0,1,0,1,1,0,1,1,0]) 16 [] 3 53 [13] [(7,13)] (Zek J L A m0_b y0_b) [.i .i64 U] O) ((Uam (num J 0) (num J 1) 36).filter (Zac J)) ([.sl .own m0_b y0_b 53]:BS)) (λO=>(Uac 2 (Uac 1 (kSeq (veC PZ dA N (cAt am [1,1,0,1,0,0,1,1,1]) (pAt (Uaa am [([8],[2000003,53]),([],[2000003,53])]).1 [1,1,0,1,0,1,1,1]) (Stp LS (QP×LS))) (Ubz Uag (.l 4) 4 [8] [] 3 53)))) .normal (Ua2 [16] (Zek J L A m0_b y0_b) O)) (λe O=>(Uac 2 (Uac 1 (kSeq (veC PZ dA N (cAt am [1,1,0,1,0,0,1,1,1]) (pAt (Uaa am [([8],[2000003,53]),([],[2000003,53])]).1 [1,1,0,1,0,1,1,1]) (Stp LS (QP×LS))) (Ubz Uag (.l 4) 4 [8] [] 3 53)))) e (Ua2 [16] (Zek J L A m0_b y0_b) O))=aa Zcb fO (Ude (Uat (Zf1 PZ J L A m0_b y0_b) ((Uam (num J 0) (num J 1) 36).filter (Zac J)) (m0_b,y0_b)) (λx=>Zft PZ N J L A m0_b y0_b x.1 x.2) (λx:Empty=>nomatch x)):=by
 refine(Ybl Zm3 rV _ _ (λy t=>Eo N J L A m0_b y0_b y t) _ (m0_b,y0_b) _ _ (λx=>aa Zcb fO (Zft PZ N J L A m0_b y0_b x.1 x.2)) (λx=>aa Zcb fO ((λx:Empty=>nomatch x) x)) ?_ ?_).trans (Yv4 Zcb fO _ _ _).symm
 ·intro x;exact Ep N J L A m0_b y0_b x.1 x.2
 ·intro x;exact nomatch x
def Zep(P:QD)(N:Nat)(J L:QA):Int×Nat×QA->Option (Stp (Int×Nat×QA) (Int×Nat×QA))
 |(A,m0_b,y0_b)=>bif decide (A<(2:Int)) then (bif (decide (0<=num J 0)&&decide (num J 0<=6)&&(decide (0<=num J 1)&&decide (num J 1<=6))) then (Ude (Uat (Zf1 P J L A m0_b y0_b) ((Uam (num J 0) (num J 1) 36).filter (Zac J)) (m0_b,y0_b)) (λx=>Zft P N J L A m0_b y0_b x.1 x.2) (λx:Empty=>nomatch x)) else (none)) else (some (.done (A,m0_b,y0_b)))
theorem Ylj(N:Nat)(J L:QA):∀t:Int×Nat×QA,Ug1 PZ dA N (cAt am [1,1,0,1,0,0]) (pAt (Uaa am [([8],[2000003,53]),([],[2000003,53])]).1 [1,1,0,1,0]) [8] [] 3 53 4 (Zh2 J L) (Zcb t)=aa Zcb fO (Zep PZ N J L t):=by
 rintro⟨A,m0_b,y0_b⟩
 conv=>rhs;simp only[<- Er N J L A m0_b y0_b,Zep,aM,aJ,aK,aL,Zcb,fO]
 kernel_rfl
def rW(P:QD)(N:Nat)(J L:QA)(A:Int)(p0_b:Nat)(z0_b:QA):Option (SV×Eff×Bool):=some (.a .x,.newS none p0_b z0_b 53,true)
theorem Es(N:Nat)(J L:QA)(A:Int)(p0_b:Nat)(z0_b:QA):(Uac 0 (kSeq (veC PZ dA N (cAt am [1,1,1]) (pAt (Uaa am [([8],[2000003,53]),([],[2000003,53])]).1 [1,1,1]) (SV×Eff×Bool)) (finK PZ [] [.tmp 4]))) (.exit 0) (left (writes (cAt am [1,1,0,1,0,0])) [8] [4] (Zh2 J L) ([.a (.i .i64 A)],[.sl .own p0_b z0_b 53]))=rW PZ N J L A p0_b z0_b:=by kernel_rfl
theorem Et(N:Nat)(A J:QA):au (Uab (Ug1 PZ dA N (cAt am [1,1,0,1,0,0]) (pAt (Uaa am [([8],[2000003,53]),([],[2000003,53])]).1 [1,1,0,1,0]) [8] [] 3 53 4 (Zh2 A J)) N ([.a (.i .i64 0)],[.sl .own 0 (#[]:QA) 53])) (λe s=>(Uac 0 (kSeq (veC PZ dA N (cAt am [1,1,1]) (pAt (Uaa am [([8],[2000003,53]),([],[2000003,53])]).1 [1,1,1]) (SV×Eff×Bool)) (finK PZ [] [.tmp 4]))) e (left (writes (cAt am [1,1,0,1,0,0])) [8] [4] (Zh2 A J) s))=Uah (Uab (Zep PZ N A J) N ((0:Int),0,(#[]:QA))) (λx=>rW PZ N A J x.1 x.2.1 x.2.2):=by refine aP Zcb fO _ _ (Ylj N A J) N ((0:Int),0,(#[]:QA)) _ _ ?_;intro x;exact Es N A J x.1 x.2.1 x.2.2
theorem Yhq(N:Nat)(A J:QA):ansV PZ dA N f67 [([8],[2000003,53]),([],[2000003,53])] [.g A 38,.g J 38] []=(Uah (Uab (Zep PZ N A J) N ((0:Int),0,(#[]:QA))) (λx=>rW PZ N A J x.1 x.2.1 x.2.2)):=by
 conv=>rhs;simp only[<- Et N A J]
 kernel_rfl
theorem Eu(A J:QA)(Z:WT PZ 38 A)(b5:WT PZ 38 J)(hg:((okS A&&(okS J&&Zag A J)))=true):ansV PZ dA 18446744073709551616 f67 [([8],[2000003,53]),([],[2000003,53])] [.g A 38,.g J 38] []=some (.a .x,.newS none (dfT A J 2).length (arrD (dfT A J 2)) 53,true):=by
 obtain⟨hA,hC,c0,c1,c2⟩:=En hg;have hd:=tO hA;have O:∀(t:Nat),t<2->∀(l:List (Nat×Nat)),l.length<=1000->Uat (Zf1 PZ A J (t:Int) l.length (arrD l)) ((Uam (num A 0) (num A 1) 36).filter (Zac A)) (l.length,arrD l)=some (.more ((l++dfL A J t 36).length,arrD (l++dfL A J t 36))):=by
  intro t U l hl;have h:=Em (g:=Zf1 PZ A J (t:Int) l.length (arrD l)) (λk=>((l++dfL A J t k).length,arrD (l++dfL A J t k))) (wd:=num A 0) (hi:=num A 1) (q:=Zac A) (λk hk _ _=>by
   have L:decide ((k:Int)<36)=true:=Q3 (by omega);have h0:decide (0<=(k:Int))=true:=Q3 (by omega);have t1:decide ((t:Int)<2)=true:=Q3 (by omega);have t0:decide (0<=(t:Int))=true:=Q3 (by omega);have hlen:(l++dfL A J t k).length<=1036:=by have:=oK A J t k;rw[jE];omega
   have hb:=oM (n:=(l++dfL A J t k).length+1) (by omega);have ed:(!(Uag (A.extract (3+t*180+k*5) (3+t*180+k*5+5)) (J.extract (3+t*180+k*5) (3+t*180+k*5+5))))=cd A J t k:=rfl;simp only[Zf1,L,h0,t1,t0,ed,hb,Q9,jB,Q1];rw[dfL];cases cd A J t k with
   |false=>simp only[Q2]
   |true=>simp only[Q1];rw[<- List.append_assoc,rS (l++dfL A J t k),show ((l++dfL A J t k)++[(t,k)]).length=(l++dfL A J t k).length+1 from jE];rfl) (λk hk V=>by
   have hw:(inC (num A 0) (num A 1) k && !(bitI (num A 2) k))=false:=by unfold Zac at V;rw[mV hk]at V;exact V
   have hn:=fN hA hC c0 c1 c2 U hk hw;rw[dfL,hn,Q2])
  rw[show dfL A J t 0=[] from rfl,List.append_nil]at h;exact h
 have h:=bP (g:=Zep PZ 18446744073709551616 A J) (λt=>((t:Int),(dfT A J t).length,arrD (dfT A J t))) (m:=2) (x:=((2:Int),(dfT A J 2).length,arrD (dfT A J 2))) (N:=18446744073709551616) (λt U=>by
  have L:decide ((t:Int)<2)=true:=Q3 (by omega);have h3:i64.wrap ((t:Int)+1)=((t+1:Nat):Int):=by rw[IntWalk.i64_in _ (by omega)];omega
  have hl:=mG A J t;have hi:=O t U (dfT A J t) (by omega);simp only[Zep,L,hd,Q1];rw[hi];simp only[Ude,Zft,h3];rfl) (by
  have L:decide (((2:Nat):Int)<2)=false:=by decide
  simp only[Zep,L,Q2];rfl) (by omega)
 refine(Yhq 18446744073709551616 A J).trans ?_;have h':Uab (Zep PZ 18446744073709551616 A J) 18446744073709551616 ((0:Int),0,(#[]:QA))=some ((2:Int),(dfT A J 2).length,arrD (dfT A J 2)):=h;rw[h'];rfl
def rX:af:=λargs h=>match args,h with|[.g a0 38,.g a1 38],[]=>some (.a .x,.newS none (dfT a0 a1 2).length (arrD (dfT a0 a1 2)) 53,(okS a0&&(okS a1&&Zag a0 a1)))|_,_=>none
theorem Ev:EntX PZ 67:=Zaj (fn:=f67)
theorem Ew:Uad (md F) PZ 67 rX:=(ansY (N:=18446744073709551616) (mkΓx_nX xJ xK (mkΓx_iX xL xM aS)) f67 [([8],[2000003,53]),([],[2000003,53])]).of (by
 intro ρ h w args vals r e L V A;unfold rX at A;split at A
 ·rename_i O U;obtain⟨rfl,rfl,J⟩:=ai A;exact Eu O U (L.wt 0 rfl) (L.wt 1 rfl) J
 ·cases A)
end
noncomputable section
variable {F:Vc.Fd}
theorem Zy7(N:Nat)(A J L:QA):ansV PZ (mkΓ []) N f48 [] [.w 0,.w 1,.g A 53] [.row J 38,.row L 38]=(bif (decide (0<=(num A 0))&&decide ((num A 0)<2)) then (bif (decide (0<=(num A 1))&&decide ((num A 1)<36)) then (bif (decide (0<=(num A 0))&&decide ((num A 0)<2)) then (bif (decide (0<=(num A 1))&&decide ((num A 1)<36)) then (some (.a (.g (spl J ((3+((num A 0).toNat*180))+((num A 1).toNat*5)) (L.extract ((3+((num A 0).toNat*180))+((num A 1).toNat*5)) (((3+((num A 0).toNat*180))+((num A 1).toNat*5))+5)).toList) 38),.none,true)) else (none)) else (none)) else (none)) else (none)):=by kernel_rfl
def Zaf(A J L:QA):QA:=(spl J ((3+((num A 0).toNat*180))+((num A 1).toNat*5)) (L.extract ((3+((num A 0).toNat*180))+((num A 1).toNat*5)) (((3+((num A 0).toNat*180))+((num A 1).toNat*5))+5)).toList)
def Za5(A J L:QA):Bool:=(bif (decide (0<=(num A 0))&&decide ((num A 0)<2)) then (bif (decide (0<=(num A 1))&&decide ((num A 1)<36)) then (bif (decide (0<=(num A 0))&&decide ((num A 0)<2)) then (decide (0<=(num A 1))&&decide ((num A 1)<36)) else false) else false) else false)
theorem Ex(J L O:QA)(U:WT PZ 53 J)(V:WT PZ 38 L)(Z:WT PZ 38 O)(A:((Za5 J L O))=true):ansV PZ (mkΓ []) 1000 f48 [] [.w 0,.w 1,.g J 53] [.row L 38,.row O 38]=some (.a (.g (Zaf J L O) 38),.none,true):=by
 refine(Zy7 1000 J L O).trans ?_;unfold Za5 at A;unfold Zaf;revert A;generalize (decide (0<=(num J 0)))=b2;intro A;cases b2
 ·skip
  first|exact(nomatch (A:false=true))|rfl
 ·skip
  revert A;generalize (decide ((num J 0)<2))=b4;intro A;cases b4
  ·skip
   first|exact(nomatch (A:false=true))|rfl
  ·skip
   revert A;generalize (decide (0<=(num J 1)))=b6;intro A;cases b6
   ·skip
    first|exact(nomatch (A:false=true))|rfl
   ·skip
    revert A;generalize (decide ((num J 1)<36))=b8;intro A;cases b8
    ·skip
     first|exact(nomatch (A:false=true))|rfl
    ·skip
     first|rfl|exact(nomatch (A:false=true))
def oN:af:=λargs h=>match args,h with|[.w 0,.w 1,.g a2 53],[.row a0 38,.row a1 38]=>some (.a (.g (Zaf a2 a0 a1) 38),.none,(Za5 a2 a0 a1))|_,_=>none
theorem rY:EntX PZ 48:=Zaj (fn:=f48)
theorem rZ:Uad (md F) PZ 48 oN:=(ansY (N:=1000) mKn f48 []).of (by
 intro ρ h w args vals r e O L A;unfold oN at A;split at A
 ·rename_i U V Z;obtain⟨rfl,rfl,J⟩:=ai A;exact Ex U V Z (O.wt 2 rfl) (L.wt 0 rfl) (L.wt 1 rfl) J
 ·cases A)
theorem Yeo(N:Nat)(J L A:QA):ansV PZ (mkΓ []) N f49 [] [.g J 38,.g L 38,.g A 53] []=(bif (decide (0<=(num A 0))&&decide ((num A 0)<2)) then (bif (decide (0<=(num A 1))&&decide ((num A 1)<36)) then (bif (decide (0<=(num A 0))&&decide ((num A 0)<2)) then (bif (decide (0<=(num A 1))&&decide ((num A 1)<36)) then (some (.a (.g (spl J ((3+((num A 0).toNat*180))+((num A 1).toNat*5)) (L.extract ((3+((num A 0).toNat*180))+((num A 1).toNat*5)) (((3+((num A 0).toNat*180))+((num A 1).toNat*5))+5)).toList) 38),.none,true)) else (none)) else (none)) else (none)) else (none)):=by kernel_rfl
def Zar(J L A:QA):QA:=(spl J ((3+((num A 0).toNat*180))+((num A 1).toNat*5)) (L.extract ((3+((num A 0).toNat*180))+((num A 1).toNat*5)) (((3+((num A 0).toNat*180))+((num A 1).toNat*5))+5)).toList)
def Zb0(J L A:QA):Bool:=(bif (decide (0<=(num A 0))&&decide ((num A 0)<2)) then (bif (decide (0<=(num A 1))&&decide ((num A 1)<36)) then (bif (decide (0<=(num A 0))&&decide ((num A 0)<2)) then (decide (0<=(num A 1))&&decide ((num A 1)<36)) else false) else false) else false)
theorem Ey(L O J:QA)(U:WT PZ 38 L)(V:WT PZ 38 O)(Z:WT PZ 53 J)(A:((Zb0 L O J))=true):ansV PZ (mkΓ []) 1000 f49 [] [.g L 38,.g O 38,.g J 53] []=some (.a (.g (Zar L O J) 38),.none,true):=by
 refine(Yeo 1000 L O J).trans ?_;unfold Zb0 at A;unfold Zar;revert A;generalize (decide (0<=(num J 0)))=b2;intro A;cases b2
 ·skip
  first|exact(nomatch (A:false=true))|rfl
 ·skip
  revert A;generalize (decide ((num J 0)<2))=b4;intro A;cases b4
  ·skip
   first|exact(nomatch (A:false=true))|rfl
  ·skip
   revert A;generalize (decide (0<=(num J 1)))=b6;intro A;cases b6
   ·skip
    first|exact(nomatch (A:false=true))|rfl
   ·skip
    revert A;generalize (decide ((num J 1)<36))=b8;intro A;cases b8
    ·skip
     first|exact(nomatch (A:false=true))|rfl
    ·skip
     first|rfl|exact(nomatch (A:false=true))
def oO:af:=λargs h=>match args,h with|[.g a0 38,.g a1 38,.g a2 53],[]=>some (.a (.g (Zar a0 a1 a2) 38),.none,(Zb0 a0 a1 a2))|_,_=>none
theorem sa:EntX PZ 49:=Zaj (fn:=f49)
theorem sd:Uad (md F) PZ 49 oO:=(ansY (N:=1000) mKn f49 []).of (by
 intro ρ h w args vals r e J Z A;unfold oO at A;split at A
 ·rename_i O U V;obtain⟨rfl,rfl,L⟩:=ai A;exact Ey O U V (J.wt 0 rfl) (J.wt 1 rfl) (J.wt 2 rfl) L
 ·cases A)
theorem se(A C:QA)(t:Nat):∀k,∀q∈dfL A C t k,q.1=t/\q.2<k
 |0,q,h=>by cases h
 | k+1,q,h=>by
  rw[dfL]at h;cases hd:cd A C t k with
  |false=>rw[hd,Q2]at h;have:=se A C t k q h;omega
  | true=>
   rw[hd,Q1]at h;rcases List.mem_append.1 h with h|h
   ·have:=se A C t k q h;omega
   ·obtain rfl:=List.mem_singleton.1 h;exact⟨rfl,Nat.lt_succ_self k⟩
theorem dB(A C:QA):∀t,∀q∈dfT A C t,q.1<t/\q.2<36
 |0,q,h=>by cases h
 |t+1,q,h=>by
  rw[dfT]at h;rcases List.mem_append.1 h with h|h
  ·have:=dB A C t q h;omega
  ·have:=se A C t 36 q h;omega
theorem sg:∀(l:List (Nat×Nat)) (i:Nat) (q:Nat×Nat) (j:Nat),l[i]?=some q->j<2->(l.flatMap duoL)[i*2+j]?=(duoL q)[j]?
 |[],i,q,j,h,_=>by simp at h
 |a::l,0,q,j,h,A=>by
  simp only[List.getElem?_cons_zero,Q8]at h;subst h;rw[List.flatMap_cons,Nat.zero_mul,Nat.zero_add,List.getElem?_append_left (show j<2 from A)]
 |a::l,i+1,q,j,h,A=>by
  simp only[List.getElem?_cons_succ]at h;rw[List.flatMap_cons,List.getElem?_append_right (show 2<=(i+1)*2+j by omega)];rw[show (i+1)*2+j - (duoL a).length=i*2+j by show (i+1)*2+j - 2=_;omega];exact sg l i q j h A
def sptA(A C:QA)(j:Nat):QA:=(arrD (dfT A C 2)).extract (j*2) (j*2+2)
theorem xo{A C:QA}{j:Nat}(O:j<(dfT A C 2).length):∃t k:Nat,t<2/\k<36/\num (sptA A C j) 0=(t:Int)/\num (sptA A C j) 1=(k:Int):=by
 have J:=List.getElem?_eq_getElem O;obtain⟨L,h2⟩:=dB A C 2 _ (List.mem_of_getElem? J);generalize (dfT A C 2)[j]=q at J L h2;have U:=sg _ j q 0 J (by decide);have V:=sg _ j q 1 J (by decide);have Z:(sptA A C j)[0]?=some (.int .i8 (IntKind.i8.wrap (q.1:Int))):=by unfold sptA;rw[jF,if_pos (by rw[oL];omega)];refine Eq.trans ?_ U;simp[arrD]
 have e1:(sptA A C j)[1]?=some (.int .i8 (IntKind.i8.wrap (q.2:Int))):=by unfold sptA;rw[jF,if_pos (by rw[oL];omega)];refine Eq.trans ?_ V;simp[arrD]
 refine⟨q.1,q.2,L,h2,?_,?_⟩
 ·unfold num;rw[Z];exact IntWalk.i8_in _ (by omega)
 ·unfold num;rw[e1];exact IntWalk.i8_in _ (by omega)
def repA(A C:QA)(t k:Nat):QA:=spl A (3+t*180+k*5) (C.extract (3+t*180+k*5) (3+t*180+k*5+5)).toList
theorem sj{A C:QA}(J:A.size=363)(L:C.size=363){t k:Nat}(O:t<2)(hk:k<36)(i:Nat):(repA A C t k)[i]?=if 3+t*180+k*5<=i/\i<3+t*180+k*5+5 then C[i]? else A[i]?:=by
 have hl:(C.extract (3+t*180+k*5) (3+t*180+k*5+5)).toList.length=5:=by rw[Array.length_toList,Array.size_extract];omega
 unfold repA;rw[cn _ _ _ (by rw[hl];omega),hl]
 by_cases h:3+t*180+k*5<=i/\i<3+t*180+k*5+5
 ·rw[if_pos h,if_pos h,Array.getElem?_toList,jF,if_pos (by omega)];rw[show 3+t*180+k*5+(i - (3+t*180+k*5))=i by omega]
 ·rw[if_neg h,if_neg h]
theorem fP{A C:QA}(J:A.size=363)(L:C.size=363){t k:Nat}(O:t<2)(hk:k<36){i:Nat}(hi:i<3):num (repA A C t k) i=num A i:=by unfold num;rw[sj J L O hk,if_neg (by omega)]
theorem fQ{A C:QA}(J:A.size=363)(L:C.size=363){t k t' k':Nat}(O:t<2)(hk:k<36)(U:t'<2)(V:k'<36):chR (repA A C t k) t' k'=if t'=t/\k'=k then chR C t' k' else chR A t' k':=by
 have Z:(repA A C t k).size=363:=by unfold repA;rw[cE];exact J
 refine Array.ext_getElem? λi=> ?_
 unfold chR;rw[jF,Z]
 by_cases h:t'=t/\k'=k
 ·rw[if_pos h,jF,L];obtain⟨rfl,rfl⟩:=h;split
  ·rw[sj J L O hk,if_pos (by omega)]
  ·rfl
 ·rw[if_neg h,jF,J];split
  ·rw[sj J L O hk,if_neg (by omega)]
  ·rfl
theorem kf{A C:QA}(L:A.size=363)(O:C.size=363)(oA:okS A=true)(oC:okS C=true)(h0:num C 0=num A 0)(h1:num C 1=num A 1)(h2:num C 2=num A 2){t k:Nat}(U:t<2)(hk:k<36):okS (repA A C t k)=true:=by
 have n0:=fP L O U hk (i:=0) (by omega);have n1:=fP L O U hk (i:=1) (by omega);have n2:=fP L O U hk (i:=2) (by omega);unfold okS mW at oA oC|-
 rw[n0,n1,n2];simp only[Q7,List.all_eq_true]at oA oC|-
 refine⟨oA.1,oA.2.1,λk' J=> ?_⟩;have a:=oA.2.2 k' J;have c:=oC.2.2 k' J;have V:=List.mem_range.1 J;have key:∀t',t'<2->fitS A t' k'=true->fitS C t' k'=true->fitS (repA A C t k) t' k'=true:=λt' Z fa fc=>by
  unfold fitS at fa fc|-
  rw[n0,n1,n2,fQ L O U hk Z V];rw[h0,h1,h2]at fc;split
  ·exact fc
  ·exact fa
 exact⟨key 0 (by omega) a.1 c.1,key 1 (by omega) a.2 c.2⟩
theorem dC{A C D:QA}{n:Nat}(L:A.size=363)(O:C.size=363)(J:vf A n D=true)(oC:okS C=true)(hl:Zag A C=true){t k:Nat}(U:t<2)(hk:k<36)(c:Int):vf (repA A C t k) n D=true/\Zab c (repA A C t k)=Zab c A:=by
 have n0:=fP L O U hk (i:=0) (by omega);have V:=fP L O U hk (i:=1) (by omega);have Z:=fP L O U hk (i:=2) (by omega);obtain⟨h0,h1,h2⟩:=xn hl;have hi:∀c,Zab c (repA A C t k)=Zab c A:=λc=>by unfold Zab;rw[n0,V]
 have hd:∀c,Zah c (repA A C t k)=Zah c A:=λc=>by unfold Zah;rw[Z]
 refine⟨?_,hi c⟩;unfold vf at J|-
 rw[Q7,Q7]at J;have hf:Ubc (repA A C t k) n D=Ubc A n D:=by unfold Ubc;exact congrArg (λp=>(List.range n).all p) (funext λj=>by unfold fndB;rw[hi,hd])
 rw[kf L O J.1 oC h0 h1 h2 U hk,hf,J.2.1,J.2.2];rfl
def fu(A z:Bool)(J x:Int):Bool:= !A&&(z||decide (J > x))
def bsR(A C:QA)(j:Nat):QA:=Zaf (sptA A C j) A C
def bst(P:QD)(A C:QA)(c b:Int)(D:QA)(n:Nat):Nat->QA×Bool×Int×Bool
 |0=>(#[.int .i8 0,.int .i8 0],finZ P A c b D n,finS P A c b D n,false)
 |j+1=>bif fu (finZ P (bsR A C j) c b D n) (bst P A C c b D n j).2.1 (finS P (bsR A C j) c b D n) (bst P A C c b D n j).2.2.1 then (sptA A C j,false,finS P (bsR A C j) c b D n,true) else bst P A C c b D n j
theorem bst_in(A C:QA)(c b:Int)(D:QA)(n:Nat):∀j,i64.min<=(bst PZ A C c b D n j).2.2.1/\(bst PZ A C c b D n j).2.2.1<=i64.max
 |0=>Ysn A c b D n
 |j+1=>by
  rw[bst];cases fu (finZ PZ (bsR A C j) c b D n) (bst PZ A C c b D n j).2.1 (finS PZ (bsR A C j) c b D n) (bst PZ A C c b D n j).2.2.1 with|true=>exact Ysn _ c b D n|false=>exact bst_in A C c b D n j
theorem kg(J z:Bool)(A x:Int):decide (betV J z A x<=(0:Int))=!fu J z A x:=by
 unfold betV fu;cases J<;>cases z
 ·by_cases h:A > x
  ·simp only[Q3 h,Q1,Q2,jC,Bool.false_or,jB];rfl
  ·by_cases h2:A<x
   ·simp only[Q4 h,Q3 h2,Q1,Q2,jC,Bool.false_or,Bool.and_false];rfl
   ·simp only[Q4 h,Q4 h2,Q2,jC,Bool.false_or,Bool.and_false];rfl
 ·rfl
 ·rfl
 ·rfl
theorem dD{A C D:QA}{n:Nat}(O:A.size=363)(U:C.size=363)(V:vf A n D=true)(oC:okS C=true)(hl:Zag A C=true){j:Nat}(Z:j<(dfT A C 2).length)(c:Int):vf (bsR A C j) n D=true/\Zab c (bsR A C j)=Zab c A/\Za5 (sptA A C j) A C=true:=by
 obtain⟨t,k,ht,hk,J,L⟩:=xo Z;obtain⟨h1,h2⟩:=dC O U V oC hl ht hk c;have e:bsR A C j=repA A C t k:=by unfold bsR Zaf repA;rw[J,L,Q9,Q9]
 refine⟨by rw[e];exact h1,by rw[e];exact h2,?_⟩;unfold Za5;rw[J,L,Q3 (show 0<=(t:Int) by omega),Q3 (show (t:Int)<2 by omega),Q3 (show 0<=(k:Int) by omega),Q3 (show (k:Int)<36 by omega)];rfl
end
noncomputable section
variable {F:Vc.Fd}
def ly:Cons:=(mkΓ [(41,con rO),(48,con oN),(66,con rU)])
def Zhh(L O:Int)(J Z:QA)(V:QO)(A:Nat)(U:QA):St:=(⟨.a (.w 0)::.a (.w 1)::.a (.i .i64 L)::.a (.i .i64 O)::.a (.l 2)::us 5 (.a (.w 3)::.a (.i .i64 0)::.a (.b false)::.a (.i .i64 (bif (finZ PZ J L O U A) then 0 else (finS PZ J L O U A)))::.a (.b ((!(finZ PZ J L O U A))))::.a (.w 7)::.a (.b false)::.a (.l 11)::.a (.i .i64 0)::us 3 (.t [.i .i64 (bif (finZ PZ J L O U A) then 0 else (finS PZ J L O U A)),.b ((!(finZ PZ J L O U A)))]::.a (.w 0)::.a (.i .i64 L)::.a (.i .i64 O)::.a (.l 2)::.t [.i .i64 (bif (finZ PZ J L O U A) then 0 else (finS PZ J L O U A)),.b ((!(finZ PZ J L O U A)))]::.a (.i .i64 (bif (finZ PZ J L O U A) then 0 else (finS PZ J L O U A)))::.a (.b ((!(finZ PZ J L O U A))))::.a (.g #[.int .i8 0,.int .i8 0] 53)::.a (.w 0)::.a (.w 1)::.a (.l 11)::us 38 ([]))),[.row J 38,.row Z 38,.sl (.came V) A U 69,.row #[.int .i8 0,.int .i8 0] 53,.no,.no,.no,.row #[.int .i8 0,.int .i8 0] 53,.no,.no,.no,.sl .own ((dfT J Z 2).length) (arrD (dfT J Z 2)) 53,.no],[7]⟩:St)
def Zj1:Int×Bool×Bool×Int×QA->LS
 |(A,J,L,O,U)=>([.a (.i .i64 A),.a (.b J),.a (.b L),.a (.i .i64 O)],[.row U 53])
def sk:Int×Bool×Bool×Int×QA->QP×LS
 |t=>((.exit 0),Zj1 t)
def Zel(P:QD)(a2 a3:Int)(J L:QA)(b_a4:QO)(O:Nat)(a4:QA):Int×Bool×Bool×Int×QA->Option (Stp (Int×Bool×Bool×Int×QA) (Int×Bool×Bool×Int×QA))
 |(U,V,Z,A,b5)=>bif decide (A<(((dfT J L 2).length):Int)) then (bif (decide (0<=A)&&decide (A<(((dfT J L 2).length):Int))) then (bif (Za5 ((arrD (dfT J L 2)).extract ((A).toNat*2) (((A).toNat*2)+2)) J L) then (bif (vf (Zaf ((arrD (dfT J L 2)).extract ((A).toNat*2) (((A).toNat*2)+2)) J L) O a4&&(Zab a2 (Zaf ((arrD (dfT J L 2)).extract ((A).toNat*2) (((A).toNat*2)+2)) J L)&&Zaa a3 0 1)) then (bif (!(finZ PZ (Zaf ((arrD (dfT J L 2)).extract ((A).toNat*2) (((A).toNat*2)+2)) J L) a2 a3 a4 O)) then (bif (!(V)) then (bif (decide (0<=A)&&decide (A<(((dfT J L 2).length):Int))) then (some (.more ((bif (finZ PZ (Zaf ((arrD (dfT J L 2)).extract ((A).toNat*2) (((A).toNat*2)+2)) J L) a2 a3 a4 O) then 0 else (finS PZ (Zaf ((arrD (dfT J L 2)).extract ((A).toNat*2) (((A).toNat*2)+2)) J L) a2 a3 a4 O)),true,true,(i64.wrap (A+(1:Int))),((arrD (dfT J L 2)).extract ((A).toNat*2) (((A).toNat*2)+2))))) else (none)) else (bif decide ((bif (finZ PZ (Zaf ((arrD (dfT J L 2)).extract ((A).toNat*2) (((A).toNat*2)+2)) J L) a2 a3 a4 O) then 0 else (finS PZ (Zaf ((arrD (dfT J L 2)).extract ((A).toNat*2) (((A).toNat*2)+2)) J L) a2 a3 a4 O)) > U) then (bif (decide (0<=A)&&decide (A<(((dfT J L 2).length):Int))) then (some (.more ((bif (finZ PZ (Zaf ((arrD (dfT J L 2)).extract ((A).toNat*2) (((A).toNat*2)+2)) J L) a2 a3 a4 O) then 0 else (finS PZ (Zaf ((arrD (dfT J L 2)).extract ((A).toNat*2) (((A).toNat*2)+2)) J L) a2 a3 a4 O)),true,true,(i64.wrap (A+(1:Int))),((arrD (dfT J L 2)).extract ((A).toNat*2) (((A).toNat*2)+2))))) else (none)) else (some (.more (U,V,Z,(i64.wrap (A+(1:Int))),b5))))) else (some (.more (U,V,Z,(i64.wrap (A+(1:Int))),b5)))) else (none)) else (none)) else (none)) else (some (.done (U,V,Z,A,b5)))
noncomputable abbrev bd:=codeOf f45
theorem Ylr(N:Nat)(Z a3:Int)(a0 a1:QA)(A:QO)(J:Nat)(a4:QA):∀t:Int×Bool×Bool×Int×QA,Uaf PZ ly N (cAt bd [1,1,1,1,1,0,1,0,0]) (pAt (Uaa bd [([13,14,16,18],[7])]).1 [1,1,1,1,1,0,1,0]) [13,14,16,18] [7] (Zhh Z a3 a0 a1 A J a4) (Zj1 t)=aa Zj1 sk (Zel PZ Z a3 a0 a1 A J a4 t):=by
 rintro⟨L,O,U,V,r0_7⟩
 conv=>rhs;simp only[Zel,aM,aJ,aK,aL,Zj1,sk]
 kernel_rfl
def sm(P:QD)(N:Nat)(a2 a3:Int)(a0 a1:QA)(V:QO)(Z:Nat)(a4:QA)(A:Int)(O:Bool)(J:Bool)(U:Int)(L:QA):Option (SV×Eff×Bool):=some (.t [.g L 53,.i .i64 A,.b J],.none,true)
theorem Ez(N:Nat)(a2 a3:Int)(a0 a1:QA)(A:QO)(J:Nat)(a4:QA)(L:Int)(O:Bool)(U:Bool)(V:Int)(Z:QA):(Uac 0 (kSeq (veC PZ ly N (cAt bd [1,1,1,1,1,1]) (pAt (Uaa bd [([13,14,16,18],[7])]).1 [1,1,1,1,1,1]) (SV×Eff×Bool)) (finK PZ [.row a0 38,.row a1 38,.sl (.came A) J a4 69] [.cell 10 53,.tmp 11,.tmp 12]))) (.exit 0) (left (writes (cAt bd [1,1,1,1,1,0,1,0,0])) [13,14,16,18] [7] (Zhh a2 a3 a0 a1 A J a4) ([.a (.i .i64 L),.a (.b O),.a (.b U),.a (.i .i64 V)],[.row Z 53]))=sm PZ N a2 a3 a0 a1 A J a4 L O U V Z:=by kernel_rfl
theorem EA(N:Nat)(U V:Int)(L Z:QA)(J:QO)(A:Nat)(O:QA):au (Uab (Uaf PZ ly N (cAt bd [1,1,1,1,1,0,1,0,0]) (pAt (Uaa bd [([13,14,16,18],[7])]).1 [1,1,1,1,1,0,1,0]) [13,14,16,18] [7] (Zhh U V L Z J A O)) N ([.a (.i .i64 (bif (finZ PZ L U V O A) then 0 else (finS PZ L U V O A))),.a (.b ((!(finZ PZ L U V O A)))),.a (.b false),.a (.i .i64 0)],[.row (#[.int .i8 0,.int .i8 0]:QA) 53])) (λe s=>(Uac 0 (kSeq (veC PZ ly N (cAt bd [1,1,1,1,1,1]) (pAt (Uaa bd [([13,14,16,18],[7])]).1 [1,1,1,1,1,1]) (SV×Eff×Bool)) (finK PZ [.row L 38,.row Z 38,.sl (.came J) A O 69] [.cell 10 53,.tmp 11,.tmp 12]))) e (left (writes (cAt bd [1,1,1,1,1,0,1,0,0])) [13,14,16,18] [7] (Zhh U V L Z J A O) s))=Uah (Uab (Zel PZ U V L Z J A O) N ((bif (finZ PZ L U V O A) then 0 else (finS PZ L U V O A)),(!(finZ PZ L U V O A)),false,(0:Int),(#[.int .i8 0,.int .i8 0]:QA))) (λx=>sm PZ N U V L Z J A O x.1 x.2.1 x.2.2.1 x.2.2.2.1 x.2.2.2.2):=by refine aP Zj1 sk _ _ (Ylr N U V L Z J A O) N ((bif (finZ PZ L U V O A) then 0 else (finS PZ L U V O A)),(!(finZ PZ L U V O A)),false,(0:Int),(#[.int .i8 0,.int .i8 0]:QA)) _ _ ?_;intro x;exact Ez N U V L Z J A O x.1 x.2.1 x.2.2.1 x.2.2.2.1 x.2.2.2.2
theorem Yht(N:Nat)(O U:Int)(L Z:QA)(J:QO)(A:Nat)(V:QA):ansV PZ ly N f45 [([13,14,16,18],[7])] [.w 0,.w 1,.i .i64 O,.i .i64 U,.l 2] [.row L 38,.row Z 38,.sl (.came J) A V 69]=(bif (vf L A V&&(Zab O L&&Zaa U 0 1)) then (Uah (Uab (Zel PZ O U L Z J A V) N ((bif (finZ PZ L O U V A) then 0 else (finS PZ L O U V A)),(!(finZ PZ L O U V A)),false,(0:Int),(#[.int .i8 0,.int .i8 0]:QA))) (λx=>sm PZ N O U L Z J A V x.1 x.2.1 x.2.2.1 x.2.2.2.1 x.2.2.2.2)) else (none)):=by
 conv=>rhs;simp only[<- EA N O U L Z J A V]
 kernel_rfl
theorem EB(O U:Int)(J L:QA)(Z:QO)(A:Nat)(V:QA)(h_a2:i64.min<=O/\O<=i64.max)(h_a3:i64.min<=U/\U<=i64.max)(b5:WT PZ 38 J)(b7:WT PZ 38 L)(h_a4:V.size=A*(lay PZ 69).length/\(∀k,k<A->WT PZ 69 (V.extract (k*(lay PZ 69).length) (k*(lay PZ 69).length+(lay PZ 69).length)))/\A<=9223372036854775807)(hg:((vf J A V&&(okS L&&(Zag J L&&(Zab O J&&Zaa U 0 1)))))=true):ansV PZ ly 1000 f45 [([13,14,16,18],[7])] [.w 0,.w 1,.i .i64 O,.i .i64 U,.l 2] [.row J 38,.row L 38,.sl (.came Z) A V 69]=some (.t [.g (bst PZ J L O U V A (dfT J L 2).length).1 53,.i .i64 (bif (bst PZ J L O U V A (dfT J L 2).length).2.1 then 0 else (bst PZ J L O U V A (dfT J L 2).length).2.2.1),.b ((bst PZ J L O U V A (dfT J L 2).length).2.2.2)],.none,true):=by
 simp only[Q7]at hg;obtain⟨hv,oC,hl,i0,t0⟩:=hg;have hA:=Zlk b5;have hC:=Zlk b7;have hlen:(dfT J L 2).length<=72:=mG J L 2;refine(Yht 1000 O U J L Z A V).trans ?_;have h:=bP (g:=Zel PZ O U J L Z A V) (λj=>((bif (bst PZ J L O U V A j).2.1 then 0 else (bst PZ J L O U V A j).2.2.1),(!(bst PZ J L O U V A j).2.1),(bst PZ J L O U V A j).2.2.2,((j:Nat):Int),(bst PZ J L O U V A j).1)) (m:=(dfT J L 2).length) (x:=((bif (bst PZ J L O U V A (dfT J L 2).length).2.1 then 0 else (bst PZ J L O U V A (dfT J L 2).length).2.2.1),(!(bst PZ J L O U V A (dfT J L 2).length).2.1),(bst PZ J L O U V A (dfT J L 2).length).2.2.2,(((dfT J L 2).length:Nat):Int),(bst PZ J L O U V A (dfT J L 2).length).1)) (N:=1000) (λj hj=>by
  have g1:decide ((j:Int)<(((dfT J L 2).length:Nat):Int))=true:=Q3 (by omega);have g0:decide (0<=(j:Int))=true:=Q3 (by omega);have g3:i64.wrap ((j:Int)+1)=((j+1:Nat):Int):=by rw[IntWalk.i64_in _ (by omega)];omega
  obtain⟨q1,q2,q3⟩:=dD hA hC hv oC hl hj O;have eX:(arrD (dfT J L 2)).extract (j*2) (j*2+2)=sptA J L j:=rfl;have eR:Zaf (sptA J L j) J L=bsR J L j:=rfl;have eB:bst PZ J L O U V A (j+1)=bif fu (finZ PZ (bsR J L j) O U V A) (bst PZ J L O U V A j).2.1 (finS PZ (bsR J L j) O U V A) (bst PZ J L O U V A j).2.2.1 then (sptA J L j,false,finS PZ (bsR J L j) O U V A,true) else (bst PZ J L O U V A j):=rfl
  rw[eB];simp only[Zel,g1,g0,g3,Q9,eX,q3,eR,q1,q2,i0,t0,jB,Q1];unfold fu;generalize (bst PZ J L O U V A j)=s;obtain⟨sq,sz,sx,sf⟩:=s;generalize finS PZ (bsR J L j) O U V A=x';dsimp only;cases finZ PZ (bsR J L j) O U V A<;>cases sz
  ·simp only[jC,jD,Bool.false_or,Bool.true_and,Q1,Q2];cases decide (x' > sx)<;>rfl
  ·rfl
  ·rfl
  ·rfl) (by
  have g1:decide ((((dfT J L 2).length:Nat):Int)<(((dfT J L 2).length:Nat):Int))=false:=Q4 (by omega);simp only[Zel,g1,Q2]) (by omega)
 rw[hv,i0,t0];simp only[jB,Q1];have h':Uab (Zel PZ O U J L Z A V) 1000 ((bif finZ PZ J O U V A then 0 else finS PZ J O U V A),(!finZ PZ J O U V A),false,(0:Int),(#[.int .i8 0,.int .i8 0]:QA))=some ((bif (bst PZ J L O U V A (dfT J L 2).length).2.1 then 0 else (bst PZ J L O U V A (dfT J L 2).length).2.2.1),(!(bst PZ J L O U V A (dfT J L 2).length).2.1),(bst PZ J L O U V A (dfT J L 2).length).2.2.2,(((dfT J L 2).length:Nat):Int),(bst PZ J L O U V A (dfT J L 2).length).1):=h;rw[h'];rfl
def sn:af:=λargs h=>match args,h with|[.w 0,.w 1,.i .i64 a2,.i .i64 a3,.l 2],[.row a0 38,.row a1 38,.sl (.came b_a4) n_a4 a4 69]=>some (.t [.g (bst PZ a0 a1 a2 a3 a4 n_a4 (dfT a0 a1 2).length).1 53,.i .i64 (bif (bst PZ a0 a1 a2 a3 a4 n_a4 (dfT a0 a1 2).length).2.1 then 0 else (bst PZ a0 a1 a2 a3 a4 n_a4 (dfT a0 a1 2).length).2.2.1),.b ((bst PZ a0 a1 a2 a3 a4 n_a4 (dfT a0 a1 2).length).2.2.2)],.none,(vf a0 n_a4 a4&&(okS a1&&(Zag a0 a1&&(Zab a2 a0&&Zaa a3 0 1)))))|_,_=>none
theorem xp:EntX PZ 45:=Zaj (fn:=f45)
theorem xr:Uad (md F) PZ 45 sn:=(ansY (N:=1000) (mKc (Zae Ec) Eb (mKc (Zae rZ) rY (mKc (Zae El) Ek mKn))) f45 [([13,14,16,18],[7])]).of (by
 intro ρ h w args vals r e V O L;unfold sn at L;split at L
 ·rename_i Z a3 a0 a1 A J a4;obtain⟨rfl,rfl,U⟩:=ai L;exact EB Z a3 a0 a1 A J a4 (V.rng 2 rfl) (V.rng 3 rfl) (O.wt 0 rfl) (O.wt 1 rfl) (O.slw 2 rfl) U
 ·cases L)
def iK:Cons:=(mkΓ [(42,con rK),(43,con Zji),(49,con oO),(67,con rX)])
def Zbo(J A U:QA)(bQ:QO)(nQ:Nat)(aQ:QA)(V:QC)(Z:Bool)(L:QC)(O:Bool)(b5:QA)(b7:QA):St:=(⟨.a (.r J 74 [(2,0)])::.a (.g A 38)::.a (.g U 38)::.a (.w 1)::.a (.w 2)::.a (.w 3)::.a (.w 4)::.a (.v V)::.a (.b Z)::.a (.w 7)::.a (.v L)::.a (.b O)::.a (.u)::.a (.x)::.a (.x)::.a (.r J 74 [(2,0)])::.a (.g A 38)::.a (.v ((scV (finZ PZ A (num J 0) (num J 1) aQ nQ) (finS PZ A (num J 0) (num J 1) aQ nQ))))::.a (.g A 38)::.a (.g U 38)::.a (.l 10)::.a (.i .i64 (((dfT A U 2).length):Int))::.a (.i .i64 0)::xs 19 ([]),[.sl (.came bQ) nQ aQ 69,.one (.r J 74 [(2,0)]) 74,.row A 38,.row U 38,.row b5 53,.no,.no,.row b7 53,.no,.no,.sl .own ((dfT A U 2).length) (arrD (dfT A U 2)) 53,.no,.no],[4,7]⟩:St)
def Zbd:QC×Bool×Int×QA->LS
 |(A,J,L,O)=>([.a (.v A),.a (.b J),.a (.i .i64 L)],[.row O 53])
def mI:QC×Bool×Int×QA->QP×LS
 |t=>((.exit 0),Zbd t)
def Za3(P:QD)(U J L:QA)(bQ:QO)(nQ:Nat)(aQ:QA)(b9:QC)(c7:Bool)(b5:QC)(b7:Bool)(c8:QA)(c9:QA):QC×Bool×Int×QA->Option (Stp (QC×Bool×Int×QA) (QC×Bool×Int×QA))
 |(O,V,A,Z)=>bif decide (A<(((dfT J L 2).length):Int)) then (bif (decide (0<=A)&&decide (A<(((dfT J L 2).length):Int))) then (bif (Zb0 J L ((arrD (dfT J L 2)).extract ((A).toNat*2) (((A).toNat*2)+2))) then (bif (vf (Zar J L ((arrD (dfT J L 2)).extract ((A).toNat*2) (((A).toNat*2)+2))) nQ aQ&&(Zab (num U 0) (Zar J L ((arrD (dfT J L 2)).extract ((A).toNat*2) (((A).toNat*2)+2)))&&Zaa (num U 1) 0 1)) then (bif (bif (isSc (scV (finZ PZ (Zar J L ((arrD (dfT J L 2)).extract ((A).toNat*2) (((A).toNat*2)+2))) (num U 0) (num U 1) aQ nQ) (finS PZ (Zar J L ((arrD (dfT J L 2)).extract ((A).toNat*2) (((A).toNat*2)+2))) (num U 0) (num U 1) aQ nQ))) then (isSc O) else false) then (bif decide ((Zcc (scV (finZ PZ (Zar J L ((arrD (dfT J L 2)).extract ((A).toNat*2) (((A).toNat*2)+2))) (num U 0) (num U 1) aQ nQ) (finS PZ (Zar J L ((arrD (dfT J L 2)).extract ((A).toNat*2) (((A).toNat*2)+2))) (num U 0) (num U 1) aQ nQ)) O)<=(0:Int)) then (some (.more (O,V,(i64.wrap (A+(1:Int))),Z))) else (some (.more ((scV (finZ PZ (Zar J L ((arrD (dfT J L 2)).extract ((A).toNat*2) (((A).toNat*2)+2))) (num U 0) (num U 1) aQ nQ) (finS PZ (Zar J L ((arrD (dfT J L 2)).extract ((A).toNat*2) (((A).toNat*2)+2))) (num U 0) (num U 1) aQ nQ)),true,(i64.wrap (A+(1:Int))),((arrD (dfT J L 2)).extract ((A).toNat*2) (((A).toNat*2)+2)))))) else (none)) else (none)) else (none)) else (none)) else (some (.done (O,V,A,Z)))
noncomputable abbrev aq:=codeOf f46
theorem Zf7(N:Nat)(a0 a1 a2:QA)(bQ:QO)(nQ:Nat)(aQ:QA)(L:QC)(O:Bool)(A:QC)(J:Bool)(U:QA)(V:QA):∀t:QC×Bool×Int×QA,Uaf PZ iK N (cAt aq [1,0,1,1,1,0,1,0,0]) (pAt (Uaa aq [([7,8,10,11],[4,7]),([10,11,22],[7])]).1 [1,1,1,0,1,0]) [10,11,22] [7] (Zbo a0 a1 a2 bQ nQ aQ L O A J U V) (Zbd t)=aa Zbd mI (Za3 PZ a0 a1 a2 bQ nQ aQ L O A J U V t):=by
 rintro⟨Z,b5,b7,r1_7⟩
 conv=>rhs;simp only[Za3,aM,aJ,aK,aL,Zbd,mI]
 kernel_rfl
def Zbn(A J L:QA)(bQ:QO)(nQ:Nat)(aQ:QA):St:=(⟨.a (.r A 74 [(2,0)])::.a (.g J 38)::.a (.g L 38)::.a (.w 1)::.a (.w 2)::.a (.w 3)::.a (.w 4)::.a (.v .nilIface)::.a (.b false)::.a (.w 7)::.a (.v ((scV (finZ PZ J (num A 0) (num A 1) aQ nQ) (finS PZ J (num A 0) (num A 1) aQ nQ))))::.a (.b false)::us 3 (.a (.r A 74 [(2,0)])::.a (.g J 38)::.a (.v ((scV (finZ PZ J (num A 0) (num A 1) aQ nQ) (finS PZ J (num A 0) (num A 1) aQ nQ))))::us 24 ([])),[.sl (.came bQ) nQ aQ 69,.one (.r A 74 [(2,0)]) 74,.row J 38,.row L 38,.row #[.int .i8 0,.int .i8 0] 53,.no,.no,.row #[.int .i8 0,.int .i8 0] 53],[]⟩:St)
def Za0:QC×Bool×QC×Bool×QA×QA->LS
 |(L,O,A,J,U,V)=>([.a (.v L),.a (.b O),.a (.v A),.a (.b J)],[.row U 53,.row V 53])
def kh:QC×Bool×QC×Bool×QA×QA->QP×LS
 |t=>(.ret,Za0 t)
def Zc3(P:QD)(N:Nat)(a0 a1 a2:QA)(bQ:QO)(nQ:Nat)(aQ:QA)(Z:QC)(b5:Bool)(O:QC)(U:Bool)(b7:QA)(b9:QA)(A:QC)(J:Bool)(V:Int)(L:QA):Option (Stp (QC×Bool×QC×Bool×QA×QA) (QC×Bool×QC×Bool×QA×QA)):=some (.done (A,J,A,J,L,L))
theorem EC(N:Nat)(a0 a1 a2:QA)(bQ:QO)(nQ:Nat)(aQ:QA)(V:QC)(Z:Bool)(A:QC)(J:Bool)(b5:QA)(b7:QA)(L:QC)(O:Bool)(U:Int)(b9:QA):(Uac 0 (kSeq (veC PZ iK N (cAt aq [1,0,1,1,1,1]) (pAt (Uaa aq [([7,8,10,11],[4,7]),([10,11,22],[7])]).1 [1,1,1,1]) (Stp LS (QP×LS))) (Udv 0 8 [7,8,10,11] [4,7]))) (.exit 0) (left (writes (cAt aq [1,0,1,1,1,0,1,0,0])) [10,11,22] [7] (Zbo a0 a1 a2 bQ nQ aQ V Z A J b5 b7) ([.a (.v L),.a (.b O),.a (.i .i64 U)],[.row b9 53]))=aa Za0 kh (Zc3 PZ N a0 a1 a2 bQ nQ aQ V Z A J b5 b7 L O U b9):=by
 conv=>rhs;simp only[Zc3,aM,aJ,aK,aL,Za0,kh]
 kernel_rfl
theorem ED(N:Nat)(Z a1 a2:QA)(bQ:QO)(nQ:Nat)(aQ:QA)(O:QC)(U:Bool)(A:QC)(J:Bool)(V:QA)(L:QA):au (Uab (Uaf PZ iK N (cAt aq [1,0,1,1,1,0,1,0,0]) (pAt (Uaa aq [([7,8,10,11],[4,7]),([10,11,22],[7])]).1 [1,1,1,0,1,0]) [10,11,22] [7] (Zbo Z a1 a2 bQ nQ aQ O U A J V L)) N ([.a (.v A),.a (.b J),.a (.i .i64 0)],[.row L 53])) (λe s=>(Uac 0 (kSeq (veC PZ iK N (cAt aq [1,0,1,1,1,1]) (pAt (Uaa aq [([7,8,10,11],[4,7]),([10,11,22],[7])]).1 [1,1,1,1]) (Stp LS (QP×LS))) (Udv 0 8 [7,8,10,11] [4,7]))) e (left (writes (cAt aq [1,0,1,1,1,0,1,0,0])) [10,11,22] [7] (Zbo Z a1 a2 bQ nQ aQ O U A J V L) s))=aa Za0 kh (Uah (Uab (Za3 PZ Z a1 a2 bQ nQ aQ O U A J V L) N (A,J,(0:Int),L)) (λx=>Zc3 PZ N Z a1 a2 bQ nQ aQ O U A J V L x.1 x.2.1 x.2.2.1 x.2.2.2)):=by
 rw[qc Za0 kh]
 first
 |(have h:=aP (α:=Stp LS (QP×LS)) Zbd mI _ _ (Zf7 N Z a1 a2 bQ nQ aQ O U A J V L) N (A,J,(0:Int),L);refine h _ _ ?_)
 |(have h:=aP (α:=Stp BS (QP×BS)) Zbd mI _ _ (Zf7 N Z a1 a2 bQ nQ aQ O U A J V L) N (A,J,(0:Int),L);refine h _ _ ?_)
 |(have h:=aP (α:=Stp LS ((QP×LS)⊕(SV×Eff×Bool))) Zbd mI _ _ (Zf7 N Z a1 a2 bQ nQ aQ O U A J V L) N (A,J,(0:Int),L);refine h _ _ ?_)
 intro x;exact EC N Z a1 a2 bQ nQ aQ O U A J V L x.1 x.2.1 x.2.2.1 x.2.2.2
def Zbc(P:QD)(N:Nat)(a0 Z a2:QA)(bQ:QO)(nQ:Nat)(aQ:QA):QC×Bool×QC×Bool×QA×QA->Option (Stp (QC×Bool×QC×Bool×QA×QA) (QC×Bool×QC×Bool×QA×QA))
 |(O,U,A,J,V,L)=>bif (okS Z&&(okS a2&&Zag Z a2)) then (Uah (Uab (Za3 P a0 Z a2 bQ nQ aQ O U A J V L) N (A,J,(0:Int),L)) (λx=>Zc3 P N a0 Z a2 bQ nQ aQ O U A J V L x.1 x.2.1 x.2.2.1 x.2.2.2)) else (none)
theorem Zqr(N:Nat)(Z a1 a2:QA)(bQ:QO)(nQ:Nat)(aQ:QA):∀t:QC×Bool×QC×Bool×QA×QA,Ub1 PZ iK N (cAt aq [1,0,1,1,1]) (pAt (Uaa aq [([7,8,10,11],[4,7]),([10,11,22],[7])]).1 [1,1,1]) 0 [7,8,10,11] [4,7] (Zbn Z a1 a2 bQ nQ aQ) (Za0 t)=aa Za0 kh (Zbc PZ N Z a1 a2 bQ nQ aQ t):=by
 rintro⟨L,O,A,J,U,V⟩
 conv=>rhs;simp only[<- ED N Z a1 a2 bQ nQ aQ L O A J U V,Zbc,aM,aJ,aK,aL,Za0,kh]
 kernel_rfl
def so(P:QD)(N:Nat)(Z a1 a2:QA)(bQ:QO)(nQ:Nat)(aQ:QA)(A:QC)(J:Bool)(O:QC)(U:Bool)(L:QA)(V:QA):Option (SV×Eff×Bool):=some (.t [.g L 53,.v A,.b J],.none,true)
theorem EE(N:Nat)(Z a1 a2:QA)(bQ:QO)(nQ:Nat)(aQ:QA)(L:QC)(O:Bool)(A:QC)(J:Bool)(U:QA)(V:QA):(Ubv (finK PZ [.sl (.came bQ) nQ aQ 69] [.cell 6 53,.tmp 7,.tmp 8])) .ret (left (writes (cAt aq [1,0,1,1,1])) [7,8,10,11] [4,7] (Zbn Z a1 a2 bQ nQ aQ) ([.a (.v L),.a (.b O),.a (.v A),.a (.b J)],[.row U 53,.row V 53]))=so PZ N Z a1 a2 bQ nQ aQ L O A J U V:=by kernel_rfl
theorem EF(N:Nat)(A J L:QA)(bQ:QO)(nQ:Nat)(aQ:QA):au (Uab (Ub1 PZ iK N (cAt aq [1,0,1,1,1]) (pAt (Uaa aq [([7,8,10,11],[4,7]),([10,11,22],[7])]).1 [1,1,1]) 0 [7,8,10,11] [4,7] (Zbn A J L bQ nQ aQ)) N ([.a (.v ((.nilIface))),.a (.b false),.a (.v ((scV (finZ PZ J (num A 0) (num A 1) aQ nQ) (finS PZ J (num A 0) (num A 1) aQ nQ)))),.a (.b false)],[.row (#[.int .i8 0,.int .i8 0]:QA) 53,.row (#[.int .i8 0,.int .i8 0]:QA) 53])) (λe s=>(Ubv (finK PZ [.sl (.came bQ) nQ aQ 69] [.cell 6 53,.tmp 7,.tmp 8])) e (left (writes (cAt aq [1,0,1,1,1])) [7,8,10,11] [4,7] (Zbn A J L bQ nQ aQ) s))=Uah (Uab (Zbc PZ N A J L bQ nQ aQ) N ((.nilIface),false,(scV (finZ PZ J (num A 0) (num A 1) aQ nQ) (finS PZ J (num A 0) (num A 1) aQ nQ)),false,(#[.int .i8 0,.int .i8 0]:QA),(#[.int .i8 0,.int .i8 0]:QA))) (λx=>so PZ N A J L bQ nQ aQ x.1 x.2.1 x.2.2.1 x.2.2.2.1 x.2.2.2.2.1 x.2.2.2.2.2):=by refine aP Za0 kh _ _ (Zqr N A J L bQ nQ aQ) N ((.nilIface),false,(scV (finZ PZ J (num A 0) (num A 1) aQ nQ) (finS PZ J (num A 0) (num A 1) aQ nQ)),false,(#[.int .i8 0,.int .i8 0]:QA),(#[.int .i8 0,.int .i8 0]:QA)) _ _ ?_;intro x;exact EE N A J L bQ nQ aQ x.1 x.2.1 x.2.2.1 x.2.2.2.1 x.2.2.2.2.1 x.2.2.2.2.2
theorem Zqe(N:Nat)(A J L:QA)(bQ:QO)(nQ:Nat)(aQ:QA):ansV PZ iK N f46 [([7,8,10,11],[4,7]),([10,11,22],[7])] [.r A 74 [(2,0)],.g J 38,.g L 38] [.sl (.came bQ) nQ aQ 69]=(bif (vf J nQ aQ&&(Zab (num A 0) J&&Zaa (num A 1) 0 1)) then (Uah (Uab (Zbc PZ N A J L bQ nQ aQ) N ((.nilIface),false,(scV (finZ PZ J (num A 0) (num A 1) aQ nQ) (finS PZ J (num A 0) (num A 1) aQ nQ)),false,(#[.int .i8 0,.int .i8 0]:QA),(#[.int .i8 0,.int .i8 0]:QA))) (λx=>so PZ N A J L bQ nQ aQ x.1 x.2.1 x.2.2.1 x.2.2.2.1 x.2.2.2.2.1 x.2.2.2.2.2)) else (none)):=by
 conv=>rhs;simp only[<- EF N A J L bQ nQ aQ]
 kernel_rfl
theorem EG(A J L:QA)(bQ:QO)(nQ:Nat)(aQ:QA)(h_a0:WT PZ 74 A)(O:WT PZ 38 J)(U:WT PZ 38 L)(h_a0x2:aQ.size=nQ*(lay PZ 69).length/\(∀k,k<nQ->WT PZ 69 (aQ.extract (k*(lay PZ 69).length) (k*(lay PZ 69).length+(lay PZ 69).length)))/\nQ<=9223372036854775807)(hg:((vf J nQ aQ&&(okS L&&(Zag J L&&(Zab (num A 0) J&&Zaa (num A 1) 0 1)))))=true):ansV PZ iK 1000 f46 [([7,8,10,11],[4,7]),([10,11,22],[7])] [.r A 74 [(2,0)],.g J 38,.g L 38] [.sl (.came bQ) nQ aQ 69]=some (.t [.g (bst PZ J L (num A 0) (num A 1) aQ nQ (dfT J L 2).length).1 53,.v ((scV (bst PZ J L (num A 0) (num A 1) aQ nQ (dfT J L 2).length).2.1 (bst PZ J L (num A 0) (num A 1) aQ nQ (dfT J L 2).length).2.2.1)),.b ((bst PZ J L (num A 0) (num A 1) aQ nQ (dfT J L 2).length).2.2.2)],.none,true):=by
 simp only[Q7]at hg;obtain⟨V,oC,hl,i0,t0⟩:=hg;have hA:=Zlk O;have hC:=Zlk U;have oA:=(Ufy V).1;have hlen:(dfT J L 2).length<=72:=mG J L 2;refine(Zqe 1000 A J L bQ nQ aQ).trans ?_;have h:=bP (g:=Za3 PZ A J L bQ nQ aQ .nilIface false (scV (finZ PZ J (num A 0) (num A 1) aQ nQ) (finS PZ J (num A 0) (num A 1) aQ nQ)) false (#[.int .i8 0,.int .i8 0]:QA) (#[.int .i8 0,.int .i8 0]:QA)) (λj=>(scV (bst PZ J L (num A 0) (num A 1) aQ nQ j).2.1 (bst PZ J L (num A 0) (num A 1) aQ nQ j).2.2.1,(bst PZ J L (num A 0) (num A 1) aQ nQ j).2.2.2,((j:Nat):Int),(bst PZ J L (num A 0) (num A 1) aQ nQ j).1)) (m:=(dfT J L 2).length) (x:=(scV (bst PZ J L (num A 0) (num A 1) aQ nQ (dfT J L 2).length).2.1 (bst PZ J L (num A 0) (num A 1) aQ nQ (dfT J L 2).length).2.2.1,(bst PZ J L (num A 0) (num A 1) aQ nQ (dfT J L 2).length).2.2.2,(((dfT J L 2).length:Nat):Int),(bst PZ J L (num A 0) (num A 1) aQ nQ (dfT J L 2).length).1)) (N:=1000) (λj hj=>by
  have Z:decide ((j:Int)<(((dfT J L 2).length:Nat):Int))=true:=Q3 (by omega);have g0:decide (0<=(j:Int))=true:=Q3 (by omega);have g3:i64.wrap ((j:Int)+1)=((j+1:Nat):Int):=by rw[IntWalk.i64_in _ (by omega)];omega
  obtain⟨q1,q2,q3⟩:=dD hA hC V oC hl hj (num A 0);have eX:(arrD (dfT J L 2)).extract (j*2) (j*2+2)=sptA J L j:=rfl;have b5:Zb0 J L (sptA J L j)=true:=q3;have eR:Zar J L (sptA J L j)=bsR J L j:=rfl;have eB:bst PZ J L (num A 0) (num A 1) aQ nQ (j+1)=bif fu (finZ PZ (bsR J L j) (num A 0) (num A 1) aQ nQ) (bst PZ J L (num A 0) (num A 1) aQ nQ j).2.1 (finS PZ (bsR J L j) (num A 0) (num A 1) aQ nQ) (bst PZ J L (num A 0) (num A 1) aQ nQ j).2.2.1 then (sptA J L j,false,finS PZ (bsR J L j) (num A 0) (num A 1) aQ nQ,true) else (bst PZ J L (num A 0) (num A 1) aQ nQ j):=rfl
  rw[eB];have sx':=dn (z:=finZ PZ (bsR J L j) (num A 0) (num A 1) aQ nQ) (Ysn (bsR J L j) (num A 0) (num A 1) aQ nQ);have sx:=dn (z:=(bst PZ J L (num A 0) (num A 1) aQ nQ j).2.1) (bst_in J L (num A 0) (num A 1) aQ nQ j);simp only[Za3,Z,g0,g3,Q9,eX,b5,eR,q1,q2,i0,t0,sx,sx',fL,kg,jB,Q1];cases hb:fu (finZ PZ (bsR J L j) (num A 0) (num A 1) aQ nQ) (bst PZ J L (num A 0) (num A 1) aQ nQ j).2.1 (finS PZ (bsR J L j) (num A 0) (num A 1) aQ nQ) (bst PZ J L (num A 0) (num A 1) aQ nQ j).2.2.1 with
  |false=>simp only[jC,Q1,Q2]
  | true=>
   have hz:finZ PZ (bsR J L j) (num A 0) (num A 1) aQ nQ=false:=by unfold fu at hb;rw[Q7,Bool.not_eq_true']at hb;exact hb.1
   simp only[jD,Q1,Q2,hz]) (by
  have Z:decide ((((dfT J L 2).length:Nat):Int)<(((dfT J L 2).length:Nat):Int))=false:=Q4 (by omega);simp only[Za3,Z,Q2]) (by omega)
 have h':Uab (Za3 PZ A J L bQ nQ aQ .nilIface false (scV (finZ PZ J (num A 0) (num A 1) aQ nQ) (finS PZ J (num A 0) (num A 1) aQ nQ)) false (#[.int .i8 0,.int .i8 0]:QA) (#[.int .i8 0,.int .i8 0]:QA)) 1000 ((scV (finZ PZ J (num A 0) (num A 1) aQ nQ) (finS PZ J (num A 0) (num A 1) aQ nQ)),false,(0:Int),(#[.int .i8 0,.int .i8 0]:QA))=some (scV (bst PZ J L (num A 0) (num A 1) aQ nQ (dfT J L 2).length).2.1 (bst PZ J L (num A 0) (num A 1) aQ nQ (dfT J L 2).length).2.2.1,(bst PZ J L (num A 0) (num A 1) aQ nQ (dfT J L 2).length).2.2.2,(((dfT J L 2).length:Nat):Int),(bst PZ J L (num A 0) (num A 1) aQ nQ (dfT J L 2).length).1):=h
 have h2:Uab (Zbc PZ 1000 A J L bQ nQ aQ) 1000 (.nilIface,false,(scV (finZ PZ J (num A 0) (num A 1) aQ nQ) (finS PZ J (num A 0) (num A 1) aQ nQ)),false,(#[.int .i8 0,.int .i8 0]:QA),(#[.int .i8 0,.int .i8 0]:QA))=some (scV (bst PZ J L (num A 0) (num A 1) aQ nQ (dfT J L 2).length).2.1 (bst PZ J L (num A 0) (num A 1) aQ nQ (dfT J L 2).length).2.2.1,(bst PZ J L (num A 0) (num A 1) aQ nQ (dfT J L 2).length).2.2.2,scV (bst PZ J L (num A 0) (num A 1) aQ nQ (dfT J L 2).length).2.1 (bst PZ J L (num A 0) (num A 1) aQ nQ (dfT J L 2).length).2.2.1,(bst PZ J L (num A 0) (num A 1) aQ nQ (dfT J L 2).length).2.2.2,(bst PZ J L (num A 0) (num A 1) aQ nQ (dfT J L 2).length).1,(bst PZ J L (num A 0) (num A 1) aQ nQ (dfT J L 2).length).1):=by
  have h0:Zbc PZ 1000 A J L bQ nQ aQ (.nilIface,false,(scV (finZ PZ J (num A 0) (num A 1) aQ nQ) (finS PZ J (num A 0) (num A 1) aQ nQ)),false,(#[.int .i8 0,.int .i8 0]:QA),(#[.int .i8 0,.int .i8 0]:QA))=some (.done (scV (bst PZ J L (num A 0) (num A 1) aQ nQ (dfT J L 2).length).2.1 (bst PZ J L (num A 0) (num A 1) aQ nQ (dfT J L 2).length).2.2.1,(bst PZ J L (num A 0) (num A 1) aQ nQ (dfT J L 2).length).2.2.2,scV (bst PZ J L (num A 0) (num A 1) aQ nQ (dfT J L 2).length).2.1 (bst PZ J L (num A 0) (num A 1) aQ nQ (dfT J L 2).length).2.2.1,(bst PZ J L (num A 0) (num A 1) aQ nQ (dfT J L 2).length).2.2.2,(bst PZ J L (num A 0) (num A 1) aQ nQ (dfT J L 2).length).1,(bst PZ J L (num A 0) (num A 1) aQ nQ (dfT J L 2).length).1)):=by simp only[Zbc,oA,oC,hl,jB,Q1];rw[h'];rfl
  show Uab _ (999+1) _=_
  rw[Uab,h0]
 rw[V,i0,t0];simp only[jB,Q1];rw[h2];rfl
def sr:af:=λargs h=>match args,h with|[.r a0 74 [(2,0)],.g a1 38,.g a2 38],[.sl (.came bQ) nQ aQ 69]=>some (.t [.g (bst PZ a1 a2 (num a0 0) (num a0 1) aQ nQ (dfT a1 a2 2).length).1 53,.v ((scV (bst PZ a1 a2 (num a0 0) (num a0 1) aQ nQ (dfT a1 a2 2).length).2.1 (bst PZ a1 a2 (num a0 0) (num a0 1) aQ nQ (dfT a1 a2 2).length).2.2.1)),.b ((bst PZ a1 a2 (num a0 0) (num a0 1) aQ nQ (dfT a1 a2 2).length).2.2.2)],.none,(vf a1 nQ aQ&&(okS a2&&(Zag a1 a2&&(Zab (num a0 0) a1&&Zaa (num a0 1) 0 1)))))|_,_=>none
theorem xt:EntX PZ 46:=Zaj (fn:=f46)
theorem xu:Uad (md F) PZ 46 sr:=(ansY (N:=1000) (mKc (Zae DT) DS (mKc (Zae Zvj) Dv (mKc (Zae sd) sa (mKc (Zae Ew) Ev mKn)))) f46 [([7,8,10,11],[4,7]),([10,11,22],[7])]).of (by
 intro ρ h w args vals r e J O A;unfold sr at A;split at A
 ·rename_i U V Z bQ nQ aQ;obtain⟨rfl,rfl,L⟩:=ai A;exact EG U V Z bQ nQ aQ (J.wtr 0 rfl) (J.wt 1 rfl) (J.wt 2 rfl) (O.slw 0 rfl) L
 ·cases A)
end
noncomputable section
variable {F:Vc.Fd}
theorem dE{A C:QA}{j:Nat}(J:j<(dfT A C 2).length):(sptA A C j).size=2:=by unfold sptA;rw[Array.size_extract,oL];omega
theorem xv(A C:QA)(c b:Int)(D:QA)(n:Nat):∀j,j<=(dfT A C 2).length->(bst PZ A C c b D n j).1.size=2/\∃t k:Nat,t<2/\k<36/\num (bst PZ A C c b D n j).1 0=(t:Int)/\num (bst PZ A C c b D n j).1 1=(k:Int)
 |0,_=>⟨rfl,0,0,by omega,by omega,rfl,rfl⟩
 |j+1,J=>by
  rw[bst];cases fu (finZ PZ (bsR A C j) c b D n) (bst PZ A C c b D n j).2.1 (finS PZ (bsR A C j) c b D n) (bst PZ A C c b D n j).2.2.1 with|true=>exact⟨dE (by omega),xo (by omega)⟩|false=>exact xv A C c b D n j (by omega)
def bsF(P:QD)(A C:QA)(c b:Int)(D:QA)(n:Nat):QA×Bool×Int×Bool:=bst P A C c b D n (dfT A C 2).length
def rmS(P:QD)(A C:QA)(c b:Int)(D:QA)(n:Nat):Nat->QA×QA
 |0=>(A,#[])
 |j+1=>(Zaf (bsF P (rmS P A C c b D n j).1 C c b D n).1 (rmS P A C c b D n j).1 C,(rmS P A C c b D n j).2++(bsF P (rmS P A C c b D n j).1 C c b D n).1)
def rmP(P:QD)(A C:QA)(c b:Int)(D:QA)(n j:Nat):Bool:= !(bsF P (rmS P A C c b D n j).1 C c b D n).2.2.2
def rmJ(P:QD)(A C:QA)(c b:Int)(D:QA)(n m:Nat):Nat:=match (List.range m).find? (rmP P A C c b D n) with|some k=>k|none=>m
theorem ki(A C:QA)(c b:Int)(D:QA)(n m:Nat):rmJ PZ A C c b D n m<=m:=by unfold rmJ;cases h:(List.range m).find? (rmP PZ A C c b D n) with|none=>exact Nat.le_refl _|some k=>exact Nat.le_of_lt (List.mem_range.1 (List.mem_of_find?_eq_some h))
def cR(C D:QA)(n:Nat)(c:Int)(A:QA):Prop:=A.size=363/\vf A n D=true/\Zag A C=true/\Zab c A=true
theorem Ysu{A C D:QA}{n:Nat}{c b:Int}(L:C.size=363)(oC:okS C=true)(h:cR C D n c A):cR C D n c (Zaf (bsF PZ A C c b D n).1 A C)/\Za5 (bsF PZ A C c b D n).1 A C=true/\(bsF PZ A C c b D n).1.size=2:=by
 obtain⟨J,Z,hl,hi⟩:=h;obtain⟨hz,t,k,O,hk,U,V⟩:=xv A C c b D n _ (Nat.le_refl _);have e:Zaf (bsF PZ A C c b D n).1 A C=repA A C t k:=by unfold Zaf repA bsF;rw[U,V,Q9,Q9]
 obtain⟨h1,h2⟩:=dC J L Z oC hl O hk c;refine⟨?_,?_,hz⟩
 ·rw[e];refine⟨by unfold repA;rw[cE];exact J,h1,?_,by rw[h2];exact hi⟩;unfold Zag at hl|-
  rw[fP J L O hk (show 0<3 by omega),fP J L O hk (show 1<3 by omega),fP J L O hk (show 2<3 by omega)];exact hl
 ·unfold Za5 bsF;rw[U,V,Q3 (show 0<=(t:Int) by omega),Q3 (show (t:Int)<2 by omega),Q3 (show 0<=(k:Int) by omega),Q3 (show (k:Int)<36 by omega)];rfl
theorem Zz8{A C D:QA}{n:Nat}{c b:Int}(J:C.size=363)(oC:okS C=true)(h:cR C D n c A):∀j,cR C D n c (rmS PZ A C c b D n j).1
 |0=>h
 |j+1=>(Ysu J oC (Zz8 J oC h j)).1
theorem ss(A:QA)(t:Nat):∀k,dfL A A t k=[]
 |0=>rfl
 |k+1=>by
  rw[dfL,ss A t k];unfold cd;rw[fq];rfl
theorem dF(A:QA)(c b:Int)(D:QA)(n:Nat):(bsF PZ A A c b D n).2.2.2=false:=by
 have e:dfT A A 2=[]:=by rw[dfT,dfT,dfT,ss,ss];rfl
 unfold bsF;rw[e];rfl
def kj:Cons:=(mkΓ [(44,con rR),(45,con sn),(47,con db),(48,con oN)])
def Zfx(L O:QA)(U V J:Int)(Z:QO)(A:Nat)(a4:QA):St:=(⟨.a (.g L 38)::.a (.g O 38)::.a (.i .i64 U)::.a (.i .i64 V)::.a (.l 0)::.a (.i .i64 J)::.a (.w 1)::.a (.w 2)::us 4 (.a (.w 3)::.a (.v (.slice none 0 0))::.a (.i .i64 0)::.a (.i .i64 (Uax L O A a4 U V (Zaa J (0:Int) (20:Int))))::.a (.l 8)::us 3 (.a (.i .i64 U)::.a (.i .i64 V)::.a (.l 0)::.a (.i .i64 J)::.a (.b ((Zaa J (0:Int) (20:Int))))::.a (.i .i64 (Uax L O A a4 U V (Zaa J (0:Int) (20:Int))))::.a (.i .i64 (Uax L O A a4 U V (Zaa J (0:Int) (20:Int))))::.a (.b (((Uax L O A a4 U V (Zaa J (0:Int) (20:Int))) != (0:Int))))::us 3 (.a (.l 6)::us 22 ([])))),[.sl (.came Z) A a4 69,.row L 38,.row O 38,.row (zc PZ 38) 38,.no,.no,.sp,.no,.sl .own 0 (#[]:QA) 53],[6]⟩:St)
def Zhr:QA×Nat×QA->LS
 |(L,A,J)=>([.a (.l 8)],[.row L 38,.sl .own A J 53])
def su:QA×Nat×QA->QP×LS
 |t=>((.exit 0),Zhr t)
def Zcn(P:QD)(a0 U:QA)(V Z a5:Int)(b_a4:QO)(L:Nat)(a4:QA):QA×Nat×QA->Option (Stp (QA×Nat×QA) (QA×Nat×QA))
 |(A,J,O)=>bif decide ((J:Int)<a5) then (bif (vf A L a4&&(okS U&&(Zag A U&&(Zab V A&&Zaa Z 0 1)))) then (bif (!((bst PZ A U V Z a4 L (dfT A U 2).length).2.2.2)) then (some (.done (A,J,O))) else (bif (Za5 (bst PZ A U V Z a4 L (dfT A U 2).length).1 A U) then (bif (jA ((J+1)*bytesOf PZ 53) 140737488355328) then (some (.more ((Zaf (bst PZ A U V Z a4 L (dfT A U 2).length).1 A U),(J+1),(O++(spl (#[.int .i8 0,.int .i8 0]:QA) 0 (bst PZ A U V Z a4 L (dfT A U 2).length).1.toList))))) else (none)) else (none))) else (none)) else (some (.done (A,J,O)))
noncomputable abbrev be:=codeOf f28
theorem Yff(N:Nat)(U V:QA)(Z a3 a5:Int)(A:QO)(J:Nat)(a4:QA):∀t:QA×Nat×QA,Ubi PZ kj N (cAt be [1,1,1,0,0,0]) (pAt (Uaa be [([],[1,1000016,53])]).1 [1,1,1,0,0]) [] [1] 16 53 8 (Zfx U V Z a3 a5 A J a4) (Zhr t)=aa Zhr su (Zcn PZ U V Z a3 a5 A J a4 t):=by
 rintro⟨r0_1,L,O⟩
 conv=>rhs;simp only[Zcn,aM,aJ,aK,aL,Zhr,su]
 kernel_rfl
def sw(P:QD)(N:Nat)(V Z:QA)(a2 a3 a5:Int)(O:QO)(U:Nat)(a4:QA)(L:QA)(A:Nat)(J:QA):Option (SV×Eff×Bool):=some (.t [.g L 38,.x,.i .i64 0],.newS (some 1) A J 53,true)
theorem EH(N:Nat)(Z a1:QA)(a2 a3 a5:Int)(A:QO)(J:Nat)(V:QA)(U:QA)(L:Nat)(O:QA):(Uac 0 (kSeq (veC PZ kj N (cAt be [1,1,1,1]) (pAt (Uaa be [([],[1,1000016,53])]).1 [1,1,1,1]) (SV×Eff×Bool)) (finK PZ [.sl (.came A) J V 69] [.cell 12 38,.tmp 13,.tmp 14]))) (.exit 0) (left (writes (cAt be [1,1,1,0,0,0])) [16] [1,8] (Zfx Z a1 a2 a3 a5 A J V) ([.a (.l 8)],[.row U 38,.sl .own L O 53]))=sw PZ N Z a1 a2 a3 a5 A J V U L O:=by kernel_rfl
theorem EI(N:Nat)(L U:QA)(V Z a5:Int)(A:QO)(J:Nat)(O:QA):au (Uab (Ubi PZ kj N (cAt be [1,1,1,0,0,0]) (pAt (Uaa be [([],[1,1000016,53])]).1 [1,1,1,0,0]) [] [1] 16 53 8 (Zfx L U V Z a5 A J O)) N ([.a (.l 8)],[.row L 38,.sl .own 0 (#[]:QA) 53])) (λe s=>(Uac 0 (kSeq (veC PZ kj N (cAt be [1,1,1,1]) (pAt (Uaa be [([],[1,1000016,53])]).1 [1,1,1,1]) (SV×Eff×Bool)) (finK PZ [.sl (.came A) J O 69] [.cell 12 38,.tmp 13,.tmp 14]))) e (left (writes (cAt be [1,1,1,0,0,0])) [16] [1,8] (Zfx L U V Z a5 A J O) s))=Uah (Uab (Zcn PZ L U V Z a5 A J O) N (L,0,(#[]:QA))) (λx=>sw PZ N L U V Z a5 A J O x.1 x.2.1 x.2.2):=by refine aP Zhr su _ _ (Yff N L U V Z a5 A J O) N (L,0,(#[]:QA)) _ _ ?_;intro x;exact EH N L U V Z a5 A J O x.1 x.2.1 x.2.2
theorem Zry(N:Nat)(L O:QA)(U V Z:Int)(J:QO)(A:Nat)(a4:QA):ansV PZ kj N f28 [([],[1,1000016,53])] [.g L 38,.g O 38,.i .i64 U,.i .i64 V,.l 0,.i .i64 Z] [.sl (.came J) A a4 69]=(bif ((Uax L O A a4 U V (Zaa Z (0:Int) (20:Int))) != (0:Int)) then (some (.t [.g (zc PZ 38) 38,.x,.i .i64 (Uax L O A a4 U V (Zaa Z (0:Int) (20:Int)))],.newS (some 1) 0 (#[]:QA) 53,true)) else (Uah (Uab (Zcn PZ L O U V Z J A a4) N (L,0,(#[]:QA))) (λx=>sw PZ N L O U V Z J A a4 x.1 x.2.1 x.2.2))):=by
 conv=>rhs;simp only[<- EI N L O U V Z J A a4]
 kernel_rfl
theorem Zxr(Z a1:QA)(L O U:Int)(J:QO)(A:Nat)(V:QA)(h_a0:WT PZ 38 Z)(h_a1:WT PZ 38 a1)(h_a2:i64.min<=L/\L<=i64.max)(h_a3:i64.min<=O/\O<=i64.max)(h_a5:i64.min<=U/\U<=i64.max)(h_a4:V.size=A*(lay PZ 69).length/\(∀k,k<A->WT PZ 69 (V.extract (k*(lay PZ 69).length) (k*(lay PZ 69).length+(lay PZ 69).length)))/\A<=9223372036854775807)(hc0:(((Uax Z a1 A V L O (Zaa U (0:Int) (20:Int)))==(0:Int)))=false)(hg:(true)=true):ansV PZ kj 1000 f28 [([],[1,1000016,53])] [.g Z 38,.g a1 38,.i .i64 L,.i .i64 O,.l 0,.i .i64 U] [.sl (.came J) A V 69]=some (.t [.g (zc PZ 38) 38,.x,.i .i64 (Uax Z a1 A V L O (Zaa U (0:Int) (20:Int)))],.newS (some 1) 0 (#[]:QA) 53,true):=by
 have hb:((Uax Z a1 A V L O (Zaa U (0:Int) (20:Int))) != (0:Int))=true:=by unfold bne;rw[hc0];rfl
 refine(Zry 1000 Z a1 L O U J A V).trans ?_;rw[hb,Q1]
theorem Zya(V J:QA)(O L Z:Int)(b5:QO)(A:Nat)(U:QA)(c7:WT PZ 38 V)(c8:WT PZ 38 J)(h_a2:i64.min<=O/\O<=i64.max)(h_a3:i64.min<=L/\L<=i64.max)(h_a5:i64.min<=Z/\Z<=i64.max)(h_a4:U.size=A*(lay PZ 69).length/\(∀k,k<A->WT PZ 69 (U.extract (k*(lay PZ 69).length) (k*(lay PZ 69).length+(lay PZ 69).length)))/\A<=9223372036854775807)(hc0:(((Uax V J A U O L (Zaa Z (0:Int) (20:Int)))==(0:Int)))=true)(hg:(true)=true):ansV PZ kj 1000 f28 [([],[1,1000016,53])] [.g V 38,.g J 38,.i .i64 O,.i .i64 L,.l 0,.i .i64 Z] [.sl (.came b5) A U 69]=some (.t [.g (rmS PZ V J O L U A (rmJ PZ V J O L U A Z.toNat)).1 38,.x,.i .i64 0],.newS (some 1) (rmJ PZ V J O L U A Z.toNat) (rmS PZ V J O L U A (rmJ PZ V J O L U A Z.toNat)).2 53,true):=by
 have hb:((Uax V J A U O L (Zaa Z (0:Int) (20:Int))) != (0:Int))=false:=by unfold bne;rw[hc0];rfl
 obtain⟨v1,v2,al,i1,_,t0,hin,_⟩:=rQ hb;have hC:=Zlk c8;have oC:=(Ufy v2).1;have hI:cR J U A O V:=⟨Zlk c7,v1,al,i1⟩;have h5:=Zik hin;have b7:Uab (Zcn PZ V J O L Z b5 A U) 1000 (V,0,(#[]:QA))=some ((rmS PZ V J O L U A (rmJ PZ V J O L U A Z.toNat)).1,(rmJ PZ V J O L U A Z.toNat),(rmS PZ V J O L U A (rmJ PZ V J O L U A Z.toNat)).2):=by
  have h:=iC (g:=Zcn PZ V J O L Z b5 A U) (λk=>((rmS PZ V J O L U A k).1,k,(rmS PZ V J O L U A k).2)) (rmP PZ V J O L U A) Z.toNat (N:=1000) (xd:=((rmS PZ V J O L U A Z.toNat).1,Z.toNat,(rmS PZ V J O L U A Z.toNat).2)) (by omega) (λk=>((rmS PZ V J O L U A k).1,k,(rmS PZ V J O L U A k).2)) (λk hk hp=>by
   have g1:decide ((k:Int)<Z)=true:=Q3 (by omega);obtain⟨_,w1,w2,w3⟩:=Zz8 (b:=L) hC oC hI k;have b9:(!(bst PZ (rmS PZ V J O L U A k).1 J O L U A (dfT (rmS PZ V J O L U A k).1 J 2).length).2.2.2)=false:=hp;obtain⟨_,w4,w5⟩:=Ysu (b:=L) hC oC (Zz8 (b:=L) hC oC hI k);have w4':Za5 (bst PZ (rmS PZ V J O L U A k).1 J O L U A (dfT (rmS PZ V J O L U A k).1 J 2).length).1 (rmS PZ V J O L U A k).1 J=true:=w4;have hr:=oM (n:=k+1) (by omega);have hs:spl (#[.int .i8 0,.int .i8 0]:QA) 0 (bst PZ (rmS PZ V J O L U A k).1 J O L U A (dfT (rmS PZ V J O L U A k).1 J 2).length).1.toList=(bst PZ (rmS PZ V J O L U A k).1 J O L U A (dfT (rmS PZ V J O L U A k).1 J 2).length).1:=lU w5;simp only[Zcn,g1,w1,oC,w2,w3,t0,b9,w4',hr,hs,jC,jB,Q1,Q2];rfl) (λk hk hp=>by
   have g1:decide ((k:Int)<Z)=true:=Q3 (by omega);obtain⟨_,w1,w2,w3⟩:=Zz8 (b:=L) hC oC hI k;have b9:(!(bst PZ (rmS PZ V J O L U A k).1 J O L U A (dfT (rmS PZ V J O L U A k).1 J 2).length).2.2.2)=true:=hp;simp only[Zcn,g1,w1,oC,w2,w3,t0,b9,jB,Q1]) (by
   have g1:decide (((Z.toNat:Nat):Int)<Z)=false:=Q4 (by omega);simp only[Zcn,g1,Q2])
  refine h.trans ?_;unfold rmJ;cases (List.range Z.toNat).find? (rmP PZ V J O L U A)<;>rfl
 refine(Zry 1000 V J O L Z b5 A U).trans ?_;rw[hb,Q2,b7];rfl
def Zh7:bk:=λargs h=>match args,h with|[.g a0 38,.g a1 38,.i .i64 a2,.i .i64 a3,.l 0,.i .i64 a5],[.sl (.came b_a4) n_a4 a4 69]=>.two (((Uax a0 a1 n_a4 a4 a2 a3 (Zaa a5 (0:Int) (20:Int)))==(0:Int))) (.one (some (.t [.g (rmS PZ a0 a1 a2 a3 a4 n_a4 (rmJ PZ a0 a1 a2 a3 a4 n_a4 a5.toNat)).1 38,.x,.i .i64 0],.newS (some 1) (rmJ PZ a0 a1 a2 a3 a4 n_a4 a5.toNat) (rmS PZ a0 a1 a2 a3 a4 n_a4 (rmJ PZ a0 a1 a2 a3 a4 n_a4 a5.toNat)).2 53,true))) (.one (some (.t [.g (zc PZ 38) 38,.x,.i .i64 (Uax a0 a1 n_a4 a4 a2 a3 (Zaa a5 (0:Int) (20:Int)))],.newS (some 1) 0 (#[]:QA) 53,true)))|_,_=>.one none
theorem EJ:EntX PZ 28:=Zaj (fn:=f28)
theorem EK:Uad (md F) PZ 28 (λargs h=>Uak (Zh7 args h)):=by
 intro ρ h w args vals r e hn A J Z;dsimp only at A;unfold Zh7 at A;split at A
 ·rename_i a0 a1 a2 a3 a5 U L a4;simp only[Uak]at A;cases O:(((Uax a0 a1 L a4 a2 a3 (Zaa a5 (0:Int) (20:Int)))==(0:Int)))
  ·rw[O]at A;simp only[Uak,Q1,Q2]at A;obtain⟨rfl,rfl,V⟩:=ai A;exact((ansY (N:=1000) (mKc (Zae xm) xl (mKc (Zae xr) xp (mKc (Zae km) kl (mKc (Zae rZ) rY mKn)))) f28 [([],[1,1000016,53])])) ρ _ w _ vals _ _ hn ((Zxr a0 a1 a2 a3 a5 U L a4 (J.wt 0 rfl) (J.wt 1 rfl) (J.rng 2 rfl) (J.rng 3 rfl) (J.rng 5 rfl) (Z.slw 0 rfl) O V)) J Z
  ·rw[O]at A;simp only[Uak,Q1,Q2]at A;obtain⟨rfl,rfl,V⟩:=ai A;exact((ansY (N:=1000) (mKc (Zae xm) xl (mKc (Zae xr) xp (mKc (Zae km) kl (mKc (Zae rZ) rY mKn)))) f28 [([],[1,1000016,53])])) ρ _ w _ vals _ _ hn ((Zya a0 a1 a2 a3 a5 U L a4 (J.wt 0 rfl) (J.wt 1 rfl) (J.rng 2 rfl) (J.rng 3 rfl) (J.rng 5 rfl) (Z.slw 0 rfl) O V)) J Z
 ·simp only[Uak]at A;cases A
def rpA(P:QD)(A C:QA)(c b:Int)(D:QA)(n:Nat)(m:Int):QA:=bif (Uax A C n D c b (Zaa m 0 20)==(0:Int)) then (rmS P A C c b D n (rmJ P A C c b D n m.toNat)).1 else zc P 38
def rpN(P:QD)(A C:QA)(c b:Int)(D:QA)(n:Nat)(m:Int):Nat:=bif (Uax A C n D c b (Zaa m 0 20)==(0:Int)) then rmJ P A C c b D n m.toNat else 0
def rpL(P:QD)(A C:QA)(c b:Int)(D:QA)(n:Nat)(m:Int):QA:=bif (Uax A C n D c b (Zaa m 0 20)==(0:Int)) then (rmS P A C c b D n (rmJ P A C c b D n m.toNat)).2 else #[]
def sy:af:=λargs h=>match args,h with|[.g a0 38,.g a1 38,.i .i64 a2,.i .i64 a3,.l 0,.i .i64 a5],[.sl (.came b_a4) n_a4 a4 69]=>some (.t [.g (rpA PZ a0 a1 a2 a3 a4 n_a4 a5) 38,.x,.i .i64 (Uax a0 a1 n_a4 a4 a2 a3 (Zaa a5 (0:Int) (20:Int)))],.newS (some 1) (rpN PZ a0 a1 a2 a3 a4 n_a4 a5) (rpL PZ a0 a1 a2 a3 a4 n_a4 a5) 53,true)|_,_=>none
theorem EL:Uad (md F) PZ 28 sy:=Uad.of EK (by
 intro ρ h w args vals r e hA hH J;unfold sy at J;split at J
 ·rename_i O U V Z a5 L A a4;obtain⟨rfl,rfl,hg2⟩:=ai J
  show Uak (Zh7 _ _)=_
  unfold Zh7;simp only[Uak];unfold rpA rpN rpL;cases hz:((Uax O U A a4 V Z (Zaa a5 (0:Int) (20:Int)))==(0:Int)) with|false=>rfl|true=>have e:=beq_iff_eq.1 hz;rw[e];rfl
 ·cases J)
def dG:Cons:=(mkΓ [(38,conG rt),(46,con sr),(49,con oO)])
def Zfv(U V:QA)(J L O:Int)(Z b5 b7 b9 c7:QR)(c8:QO)(A:Nat)(a4:QA):St:=(⟨.a (.g U 38)::.a (.g V 38)::.a (.i .i64 J)::.a (.i .i64 L)::.a (.l 5)::.a (.i .i64 O)::.a (.w 6)::.a (.w 7)::us 4 (.a (.w 8)::.a (.v (.slice none 0 0))::.a (.i .i64 0)::.a (.w 15)::.a (.i .i64 (Ubt 2 (spl (spl (repC (zc PZ 38) 2) 0 U.toList) 363 V.toList) A a4 (num (#[.int .i64 J,.int .i64 L,.slice none 0 0]:QA) 0) (num (#[.int .i64 J,.int .i64 L,.slice none 0 0]:QA) 1) (decide (O<=(20:Int)))))::.a (.l 29)::us 3 (.a (.i .i64 J)::.a (.i .i64 L)::.a (.l 5)::.a (.r #[.int .i64 J,.int .i64 L,.slice none 0 0] 74 [(2,5)])::.a (.r #[.int .i64 J,.int .i64 L,.slice none 0 0] 74 [(2,5)])::.a (.i .i64 O)::.a (.b (decide (O>=(0:Int))))::.a (.b true)::.a (.i .i64 O)::.a (.b (decide (O<=(20:Int))))::.a (.b (decide (O<=(20:Int))))::.a (.g U 38)::.a (.g V 38)::.a (.l 26)::.a (.i .i64 (Ubt 2 (spl (spl (repC (zc PZ 38) 2) 0 U.toList) 363 V.toList) A a4 (num (#[.int .i64 J,.int .i64 L,.slice none 0 0]:QA) 0) (num (#[.int .i64 J,.int .i64 L,.slice none 0 0]:QA) 1) (decide (O<=(20:Int)))))::.a (.i .i64 (Ubt 2 (spl (spl (repC (zc PZ 38) 2) 0 U.toList) 363 V.toList) A a4 (num (#[.int .i64 J,.int .i64 L,.slice none 0 0]:QA) 0) (num (#[.int .i64 J,.int .i64 L,.slice none 0 0]:QA) 1) (decide (O<=(20:Int)))))::.a (.b (((Ubt 2 (spl (spl (repC (zc PZ 38) 2) 0 U.toList) 363 V.toList) A a4 (num (#[.int .i64 J,.int .i64 L,.slice none 0 0]:QA) 0) (num (#[.int .i64 J,.int .i64 L,.slice none 0 0]:QA) 1) (decide (O<=(20:Int)))) != (0:Int))))::us 31 ([]))),[.gl 0 185 Z 101973,.gl 1 185 b5 93330,.gl 3 185 b7 124718,.gl 2 185 b9 112315,.gl 4 185 c7 94254,.sl (.came c8) A a4 69,.row U 38,.row V 38,.row (zc PZ 38) 38,.no,.no,.no,.no,.no,.no,.one (.r #[.int .i64 J,.int .i64 L,.slice none 0 0] 74 [(2,5)]) 74,.no,.no,.no,.no,.no,.no,.no,.no,.no,.no,.sl .own 2 (spl (spl (repC (zc PZ 38) 2) 0 U.toList) 363 V.toList) 38,.no,.no,.sl .own 0 (#[]:QA) 53],[15]⟩:St)
def Zht:QA×Nat×QA->LS
 |(L,A,J)=>([.a (.l 29)],[.row L 38,.sl .own A J 53])
def sA:QA×Nat×QA->QP×LS
 |t=>((.exit 0),Zht t)
def Zb2(P:QD)(a0 U:QA)(V Z a5:Int)(g_e0 g_e1 g_e2 g_e3 g_e4:QR)(b_a4:QO)(O:Nat)(a4:QA):QA×Nat×QA->Option (Stp (QA×Nat×QA) (QA×Nat×QA))
 |(A,J,L)=>bif decide ((J:Int)<a5) then (bif (!(Uag A U)) then (bif (vf A O a4&&(okS U&&(Zag A U&&(Zab (num (#[.int .i64 V,.int .i64 Z,.slice none 0 0]:QA) 0) A&&Zaa (num (#[.int .i64 V,.int .i64 Z,.slice none 0 0]:QA) 1) 0 1)))) then (bif (!((bst PZ A U (num (#[.int .i64 V,.int .i64 Z,.slice none 0 0]:QA) 0) (num (#[.int .i64 V,.int .i64 Z,.slice none 0 0]:QA) 1) a4 O (dfT A U 2).length).2.2.2)) then (some (.done (A,J,L))) else (bif (Zb0 A U (bst PZ A U (num (#[.int .i64 V,.int .i64 Z,.slice none 0 0]:QA) 0) (num (#[.int .i64 V,.int .i64 Z,.slice none 0 0]:QA) 1) a4 O (dfT A U 2).length).1) then (bif (jA ((J+1)*bytesOf PZ 53) 140737488355328) then (some (.more ((Zar A U (bst PZ A U (num (#[.int .i64 V,.int .i64 Z,.slice none 0 0]:QA) 0) (num (#[.int .i64 V,.int .i64 Z,.slice none 0 0]:QA) 1) a4 O (dfT A U 2).length).1),(J+1),(L++(spl (#[.int .i8 0,.int .i8 0]:QA) 0 (bst PZ A U (num (#[.int .i64 V,.int .i64 Z,.slice none 0 0]:QA) 0) (num (#[.int .i64 V,.int .i64 Z,.slice none 0 0]:QA) 1) a4 O (dfT A U 2).length).1.toList))))) else (none)) else (none))) else (none)) else (some (.done (A,J,L)))) else (some (.done (A,J,L)))
noncomputable abbrev ao:=codeOf f29
theorem Yfo(N:Nat)(a0 a1:QA)(a2 a3 a5:Int)(A J L O U:QR)(V:QO)(Z:Nat)(a4:QA):∀t:QA×Nat×QA,Ubi PZ dG N (cAt ao [1,1,1,1,0,0,0]) (pAt (Uaa ao [([],[6,1000017,53])]).1 [1,1,1,1,0,0]) [] [6] 17 53 29 (Zfv a0 a1 a2 a3 a5 A J L O U V Z a4) (Zht t)=aa Zht sA (Zb2 PZ a0 a1 a2 a3 a5 A J L O U V Z a4 t):=by
 rintro⟨r0_6,b5,b7⟩
 conv=>rhs;simp only[Zb2,aM,aJ,aK,aL,Zht,sA]
 kernel_rfl
def sB(P:QD)(N:Nat)(a0 a1:QA)(a2 a3 a5:Int)(O U V Z b5:QR)(b7:QO)(b9:Nat)(a4:QA)(L:QA)(A:Nat)(J:QA):Option (SV×Eff×Bool):=some (.t [.g L 38,.x,.i .i64 0],.newS (some 1) A J 53,true)
theorem EM(N:Nat)(a0 a1:QA)(a2 a3 a5:Int)(A J L O U:QR)(V:QO)(Z:Nat)(a4:QA)(b9:QA)(b5:Nat)(b7:QA):(Uac 0 (kSeq (veC PZ dG N (cAt ao [1,1,1,1,1]) (pAt (Uaa ao [([],[6,1000017,53])]).1 [1,1,1,1,1]) (SV×Eff×Bool)) (finK PZ [.gl 0 185 A 101973,.gl 1 185 J 93330,.gl 3 185 L 124718,.gl 2 185 O 112315,.gl 4 185 U 94254,.sl (.came V) Z a4 69] [.cell 12 38,.tmp 13,.tmp 14]))) (.exit 0) (left (writes (cAt ao [1,1,1,1,0,0,0])) [17] [6,29] (Zfv a0 a1 a2 a3 a5 A J L O U V Z a4) ([.a (.l 29)],[.row b9 38,.sl .own b5 b7 53]))=sB PZ N a0 a1 a2 a3 a5 A J L O U V Z a4 b9 b5 b7:=by kernel_rfl
theorem EN(N:Nat)(a0 a1:QA)(a2 a3 a5:Int)(A J L O U:QR)(V:QO)(Z:Nat)(a4:QA):au (Uab (Ubi PZ dG N (cAt ao [1,1,1,1,0,0,0]) (pAt (Uaa ao [([],[6,1000017,53])]).1 [1,1,1,1,0,0]) [] [6] 17 53 29 (Zfv a0 a1 a2 a3 a5 A J L O U V Z a4)) N ([.a (.l 29)],[.row a0 38,.sl .own 0 (#[]:QA) 53])) (λe s=>(Uac 0 (kSeq (veC PZ dG N (cAt ao [1,1,1,1,1]) (pAt (Uaa ao [([],[6,1000017,53])]).1 [1,1,1,1,1]) (SV×Eff×Bool)) (finK PZ [.gl 0 185 A 101973,.gl 1 185 J 93330,.gl 3 185 L 124718,.gl 2 185 O 112315,.gl 4 185 U 94254,.sl (.came V) Z a4 69] [.cell 12 38,.tmp 13,.tmp 14]))) e (left (writes (cAt ao [1,1,1,1,0,0,0])) [17] [6,29] (Zfv a0 a1 a2 a3 a5 A J L O U V Z a4) s))=Uah (Uab (Zb2 PZ a0 a1 a2 a3 a5 A J L O U V Z a4) N (a0,0,(#[]:QA))) (λx=>sB PZ N a0 a1 a2 a3 a5 A J L O U V Z a4 x.1 x.2.1 x.2.2):=by refine aP Zht sA _ _ (Yfo N a0 a1 a2 a3 a5 A J L O U V Z a4) N (a0,0,(#[]:QA)) _ _ ?_;intro x;exact EM N a0 a1 a2 a3 a5 A J L O U V Z a4 x.1 x.2.1 x.2.2
def Zec(O U:QA)(J L a5:Int)(V Z b5 b7 b9:QR)(c7:QO)(A:Nat)(a4:QA):St:=(⟨.a (.g O 38)::.a (.g U 38)::.a (.i .i64 J)::.a (.i .i64 L)::.a (.l 5)::.a (.i .i64 a5)::.a (.w 6)::.a (.w 7)::us 4 (.a (.w 8)::.a (.v (.slice none 0 0))::.a (.i .i64 0)::.a (.w 15)::.a (.i .i64 (Ubt 2 (spl (spl (repC (zc PZ 38) 2) 0 O.toList) 363 U.toList) A a4 (num (#[.int .i64 J,.int .i64 L,.slice none 0 0]:QA) 0) (num (#[.int .i64 J,.int .i64 L,.slice none 0 0]:QA) 1) false))::.a (.l 29)::us 3 (.a (.i .i64 J)::.a (.i .i64 L)::.a (.l 5)::.a (.r #[.int .i64 J,.int .i64 L,.slice none 0 0] 74 [(2,5)])::.a (.r #[.int .i64 J,.int .i64 L,.slice none 0 0] 74 [(2,5)])::.a (.i .i64 a5)::.a (.b (decide (a5>=(0:Int))))::.a (.b false)::.a (.u)::.a (.u)::.a (.b false)::.a (.g O 38)::.a (.g U 38)::.a (.l 26)::.a (.i .i64 (Ubt 2 (spl (spl (repC (zc PZ 38) 2) 0 O.toList) 363 U.toList) A a4 (num (#[.int .i64 J,.int .i64 L,.slice none 0 0]:QA) 0) (num (#[.int .i64 J,.int .i64 L,.slice none 0 0]:QA) 1) false))::.a (.i .i64 (Ubt 2 (spl (spl (repC (zc PZ 38) 2) 0 O.toList) 363 U.toList) A a4 (num (#[.int .i64 J,.int .i64 L,.slice none 0 0]:QA) 0) (num (#[.int .i64 J,.int .i64 L,.slice none 0 0]:QA) 1) false))::.a (.b (((Ubt 2 (spl (spl (repC (zc PZ 38) 2) 0 O.toList) 363 U.toList) A a4 (num (#[.int .i64 J,.int .i64 L,.slice none 0 0]:QA) 0) (num (#[.int .i64 J,.int .i64 L,.slice none 0 0]:QA) 1) false) != (0:Int))))::us 31 ([]))),[.gl 0 185 V 101973,.gl 1 185 Z 93330,.gl 3 185 b5 124718,.gl 2 185 b7 112315,.gl 4 185 b9 94254,.sl (.came c7) A a4 69,.row O 38,.row U 38,.row (zc PZ 38) 38,.no,.no,.no,.no,.no,.no,.one (.r #[.int .i64 J,.int .i64 L,.slice none 0 0] 74 [(2,5)]) 74,.no,.no,.no,.no,.no,.no,.no,.no,.no,.no,.sl .own 2 (spl (spl (repC (zc PZ 38) 2) 0 O.toList) 363 U.toList) 38,.no,.no,.sl .own 0 (#[]:QA) 53],[15]⟩:St)
def Zfy:QA×Nat×QA->LS
 |(L,A,J)=>([.a (.l 29)],[.row L 38,.sl .own A J 53])
def sC:QA×Nat×QA->QP×LS
 |t=>((.exit 0),Zfy t)
def Zir(P:QD)(a0 U:QA)(V Z a5:Int)(g_e0 g_e1 g_e2 g_e3 g_e4:QR)(b_a4:QO)(O:Nat)(a4:QA):QA×Nat×QA->Option (Stp (QA×Nat×QA) (QA×Nat×QA))
 |(A,J,L)=>bif decide ((J:Int)<a5) then (bif (!(Uag A U)) then (bif (vf A O a4&&(okS U&&(Zag A U&&(Zab (num (#[.int .i64 V,.int .i64 Z,.slice none 0 0]:QA) 0) A&&Zaa (num (#[.int .i64 V,.int .i64 Z,.slice none 0 0]:QA) 1) 0 1)))) then (bif (!((bst PZ A U (num (#[.int .i64 V,.int .i64 Z,.slice none 0 0]:QA) 0) (num (#[.int .i64 V,.int .i64 Z,.slice none 0 0]:QA) 1) a4 O (dfT A U 2).length).2.2.2)) then (some (.done (A,J,L))) else (bif (Zb0 A U (bst PZ A U (num (#[.int .i64 V,.int .i64 Z,.slice none 0 0]:QA) 0) (num (#[.int .i64 V,.int .i64 Z,.slice none 0 0]:QA) 1) a4 O (dfT A U 2).length).1) then (bif (jA ((J+1)*bytesOf PZ 53) 140737488355328) then (some (.more ((Zar A U (bst PZ A U (num (#[.int .i64 V,.int .i64 Z,.slice none 0 0]:QA) 0) (num (#[.int .i64 V,.int .i64 Z,.slice none 0 0]:QA) 1) a4 O (dfT A U 2).length).1),(J+1),(L++(spl (#[.int .i8 0,.int .i8 0]:QA) 0 (bst PZ A U (num (#[.int .i64 V,.int .i64 Z,.slice none 0 0]:QA) 0) (num (#[.int .i64 V,.int .i64 Z,.slice none 0 0]:QA) 1) a4 O (dfT A U 2).length).1.toList))))) else (none)) else (none))) else (none)) else (some (.done (A,J,L)))) else (some (.done (A,J,L)))
theorem Zzr(N:Nat)(a0 a1:QA)(a2 a3 a5:Int)(A J L O U:QR)(V:QO)(Z:Nat)(a4:QA):∀t:QA×Nat×QA,Ubi PZ dG N (cAt ao [1,1,1,1,0,0,0]) (pAt (Uaa ao [([],[6,1000017,53])]).1 [1,1,1,1,0,0]) [] [6] 17 53 29 (Zec a0 a1 a2 a3 a5 A J L O U V Z a4) (Zfy t)=aa Zfy sC (Zir PZ a0 a1 a2 a3 a5 A J L O U V Z a4 t):=by
 rintro⟨b9,b5,b7⟩
 conv=>rhs;simp only[Zir,aM,aJ,aK,aL,Zfy,sC]
 kernel_rfl
def sD(P:QD)(N:Nat)(a0 a1:QA)(a2 a3 a5:Int)(O U V Z b5:QR)(b7:QO)(b9:Nat)(a4:QA)(L:QA)(A:Nat)(J:QA):Option (SV×Eff×Bool):=some (.t [.g L 38,.x,.i .i64 0],.newS (some 1) A J 53,true)
theorem EO(N:Nat)(a0 a1:QA)(a2 a3 a5:Int)(O U V Z b5:QR)(b7:QO)(b9:Nat)(a4:QA)(L:QA)(A:Nat)(J:QA):(Uac 0 (kSeq (veC PZ dG N (cAt ao [1,1,1,1,1]) (pAt (Uaa ao [([],[6,1000017,53])]).1 [1,1,1,1,1]) (SV×Eff×Bool)) (finK PZ [.gl 0 185 O 101973,.gl 1 185 U 93330,.gl 3 185 V 124718,.gl 2 185 Z 112315,.gl 4 185 b5 94254,.sl (.came b7) b9 a4 69] [.cell 12 38,.tmp 13,.tmp 14]))) (.exit 0) (left (writes (cAt ao [1,1,1,1,0,0,0])) [17] [6,29] (Zec a0 a1 a2 a3 a5 O U V Z b5 b7 b9 a4) ([.a (.l 29)],[.row L 38,.sl .own A J 53]))=sD PZ N a0 a1 a2 a3 a5 O U V Z b5 b7 b9 a4 L A J:=by kernel_rfl
theorem EP(N:Nat)(a0 a1:QA)(a2 a3 a5:Int)(A J L O U:QR)(V:QO)(Z:Nat)(a4:QA):au (Uab (Ubi PZ dG N (cAt ao [1,1,1,1,0,0,0]) (pAt (Uaa ao [([],[6,1000017,53])]).1 [1,1,1,1,0,0]) [] [6] 17 53 29 (Zec a0 a1 a2 a3 a5 A J L O U V Z a4)) N ([.a (.l 29)],[.row a0 38,.sl .own 0 (#[]:QA) 53])) (λe s=>(Uac 0 (kSeq (veC PZ dG N (cAt ao [1,1,1,1,1]) (pAt (Uaa ao [([],[6,1000017,53])]).1 [1,1,1,1,1]) (SV×Eff×Bool)) (finK PZ [.gl 0 185 A 101973,.gl 1 185 J 93330,.gl 3 185 L 124718,.gl 2 185 O 112315,.gl 4 185 U 94254,.sl (.came V) Z a4 69] [.cell 12 38,.tmp 13,.tmp 14]))) e (left (writes (cAt ao [1,1,1,1,0,0,0])) [17] [6,29] (Zec a0 a1 a2 a3 a5 A J L O U V Z a4) s))=Uah (Uab (Zir PZ a0 a1 a2 a3 a5 A J L O U V Z a4) N (a0,0,(#[]:QA))) (λx=>sD PZ N a0 a1 a2 a3 a5 A J L O U V Z a4 x.1 x.2.1 x.2.2):=by refine aP Zfy sC _ _ (Zzr N a0 a1 a2 a3 a5 A J L O U V Z a4) N (a0,0,(#[]:QA)) _ _ ?_;intro x;exact EO N a0 a1 a2 a3 a5 A J L O U V Z a4 x.1 x.2.1 x.2.2
theorem Zrz(N:Nat)(a0 a1:QA)(a2 a3 a5:Int)(J L O U V:QR)(Z:QO)(A:Nat)(a4:QA):ansV PZ dG N f29 [([],[6,1000017,53])] [.g a0 38,.g a1 38,.i .i64 a2,.i .i64 a3,.l 5,.i .i64 a5] [.gl 0 185 J 101973,.gl 1 185 L 93330,.gl 3 185 O 124718,.gl 2 185 U 112315,.gl 4 185 V 94254,.sl (.came Z) A a4 69]=(bif decide (a5>=(0:Int)) then (bif (jA 1 2&&jA 2 8) then (bif ((Ubt 2 (spl (spl (repC (zc PZ 38) 2) 0 a0.toList) 363 a1.toList) A a4 (num (#[.int .i64 a2,.int .i64 a3,.slice none 0 0]:QA) 0) (num (#[.int .i64 a2,.int .i64 a3,.slice none 0 0]:QA) 1) (decide (a5<=(20:Int)))) != (0:Int)) then (some (.t [.g (zc PZ 38) 38,.v (.slice none 0 0),.i .i64 (Ubt 2 (spl (spl (repC (zc PZ 38) 2) 0 a0.toList) 363 a1.toList) A a4 (num (#[.int .i64 a2,.int .i64 a3,.slice none 0 0]:QA) 0) (num (#[.int .i64 a2,.int .i64 a3,.slice none 0 0]:QA) 1) (decide (a5<=(20:Int))))],.none,true)) else (Uah (Uab (Zb2 PZ a0 a1 a2 a3 a5 J L O U V Z A a4) N (a0,0,(#[]:QA))) (λx=>sB PZ N a0 a1 a2 a3 a5 J L O U V Z A a4 x.1 x.2.1 x.2.2))) else (none)) else (bif (jA 1 2&&jA 2 8) then (bif ((Ubt 2 (spl (spl (repC (zc PZ 38) 2) 0 a0.toList) 363 a1.toList) A a4 (num (#[.int .i64 a2,.int .i64 a3,.slice none 0 0]:QA) 0) (num (#[.int .i64 a2,.int .i64 a3,.slice none 0 0]:QA) 1) false) != (0:Int)) then (some (.t [.g (zc PZ 38) 38,.v (.slice none 0 0),.i .i64 (Ubt 2 (spl (spl (repC (zc PZ 38) 2) 0 a0.toList) 363 a1.toList) A a4 (num (#[.int .i64 a2,.int .i64 a3,.slice none 0 0]:QA) 0) (num (#[.int .i64 a2,.int .i64 a3,.slice none 0 0]:QA) 1) false)],.none,true)) else (Uah (Uab (Zir PZ a0 a1 a2 a3 a5 J L O U V Z A a4) N (a0,0,(#[]:QA))) (λx=>sD PZ N a0 a1 a2 a3 a5 J L O U V Z A a4 x.1 x.2.1 x.2.2))) else (none))):=by
 conv=>rhs;simp only[<- EN N a0 a1 a2 a3 a5 J L O U V Z A a4,<- EP N a0 a1 a2 a3 a5 J L O U V Z A a4]
 kernel_rfl
theorem Zyi(V Z:QA)(J L O:Int)(b5 b7 b9 c7 c8:QR)(c9:QO)(A:Nat)(U:QA)(d7:WT PZ 38 V)(d8:WT PZ 38 Z)(h_a2:i64.min<=J/\J<=i64.max)(h_a3:i64.min<=L/\L<=i64.max)(h_a5:i64.min<=O/\O<=i64.max)(h_a4:U.size=A*(lay PZ 69).length/\(∀k,k<A->WT PZ 69 (U.extract (k*(lay PZ 69).length) (k*(lay PZ 69).length+(lay PZ 69).length)))/\A<=9223372036854775807)(hc0:(((Uax V Z A U J L (Zaa O (0:Int) (20:Int)))==(0:Int)))=false)(hg:(true)=true):ansV PZ dG 1000 f29 [([],[6,1000017,53])] [.g V 38,.g Z 38,.i .i64 J,.i .i64 L,.l 5,.i .i64 O] [.gl 0 185 b5 101973,.gl 1 185 b7 93330,.gl 3 185 b9 124718,.gl 2 185 c7 112315,.gl 4 185 c8 94254,.sl (.came c9) A U 69]=some (.t [.g (zc PZ 38) 38,.v (.slice none 0 0),.i .i64 (Uax V Z A U J L (Zaa O (0:Int) (20:Int)))],.none,true):=by
 obtain⟨n0,n1⟩:=dz J L;have hw:∀f,Ubt 2 (spl (spl (repC (zc PZ 38) 2) 0 V.toList) 363 Z.toList) A U J L f=Uax V Z A U J L f:=λf=>xj (Zlk d7) (Zlk d8) A U J L f
 have b2:(jA 1 2&&jA 2 8)=true:=rfl;have hb:((Uax V Z A U J L (Zaa O (0:Int) (20:Int))) != (0:Int))=true:=by unfold bne;rw[hc0];rfl
 refine(Zrz 1000 V Z J L O b5 b7 b9 c7 c8 c9 A U).trans ?_;rw[n0,n1,hw,hw,b2];simp only[Q1]
 by_cases h:O>=0
 ·have e6:Zaa O (0:Int) (20:Int)=decide (O<=(20:Int)):=by
   rw[cH];exact decide_eq_decide.2 ⟨λh=>h.2,λh2=>⟨by omega,h2⟩⟩
  rw[e6]at hb|-
  rw[Q3 h,Q1,hb,Q1]
 ·have e6:Zaa O (0:Int) (20:Int)=false:=by
   rw[cH];exact Q4 (by omega)
  rw[e6]at hb|-
  rw[Q4 h,Q2,hb,Q1]
theorem Zyx(Z L:QA)(U O a5:Int)(g_e0 g_e1 g_e2 g_e3 g_e4:QR)(b_a4:QO)(J:Nat)(V:QA)(h_a0:WT PZ 38 Z)(h_a1:WT PZ 38 L)(h_a2:i64.min<=U/\U<=i64.max)(h_a3:i64.min<=O/\O<=i64.max)(h_a5:i64.min<=a5/\a5<=i64.max)(h_a4:V.size=J*(lay PZ 69).length/\(∀k,k<J->WT PZ 69 (V.extract (k*(lay PZ 69).length) (k*(lay PZ 69).length+(lay PZ 69).length)))/\J<=9223372036854775807)(hc0:(((Uax Z L J V U O (Zaa a5 (0:Int) (20:Int)))==(0:Int)))=true)(hg:(true)=true):ansV PZ dG 1000 f29 [([],[6,1000017,53])] [.g Z 38,.g L 38,.i .i64 U,.i .i64 O,.l 5,.i .i64 a5] [.gl 0 185 g_e0 101973,.gl 1 185 g_e1 93330,.gl 3 185 g_e2 124718,.gl 2 185 g_e3 112315,.gl 4 185 g_e4 94254,.sl (.came b_a4) J V 69]=some (.t [.g (rmS PZ Z L U O V J (rmJ PZ Z L U O V J a5.toNat)).1 38,.x,.i .i64 0],.newS (some 1) (rmJ PZ Z L U O V J a5.toNat) (rmS PZ Z L U O V J (rmJ PZ Z L U O V J a5.toNat)).2 53,true):=by
 obtain⟨n0,n1⟩:=dz U O;have hw:∀f,Ubt 2 (spl (spl (repC (zc PZ 38) 2) 0 Z.toList) 363 L.toList) J V U O f=Uax Z L J V U O f:=λf=>xj (Zlk h_a0) (Zlk h_a1) J V U O f
 have b2:(jA 1 2&&jA 2 8)=true:=rfl;have hb:((Uax Z L J V U O (Zaa a5 (0:Int) (20:Int))) != (0:Int))=false:=by unfold bne;rw[hc0];rfl
 obtain⟨v1,v2,al,i1,_,t0,hin,_⟩:=rQ hb;have hC:=Zlk h_a1;have oC:=(Ufy v2).1;have hI:cR L V J U Z:=⟨Zlk h_a0,v1,al,i1⟩;have h5:=Zik hin;have hloop:Uab (Zb2 PZ Z L U O a5 g_e0 g_e1 g_e2 g_e3 g_e4 b_a4 J V) 1000 (Z,0,(#[]:QA))=some ((rmS PZ Z L U O V J (rmJ PZ Z L U O V J a5.toNat)).1,(rmJ PZ Z L U O V J a5.toNat),(rmS PZ Z L U O V J (rmJ PZ Z L U O V J a5.toNat)).2):=by
  have h:=iC (g:=Zb2 PZ Z L U O a5 g_e0 g_e1 g_e2 g_e3 g_e4 b_a4 J V) (λk=>((rmS PZ Z L U O V J k).1,k,(rmS PZ Z L U O V J k).2)) (rmP PZ Z L U O V J) a5.toNat (N:=1000) (xd:=((rmS PZ Z L U O V J a5.toNat).1,a5.toNat,(rmS PZ Z L U O V J a5.toNat).2)) (by omega) (λk=>((rmS PZ Z L U O V J k).1,k,(rmS PZ Z L U O V J k).2)) (λk hk hp=>by
   have g1:decide ((k:Int)<a5)=true:=Q3 (by omega);obtain⟨_,w1,w2,w3⟩:=Zz8 (b:=O) hC oC hI k;have hp':(!(bst PZ (rmS PZ Z L U O V J k).1 L U O V J (dfT (rmS PZ Z L U O V J k).1 L 2).length).2.2.2)=false:=hp;obtain⟨_,w4,w5⟩:=Ysu (b:=O) hC oC (Zz8 (b:=O) hC oC hI k);have w4':(λX A C=>Zb0 A C X) (bst PZ (rmS PZ Z L U O V J k).1 L U O V J (dfT (rmS PZ Z L U O V J k).1 L 2).length).1 (rmS PZ Z L U O V J k).1 L=true:=w4;have hr:=oM (n:=k+1) (by omega);have hs:spl (#[.int .i8 0,.int .i8 0]:QA) 0 (bst PZ (rmS PZ Z L U O V J k).1 L U O V J (dfT (rmS PZ Z L U O V J k).1 L 2).length).1.toList=(bst PZ (rmS PZ Z L U O V J k).1 L U O V J (dfT (rmS PZ Z L U O V J k).1 L 2).length).1:=lU w5;have hsm:Uag (rmS PZ Z L U O V J k).1 L=false:=by cases hs:Uag (rmS PZ Z L U O V J k).1 L with|false=>rfl|true=>exfalso;have e:=bT.1 hs;have h2:=dF L U O V J;unfold rmP at hp;rw[e,h2]at hp;cases hp
   simp only[Zb2,g1,hsm,n0,n1,w1,oC,w2,w3,t0,hp',w4',hr,hs,jC,jB,Q1,Q2];rfl) (λk hk hp=>by
   have g1:decide ((k:Int)<a5)=true:=Q3 (by omega);obtain⟨_,w1,w2,w3⟩:=Zz8 (b:=O) hC oC hI k;have hp':(!(bst PZ (rmS PZ Z L U O V J k).1 L U O V J (dfT (rmS PZ Z L U O V J k).1 L 2).length).2.2.2)=true:=hp;cases hs:Uag (rmS PZ Z L U O V J k).1 L with
   |true=>simp only[Zb2,g1,hs,jD,Q1,Q2]
   |false=>simp only[Zb2,g1,hs,n0,n1,w1,oC,w2,w3,t0,hp',jC,jB,Q1]) (by
   have g1:decide (((a5.toNat:Nat):Int)<a5)=false:=Q4 (by omega);simp only[Zb2,g1,Q2])
  refine h.trans ?_;unfold rmJ;cases (List.range a5.toNat).find? (rmP PZ Z L U O V J)<;>rfl
 have e5:decide (a5>=(0:Int))=true:=Q3 (by omega);have e6:Zaa a5 (0:Int) (20:Int)=decide (a5<=(20:Int)):=by rw[cH];exact decide_eq_decide.2 ⟨λh=>h.2,λh=>⟨by omega,h⟩⟩
 rw[e6]at hb;refine(Zrz 1000 Z L U O a5 g_e0 g_e1 g_e2 g_e3 g_e4 b_a4 J V).trans ?_;rw[n0,n1,hw,hw,e5,b2];simp only[Q1];rw[hb,Q2,hloop];rfl
def Zip:bk:=λargs h=>match args,h with|[.g a0 38,.g a1 38,.i .i64 a2,.i .i64 a3,.l 5,.i .i64 a5],[.gl 0 185 g_e0 101973,.gl 1 185 g_e1 93330,.gl 3 185 g_e2 124718,.gl 2 185 g_e3 112315,.gl 4 185 g_e4 94254,.sl (.came b_a4) n_a4 a4 69]=>.two (((Uax a0 a1 n_a4 a4 a2 a3 (Zaa a5 (0:Int) (20:Int)))==(0:Int))) (.one (some (.t [.g (rmS PZ a0 a1 a2 a3 a4 n_a4 (rmJ PZ a0 a1 a2 a3 a4 n_a4 a5.toNat)).1 38,.x,.i .i64 0],.newS (some 1) (rmJ PZ a0 a1 a2 a3 a4 n_a4 a5.toNat) (rmS PZ a0 a1 a2 a3 a4 n_a4 (rmJ PZ a0 a1 a2 a3 a4 n_a4 a5.toNat)).2 53,true))) (.one (some (.t [.g (zc PZ 38) 38,.x,.i .i64 (Uax a0 a1 n_a4 a4 a2 a3 (Zaa a5 (0:Int) (20:Int)))],.newS (some 1) 0 (#[]:QA) 53,true)))|_,_=>.one none
theorem EQ:EntX PZ 29:=Zaj (fn:=f29)
theorem ER:Uad (md F) PZ 29 (λargs h=>Uak (Zip args h)):=by
 intro ρ h w args vals r e hn A J hH;dsimp only at A;unfold Zip at A;split at A
 ·rename_i a0 a1 a2 a3 a5 U V Z b5 b7 b9 L a4;simp only[Uak]at A;cases O:(((Uax a0 a1 L a4 a2 a3 (Zaa a5 (0:Int) (20:Int)))==(0:Int)))
  ·rw[O]at A;simp only[Uak,Q1,Q2]at A;obtain⟨rfl,rfl,c7⟩:=ai A;exact(Uad.nil (ansY (N:=1000) (mKc (Zlj wR) wQ (mKc (Zae xu) xt (mKc (Zae sd) sa mKn))) f29 [([],[6,1000017,53])]) 1 53) ρ _ w _ vals _ _ hn (congrArg (nilN 1 53) (Zyi a0 a1 a2 a3 a5 U V Z b5 b7 b9 L a4 (J.wt 0 rfl) (J.wt 1 rfl) (J.rng 2 rfl) (J.rng 3 rfl) (J.rng 5 rfl) (hH.slw 5 rfl) O c7)) J hH
  ·rw[O]at A;simp only[Uak,Q1,Q2]at A;obtain⟨rfl,rfl,c7⟩:=ai A;exact((ansY (N:=1000) (mKc (Zlj wR) wQ (mKc (Zae xu) xt (mKc (Zae sd) sa mKn))) f29 [([],[6,1000017,53])])) ρ _ w _ vals _ _ hn ((Zyx a0 a1 a2 a3 a5 U V Z b5 b7 b9 L a4 (J.wt 0 rfl) (J.wt 1 rfl) (J.rng 2 rfl) (J.rng 3 rfl) (J.rng 5 rfl) (hH.slw 5 rfl) O c7)) J hH
 ·simp only[Uak]at A;cases A
def sE:af:=λargs h=>match args,h with|[.g a0 38,.g a1 38,.i .i64 a2,.i .i64 a3,.l 5,.i .i64 a5],[.gl 0 185 g_e0 101973,.gl 1 185 g_e1 93330,.gl 3 185 g_e2 124718,.gl 2 185 g_e3 112315,.gl 4 185 g_e4 94254,.sl (.came b_a4) n_a4 a4 69]=>some (.t [.g (rpA PZ a0 a1 a2 a3 a4 n_a4 a5) 38,.x,.i .i64 (Uax a0 a1 n_a4 a4 a2 a3 (Zaa a5 (0:Int) (20:Int)))],.newS (some 1) (rpN PZ a0 a1 a2 a3 a4 n_a4 a5) (rpL PZ a0 a1 a2 a3 a4 n_a4 a5) 53,true)|_,_=>none
theorem ES:Uad (md F) PZ 29 sE:=Uad.of ER (by
 intro ρ h w args vals r e hA hH J;unfold sE at J;split at J
 ·rename_i a0 a1 a2 a3 a5 L O U V Z b5 A a4;obtain⟨rfl,rfl,hg2⟩:=ai J
  show Uak (Zip _ _)=_
  unfold Zip;simp only[Uak];unfold rpA rpN rpL;cases hz:((Uax a0 a1 A a4 a2 a3 (Zaa a5 (0:Int) (20:Int)))==(0:Int)) with|false=>rfl|true=>have e:=beq_iff_eq.1 hz;rw[e];rfl
 ·cases J)
end
noncomputable section
variable {F:Vc.Fd}
def mk8(n:Nat)(k:Int):QA:=⟨(List.range n).map λi:Nat=>.int .i8 (IntKind.i8.wrap (k+(i:Int)))⟩
theorem Yi7(n:Nat)(k:Int):(mk8 n k).size=n:=by simp[mk8]
theorem Yqq{n:Nat}{k:Int}{i:Nat}(h:i<n):(mk8 n k)[i]?=some (.int .i8 (IntKind.i8.wrap (k+(i:Int)))):=by unfold mk8;simp[h]
theorem Ye8(N:Nat)(A J:QA):ansV PZ (mkΓ []) N f40 [] [.g A 69,.g J 69] []=(bif ((num A 0) != (num J 0)) then (some (.a (.b false),.none,true)) else (bif ((num A 1) != (num J 1)) then (some (.a (.b false),.none,true)) else (some (.a (.b true),.none,true)))):=by kernel_rfl
theorem ET(L O:QA)(A:WT PZ 69 L)(J:WT PZ 69 O)(hg:(true)=true):ansV PZ (mkΓ []) 1000 f40 [] [.g L 69,.g O 69] []=some (.a (.b (Uag L O)),.none,true):=by
 have hz:L.size=2:=by rw[A.layLen];kernel_rfl
 have hy:O.size=2:=by rw[J.layLen];kernel_rfl
 refine(Ye8 1000 L O).trans ?_;cases V:Uag L O
 ·have U:=wn.1 V;cases h0:(num L 0 != num O 0)
  ·skip
   cases Z:(num L 1 != num O 1)
   ·skip
    exfalso;refine U (Zie λi=> ?_)
    by_cases c0:i=0
    ·subst c0;rw[(A.int (k:=.i8) (o:=0) (by kernel_rfl)).1,(J.int (k:=.i8) (o:=0) (by kernel_rfl)).1,lp h0]
    by_cases c1:i=1
    ·subst c1;rw[(A.int (k:=.i8) (o:=1) (by kernel_rfl)).1,(J.int (k:=.i8) (o:=1) (by kernel_rfl)).1,lp Z]
    rw[jH (by omega),jH (by omega)]
   ·rfl
  ·rfl
 ·rw[bT.1 V];simp only[bne_self_eq_false,Q2,fq,jD]
def fR:af:=λargs h=>match args,h with|[.g a0 69,.g a1 69],[]=>some (.a (.b (Uag a0 a1)),.none,true)|_,_=>none
theorem EU:EntX PZ 40:=Zaj (fn:=f40)
theorem EV:Uad (md F) PZ 40 fR:=(ansY (N:=1000) mKn f40 []).of (by
 intro ρ h w args vals r e L V A;unfold fR at A;split at A
 ·rename_i O U;obtain⟨rfl,rfl,J⟩:=ai A;exact ET O U (L.wt 0 rfl) (L.wt 1 rfl) J
 ·cases A)
def Zf6(L:QO)(A:Nat)(U:QA)(O:QO)(J:Nat)(V:QA):St:=(⟨.a (.l 0)::.a (.l 1)::.a (.u)::.a (.u)::.a (.b false)::.a (.i .i64 0)::.a (.l 0)::.a (.i .i64 (A:Int))::.a (.l 1)::.a (.i .i64 (J:Int))::.a (.b (((A:Int) != (J:Int))))::us 16 ([]),[.sl (.came L) A U 69,.sl (.came O) J V 69],[]⟩:St)
def Zhs:Bool×Int->LS
 |(A,J)=>([.a (.b A),.a (.i .i64 J)],[])
def sF:(Stp (Bool×Int) (Bool×Int))->QP×LS
 |.more t=>(.ret,Zhs t)
 |.done t=>((.exit 0),Zhs t)
def Zen(P:QD)(U:QO)(J:Nat)(Z:QA)(V:QO)(O:Nat)(a1:QA):Bool×Int->Option (Stp (Bool×Int) (Stp (Bool×Int) (Bool×Int)))
 |(L,A)=>bif decide (A<(J:Int)) then (bif (decide (0<=A)&&decide (A<(J:Int))) then (bif (decide (0<=A)&&decide (A<(O:Int))) then (bif (!(Uag (Z.extract ((A).toNat*2) (((A).toNat*2)+2)) (a1.extract ((A).toNat*2) (((A).toNat*2)+2)))) then (some (.done (.more (false,A)))) else (some (.more (L,(i64.wrap (A+(1:Int))))))) else (none)) else (none)) else (some (.done (.done (L,A))))
noncomputable abbrev az:=codeOf f15
theorem Yla(N:Nat)(A:QO)(J:Nat)(U:QA)(L:QO)(O:Nat)(V:QA):∀t:Bool×Int,Uaf PZ (mkΓ [(40,con fR)]) N (cAt az [1,1,0,1,0,0]) (pAt (Uaa az [([4,5],[])]).1 [1,1,0,1,0]) [4,5] [] (Zf6 A J U L O V) (Zhs t)=aa Zhs sF (Zen PZ A J U L O V t):=by
 rintro⟨Z,b5⟩
 conv=>rhs;simp only[Zen,aM,aJ,aK,aL,Zhs,sF]
 kernel_rfl
def sG(P:QD)(N:Nat)(J:QO)(L:Nat)(Z:QA)(O:QO)(U:Nat)(a1:QA)(A:Bool)(V:Int):Option (SV×Eff×Bool):=some (.a (.b A),.none,true)
theorem EW(N:Nat)(A:QO)(J:Nat)(Z:QA)(L:QO)(O:Nat)(a1:QA)(U:Bool)(V:Int):(Uac 0 (kSeq (veC PZ (mkΓ [(40,con fR)]) N (cAt az [1,1,1]) (pAt (Uaa az [([4,5],[])]).1 [1,1,1]) (SV×Eff×Bool)) (finK PZ [.sl (.came A) J Z 69,.sl (.came L) O a1 69] [.tmp 4]))) .ret (left (writes (cAt az [1,1,0,1,0,0])) [4,5] [] (Zf6 A J Z L O a1) ([.a (.b U),.a (.i .i64 V)],[]))=sG PZ N A J Z L O a1 U V:=by kernel_rfl
def sH(P:QD)(N:Nat)(A:QO)(J:Nat)(Z:QA)(L:QO)(O:Nat)(a1:QA)(U:Bool)(V:Int):Option (SV×Eff×Bool):=some (.a (.b true),.none,true)
theorem EX(N:Nat)(A:QO)(J:Nat)(Z:QA)(L:QO)(O:Nat)(a1:QA)(U:Bool)(V:Int):(Uac 0 (kSeq (veC PZ (mkΓ [(40,con fR)]) N (cAt az [1,1,1]) (pAt (Uaa az [([4,5],[])]).1 [1,1,1]) (SV×Eff×Bool)) (finK PZ [.sl (.came A) J Z 69,.sl (.came L) O a1 69] [.tmp 4]))) (.exit 0) (left (writes (cAt az [1,1,0,1,0,0])) [4,5] [] (Zf6 A J Z L O a1) ([.a (.b U),.a (.i .i64 V)],[]))=sH PZ N A J Z L O a1 U V:=by kernel_rfl
theorem EY(N:Nat)(A:QO)(J:Nat)(U:QA)(L:QO)(O:Nat)(V:QA):au (Uab (Uaf PZ (mkΓ [(40,con fR)]) N (cAt az [1,1,0,1,0,0]) (pAt (Uaa az [([4,5],[])]).1 [1,1,0,1,0]) [4,5] [] (Zf6 A J U L O V)) N ([.a (.b false),.a (.i .i64 0)],[])) (λe s=>(Uac 0 (kSeq (veC PZ (mkΓ [(40,con fR)]) N (cAt az [1,1,1]) (pAt (Uaa az [([4,5],[])]).1 [1,1,1]) (SV×Eff×Bool)) (finK PZ [.sl (.came A) J U 69,.sl (.came L) O V 69] [.tmp 4]))) e (left (writes (cAt az [1,1,0,1,0,0])) [4,5] [] (Zf6 A J U L O V) s))=Uah (Uab (Zen PZ A J U L O V) N (false,(0:Int))) (st2 (λx=>sG PZ N A J U L O V x.1 x.2) (λx=>sH PZ N A J U L O V x.1 x.2)):=by refine aP Zhs sF _ _ (Yla N A J U L O V) N (false,(0:Int)) _ _ ?_;intro x;cases x with|more x=>exact EW N A J U L O V x.1 x.2|done x=>exact EX N A J U L O V x.1 x.2
theorem Yiz(N:Nat)(L:QO)(A:Nat)(U:QA)(O:QO)(J:Nat)(V:QA):ansV PZ (mkΓ [(40,con fR)]) N f15 [([4,5],[])] [.l 0,.l 1] [.sl (.came L) A U 69,.sl (.came O) J V 69]=(bif ((A:Int) != (J:Int)) then (some (.a (.b false),.none,true)) else (Uah (Uab (Zen PZ L A U O J V) N (false,(0:Int))) (st2 (λx=>sG PZ N L A U O J V x.1 x.2) (λx=>sH PZ N L A U O J V x.1 x.2)))):=by
 conv=>rhs;simp only[<- EY N L A U O J V]
 kernel_rfl
theorem EZ(U:QO)(A:Nat)(L:QA)(V:QO)(J:Nat)(O:QA)(b5:L.size=A*(lay PZ 69).length/\(∀k,k<A->WT PZ 69 (L.extract (k*(lay PZ 69).length) (k*(lay PZ 69).length+(lay PZ 69).length)))/\A<=9223372036854775807)(b7:O.size=J*(lay PZ 69).length/\(∀k,k<J->WT PZ 69 (O.extract (k*(lay PZ 69).length) (k*(lay PZ 69).length+(lay PZ 69).length)))/\J<=9223372036854775807)(hg:(true)=true):ansV PZ (mkΓ [(40,con fR)]) 18446744073709551616 f15 [([4,5],[])] [.l 0,.l 1] [.sl (.came U) A L 69,.sl (.came V) J O 69]=some (.a (.b ((decide (A=J)&&Uag L O))),.none,true):=by
 have hm:(lay PZ 69).length=2:=by kernel_rfl
 obtain⟨s1,s2,s3⟩:=b5;obtain⟨t1,t2,t3⟩:=b7;rw[hm]at s1 s2 t1 t2;have hq:(lay PZ 69)[0]?=some 0:=by kernel_rfl
 refine(Yiz 18446744073709551616 U A L V J O).trans ?_
 by_cases hl:A=J
 case neg=>
  rw[Q4 hl,show ((A:Int) != (J:Int))=true from bne_iff_ne.2 (by omega)];rfl
 subst hl;rw[Q3 rfl,show ((A:Int) != (A:Int))=false from bne_self_eq_false _];simp only[Q2,Bool.true_and];have hb:Uag L O=true ↔ ∀k,k<A->(λk=>Uag (L.extract (k*2) (k*2+2)) (O.extract (k*2) (k*2+2))) k=true:=by
  constructor
  ·intro h k hk;rw[bT.1 h];exact fq _
  ·intro h;refine bT.2 ?_;exact lS (n:=A) (m:=2) (by omega) s1 t1 (λk hk=>bT.1 (h k hk))
 refine(Zn9 (g:=Zen PZ U A L V A O) (λk=>(false,(k:Int))) (λk=>Uag (L.extract (k*2) (k*2+2)) (O.extract (k*2) (k*2+2))) A (N:=18446744073709551616) (xd:=.done (false,(A:Int))) (by omega) (λk hk hp=>by
  have h1:decide ((k:Int)<(A:Int))=true:=Q3 (by omega);have h0:decide (0<=(k:Int))=true:=Q3 (by omega);have h3:i64.wrap ((k:Int)+1)=((k+1:Nat):Int):=by rw[IntWalk.i64_in _ (by omega)];omega
  have Z:Uag (L.extract (k*2) (k*2+2)) (O.extract (k*2) (k*2+2))=true:=hp;simp only[Zen,h1,h0,jB,Q9,Q1,h3,Z,jD,Q2]) (by
  have h1:decide ((A:Int)<(A:Int))=false:=Q4 (by omega);simp only[Zen,h1,Q2]) (Uag L O) hb (some (.a (.b true),.none,true)) (some (.a (.b false),.none,true)) rfl (λk hk hp=>by
  refine⟨.more (false,(k:Int)),?_,rfl⟩;have h1:decide ((k:Int)<(A:Int))=true:=Q3 (by omega);have h0:decide (0<=(k:Int))=true:=Q3 (by omega);have Z:Uag (L.extract (k*2) (k*2+2)) (O.extract (k*2) (k*2+2))=false:=hp;simp only[Zen,h1,h0,jB,Q9,Q1,Z,jC])).trans ?_
 cases Uag L O<;>rfl
def sI:af:=λargs h=>match args,h with|[.l 0,.l 1],[.sl (.came b_a0) n_a0 a0 69,.sl (.came b_a1) n_a1 a1 69]=>some (.a (.b ((decide (n_a0=n_a1)&&Uag a0 a1))),.none,true)|_,_=>none
theorem Fa:EntX PZ 15:=Zaj (fn:=f15)
theorem Fb:Uad (md F) PZ 15 sI:=(ansY (N:=18446744073709551616) (mKc (Zae EV) EU mKn) f15 [([4,5],[])]).of (by
 intro ρ h w args vals r e hA Z U;unfold sI at U;split at U
 ·rename_i A J a0 L O a1;obtain⟨rfl,rfl,V⟩:=ai U;exact EZ A J a0 L O a1 (Z.slw 0 rfl) (Z.slw 1 rfl) V
 ·cases U)
def Zfs(J:Int)(A:Nat)(L:QA):St:=(⟨.a (.l 0)::.a (.i .i64 J)::.a (.u)::.a (.u)::.a (.i .i64 0)::.a (.i .i64 0)::us 23 ([]),[.sl .lent A L 69],[]⟩:St)
def Zhj(A:Nat):Int×Int×QA->LS
 |(J,L,O)=>([.a (.i .i64 J),.a (.i .i64 L)],[.sl .lent A O 69])
def Znp(A:Nat):Int×Int×QA->QP×LS
 |t=>((.exit 0),(Zhj A) t)
def Zde(P:QD)(U:Int)(L:Nat)(V:QA):Int×Int×QA->Option (Stp (Int×Int×QA) (Int×Int×QA))
 |(J,A,O)=>bif decide (A<(L:Int)) then (bif (decide (0<=A)&&decide (A<(L:Int))) then (bif (decide (0<=A)&&decide (A<(L:Int))) then (some (.more ((i64.wrap ((i64.wrap (J+(1:Int)))+(1:Int))),(i64.wrap (A+(1:Int))),((O.setIfInBounds (((A).toNat*2)+0) (.int .i8 (IntKind.i8.wrap J))).setIfInBounds (((A).toNat*2)+1) (.int .i8 (IntKind.i8.wrap (i64.wrap (J+(1:Int))))))))) else (none)) else (none)) else (some (.done (J,A,O)))
noncomputable abbrev bf:=codeOf f16
theorem Yel(N:Nat)(J:Int)(A:Nat)(L:QA):∀t:Int×Int×QA,Uaf PZ (mkΓ []) N (cAt bf [1,0,1,0,0]) (pAt (Uaa bf [([1,5],[0])]).1 [1,0,1,0]) [1,5] [0] (Zfs J A L) ((Zhj A) t)=aa (Zhj A) (Znp A) (Zde PZ J A L t):=by
 rintro⟨O,U,V⟩
 conv=>rhs;simp only[Zde,aM,aJ,aK,aL,Zhj,Znp]
 kernel_rfl
def oP(P:QD)(N:Nat)(U:Int)(A:Nat)(V:QA)(J:Int)(O:Int)(L:QA):Option (SV×Eff×Bool):=bif (Nat.blt 0 A) then (some (.a (.i .i64 J),.set 0 (.sl .lent A L 69),true)) else (none)
theorem Fe(N:Nat)(V:Int)(A:Nat)(U:QA)(J:Int)(L:Int)(O:QA):(Uac 0 (kSeq (veC PZ (mkΓ []) N (cAt bf [1,1]) (pAt (Uaa bf [([1,5],[0])]).1 [1,1]) (SV×Eff×Bool)) (finK PZ [.sl .lent A U 69] [.tmp 4]))) (.exit 0) (left (writes (cAt bf [1,0,1,0,0])) [1,5] [0] (Zfs V A U) ([.a (.i .i64 J),.a (.i .i64 L)],[.sl .lent A O 69]))=oP PZ N V A U J L O:=by kernel_rfl
theorem Ff(N:Nat)(L:Int)(A:Nat)(J:QA):au (Uab (Uaf PZ (mkΓ []) N (cAt bf [1,0,1,0,0]) (pAt (Uaa bf [([1,5],[0])]).1 [1,0,1,0]) [1,5] [0] (Zfs L A J)) N ([.a (.i .i64 L),.a (.i .i64 0)],[.sl .lent A J 69])) (λe s=>(Uac 0 (kSeq (veC PZ (mkΓ []) N (cAt bf [1,1]) (pAt (Uaa bf [([1,5],[0])]).1 [1,1]) (SV×Eff×Bool)) (finK PZ [.sl .lent A J 69] [.tmp 4]))) e (left (writes (cAt bf [1,0,1,0,0])) [1,5] [0] (Zfs L A J) s))=Uah (Uab (Zde PZ L A J) N (L,(0:Int),J)) (λx=>oP PZ N L A J x.1 x.2.1 x.2.2):=by refine aP (Zhj A) (Znp A) _ _ (Yel N L A J) N (L,(0:Int),J) _ _ ?_;intro x;exact Fe N L A J x.1 x.2.1 x.2.2
theorem Ya5(N:Nat)(J:Int)(A:Nat)(L:QA):ansV PZ (mkΓ []) N f16 [([1,5],[0])] [.l 0,.i .i64 J] [.sl .lent A L 69]=(Uah (Uab (Zde PZ J A L) N (J,(0:Int),L)) (λx=>oP PZ N J A L x.1 x.2.1 x.2.2)):=by
 conv=>rhs;simp only[<- Ff N J A L]
 kernel_rfl
theorem Zxs(J:Int)(A:Nat)(L:QA)(h_a1:i64.min<=J/\J<=i64.max)(O:L.size=A*(lay PZ 69).length/\(∀k,k<A->WT PZ 69 (L.extract (k*(lay PZ 69).length) (k*(lay PZ 69).length+(lay PZ 69).length)))/\A<=9223372036854775807)(U:(Nat.beq A 0)=false)(Z:(((jA A 2000000)&&(decide (0<=J)&&decide (J<=1000000))))=true):ansV PZ (mkΓ []) 18446744073709551616 f16 [([1,5],[0])] [.l 0,.i .i64 J] [.sl .lent A L 69]=some (.a (.i .i64 (J+((A*2:Nat):Int))),.set 0 (.sl .lent A (mk8 (A*2) J) 69),true):=by
 rw[Q7,Q7]at Z;have hn:A<=2000000:=jG Z.1;have hk0:0<=J/\J<=1000000:=⟨of_decide_eq_true Z.2.1,of_decide_eq_true Z.2.2⟩;have hm:(lay PZ 69).length=2:=by kernel_rfl
 obtain⟨s1,-,-⟩:=O;rw[hm]at s1;have hs:(mk8 (A*2) J).size=L.size:=by rw[Yi7,s1]
 have V:Nat.blt 0 A=true:=by
  have:A≠0:=λh=>by rw[h]at U;cases U
  simp[Nat.blt];omega
 have h:=bP (g:=Zde PZ J A L) (λi=>(J+((i*2:Nat):Int),(i:Int),upto (mk8 (A*2) J) L (i*2))) (m:=A) (x:=(J+((A*2:Nat):Int),(A:Int),upto (mk8 (A*2) J) L (A*2))) (N:=18446744073709551616) (λi hi=>by
  have h1:decide ((i:Int)<(A:Int))=true:=Q3 (by omega);have h2:decide (0<=(i:Int))=true:=Q3 (by omega);have h3:i64.wrap (J+((i*2:Nat):Int)+1)=J+((i*2+1:Nat):Int):=by rw[IntWalk.i64_in _ (by omega)];omega
  have h4:i64.wrap (J+((i*2+1:Nat):Int)+1)=J+(((i+1)*2:Nat):Int):=by rw[IntWalk.i64_in _ (by omega)];omega
  have h5:i64.wrap ((i:Int)+1)=((i+1:Nat):Int):=by rw[IntWalk.i64_in _ (by omega)];omega
  have h6:(upto (mk8 (A*2) J) L (i*2)).setIfInBounds (i*2+0) (.int .i8 (IntKind.i8.wrap (J+((i*2:Nat):Int))))=upto (mk8 (A*2) J) L (i*2+1):=iz hs (Yqq (by omega));have h7:(upto (mk8 (A*2) J) L (i*2+1)).setIfInBounds (i*2+1) (.int .i8 (IntKind.i8.wrap (J+((i*2+1:Nat):Int))))=upto (mk8 (A*2) J) L ((i+1)*2):=by rw[show (i+1)*2=i*2+1+1 by omega];exact iz hs (Yqq (by omega))
  simp only[Zde,h1,h2,h3,h4,h5,h6,h7,Q9,jB,Q1]) (by
  have h1:decide ((A:Int)<(A:Int))=false:=Q4 (by omega);simp only[Zde,h1,Q2]) (by omega)
 refine(Ya5 18446744073709551616 J A L).trans ?_;have hz:upto (mk8 (A*2) J) L 0=L:=jq hs;have hl:upto (mk8 (A*2) J) L (A*2)=mk8 (A*2) J:=jr hs (Yi7 _ _);have h0:J+(((0*2:Nat)):Int)=J:=by omega
 have h':Uab (Zde PZ J A L) 18446744073709551616 (J,(0:Int),L)=some (J+((A*2:Nat):Int),(A:Int),mk8 (A*2) J):=by
  have h2:=h;simp only[Nat.zero_mul,hz,hl]at h2;have e:J+((0:Nat):Int)=J:=by omega
  rw[e]at h2;exact h2
 rw[h'];simp only[Uah,oP,V,Q1]
theorem Zyr(J:Int)(A:Nat)(L:QA)(U:i64.min<=J/\J<=i64.max)(V:L.size=A*(lay PZ 69).length/\(∀k,k<A->WT PZ 69 (L.extract (k*(lay PZ 69).length) (k*(lay PZ 69).length+(lay PZ 69).length)))/\A<=9223372036854775807)(O:(Nat.beq A 0)=true)(Z:(true)=true):ansV PZ (mkΓ []) 1000 f16 [([1,5],[])] [.l 0,.i .i64 J] [.sl .lent A L 69]=some (.a (.i .i64 J),.none,true):=by obtain rfl:A=0:=Nat.eq_of_beq_eq_true O;kernel_rfl
def Zl6:bk:=λargs h=>match args,h with|[.l 0,.i .i64 a1],[.sl .lent n_a0 a0 69]=>.two (Nat.beq n_a0 0) (.one (some (.a (.i .i64 a1),.none,true))) (.one (some (.a (.i .i64 (a1+((n_a0*2:Nat):Int))),.set 0 (.sl .lent n_a0 (mk8 (n_a0*2) a1) 69),((jA n_a0 2000000)&&(decide (0<=a1)&&decide (a1<=1000000))))))|_,_=>.one none
theorem Fg:EntX PZ 16:=Zaj (fn:=f16)
theorem Fh:Uad (md F) PZ 16 (λargs h=>Uak (Zl6 args h)):=by
 intro ρ h w args vals r e Z A U V;dsimp only at A;unfold Zl6 at A;split at A
 ·rename_i a1 J a0;simp only[Uak]at A;cases L:(Nat.beq J 0)
  ·rw[L]at A;simp only[Uak,Q1,Q2]at A;obtain⟨rfl,rfl,O⟩:=ai A;exact((ansY (N:=18446744073709551616) mKn f16 [([1,5],[0])])) ρ _ w _ vals _ _ Z ((Zxs a1 J a0 (U.rng 1 rfl) (V.slw 0 rfl) L O)) U V
  ·rw[L]at A;simp only[Uak,Q1,Q2]at A;obtain⟨rfl,rfl,O⟩:=ai A;exact((ansY (N:=1000) mKn f16 [([1,5],[])])) ρ _ w _ vals _ _ Z ((Zyr a1 J a0 (U.rng 1 rfl) (V.slw 0 rfl) L O)) U V
 ·simp only[Uak]at A;cases A
theorem Yic(N:Nat)(L:Int)(J:QO)(A:Nat)(O:QA):ansV PZ (mkΓ []) N f9 [] [.l 0,.i .i64 L] [.sl (.came J) A O 72]=(bif decide ((i64.wrap (L - (A:Int)))<(0:Int)) then (some (.a (.i .i64 (-1:Int)),.none,true)) else (some (.a (.i .i64 (i64.wrap (L - (A:Int)))),.none,true))):=by kernel_rfl
def Zj9(J:Int)(L:QO)(A:Nat)(O:QA):Int:=(bif decide ((i64.wrap (J - (A:Int)))<(0:Int)) then (-1:Int) else (i64.wrap (J - (A:Int))))
theorem Fi(L:Int)(J:QO)(A:Nat)(O:QA)(V:i64.min<=L/\L<=i64.max)(Z:O.size=A*(lay PZ 72).length/\(∀k,k<A->WT PZ 72 (O.extract (k*(lay PZ 72).length) (k*(lay PZ 72).length+(lay PZ 72).length)))/\A<=9223372036854775807)(U:(true)=true):ansV PZ (mkΓ []) 1000 f9 [] [.l 0,.i .i64 L] [.sl (.came J) A O 72]=some (.a (.i .i64 (Zj9 L J A O)),.none,true):=by
 refine(Yic 1000 L J A O).trans ?_;unfold Zj9;revert U;generalize (decide ((i64.wrap (L - (A:Int)))<(0:Int)))=b2;intro U;cases b2
 ·skip
  first|rfl|exact(nomatch (U:false=true))
 ·skip
  first|rfl|exact(nomatch (U:false=true))
def sJ:af:=λargs h=>match args,h with|[.l 0,.i .i64 a1],[.sl (.came b_a0) n_a0 a0 72]=>some (.a (.i .i64 (Zj9 a1 b_a0 n_a0 a0)),.none,true)|_,_=>none
theorem Fj:EntX PZ 9:=Zaj (fn:=f9)
theorem Fk:Uad (md F) PZ 9 sJ:=(ansY (N:=1000) mKn f9 []).of (by
 intro ρ h w args vals r e U V L;unfold sJ at L;split at L
 ·rename_i Z A J a0;obtain⟨rfl,rfl,O⟩:=ai L;exact Fi Z A J a0 (U.rng 1 rfl) (V.slw 0 rfl) O
 ·cases L)
end
noncomputable section
variable {F:Vc.Fd}
theorem fS{n:Nat}{k:Int}{i:Nat}(h:i<n):num (mk8 n k) i=IntKind.i8.wrap (k+(i:Int)):=by unfold num;rw[Yqq h]
theorem Yf3(N:Nat)(A J:QA):ansV PZ (mkΓ []) N f27 [] [.g A 53,.g J 53] []=(bif ((num A 0) != (num J 0)) then (some (.a (.b false),.none,true)) else (bif ((num A 1) != (num J 1)) then (some (.a (.b false),.none,true)) else (some (.a (.b true),.none,true)))):=by kernel_rfl
theorem Fl(L O:QA)(A:WT PZ 53 L)(J:WT PZ 53 O)(hg:(true)=true):ansV PZ (mkΓ []) 1000 f27 [] [.g L 53,.g O 53] []=some (.a (.b (Uag L O)),.none,true):=by
 have hz:L.size=2:=by rw[A.layLen];kernel_rfl
 have hy:O.size=2:=by rw[J.layLen];kernel_rfl
 refine(Yf3 1000 L O).trans ?_;cases V:Uag L O
 ·have U:=wn.1 V;cases h0:(num L 0 != num O 0)
  ·skip
   cases Z:(num L 1 != num O 1)
   ·skip
    exfalso;refine U (Zie λi=> ?_)
    by_cases c0:i=0
    ·subst c0;rw[(A.int (k:=.i8) (o:=0) (by kernel_rfl)).1,(J.int (k:=.i8) (o:=0) (by kernel_rfl)).1,lp h0]
    by_cases c1:i=1
    ·subst c1;rw[(A.int (k:=.i8) (o:=1) (by kernel_rfl)).1,(J.int (k:=.i8) (o:=1) (by kernel_rfl)).1,lp Z]
    rw[jH (by omega),jH (by omega)]
   ·rfl
  ·rfl
 ·rw[bT.1 V];simp only[bne_self_eq_false,Q2,fq,jD]
def fT:af:=λargs h=>match args,h with|[.g a0 53,.g a1 53],[]=>some (.a (.b (Uag a0 a1)),.none,true)|_,_=>none
theorem Fm:EntX PZ 27:=Zaj (fn:=f27)
theorem Fo:Uad (md F) PZ 27 fT:=(ansY (N:=1000) mKn f27 []).of (by
 intro ρ h w args vals r e L V A;unfold fT at A;split at A
 ·rename_i O U;obtain⟨rfl,rfl,J⟩:=ai A;exact Fl O U (L.wt 0 rfl) (L.wt 1 rfl) J
 ·cases A)
def Zf3(L:QO)(A:Nat)(U:QA)(O:QO)(J:Nat)(V:QA):St:=(⟨.a (.l 0)::.a (.l 1)::.a (.u)::.a (.u)::.a (.b false)::.a (.i .i64 0)::.a (.l 0)::.a (.i .i64 (A:Int))::.a (.l 1)::.a (.i .i64 (J:Int))::.a (.b (((A:Int) != (J:Int))))::us 16 ([]),[.sl (.came L) A U 53,.sl (.came O) J V 53],[]⟩:St)
def Zhe:Bool×Int->LS
 |(A,J)=>([.a (.b A),.a (.i .i64 J)],[])
def sK:(Stp (Bool×Int) (Bool×Int))->QP×LS
 |.more t=>(.ret,Zhe t)
 |.done t=>((.exit 0),Zhe t)
def Zeq(P:QD)(U:QO)(J:Nat)(Z:QA)(V:QO)(O:Nat)(a1:QA):Bool×Int->Option (Stp (Bool×Int) (Stp (Bool×Int) (Bool×Int)))
 |(L,A)=>bif decide (A<(J:Int)) then (bif (decide (0<=A)&&decide (A<(J:Int))) then (bif (decide (0<=A)&&decide (A<(O:Int))) then (bif (!(Uag (Z.extract ((A).toNat*2) (((A).toNat*2)+2)) (a1.extract ((A).toNat*2) (((A).toNat*2)+2)))) then (some (.done (.more (false,A)))) else (some (.more (L,(i64.wrap (A+(1:Int))))))) else (none)) else (none)) else (some (.done (.done (L,A))))
noncomputable abbrev aA:=codeOf f31
theorem Yk2(N:Nat)(A:QO)(J:Nat)(U:QA)(L:QO)(O:Nat)(V:QA):∀t:Bool×Int,Uaf PZ (mkΓ [(27,con fT)]) N (cAt aA [1,1,0,1,0,0]) (pAt (Uaa aA [([4,5],[])]).1 [1,1,0,1,0]) [4,5] [] (Zf3 A J U L O V) (Zhe t)=aa Zhe sK (Zeq PZ A J U L O V t):=by
 rintro⟨Z,b5⟩
 conv=>rhs;simp only[Zeq,aM,aJ,aK,aL,Zhe,sK]
 kernel_rfl
def sL(P:QD)(N:Nat)(J:QO)(L:Nat)(Z:QA)(O:QO)(U:Nat)(a1:QA)(A:Bool)(V:Int):Option (SV×Eff×Bool):=some (.a (.b A),.none,true)
theorem Fp(N:Nat)(A:QO)(J:Nat)(Z:QA)(L:QO)(O:Nat)(a1:QA)(U:Bool)(V:Int):(Uac 0 (kSeq (veC PZ (mkΓ [(27,con fT)]) N (cAt aA [1,1,1]) (pAt (Uaa aA [([4,5],[])]).1 [1,1,1]) (SV×Eff×Bool)) (finK PZ [.sl (.came A) J Z 53,.sl (.came L) O a1 53] [.tmp 4]))) .ret (left (writes (cAt aA [1,1,0,1,0,0])) [4,5] [] (Zf3 A J Z L O a1) ([.a (.b U),.a (.i .i64 V)],[]))=sL PZ N A J Z L O a1 U V:=by kernel_rfl
def sM(P:QD)(N:Nat)(A:QO)(J:Nat)(Z:QA)(L:QO)(O:Nat)(a1:QA)(U:Bool)(V:Int):Option (SV×Eff×Bool):=some (.a (.b true),.none,true)
theorem Fq(N:Nat)(A:QO)(J:Nat)(Z:QA)(L:QO)(O:Nat)(a1:QA)(U:Bool)(V:Int):(Uac 0 (kSeq (veC PZ (mkΓ [(27,con fT)]) N (cAt aA [1,1,1]) (pAt (Uaa aA [([4,5],[])]).1 [1,1,1]) (SV×Eff×Bool)) (finK PZ [.sl (.came A) J Z 53,.sl (.came L) O a1 53] [.tmp 4]))) (.exit 0) (left (writes (cAt aA [1,1,0,1,0,0])) [4,5] [] (Zf3 A J Z L O a1) ([.a (.b U),.a (.i .i64 V)],[]))=sM PZ N A J Z L O a1 U V:=by kernel_rfl
theorem Fr(N:Nat)(A:QO)(J:Nat)(U:QA)(L:QO)(O:Nat)(V:QA):au (Uab (Uaf PZ (mkΓ [(27,con fT)]) N (cAt aA [1,1,0,1,0,0]) (pAt (Uaa aA [([4,5],[])]).1 [1,1,0,1,0]) [4,5] [] (Zf3 A J U L O V)) N ([.a (.b false),.a (.i .i64 0)],[])) (λe s=>(Uac 0 (kSeq (veC PZ (mkΓ [(27,con fT)]) N (cAt aA [1,1,1]) (pAt (Uaa aA [([4,5],[])]).1 [1,1,1]) (SV×Eff×Bool)) (finK PZ [.sl (.came A) J U 53,.sl (.came L) O V 53] [.tmp 4]))) e (left (writes (cAt aA [1,1,0,1,0,0])) [4,5] [] (Zf3 A J U L O V) s))=Uah (Uab (Zeq PZ A J U L O V) N (false,(0:Int))) (st2 (λx=>sL PZ N A J U L O V x.1 x.2) (λx=>sM PZ N A J U L O V x.1 x.2)):=by refine aP Zhe sK _ _ (Yk2 N A J U L O V) N (false,(0:Int)) _ _ ?_;intro x;cases x with|more x=>exact Fp N A J U L O V x.1 x.2|done x=>exact Fq N A J U L O V x.1 x.2
theorem Yi1(N:Nat)(L:QO)(A:Nat)(U:QA)(O:QO)(J:Nat)(V:QA):ansV PZ (mkΓ [(27,con fT)]) N f31 [([4,5],[])] [.l 0,.l 1] [.sl (.came L) A U 53,.sl (.came O) J V 53]=(bif ((A:Int) != (J:Int)) then (some (.a (.b false),.none,true)) else (Uah (Uab (Zeq PZ L A U O J V) N (false,(0:Int))) (st2 (λx=>sL PZ N L A U O J V x.1 x.2) (λx=>sM PZ N L A U O J V x.1 x.2)))):=by
 conv=>rhs;simp only[<- Fr N L A U O J V]
 kernel_rfl
theorem Fs(U:QO)(A:Nat)(L:QA)(V:QO)(J:Nat)(O:QA)(b5:L.size=A*(lay PZ 53).length/\(∀k,k<A->WT PZ 53 (L.extract (k*(lay PZ 53).length) (k*(lay PZ 53).length+(lay PZ 53).length)))/\A<=9223372036854775807)(b7:O.size=J*(lay PZ 53).length/\(∀k,k<J->WT PZ 53 (O.extract (k*(lay PZ 53).length) (k*(lay PZ 53).length+(lay PZ 53).length)))/\J<=9223372036854775807)(hg:(true)=true):ansV PZ (mkΓ [(27,con fT)]) 18446744073709551616 f31 [([4,5],[])] [.l 0,.l 1] [.sl (.came U) A L 53,.sl (.came V) J O 53]=some (.a (.b ((decide (A=J)&&Uag L O))),.none,true):=by
 have hm:(lay PZ 53).length=2:=by kernel_rfl
 obtain⟨s1,s2,s3⟩:=b5;obtain⟨t1,t2,t3⟩:=b7;rw[hm]at s1 s2 t1 t2;have hq:(lay PZ 53)[0]?=some 0:=by kernel_rfl
 refine(Yi1 18446744073709551616 U A L V J O).trans ?_
 by_cases hl:A=J
 case neg=>
  rw[Q4 hl,show ((A:Int) != (J:Int))=true from bne_iff_ne.2 (by omega)];rfl
 subst hl;rw[Q3 rfl,show ((A:Int) != (A:Int))=false from bne_self_eq_false _];simp only[Q2,Bool.true_and];have hb:Uag L O=true ↔ ∀k,k<A->(λk=>Uag (L.extract (k*2) (k*2+2)) (O.extract (k*2) (k*2+2))) k=true:=by
  constructor
  ·intro h k hk;rw[bT.1 h];exact fq _
  ·intro h;refine bT.2 ?_;exact lS (n:=A) (m:=2) (by omega) s1 t1 (λk hk=>bT.1 (h k hk))
 refine(Zn9 (g:=Zeq PZ U A L V A O) (λk=>(false,(k:Int))) (λk=>Uag (L.extract (k*2) (k*2+2)) (O.extract (k*2) (k*2+2))) A (N:=18446744073709551616) (xd:=.done (false,(A:Int))) (by omega) (λk hk hp=>by
  have h1:decide ((k:Int)<(A:Int))=true:=Q3 (by omega);have h0:decide (0<=(k:Int))=true:=Q3 (by omega);have h3:i64.wrap ((k:Int)+1)=((k+1:Nat):Int):=by rw[IntWalk.i64_in _ (by omega)];omega
  have Z:Uag (L.extract (k*2) (k*2+2)) (O.extract (k*2) (k*2+2))=true:=hp;simp only[Zeq,h1,h0,jB,Q9,Q1,h3,Z,jD,Q2]) (by
  have h1:decide ((A:Int)<(A:Int))=false:=Q4 (by omega);simp only[Zeq,h1,Q2]) (Uag L O) hb (some (.a (.b true),.none,true)) (some (.a (.b false),.none,true)) rfl (λk hk hp=>by
  refine⟨.more (false,(k:Int)),?_,rfl⟩;have h1:decide ((k:Int)<(A:Int))=true:=Q3 (by omega);have h0:decide (0<=(k:Int))=true:=Q3 (by omega);have Z:Uag (L.extract (k*2) (k*2+2)) (O.extract (k*2) (k*2+2))=false:=hp;simp only[Zeq,h1,h0,jB,Q9,Q1,Z,jC])).trans ?_
 cases Uag L O<;>rfl
def sN:af:=λargs h=>match args,h with|[.l 0,.l 1],[.sl (.came b_a0) n_a0 a0 53,.sl (.came b_a1) n_a1 a1 53]=>some (.a (.b ((decide (n_a0=n_a1)&&Uag a0 a1))),.none,true)|_,_=>none
theorem Ft:EntX PZ 31:=Zaj (fn:=f31)
theorem Fu:Uad (md F) PZ 31 sN:=(ansY (N:=18446744073709551616) (mKc (Zae Fo) Fm mKn) f31 [([4,5],[])]).of (by
 intro ρ h w args vals r e hA Z U;unfold sN at U;split at U
 ·rename_i A J a0 L O a1;obtain⟨rfl,rfl,V⟩:=ai U;exact Fs A J a0 L O a1 (Z.slw 0 rfl) (Z.slw 1 rfl) V
 ·cases U)
def Zfp(J:Int)(A:Nat)(L:QA):St:=(⟨.a (.l 0)::.a (.i .i64 J)::.a (.u)::.a (.u)::.a (.i .i64 0)::.a (.i .i64 0)::us 23 ([]),[.sl .lent A L 53],[]⟩:St)
def Zhu(A:Nat):Int×Int×QA->LS
 |(J,L,O)=>([.a (.i .i64 J),.a (.i .i64 L)],[.sl .lent A O 53])
def Znv(A:Nat):Int×Int×QA->QP×LS
 |t=>((.exit 0),(Zhu A) t)
def Zdf(P:QD)(U:Int)(L:Nat)(V:QA):Int×Int×QA->Option (Stp (Int×Int×QA) (Int×Int×QA))
 |(J,A,O)=>bif decide (A<(L:Int)) then (bif (decide (0<=A)&&decide (A<(L:Int))) then (bif (decide (0<=A)&&decide (A<(L:Int))) then (some (.more ((i64.wrap ((i64.wrap (J+(1:Int)))+(1:Int))),(i64.wrap (A+(1:Int))),((O.setIfInBounds (((A).toNat*2)+0) (.int .i8 (IntKind.i8.wrap J))).setIfInBounds (((A).toNat*2)+1) (.int .i8 (IntKind.i8.wrap (i64.wrap (J+(1:Int))))))))) else (none)) else (none)) else (some (.done (J,A,O)))
noncomputable abbrev bg:=codeOf f32
theorem Ygc(N:Nat)(J:Int)(A:Nat)(L:QA):∀t:Int×Int×QA,Uaf PZ (mkΓ []) N (cAt bg [1,0,1,0,0]) (pAt (Uaa bg [([1,5],[0])]).1 [1,0,1,0]) [1,5] [0] (Zfp J A L) ((Zhu A) t)=aa (Zhu A) (Znv A) (Zdf PZ J A L t):=by
 rintro⟨O,U,V⟩
 conv=>rhs;simp only[Zdf,aM,aJ,aK,aL,Zhu,Znv]
 kernel_rfl
def oQ(P:QD)(N:Nat)(U:Int)(A:Nat)(V:QA)(J:Int)(O:Int)(L:QA):Option (SV×Eff×Bool):=bif (Nat.blt 0 A) then (some (.a (.i .i64 J),.set 0 (.sl .lent A L 53),true)) else (none)
theorem Fv(N:Nat)(V:Int)(A:Nat)(U:QA)(J:Int)(L:Int)(O:QA):(Uac 0 (kSeq (veC PZ (mkΓ []) N (cAt bg [1,1]) (pAt (Uaa bg [([1,5],[0])]).1 [1,1]) (SV×Eff×Bool)) (finK PZ [.sl .lent A U 53] [.tmp 4]))) (.exit 0) (left (writes (cAt bg [1,0,1,0,0])) [1,5] [0] (Zfp V A U) ([.a (.i .i64 J),.a (.i .i64 L)],[.sl .lent A O 53]))=oQ PZ N V A U J L O:=by kernel_rfl
theorem Fw(N:Nat)(L:Int)(A:Nat)(J:QA):au (Uab (Uaf PZ (mkΓ []) N (cAt bg [1,0,1,0,0]) (pAt (Uaa bg [([1,5],[0])]).1 [1,0,1,0]) [1,5] [0] (Zfp L A J)) N ([.a (.i .i64 L),.a (.i .i64 0)],[.sl .lent A J 53])) (λe s=>(Uac 0 (kSeq (veC PZ (mkΓ []) N (cAt bg [1,1]) (pAt (Uaa bg [([1,5],[0])]).1 [1,1]) (SV×Eff×Bool)) (finK PZ [.sl .lent A J 53] [.tmp 4]))) e (left (writes (cAt bg [1,0,1,0,0])) [1,5] [0] (Zfp L A J) s))=Uah (Uab (Zdf PZ L A J) N (L,(0:Int),J)) (λx=>oQ PZ N L A J x.1 x.2.1 x.2.2):=by refine aP (Zhu A) (Znv A) _ _ (Ygc N L A J) N (L,(0:Int),J) _ _ ?_;intro x;exact Fv N L A J x.1 x.2.1 x.2.2
theorem Ya3(N:Nat)(J:Int)(A:Nat)(L:QA):ansV PZ (mkΓ []) N f32 [([1,5],[0])] [.l 0,.i .i64 J] [.sl .lent A L 53]=(Uah (Uab (Zdf PZ J A L) N (J,(0:Int),L)) (λx=>oQ PZ N J A L x.1 x.2.1 x.2.2)):=by
 conv=>rhs;simp only[<- Fw N J A L]
 kernel_rfl
theorem Zyu(J:Int)(A:Nat)(L:QA)(h_a1:i64.min<=J/\J<=i64.max)(O:L.size=A*(lay PZ 53).length/\(∀k,k<A->WT PZ 53 (L.extract (k*(lay PZ 53).length) (k*(lay PZ 53).length+(lay PZ 53).length)))/\A<=9223372036854775807)(U:(Nat.beq A 0)=false)(Z:(((jA A 2000000)&&(decide (0<=J)&&decide (J<=1000000))))=true):ansV PZ (mkΓ []) 18446744073709551616 f32 [([1,5],[0])] [.l 0,.i .i64 J] [.sl .lent A L 53]=some (.a (.i .i64 (J+((A*2:Nat):Int))),.set 0 (.sl .lent A (mk8 (A*2) J) 53),true):=by
 rw[Q7,Q7]at Z;have hn:A<=2000000:=jG Z.1;have hk0:0<=J/\J<=1000000:=⟨of_decide_eq_true Z.2.1,of_decide_eq_true Z.2.2⟩;have hm:(lay PZ 53).length=2:=by kernel_rfl
 obtain⟨s1,-,-⟩:=O;rw[hm]at s1;have hs:(mk8 (A*2) J).size=L.size:=by rw[Yi7,s1]
 have V:Nat.blt 0 A=true:=by
  have:A≠0:=λh=>by rw[h]at U;cases U
  simp[Nat.blt];omega
 have h:=bP (g:=Zdf PZ J A L) (λi=>(J+((i*2:Nat):Int),(i:Int),upto (mk8 (A*2) J) L (i*2))) (m:=A) (x:=(J+((A*2:Nat):Int),(A:Int),upto (mk8 (A*2) J) L (A*2))) (N:=18446744073709551616) (λi hi=>by
  have h1:decide ((i:Int)<(A:Int))=true:=Q3 (by omega);have h2:decide (0<=(i:Int))=true:=Q3 (by omega);have h3:i64.wrap (J+((i*2:Nat):Int)+1)=J+((i*2+1:Nat):Int):=by rw[IntWalk.i64_in _ (by omega)];omega
  have h4:i64.wrap (J+((i*2+1:Nat):Int)+1)=J+(((i+1)*2:Nat):Int):=by rw[IntWalk.i64_in _ (by omega)];omega
  have h5:i64.wrap ((i:Int)+1)=((i+1:Nat):Int):=by rw[IntWalk.i64_in _ (by omega)];omega
  have h6:(upto (mk8 (A*2) J) L (i*2)).setIfInBounds (i*2+0) (.int .i8 (IntKind.i8.wrap (J+((i*2:Nat):Int))))=upto (mk8 (A*2) J) L (i*2+1):=iz hs (Yqq (by omega));have h7:(upto (mk8 (A*2) J) L (i*2+1)).setIfInBounds (i*2+1) (.int .i8 (IntKind.i8.wrap (J+((i*2+1:Nat):Int))))=upto (mk8 (A*2) J) L ((i+1)*2):=by rw[show (i+1)*2=i*2+1+1 by omega];exact iz hs (Yqq (by omega))
  simp only[Zdf,h1,h2,h3,h4,h5,h6,h7,Q9,jB,Q1]) (by
  have h1:decide ((A:Int)<(A:Int))=false:=Q4 (by omega);simp only[Zdf,h1,Q2]) (by omega)
 refine(Ya3 18446744073709551616 J A L).trans ?_;have hz:upto (mk8 (A*2) J) L 0=L:=jq hs;have hl:upto (mk8 (A*2) J) L (A*2)=mk8 (A*2) J:=jr hs (Yi7 _ _);have h0:J+(((0*2:Nat)):Int)=J:=by omega
 have h':Uab (Zdf PZ J A L) 18446744073709551616 (J,(0:Int),L)=some (J+((A*2:Nat):Int),(A:Int),mk8 (A*2) J):=by
  have h2:=h;simp only[Nat.zero_mul,hz,hl]at h2;have e:J+((0:Nat):Int)=J:=by omega
  rw[e]at h2;exact h2
 rw[h'];simp only[Uah,oQ,V,Q1]
theorem Zym(J:Int)(A:Nat)(L:QA)(U:i64.min<=J/\J<=i64.max)(V:L.size=A*(lay PZ 53).length/\(∀k,k<A->WT PZ 53 (L.extract (k*(lay PZ 53).length) (k*(lay PZ 53).length+(lay PZ 53).length)))/\A<=9223372036854775807)(O:(Nat.beq A 0)=true)(Z:(true)=true):ansV PZ (mkΓ []) 1000 f32 [([1,5],[])] [.l 0,.i .i64 J] [.sl .lent A L 53]=some (.a (.i .i64 J),.none,true):=by obtain rfl:A=0:=Nat.eq_of_beq_eq_true O;kernel_rfl
def Zlr:bk:=λargs h=>match args,h with|[.l 0,.i .i64 a1],[.sl .lent n_a0 a0 53]=>.two (Nat.beq n_a0 0) (.one (some (.a (.i .i64 a1),.none,true))) (.one (some (.a (.i .i64 (a1+((n_a0*2:Nat):Int))),.set 0 (.sl .lent n_a0 (mk8 (n_a0*2) a1) 53),((jA n_a0 2000000)&&(decide (0<=a1)&&decide (a1<=1000000))))))|_,_=>.one none
theorem Fx:EntX PZ 32:=Zaj (fn:=f32)
theorem Fy:Uad (md F) PZ 32 (λargs h=>Uak (Zlr args h)):=by
 intro ρ h w args vals r e Z A U V;dsimp only at A;unfold Zlr at A;split at A
 ·rename_i a1 J a0;simp only[Uak]at A;cases L:(Nat.beq J 0)
  ·rw[L]at A;simp only[Uak,Q1,Q2]at A;obtain⟨rfl,rfl,O⟩:=ai A;exact((ansY (N:=18446744073709551616) mKn f32 [([1,5],[0])])) ρ _ w _ vals _ _ Z ((Zyu a1 J a0 (U.rng 1 rfl) (V.slw 0 rfl) L O)) U V
  ·rw[L]at A;simp only[Uak,Q1,Q2]at A;obtain⟨rfl,rfl,O⟩:=ai A;exact((ansY (N:=1000) mKn f32 [([1,5],[])])) ρ _ w _ vals _ _ Z ((Zym a1 J a0 (U.rng 1 rfl) (V.slw 0 rfl) L O)) U V
 ·simp only[Uak]at A;cases A
def Zef(L:Int)(A:QO)(J:Nat)(O:QA):St:=(⟨.a (.l 0)::.a (.i .i64 L)::.a (.u)::.a (.u)::.a (.i .i64 0)::.a (.i .i64 0)::us 27 ([]),[.sl (.came A) J O 53],[]⟩:St)
def Zfu:Int×Int×Int->LS
 |(A,J,L)=>([.a (.i .i64 A),.a (.i .i64 J),.a (.i .i64 L)],[])
def sO:(Stp (Int×Int×Int) (Int×Int×Int))->QP×LS
 |.more t=>(.ret,Zfu t)
 |.done t=>((.exit 0),Zfu t)
def Zdd(P:QD)(Z:Int)(U:QO)(L:Nat)(V:QA):Int×Int×Int->Option (Stp (Int×Int×Int) (Stp (Int×Int×Int) (Int×Int×Int)))
 |(J,O,A)=>bif decide (A<(L:Int)) then (bif (decide (0<=A)&&decide (A<(L:Int))) then (bif ((num V (((A).toNat*2)+0)) != (IntKind.i8.wrap J)) then (some (.done (.more (J,(-1:Int),A)))) else (bif (decide (0<=A)&&decide (A<(L:Int))) then (bif ((num V (((A).toNat*2)+1)) != (IntKind.i8.wrap (i64.wrap (J+(1:Int))))) then (some (.done (.more ((i64.wrap (J+(1:Int))),(-1:Int),A)))) else (some (.more ((i64.wrap ((i64.wrap (J+(1:Int)))+(1:Int))),O,(i64.wrap (A+(1:Int))))))) else (none))) else (none)) else (some (.done (.done (J,O,A))))
noncomputable abbrev aB:=codeOf f33
theorem Yf6(N:Nat)(L:Int)(A:QO)(J:Nat)(O:QA):∀t:Int×Int×Int,Uaf PZ (mkΓ []) N (cAt aB [1,0,1,0,0]) (pAt (Uaa aB [([1,4,5],[])]).1 [1,0,1,0]) [1,4,5] [] (Zef L A J O) (Zfu t)=aa Zfu sO (Zdd PZ L A J O t):=by
 rintro⟨U,V,Z⟩
 conv=>rhs;simp only[Zdd,aM,aJ,aK,aL,Zfu,sO]
 kernel_rfl
def sP(P:QD)(N:Nat)(V:Int)(J:QO)(L:Nat)(Z:QA)(O:Int)(A:Int)(U:Int):Option (SV×Eff×Bool):=some (.a (.i .i64 A),.none,true)
theorem Fz(N:Nat)(Z:Int)(A:QO)(J:Nat)(V:QA)(L:Int)(O:Int)(U:Int):(Uac 0 (kSeq (veC PZ (mkΓ []) N (cAt aB [1,1]) (pAt (Uaa aB [([1,4,5],[])]).1 [1,1]) (SV×Eff×Bool)) (finK PZ [.sl (.came A) J V 53] [.tmp 4]))) .ret (left (writes (cAt aB [1,0,1,0,0])) [1,4,5] [] (Zef Z A J V) ([.a (.i .i64 L),.a (.i .i64 O),.a (.i .i64 U)],[]))=sP PZ N Z A J V L O U:=by kernel_rfl
def sQ(P:QD)(N:Nat)(V:Int)(J:QO)(L:Nat)(Z:QA)(A:Int)(O:Int)(U:Int):Option (SV×Eff×Bool):=some (.a (.i .i64 A),.none,true)
theorem FA(N:Nat)(Z:Int)(A:QO)(J:Nat)(V:QA)(L:Int)(O:Int)(U:Int):(Uac 0 (kSeq (veC PZ (mkΓ []) N (cAt aB [1,1]) (pAt (Uaa aB [([1,4,5],[])]).1 [1,1]) (SV×Eff×Bool)) (finK PZ [.sl (.came A) J V 53] [.tmp 4]))) (.exit 0) (left (writes (cAt aB [1,0,1,0,0])) [1,4,5] [] (Zef Z A J V) ([.a (.i .i64 L),.a (.i .i64 O),.a (.i .i64 U)],[]))=sQ PZ N Z A J V L O U:=by kernel_rfl
theorem FB(N:Nat)(L:Int)(A:QO)(J:Nat)(O:QA):au (Uab (Uaf PZ (mkΓ []) N (cAt aB [1,0,1,0,0]) (pAt (Uaa aB [([1,4,5],[])]).1 [1,0,1,0]) [1,4,5] [] (Zef L A J O)) N ([.a (.i .i64 L),.a (.i .i64 0),.a (.i .i64 0)],[])) (λe s=>(Uac 0 (kSeq (veC PZ (mkΓ []) N (cAt aB [1,1]) (pAt (Uaa aB [([1,4,5],[])]).1 [1,1]) (SV×Eff×Bool)) (finK PZ [.sl (.came A) J O 53] [.tmp 4]))) e (left (writes (cAt aB [1,0,1,0,0])) [1,4,5] [] (Zef L A J O) s))=Uah (Uab (Zdd PZ L A J O) N (L,(0:Int),(0:Int))) (st2 (λx=>sP PZ N L A J O x.1 x.2.1 x.2.2) (λx=>sQ PZ N L A J O x.1 x.2.1 x.2.2)):=by refine aP Zfu sO _ _ (Yf6 N L A J O) N (L,(0:Int),(0:Int)) _ _ ?_;intro x;cases x with|more x=>exact Fz N L A J O x.1 x.2.1 x.2.2|done x=>exact FA N L A J O x.1 x.2.1 x.2.2
theorem Yck(N:Nat)(L:Int)(A:QO)(J:Nat)(O:QA):ansV PZ (mkΓ []) N f33 [([1,4,5],[])] [.l 0,.i .i64 L] [.sl (.came A) J O 53]=(Uah (Uab (Zdd PZ L A J O) N (L,(0:Int),(0:Int))) (st2 (λx=>sP PZ N L A J O x.1 x.2.1 x.2.2) (λx=>sQ PZ N L A J O x.1 x.2.1 x.2.2))):=by
 conv=>rhs;simp only[<- FB N L A J O]
 kernel_rfl
theorem FC(J:Int)(L:QO)(A:Nat)(O:QA)(b5:i64.min<=J/\J<=i64.max)(b7:O.size=A*(lay PZ 53).length/\(∀k,k<A->WT PZ 53 (O.extract (k*(lay PZ 53).length) (k*(lay PZ 53).length+(lay PZ 53).length)))/\A<=9223372036854775807)(V:(((jA A 2000000)&&((decide (0<=J)&&decide (J<=1000000))&&Uag O (mk8 (A*2) J))))=true):ansV PZ (mkΓ []) 18446744073709551616 f33 [([1,4,5],[])] [.l 0,.i .i64 J] [.sl (.came L) A O 53]=some (.a (.i .i64 (J+((A*2:Nat):Int))),.none,true):=by
 rw[Q7,Q7,Q7]at V;have hn:A<=2000000:=jG V.1;have hk0:0<=J/\J<=1000000:=⟨of_decide_eq_true V.2.1.1,of_decide_eq_true V.2.1.2⟩;have hA:=bT.1 V.2.2;have U:∀i,i<A*2->(num O i != IntKind.i8.wrap (J+(i:Int)))=false:=λi hi=>by rw[hA,fS hi];exact bne_self_eq_false _
 have h:=bP (g:=Zdd PZ J L A O) (λi=>(J+((i*2:Nat):Int),(0:Int),(i:Int))) (m:=A) (x:=.done (J+((A*2:Nat):Int),(0:Int),(A:Int))) (N:=18446744073709551616) (λi hi=>by
  have Z:decide ((i:Int)<(A:Int))=true:=Q3 (by omega);have h2:decide (0<=(i:Int))=true:=Q3 (by omega);have h3:i64.wrap (J+((i*2:Nat):Int)+1)=J+((i*2+1:Nat):Int):=by rw[IntWalk.i64_in _ (by omega)];omega
  have h4:i64.wrap (J+((i*2+1:Nat):Int)+1)=J+(((i+1)*2:Nat):Int):=by rw[IntWalk.i64_in _ (by omega)];omega
  have h5:i64.wrap ((i:Int)+1)=((i+1:Nat):Int):=by rw[IntWalk.i64_in _ (by omega)];omega
  have h6:=U (i*2+0) (by omega);have h7:=U (i*2+1) (by omega);rw[show i*2+0=i*2 by omega]at h6;simp only[Zdd,Z,h2,h3,h4,h5,h6,h7,Nat.add_zero,Q9,jB,Q1,Q2]) (by
  have Z:decide ((A:Int)<(A:Int))=false:=Q4 (by omega);simp only[Zdd,Z,Q2]) (by omega)
 refine(Yck 18446744073709551616 J L A O).trans ?_;have h':Uab (Zdd PZ J L A O) 18446744073709551616 (J,(0:Int),(0:Int))=some (.done (J+((A*2:Nat):Int),(0:Int),(A:Int))):=by
  have h2:=h;have e:J+((0*2:Nat):Int)=J:=by omega
  simp only[e]at h2;exact h2
 rw[h'];rfl
def sR:af:=λargs h=>match args,h with|[.l 0,.i .i64 a1],[.sl (.came b_a0) n_a0 a0 53]=>some (.a (.i .i64 (a1+((n_a0*2:Nat):Int))),.none,((jA n_a0 2000000)&&((decide (0<=a1)&&decide (a1<=1000000))&&Uag a0 (mk8 (n_a0*2) a1))))|_,_=>none
theorem FD:EntX PZ 33:=Zaj (fn:=f33)
theorem FE:Uad (md F) PZ 33 sR:=(ansY (N:=18446744073709551616) mKn f33 [([1,4,5],[])]).of (by
 intro ρ h w args vals r e U V L;unfold sR at L;split at L
 ·rename_i Z A J a0;obtain⟨rfl,rfl,O⟩:=ai L;exact FC Z A J a0 (U.rng 1 rfl) (V.slw 0 rfl) O
 ·cases L)
end
end Go.Proofs.YtefjogahegolbaaGreatDoor
