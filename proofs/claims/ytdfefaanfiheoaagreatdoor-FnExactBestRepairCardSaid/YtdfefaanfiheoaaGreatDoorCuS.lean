/- The spots at which two seas differ, both sides. -/
import Derived.Test.YtdfefaanfiheoaaGreatDoorProg
import Derived.Test.YtdfefaanfiheoaaGreatDoorCuG
set_option linter.unusedVariables false
set_option linter.unusedSimpArgs false
open _root_.List renaming length_append->jA
namespace Go.Proofs.YtdfefaanfiheoaaGreatDoor
open Tryz (f66 f67)
open Go.ChangeShapes Go.WideShapes Go.ChangeAt Go.RowKit Ve Vc
open Tryz renaming prog -> PZ
open IntKind (i64)
set_option maxRecDepth 100000
noncomputable section
variable {F:Vc.Fd}
def difB(A C:Array Value)(t k:Nat):Bool:= !(Uap (A.extract (3+t*180+k*5) (3+t*180+k*5+5)) (C.extract (3+t*180+k*5) (3+t*180+k*5+5)))
def dfL(A C:Array Value)(t:Nat):Nat->List (Nat×Nat)
 |0=>[]
 |k+1=>bif difB A C t k then dfL A C t k++[(t,k)] else dfL A C t k
def dfT(A C:Array Value):Nat->List (Nat×Nat)
 |0=>[]
 |t+1=>dfT A C t++dfL A C t 36
theorem Ylk(A C:Array Value)(t:Nat):∀k,(dfL A C t k).length<=k
 |0=>Nat.le_refl _
 |k+1=>by
  have:=Ylk A C t k;rw[dfL];cases difB A C t k with|false=>rw[Q2];omega|true=>rw[Q1,jA];show _+1<=_;omega
theorem Yhn(A C:Array Value):∀t,(dfT A C t).length<=t*36
 |0=>Nat.le_refl _
 |t+1=>by
  have:=Yhn A C t;have:=Ylk A C t 36;rw[dfT,jA];omega
def duoL(q:Nat×Nat):List Value:=[.int .i8 (IntKind.i8.wrap (q.1:Int)),.int .i8 (IntKind.i8.wrap (q.2:Int))]
def arrD(l:List (Nat×Nat)):Array Value:=⟨l.flatMap duoL⟩
theorem Ykh(l m:List (Nat×Nat)):arrD (l++m)=arrD l++arrD m:=by unfold arrD;rw[List.flatMap_append];simp
theorem Ygw:∀l:List (Nat×Nat),(arrD l).size=l.length*2
 |[]=>rfl
 |a::m=>by
  have e:arrD (a::m)=arrD [a]++arrD m:=Ykh [a] m;rw[e,Array.size_append,Ygw m]
  show 2+m.length*2=(m.length+1)*2
  omega
theorem by_spot:bytesOf PZ 53<=1000:=Nat.le_of_ble_eq_true (by kernel_rfl)
theorem Yml{n:Nat}(h:n<=100000):Nat.ble (n*bytesOf PZ 53) 140737488355328=true:=Nat.ble_eq_true_of_le (Nat.le_trans (Nat.mul_le_mul h by_spot) (by decide))
def Zfq(a0 a1:Array Value)(y0_6:Int)(m0_5:Nat)(y0_5:Array Value):St:=(⟨.a (.w 0)::.a (.w 1)::.a (.u)::.a (.u)::.a (.v (.slice none 0 0))::.a (.l 5)::.a (.i .i64 y0_6)::.a (.i .i64 0)::.a (.l 2)::.a (.i .i64 y0_6)::.a (.b (decide (y0_6<(2:Int))))::xs 31 (.a (.u)::[]),[.row a0 37,.row a1 37,.sp,.no,.sp,.sl .own m0_5 y0_5 53],[4,4]⟩:St)
def Zeh:Int×Nat×Array Value->LS
 |(y1_7,m1_5,y1_5)=>([.a (.i .i64 y1_7),.a (.l 5)],[.sl .own m1_5 y1_5 53])
def Zhq:Int×Nat×Array Value->Exit×LS
 |t=>((.exit 2),Zeh t)
def Zdk(P:Program)(a0 a1:Array Value)(y0_6:Int)(m0_5:Nat)(y0_5:Array Value):Int×Nat×Array Value->Option (Stp (Int×Nat×Array Value) (Int×Nat×Array Value))
 |(y1_7,m1_5,y1_5)=>bif decide (y1_7<(36:Int)) then (bif (decide (0<=y0_6)&&decide (y0_6<2)) then (bif (decide (0<=y1_7)&&decide (y1_7<36)) then (bif (decide (0<=y0_6)&&decide (y0_6<2)) then (bif (decide (0<=y1_7)&&decide (y1_7<36)) then (bif (!(Uap (a0.extract ((3+((y0_6).toNat*180))+((y1_7).toNat*5)) (((3+((y0_6).toNat*180))+((y1_7).toNat*5))+5)) (a1.extract ((3+((y0_6).toNat*180))+((y1_7).toNat*5)) (((3+((y0_6).toNat*180))+((y1_7).toNat*5))+5)))) then (bif (Nat.ble ((m1_5+1)*bytesOf PZ 53) 140737488355328) then (some (.more ((i64.wrap (y1_7+(1:Int))),(m1_5+1),(y1_5++(#[.int .i8 (IntKind.i8.wrap y0_6),.int .i8 (IntKind.i8.wrap y1_7)]:Array Value))))) else (none)) else (some (.more ((i64.wrap (y1_7+(1:Int))),m1_5,y1_5)))) else (none)) else (none)) else (none)) else (none)) else (some (.done (y1_7,m1_5,y1_5)))
noncomputable abbrev cKCuS66:=codeOf f66
theorem Zne(N:Nat)(a0 a1:Array Value)(y0_6:Int)(m0_5:Nat)(y0_5:Array Value):∀t:Int×Nat×Array Value,Uck PZ (mkΓ []) N (cAt cKCuS66 [1,1,0,1,0,0,1,0,0,1,0,0]) (pAt (Uaa cKCuS66 [([6],[1000005,53]),([7],[1000005,53])]).1 [1,1,0,1,0,1,0,1,0]) [7] [] 5 53 5 (Zfq a0 a1 y0_6 m0_5 y0_5) (Zeh t)=mapS Zeh Zhq (Zdk PZ a0 a1 y0_6 m0_5 y0_5 t):=by
 rintro⟨y1_7,m1_5,y1_5⟩
 conv=>rhs;simp only[Zdk,Zao,Zam,Zan,Zap,Zeh,Zhq]
 kernel_rfl
def Zf0(a0 a1:Array Value):St:=(⟨.a (.w 0)::.a (.w 1)::.a (.u)::.a (.u)::.a (.v (.slice none 0 0))::.a (.l 4)::.a (.i .i64 0)::.a (.u)::.a (.l 2)::us 34 ([]),[.row a0 37,.row a1 37,.sp,.no,.sl .own 0 (#[]:Array Value) 53],[2]⟩:St)
def Zcq:Int×Nat×Array Value->LS
 |(y0_6,m0_5,y0_5)=>([.a (.i .i64 y0_6),.a (.l 4)],[.sl .own m0_5 y0_5 53])
def Zeg:Int×Nat×Array Value->Exit×LS
 |t=>((.exit 0),Zcq t)
def Zf9(P:Program)(N:Nat)(a0 a1:Array Value)(y0_6:Int)(m0_5:Nat)(y0_5:Array Value)(z1_7:Int)(p1_5:Nat)(z1_5:Array Value):Option (Stp (Int×Nat×Array Value) (Int×Nat×Array Value)):=some (.more ((i64.wrap (y0_6+(1:Int))),p1_5,z1_5))
theorem Ztb(N:Nat)(a0 a1:Array Value)(y0_6:Int)(m0_5:Nat)(y0_5:Array Value)(z1_7:Int)(p1_5:Nat)(z1_5:Array Value):(Uad 2 (Uad 1 (kSeq (veC PZ (mkΓ []) N (cAt cKCuS66 [1,1,0,1,0,0,1,1]) (pAt (Uaa cKCuS66 [([6],[1000005,53]),([7],[1000005,53])]).1 [1,1,0,1,0,1,1]) (Stp LS (Exit×LS))) (Ucm 4 [6] [] 5 53)))) (.exit 2) (left (writes (cAt cKCuS66 [1,1,0,1,0,0,1,0,0,1,0,0])) [7,5] [5] (Zfq a0 a1 y0_6 m0_5 y0_5) ([.a (.i .i64 z1_7),.a (.l 5)],[.sl .own p1_5 z1_5 53]))=mapS Zcq Zeg (Zf9 PZ N a0 a1 y0_6 m0_5 y0_5 z1_7 p1_5 z1_5):=by
 conv=>rhs;simp only[Zf9,Zao,Zam,Zan,Zap,Zcq,Zeg]
 kernel_rfl
theorem Yex(N:Nat)(a0 a1:Array Value)(y0_6:Int)(m0_5:Nat)(y0_5:Array Value):Uag (Uab (Uck PZ (mkΓ []) N (cAt cKCuS66 [1,1,0,1,0,0,1,0,0,1,0,0]) (pAt (Uaa cKCuS66 [([6],[1000005,53]),([7],[1000005,53])]).1 [1,1,0,1,0,1,0,1,0]) [7] [] 5 53 5 (Zfq a0 a1 y0_6 m0_5 y0_5)) N ([.a (.i .i64 0),.a (.l 5)],[.sl .own m0_5 y0_5 53])) (λe s=>(Uad 2 (Uad 1 (kSeq (veC PZ (mkΓ []) N (cAt cKCuS66 [1,1,0,1,0,0,1,1]) (pAt (Uaa cKCuS66 [([6],[1000005,53]),([7],[1000005,53])]).1 [1,1,0,1,0,1,1]) (Stp LS (Exit×LS))) (Ucm 4 [6] [] 5 53)))) e (left (writes (cAt cKCuS66 [1,1,0,1,0,0,1,0,0,1,0,0])) [7,5] [5] (Zfq a0 a1 y0_6 m0_5 y0_5) s))=mapS Zcq Zeg (Uai (Uab (Zdk PZ a0 a1 y0_6 m0_5 y0_5) N ((0:Int),m0_5,y0_5)) (λx=>Zf9 PZ N a0 a1 y0_6 m0_5 y0_5 x.1 x.2.1 x.2.2)):=by
 rw[Zum Zcq Zeg]
 first
 |(have h:=Zar (α:=Stp LS (Exit×LS)) Zeh Zhq _ _ (Zne N a0 a1 y0_6 m0_5 y0_5) N ((0:Int),m0_5,y0_5);refine h _ _ ?_)
 |(have h:=Zar (α:=Stp BS (Exit×BS)) Zeh Zhq _ _ (Zne N a0 a1 y0_6 m0_5 y0_5) N ((0:Int),m0_5,y0_5);refine h _ _ ?_)
 |(have h:=Zar (α:=Stp LS ((Exit×LS)⊕(SV×Eff×Bool))) Zeh Zhq _ _ (Zne N a0 a1 y0_6 m0_5 y0_5) N ((0:Int),m0_5,y0_5);refine h _ _ ?_)
 intro x;exact Ztb N a0 a1 y0_6 m0_5 y0_5 x.1 x.2.1 x.2.2
def Zdp(P:Program)(N:Nat)(a0 a1:Array Value):Int×Nat×Array Value->Option (Stp (Int×Nat×Array Value) (Int×Nat×Array Value))
 |(y0_6,m0_5,y0_5)=>bif decide (y0_6<(2:Int)) then (Uai (Uab (Zdk P a0 a1 y0_6 m0_5 y0_5) N ((0:Int),m0_5,y0_5)) (λx=>Zf9 P N a0 a1 y0_6 m0_5 y0_5 x.1 x.2.1 x.2.2)) else (some (.done (y0_6,m0_5,y0_5)))
theorem Yep(N:Nat)(a0 a1:Array Value):∀t:Int×Nat×Array Value,Uck PZ (mkΓ []) N (cAt cKCuS66 [1,1,0,1,0,0]) (pAt (Uaa cKCuS66 [([6],[1000005,53]),([7],[1000005,53])]).1 [1,1,0,1,0]) [6] [] 5 53 4 (Zf0 a0 a1) (Zcq t)=mapS Zcq Zeg (Zdp PZ N a0 a1 t):=by
 rintro⟨y0_6,m0_5,y0_5⟩
 conv=>rhs;simp only[<- Yex N a0 a1 y0_6 m0_5 y0_5,Zdp,Zao,Zam,Zan,Zap,Zcq,Zeg]
 kernel_rfl
def Zkm(P:Program)(N:Nat)(a0 a1:Array Value)(z0_6:Int)(p0_5:Nat)(z0_5:Array Value):Option (SV×Eff×Bool):=some (.a .x,.newS none p0_5 z0_5 53,true)
theorem Zsi(N:Nat)(a0 a1:Array Value)(z0_6:Int)(p0_5:Nat)(z0_5:Array Value):(Uad 0 (kSeq (veC PZ (mkΓ []) N (cAt cKCuS66 [1,1,1]) (pAt (Uaa cKCuS66 [([6],[1000005,53]),([7],[1000005,53])]).1 [1,1,1]) (SV×Eff×Bool)) (finK PZ [.row a0 37,.row a1 37] [.tmp 4]))) (.exit 0) (left (writes (cAt cKCuS66 [1,1,0,1,0,0])) [6,5] [4] (Zf0 a0 a1) ([.a (.i .i64 z0_6),.a (.l 4)],[.sl .own p0_5 z0_5 53]))=Zkm PZ N a0 a1 z0_6 p0_5 z0_5:=by kernel_rfl
theorem Yef(N:Nat)(a0 a1:Array Value):Uag (Uab (Uck PZ (mkΓ []) N (cAt cKCuS66 [1,1,0,1,0,0]) (pAt (Uaa cKCuS66 [([6],[1000005,53]),([7],[1000005,53])]).1 [1,1,0,1,0]) [6] [] 5 53 4 (Zf0 a0 a1)) N ([.a (.i .i64 0),.a (.l 4)],[.sl .own 0 (#[]:Array Value) 53])) (λe s=>(Uad 0 (kSeq (veC PZ (mkΓ []) N (cAt cKCuS66 [1,1,1]) (pAt (Uaa cKCuS66 [([6],[1000005,53]),([7],[1000005,53])]).1 [1,1,1]) (SV×Eff×Bool)) (finK PZ [.row a0 37,.row a1 37] [.tmp 4]))) e (left (writes (cAt cKCuS66 [1,1,0,1,0,0])) [6,5] [4] (Zf0 a0 a1) s))=Uai (Uab (Zdp PZ N a0 a1) N ((0:Int),0,(#[]:Array Value))) (λx=>Zkm PZ N a0 a1 x.1 x.2.1 x.2.2):=by refine Zar Zcq Zeg _ _ (Yep N a0 a1) N ((0:Int),0,(#[]:Array Value)) _ _ ?_;intro x;exact Zsi N a0 a1 x.1 x.2.1 x.2.2
theorem Yb6(N:Nat)(a0 a1:Array Value):ansV PZ (mkΓ []) N f66 [([6],[1000005,53]),([7],[1000005,53])] [.w 0,.w 1] [.row a0 37,.row a1 37]=(Uai (Uab (Zdp PZ N a0 a1) N ((0:Int),0,(#[]:Array Value))) (λx=>Zkm PZ N a0 a1 x.1 x.2.1 x.2.2)):=by
 conv=>rhs;simp only[<- Yef N a0 a1]
 kernel_rfl
theorem Zyl(a0 a1:Array Value)(h_a0:WT PZ 37 a0)(h_a1:WT PZ 37 a1)(hg:(true)=true):ansV PZ (mkΓ []) 18446744073709551616 f66 [([6],[1000005,53]),([7],[1000005,53])] [.w 0,.w 1] [.row a0 37,.row a1 37]=some (.a .x,.newS none (dfT a0 a1 2).length (arrD (dfT a0 a1 2)) 53,true):=by
 have hin:∀(t:Nat),t<2->∀(l:List (Nat×Nat)),l.length<=1000->Uab (Zdk PZ a0 a1 (t:Int) l.length (arrD l)) 18446744073709551616 ((0:Int),l.length,arrD l)=some ((36:Int),(l++dfL a0 a1 t 36).length,arrD (l++dfL a0 a1 t 36)):=by
  intro t ht l hl;have h:=Zcr (g:=Zdk PZ a0 a1 (t:Int) l.length (arrD l)) (λk=>((k:Int),(l++dfL a0 a1 t k).length,arrD (l++dfL a0 a1 t k))) (m:=36) (x:=((36:Int),(l++dfL a0 a1 t 36).length,arrD (l++dfL a0 a1 t 36))) (N:=18446744073709551616) (λk hk=>by
   have h1:decide ((k:Int)<36)=true:=Q3 (by omega);have h0:decide (0<=(k:Int))=true:=Q3 (by omega);have t1:decide ((t:Int)<2)=true:=Q3 (by omega);have t0:decide (0<=(t:Int))=true:=Q3 (by omega);have h3:i64.wrap ((k:Int)+1)=((k+1:Nat):Int):=by rw[IntWalk.i64_in _ (by omega)];omega
   have hlen:(l++dfL a0 a1 t k).length<=1036:=by have:=Ylk a0 a1 t k;rw[jA];omega
   have hb:=Yml (n:=(l++dfL a0 a1 t k).length+1) (by omega);have ed:(!(Uap (a0.extract (3+t*180+k*5) (3+t*180+k*5+5)) (a1.extract (3+t*180+k*5) (3+t*180+k*5+5))))=difB a0 a1 t k:=rfl;simp only[Zdk,h1,h0,t1,t0,h3,ed,hb,Q9,Bool.and_self,Q1];rw[dfL];cases difB a0 a1 t k with
   |false=>simp only[Q2]
   |true=>simp only[Q1];rw[<- List.append_assoc,Ykh (l++dfL a0 a1 t k),show ((l++dfL a0 a1 t k)++[(t,k)]).length=(l++dfL a0 a1 t k).length+1 from jA];rfl) (by
   have h1:decide (((36:Nat):Int)<36)=false:=by decide
   simp only[Zdk,h1,Q2];rfl) (by omega)
  rw[show dfL a0 a1 t 0=[] from rfl,List.append_nil]at h;exact h
 have h:=Zcr (g:=Zdp PZ 18446744073709551616 a0 a1) (λt=>((t:Int),(dfT a0 a1 t).length,arrD (dfT a0 a1 t))) (m:=2) (x:=((2:Int),(dfT a0 a1 2).length,arrD (dfT a0 a1 2))) (N:=18446744073709551616) (λt ht=>by
  have h1:decide ((t:Int)<2)=true:=Q3 (by omega);have h3:i64.wrap ((t:Int)+1)=((t+1:Nat):Int):=by rw[IntWalk.i64_in _ (by omega)];omega
  have hl:=Yhn a0 a1 t;have hi:=hin t ht (dfT a0 a1 t) (by omega);simp only[Zdp,h1,Q1];rw[hi];simp only[Uai,Zf9,h3];rfl) (by
  have h1:decide (((2:Nat):Int)<2)=false:=by decide
  simp only[Zdp,h1,Q2];rfl) (by omega)
 refine(Yb6 18446744073709551616 a0 a1).trans ?_;have h':Uab (Zdp PZ 18446744073709551616 a0 a1) 18446744073709551616 ((0:Int),0,(#[]:Array Value))=some ((2:Int),(dfT a0 a1 2).length,arrD (dfT a0 a1 2)):=h;rw[h'];rfl
def Zlw:Con:=λargs h=>match args,h with|[.w 0,.w 1],[.row a0 37,.row a1 37]=>some (.a .x,.newS none (dfT a0 a1 2).length (arrD (dfT a0 a1 2)) 53,true)|_,_=>none
theorem Zxi:EntX PZ 66:=Zaj (fn:=f66)
theorem Ydr:Uac (md F) PZ 66 Zlw:=(ansY (N:=18446744073709551616) mKn f66 [([6],[1000005,53]),([7],[1000005,53])]).of (by
 intro ρ h w args vals r e hA hH hr;unfold Zlw at hr;split at hr
 ·rename_i a0 a1;obtain⟨rfl,rfl,hg2⟩:=BQi hr;exact Zyl a0 a1 (hH.wt 0 rfl) (hH.wt 1 rfl) hg2
 ·cases hr)
theorem dif_dry{A C:Array Value}(hA:okS A=true)(hC:okS C=true)(h0:num C 0=num A 0)(h1:num C 1=num A 1)(h2:num C 2=num A 2){t k:Nat}(ht:t<2)(hk:k<36)(hw:(inC (num A 0) (num A 1) k && !(bitI (num A 2) k))=false):difB A C t k=false:=by
 have fit:∀{S:Array Value},okS S=true->fitS S t k=true:=λ{S} hS=>by
  unfold okS at hS;simp only[Q7]at hS;have:=List.all_eq_true.1 hS.2.2 k (List.mem_range.2 hk);rw[Q7]at this
  match t,ht with|0,_=>exact this.1|1,_=>exact this.2
 have fA:=fit hA;have fC:=fit hC;unfold fitS at fA fC;rw[h0,h1,h2,hw,Q2]at fC;rw[hw,Q2]at fA;have eA:=Zii.1 fA;have eC:=Zii.1 fC;unfold difB;unfold chR at eA eC;rw[eA,eC,Zqy];rfl
theorem Ym6{T X:Type}{g:Int->T->Option (Stp T X)}(F:Nat->T){wd hi:Int}{q:Int->Bool}(hg:∀k,k<36->inC wd hi k=true->q (k:Int)=true->g (k:Int) (F k)=some (.more (F (k+1))))(hs:∀k,k<36->(inC wd hi k&&q (k:Int))=false->F (k+1)=F k):
  Uas g ((Uak wd hi 36).filter q) (F 0)=some (.more (F 36)):=by
 have key:∀n,n<=36->Uas g ((Uak wd hi n).filter q) (F 0)=some (.more (F n)):=by
  intro n
  induction n with
  |zero=>intro _;rfl
  | succ n ih=>intro hn;have ih:=ih (by omega);cases hb:inC wd hi n with|false=>rw[Zzk hb,ih,hs n (by omega) (by rw[hb];rfl)]| true=>rw[Zqd hb,List.filter_append,Zkp,ih];cases hq:q (n:Int) with|false=>rw[show List.filter q [(n:Int)]=[] by simp[hq],hs n (by omega) (by rw[hb,hq];rfl)];rfl|true=>rw[show List.filter q [(n:Int)]=[(n:Int)] by simp[hq]];simp only[Uas,hg n (by omega) hb hq]
 exact key 36 (Nat.le_refl _)
theorem Yn2{A C:Array Value}(h:Zah A C=true):num C 0=num A 0/\num C 1=num A 1/\num C 2=num A 2:=by
 unfold Zah at h;cases e0:(num A 0==num C 0) with
 |false=>rw[e0]at h;cases h
 | true=>
  cases e1:(num A 1==num C 1) with
  |false=>rw[e0,e1]at h;cases h
  |true=>rw[e0,e1]at h;simp only[Q1]at h;exact⟨(beq_iff_eq.1 e0).symm,(beq_iff_eq.1 e1).symm,(beq_iff_eq.1 h).symm⟩
theorem Ysw{A C:Array Value}(h:(okS A&&(okS C&&Zah A C))=true):okS A=true/\okS C=true/\num C 0=num A 0/\num C 1=num A 1/\num C 2=num A 2:=by simp only[Q7]at h;exact⟨h.1,h.2.1,Yn2 h.2.2⟩
def Zbc:Cons:=(mkΓx [] [(92,Zi8)] [(110,Zfd)])
def Zdz(a0 a1:Array Value)(y0_8:Int)(m0_b:Nat)(y0_b:Array Value):St:=(⟨.a (.g a0 37)::.a (.g a1 37)::.a (.w 0)::.a (.w 1)::.a (.v (.slice none 0 0))::.a (.w 3)::.a (.w 6)::.a (.u)::.a (.i .i64 y0_8)::.a (.b (decide (y0_8<(2:Int))))::.a (.i .i64 y0_8)::.a (.g a0 37)::.a (.c 110 [11])::us 22 (.a (.x)::.a (.u)::[]),[.row a0 37,.row a1 37,.no,.one (.l 16) 57,.sp,.no,.row #[.int .i64 y0_8] 3,.no,.no,.no,.no,.row a0 37,.no,.no,.no,.no,.sl .own m0_b y0_b 53],[3,4,6,4]⟩:St)
def Zlo:Nat×Array Value->BS
 |(m1_b,y1_b)=>([.sl .own m1_b y1_b 53]:BS)
def Zof:Empty->Exit×BS:=λx=>nomatch x
def Zfh(P:Program)(a0 a1:Array Value)(y0_8:Int)(m0_b:Nat)(y0_b:Array Value)(x1:Int):Nat×Array Value->Option (Stp (Nat×Array Value) Empty)
 |(m1_b,y1_b)=>bif (decide (0<=y0_8)&&decide (y0_8<2)) then (bif (decide (0<=x1)&&decide (x1<36)) then (bif (decide (0<=y0_8)&&decide (y0_8<2)) then (bif (decide (0<=x1)&&decide (x1<36)) then (bif (!(Uap (a0.extract ((3+((y0_8).toNat*180))+((x1).toNat*5)) (((3+((y0_8).toNat*180))+((x1).toNat*5))+5)) (a1.extract ((3+((y0_8).toNat*180))+((x1).toNat*5)) (((3+((y0_8).toNat*180))+((x1).toNat*5))+5)))) then (bif (Nat.ble ((m1_b+1)*bytesOf PZ 53) 140737488355328) then (some (.more ((m1_b+1),(y1_b++(#[.int .i8 (IntKind.i8.wrap y0_8),.int .i8 (IntKind.i8.wrap x1)]:Array Value))))) else (none)) else (some (.more (m1_b,y1_b)))) else (none)) else (none)) else (none)) else (none)
noncomputable abbrev cKCuS67:=codeOf f67
theorem Ygh(N:Nat)(a0 a1:Array Value)(y0_8:Int)(m0_b:Nat)(y0_b:Array Value)(x1:Int):∀t:Nat×Array Value,Ugr PZ Zbc N (cAt cKCuS67 [1,1,0,1,0,0,1,1,0,0,1,1,0,0]) (pAt (Uaa cKCuS67 [([8],[2000003,53]),([],[2000003,53])]).1 [1,1,0,1,0,1,1,0,1,1,0]) 16 [] 3 53 [13] [(7,13)] (Zdz a0 a1 y0_8 m0_b y0_b) [.i .i64 x1] (Zlo t)=mapS Zlo Zof (Zfh PZ a0 a1 y0_8 m0_b y0_b x1 t):=by
 rintro⟨m1_b,y1_b⟩
 conv=>rhs;simp only[Zfh,Zao,Zam,Zan,Zap,Zlo,Zof]
 kernel_rfl
def Zgq(a0 a1:Array Value):St:=(⟨.a (.g a0 37)::.a (.g a1 37)::.a (.w 0)::.a (.w 1)::.a (.v (.slice none 0 0))::.a (.w 3)::.a (.u)::.a (.u)::.a (.i .i64 0)::us 28 ([]),[.row a0 37,.row a1 37,.no,.one (.l 4) 57,.sl .own 0 (#[]:Array Value) 53],[3]⟩:St)
def Zb4:Int×Nat×Array Value->LS
 |(y0_8,m0_b,y0_b)=>([.a (.i .i64 y0_8)],[.sl .own m0_b y0_b 53])
def Zc8:Int×Nat×Array Value->Exit×LS
 |t=>((.exit 0),Zb4 t)
def Ze4(P:Program)(N:Nat)(a0 a1:Array Value)(y0_8:Int)(m0_b:Nat)(y0_b:Array Value)(p1_b:Nat)(z1_b:Array Value):Option (Stp (Int×Nat×Array Value) (Int×Nat×Array Value)):=some (.more ((i64.wrap (y0_8+(1:Int))),p1_b,z1_b))
theorem Zva(N:Nat)(a0 a1:Array Value)(y0_8:Int)(m0_b:Nat)(y0_b:Array Value)(p1_b:Nat)(z1_b:Array Value):(Uad 2 (Uad 1 (kSeq (veC PZ Zbc N (cAt cKCuS67 [1,1,0,1,0,0,1,1,1]) (pAt (Uaa cKCuS67 [([8],[2000003,53]),([],[2000003,53])]).1 [1,1,0,1,0,1,1,1]) (Stp LS (Exit×LS))) (Ubz Uap (.l 4) 4 [8] [] 3 53)))) .normal (Ua2 [16] (Zdz a0 a1 y0_8 m0_b y0_b) ([.sl .own p1_b z1_b 53]:BS))=mapS Zb4 Zc8 (Ze4 PZ N a0 a1 y0_8 m0_b y0_b p1_b z1_b):=by
 conv=>rhs;simp only[Ze4,Zao,Zam,Zan,Zap,Zb4,Zc8]
 kernel_rfl
theorem Yh2(N:Nat)(a0 a1:Array Value)(y0_8:Int)(m0_b:Nat)(y0_b:Array Value):Ucj (Uas (λ(x1:Int) (hb:BS)=>Ugr PZ Zbc N (cAt cKCuS67 [1,1,0,1,0,0,1,1,0,0,1,1,0,0]) (pAt (Uaa cKCuS67 [([8],[2000003,53]),([],[2000003,53])]).1 [1,1,0,1,0,1,1,0,1,1,0]) 16 [] 3 53 [13] [(7,13)] (Zdz a0 a1 y0_8 m0_b y0_b) [.i .i64 x1] hb) ((Uak (num a0 0) (num a0 1) 36).filter (Zac a0)) ([.sl .own m0_b y0_b 53]:BS)) (λhb=>(Uad 2 (Uad 1 (kSeq (veC PZ Zbc N (cAt cKCuS67 [1,1,0,1,0,0,1,1,1]) (pAt (Uaa cKCuS67 [([8],[2000003,53]),([],[2000003,53])]).1 [1,1,0,1,0,1,1,1]) (Stp LS (Exit×LS))) (Ubz Uap (.l 4) 4 [8] [] 3 53)))) .normal (Ua2 [16] (Zdz a0 a1 y0_8 m0_b y0_b) hb)) (λe hb=>(Uad 2 (Uad 1 (kSeq (veC PZ Zbc N (cAt cKCuS67 [1,1,0,1,0,0,1,1,1]) (pAt (Uaa cKCuS67 [([8],[2000003,53]),([],[2000003,53])]).1 [1,1,0,1,0,1,1,1]) (Stp LS (Exit×LS))) (Ubz Uap (.l 4) 4 [8] [] 3 53)))) e (Ua2 [16] (Zdz a0 a1 y0_8 m0_b y0_b) hb))=mapS Zb4 Zc8 (Uc9 (Uas (Zfh PZ a0 a1 y0_8 m0_b y0_b) ((Uak (num a0 0) (num a0 1) 36).filter (Zac a0)) (m0_b,y0_b)) (λx=>Ze4 PZ N a0 a1 y0_8 m0_b y0_b x.1 x.2) (λx:Empty=>nomatch x)):=by
 refine(Zzo Zlo Zof _ _ (λy t=>Ygh N a0 a1 y0_8 m0_b y0_b y t) _ (m0_b,y0_b) _ _ (λx=>mapS Zb4 Zc8 (Ze4 PZ N a0 a1 y0_8 m0_b y0_b x.1 x.2)) (λx=>mapS Zb4 Zc8 ((λx:Empty=>nomatch x) x)) ?_ ?_).trans (Yrx Zb4 Zc8 _ _ _).symm
 ·intro x;exact Zva N a0 a1 y0_8 m0_b y0_b x.1 x.2
 ·intro x;exact nomatch x
def Zd4(P:Program)(N:Nat)(a0 a1:Array Value):Int×Nat×Array Value->Option (Stp (Int×Nat×Array Value) (Int×Nat×Array Value))
 |(y0_8,m0_b,y0_b)=>bif decide (y0_8<(2:Int)) then (bif (decide (0<=num a0 0)&&decide (num a0 0<=6)&&(decide (0<=num a0 1)&&decide (num a0 1<=6))) then (Uc9 (Uas (Zfh P a0 a1 y0_8 m0_b y0_b) ((Uak (num a0 0) (num a0 1) 36).filter (Zac a0)) (m0_b,y0_b)) (λx=>Ze4 P N a0 a1 y0_8 m0_b y0_b x.1 x.2) (λx:Empty=>nomatch x)) else (none)) else (some (.done (y0_8,m0_b,y0_b)))
theorem Yg3(N:Nat)(a0 a1:Array Value):∀t:Int×Nat×Array Value,Ugv PZ Zbc N (cAt cKCuS67 [1,1,0,1,0,0]) (pAt (Uaa cKCuS67 [([8],[2000003,53]),([],[2000003,53])]).1 [1,1,0,1,0]) [8] [] 3 53 4 (Zgq a0 a1) (Zb4 t)=mapS Zb4 Zc8 (Zd4 PZ N a0 a1 t):=by
 rintro⟨y0_8,m0_b,y0_b⟩
 conv=>rhs;simp only[<- Yh2 N a0 a1 y0_8 m0_b y0_b,Zd4,Zao,Zam,Zan,Zap,Zb4,Zc8]
 kernel_rfl
def Zmc(P:Program)(N:Nat)(a0 a1:Array Value)(z0_8:Int)(p0_b:Nat)(z0_b:Array Value):Option (SV×Eff×Bool):=some (.a .x,.newS none p0_b z0_b 53,true)
theorem Zv3(N:Nat)(a0 a1:Array Value)(z0_8:Int)(p0_b:Nat)(z0_b:Array Value):(Uad 0 (kSeq (veC PZ Zbc N (cAt cKCuS67 [1,1,1]) (pAt (Uaa cKCuS67 [([8],[2000003,53]),([],[2000003,53])]).1 [1,1,1]) (SV×Eff×Bool)) (finK PZ [] [.tmp 4]))) (.exit 0) (left (writes (cAt cKCuS67 [1,1,0,1,0,0])) [8] [4] (Zgq a0 a1) ([.a (.i .i64 z0_8)],[.sl .own p0_b z0_b 53]))=Zmc PZ N a0 a1 z0_8 p0_b z0_b:=by kernel_rfl
theorem Yic(N:Nat)(a0 a1:Array Value):Uag (Uab (Ugv PZ Zbc N (cAt cKCuS67 [1,1,0,1,0,0]) (pAt (Uaa cKCuS67 [([8],[2000003,53]),([],[2000003,53])]).1 [1,1,0,1,0]) [8] [] 3 53 4 (Zgq a0 a1)) N ([.a (.i .i64 0)],[.sl .own 0 (#[]:Array Value) 53])) (λe s=>(Uad 0 (kSeq (veC PZ Zbc N (cAt cKCuS67 [1,1,1]) (pAt (Uaa cKCuS67 [([8],[2000003,53]),([],[2000003,53])]).1 [1,1,1]) (SV×Eff×Bool)) (finK PZ [] [.tmp 4]))) e (left (writes (cAt cKCuS67 [1,1,0,1,0,0])) [8] [4] (Zgq a0 a1) s))=Uai (Uab (Zd4 PZ N a0 a1) N ((0:Int),0,(#[]:Array Value))) (λx=>Zmc PZ N a0 a1 x.1 x.2.1 x.2.2):=by refine Zar Zb4 Zc8 _ _ (Yg3 N a0 a1) N ((0:Int),0,(#[]:Array Value)) _ _ ?_;intro x;exact Zv3 N a0 a1 x.1 x.2.1 x.2.2
theorem Yds(N:Nat)(a0 a1:Array Value):ansV PZ Zbc N f67 [([8],[2000003,53]),([],[2000003,53])] [.g a0 37,.g a1 37] []=(Uai (Uab (Zd4 PZ N a0 a1) N ((0:Int),0,(#[]:Array Value))) (λx=>Zmc PZ N a0 a1 x.1 x.2.1 x.2.2)):=by
 conv=>rhs;simp only[<- Yic N a0 a1]
 kernel_rfl
theorem Ycf(a0 a1:Array Value)(h_a0:WT PZ 37 a0)(h_a1:WT PZ 37 a1)(hg:((okS a0&&(okS a1&&Zah a0 a1)))=true):ansV PZ Zbc 18446744073709551616 f67 [([8],[2000003,53]),([],[2000003,53])] [.g a0 37,.g a1 37] []=some (.a .x,.newS none (dfT a0 a1 2).length (arrD (dfT a0 a1 2)) 53,true):=by
 obtain⟨hA,hC,c0,c1,c2⟩:=Ysw hg;have hd:=Yly hA;have hin:∀(t:Nat),t<2->∀(l:List (Nat×Nat)),l.length<=1000->Uas (Zfh PZ a0 a1 (t:Int) l.length (arrD l)) ((Uak (num a0 0) (num a0 1) 36).filter (Zac a0)) (l.length,arrD l)=some (.more ((l++dfL a0 a1 t 36).length,arrD (l++dfL a0 a1 t 36))):=by
  intro t ht l hl;have h:=Ym6 (g:=Zfh PZ a0 a1 (t:Int) l.length (arrD l)) (λk=>((l++dfL a0 a1 t k).length,arrD (l++dfL a0 a1 t k))) (wd:=num a0 0) (hi:=num a0 1) (q:=Zac a0) (λk hk _ _=>by
   have h1:decide ((k:Int)<36)=true:=Q3 (by omega);have h0:decide (0<=(k:Int))=true:=Q3 (by omega);have t1:decide ((t:Int)<2)=true:=Q3 (by omega);have t0:decide (0<=(t:Int))=true:=Q3 (by omega);have hlen:(l++dfL a0 a1 t k).length<=1036:=by have:=Ylk a0 a1 t k;rw[jA];omega
   have hb:=Yml (n:=(l++dfL a0 a1 t k).length+1) (by omega);have ed:(!(Uap (a0.extract (3+t*180+k*5) (3+t*180+k*5+5)) (a1.extract (3+t*180+k*5) (3+t*180+k*5+5))))=difB a0 a1 t k:=rfl;simp only[Zfh,h1,h0,t1,t0,ed,hb,Q9,Bool.and_self,Q1];rw[dfL];cases difB a0 a1 t k with
   |false=>simp only[Q2]
   |true=>simp only[Q1];rw[<- List.append_assoc,Ykh (l++dfL a0 a1 t k),show ((l++dfL a0 a1 t k)++[(t,k)]).length=(l++dfL a0 a1 t k).length+1 from jA];rfl) (λk hk hq=>by
   have hw:(inC (num a0 0) (num a0 1) k && !(bitI (num a0 2) k))=false:=by unfold Zac at hq;rw[Zqm hk]at hq;exact hq
   have hn:=dif_dry hA hC c0 c1 c2 ht hk hw;rw[dfL,hn,Q2])
  rw[show dfL a0 a1 t 0=[] from rfl,List.append_nil]at h;exact h
 have h:=Zcr (g:=Zd4 PZ 18446744073709551616 a0 a1) (λt=>((t:Int),(dfT a0 a1 t).length,arrD (dfT a0 a1 t))) (m:=2) (x:=((2:Int),(dfT a0 a1 2).length,arrD (dfT a0 a1 2))) (N:=18446744073709551616) (λt ht=>by
  have h1:decide ((t:Int)<2)=true:=Q3 (by omega);have h3:i64.wrap ((t:Int)+1)=((t+1:Nat):Int):=by rw[IntWalk.i64_in _ (by omega)];omega
  have hl:=Yhn a0 a1 t;have hi:=hin t ht (dfT a0 a1 t) (by omega);simp only[Zd4,h1,hd,Q1];rw[hi];simp only[Uc9,Ze4,h3];rfl) (by
  have h1:decide (((2:Nat):Int)<2)=false:=by decide
  simp only[Zd4,h1,Q2];rfl) (by omega)
 refine(Yds 18446744073709551616 a0 a1).trans ?_;have h':Uab (Zd4 PZ 18446744073709551616 a0 a1) 18446744073709551616 ((0:Int),0,(#[]:Array Value))=some ((2:Int),(dfT a0 a1 2).length,arrD (dfT a0 a1 2)):=h;rw[h'];rfl
def Znl:Con:=λargs h=>match args,h with|[.g a0 37,.g a1 37],[]=>some (.a .x,.newS none (dfT a0 a1 2).length (arrD (dfT a0 a1 2)) 53,(okS a0&&(okS a1&&Zah a0 a1)))|_,_=>none
theorem Yak:EntX PZ 67:=Zaj (fn:=f67)
theorem Yh0:Uac (md F) PZ 67 Znl:=(ansY (N:=18446744073709551616) (mkΓx_nX Zpr Znu (mkΓx_iX Znv Zlu mkΓx_nilX)) f67 [([8],[2000003,53]),([],[2000003,53])]).of (by
 intro ρ h w args vals r e hA hH hr;unfold Znl at hr;split at hr
 ·rename_i a0 a1;obtain⟨rfl,rfl,hg2⟩:=BQi hr;exact Ycf a0 a1 (hA.wt 0 rfl) (hA.wt 1 rfl) hg2
 ·cases hr)
end
end Go.Proofs.YtdfefaanfiheoaaGreatDoor
