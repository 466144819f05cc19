/- What finds score with a sea. -/
import Derived.Test.YtdfefaanfiheoaaGreatDoorProg
import Derived.Test.YtdfefaanfiheoaaGreatDoorCuB
import Derived.Test.YtdfefaanfiheoaaGreatDoorCuM
set_option linter.unusedVariables false
set_option linter.unusedSimpArgs false
namespace Go.Proofs.YtdfefaanfiheoaaGreatDoor
open Tryz (f39 f42)
open Go.ChangeShapes Go.WideShapes Go.ChangeAt Go.RowKit Ve Vc
open Tryz renaming prog -> PZ
open IntKind (i64)
set_option maxRecDepth 100000
noncomputable section
variable {F:Vc.Fd}
theorem fnd_at{S a:Array Value}{k:Nat}(hW:WT PZ 70 (a.extract (k*2) (k*2+2)))(hf:fndB S a k=true):Zaa (num (a.extract (k*2) (k*2+2)) 1) 1 14=true/\0<=num (a.extract (k*2) (k*2+2)) 0/\num (a.extract (k*2) (k*2+2)) 0<36:=by obtain⟨z,e0,e1,e2,e3⟩:=Zte hW;obtain⟨x0,x1⟩:=Yor a k;obtain⟨f1,f2,f3⟩:=fnd_of hf;rw[<- x0,e0]at f1;rw[<- x1,e1]at f3;have r4:=Ziz f1;exact⟨f3,r4.1,by omega⟩
def ptK(P:Program)(S:Array Value)(c b:Int)(D:Array Value)(k:Nat):Int:=num (inH P S c b (num (D.extract (k*2) (k*2+2)) 1).toNat) (num (D.extract (k*2) (k*2+2)) 0).toNat
def noK(P:Program)(S:Array Value)(c b:Int)(D:Array Value)(k:Nat):Bool:=ptK P S c b D k==(0:Int)
def nuK(P:Program)(S:Array Value)(c b:Int)(D:Array Value)(k:Nat):Int:=scN (ptK P S c b D k) (num (D.extract (k*2) (k*2+2)) 1)
def scsC(P:Program)(S:Array Value)(c b:Int)(D:Array Value):Nat->Array Value
 |0=>#[]
 |k+1=>scsC P S c b D k++#[scV (noK P S c b D k) (nuK P S c b D k)]
theorem Yfx(S:Array Value)(c b:Int)(D:Array Value):∀n,(scsC PZ S c b D n).size=n
 |0=>rfl
 |n+1=>by rw[scsC,Array.size_append,Yfx S c b D n];rfl
theorem Yov(S:Array Value)(c b:Int)(D:Array Value):∀n k,k<n->(scsC PZ S c b D n)[k]?=some (scV (noK PZ S c b D k) (nuK PZ S c b D k))
 |0,k,hk=>by omega
 | n+1,k,hk=>by
  have hz:=Yfx S c b D n;rw[scsC,Array.getElem?_append,hz]
  by_cases h:k<n
  ·rw[if_pos h];exact Yov S c b D n k h
  ·obtain rfl:k=n:=by omega
   rw[if_neg h,Nat.sub_self];rfl
theorem Yl2(S:Array Value)(c b:Int)(D:Array Value){n k:Nat}(hk:k<n):cel (scsC PZ S c b D n) k=scV (noK PZ S c b D k) (nuK PZ S c b D k):=by unfold cel;rw[Yov S c b D n k hk]
theorem scN_in(p h:Int):i64.min<=scN p h/\scN p h<=i64.max:=Zgw .i64 _
theorem scs_all(S:Array Value)(c b:Int)(D:Array Value)(n:Nat):allSc (scsC PZ S c b D n) n=true:=
 List.all_eq_true.2 λk hk=>by rw[Yl2 S c b D (List.mem_range.1 hk)];exact sc_is (scN_in _ _)
def finZ(P:Program)(S:Array Value)(c b:Int)(D:Array Value)(n:Nat):Bool:=((List.range n).find? (noK P S c b D)).isSome
def finF(P:Program)(S:Array Value)(c b:Int)(D:Array Value)(s:Int)(k:Nat):Int:=i64.wrap (s+nuK P S c b D k)
def finS(P:Program)(S:Array Value)(c b:Int)(D:Array Value)(n:Nat):Int:=folds (finF P S c b D) 0 n
theorem Ya3{p q:Nat->Bool}:∀(l:List Nat),(∀k∈l,p k=q k)->l.find? p=l.find? q
 |[],_=>rfl
 |a::l,h=>by
  rw[List.find?_cons,List.find?_cons,h a (List.mem_cons_self ..),Ya3 l λk hk=>h k (List.mem_cons_of_mem _ hk)]
theorem Zpi{T:Type}{f g:T->Nat->T}{t:T}:∀n,(∀k s,k<n->f s k=g s k)->folds f t n=folds g t n
 |0,_=>rfl
 |n+1,h=>by rw[Zdg,Zdg,Zpi n λk s hk=>h k s (by omega),h n _ (by omega)]
theorem sc_true(a b:Int):scV true a=scV true b:=rfl
theorem tot_fin(S:Array Value)(c b:Int)(D:Array Value)(n:Nat):scV (totZ (scsC PZ S c b D n) n) (totS (scsC PZ S c b D n) n)=scV (finZ PZ S c b D n) (finS PZ S c b D n):=by
 have hz:totZ (scsC PZ S c b D n) n=finZ PZ S c b D n:=by unfold totZ finZ;rw[Ya3 (q:=noK PZ S c b D) (List.range n) λk hk=>by rw[Yl2 S c b D (List.mem_range.1 hk),sc_no]]
 rw[hz];cases hf:finZ PZ S c b D n with
 |true=>exact sc_true _ _
 | false=>
  have hn:∀k,k<n->noK PZ S c b D k=false:=λk hk=>by
   unfold finZ at hf;cases h:noK PZ S c b D k with|false=>rfl|true=>have:((List.range n).find? (noK PZ S c b D)).isSome=true:=List.find?_isSome.2 ⟨k,List.mem_range.2 hk,h⟩;rw[this]at hf;cases hf
  have hs:totS (scsC PZ S c b D n) n=finS PZ S c b D n:=by
   unfold totS finS;refine Zpi n λk s hk=> ?_
   unfold totF finF;rw[Yl2 S c b D hk,hn k hk,sc_pay]
  rw[hs]
theorem Yku{S D:Array Value}{n:Nat}(hv:vf S n D=true)(h_D:∀k,k<n->WT PZ 70 (D.extract (k*2) (k*2+2))):∀k,k<n->Zaa (num (D.extract (k*2) (k*2+2)) 1) 1 14=true/\0<=(num (D.extract (k*2) (k*2+2)) 0)/\(num (D.extract (k*2) (k*2+2)) 0)<36/\i64.wrap (num (D.extract (k*2) (k*2+2)) 1)=(num (D.extract (k*2) (k*2+2)) 1):=λk hk=>by
 obtain⟨q0,hn,hf⟩:=Ud6 hv;obtain⟨p3,p4,p5⟩:=fnd_at (h_D k hk) (hf k hk);exact⟨p3,p4,p5,(Zte (h_D k hk)).2.2.1⟩
theorem vf_lat{S D:Array Value}{n:Nat}(hv:vf S n D=true)(h_D:∀k,k<n->WT PZ 70 (D.extract (k*2) (k*2+2))):0<=latV D n/\latV D n<=14/\∀k,k<n->(num (D.extract (k*2) (k*2+2)) 1)<=latV D n:=by
 have hh:=Yku hv h_D;have:=lat_in D n λk hk=>by
  obtain⟨p3,_,_,e⟩:=hh k hk;rw[e];exact Zj2 p3
 refine⟨this.1,this.2,λk hk=> ?_⟩;have h2:=lat_le D n k hk;rw[(hh k hk).2.2.2]at h2;exact h2
theorem bytes_sc:bytesOf PZ 77=16:=by kernel_rfl
def Za5:Cons:=(mkΓ [(61,con Zl9),(62,con Zkb),(63,con Zim)])
def Zbo(a0 a1:Array Value)(bQ:Option (Option Addr))(nQ:Nat)(aQ:Array Value):St:=(⟨.a (.r a0 74 [(2,0)])::.a (.g a1 37)::.a (.w 1)::.a (.w 2)::.a (.v (.slice none 0 0))::.a (.l 12)::.a (.l 17)::.a (.u)::.a (.u)::.a (.g a1 37)::.a (.p 1 (0) 2)::.a (.i .i64 (num a0 0))::.a (.p 1 (1) 2)::.a (.i .i64 (num a0 1))::.a (.p 1 (2) 39)::.a (.l 0)::.a (.i .i64 (latV aQ nQ))::.a (.l 12)::.a (.p 1 (2) 39)::.a (.l 0)::.a (.i .i64 (nQ:Int))::.a (.l 17)::.a (.p 1 (2) 39)::.a (.l 0)::.a (.i .i64 (nQ:Int))::.a (.i .i64 0)::us 12 ([]),[.sl (.came bQ) nQ aQ 70,.one (.r a0 74 [(2,0)]) 74,.row a1 37,.no,.no,.no,.no,.no,.no,.no,.no,.no,.sl .own (((latV aQ nQ).toNat+1)) (recC PZ a1 (num a0 0) (num a0 1) (latV aQ nQ).toNat) 105,.no,.no,.no,.no,.sl .own ((nQ:Int).toNat) (madeCells (zc PZ 77) ((nQ:Int).toNat*1)) 77,.no],[]⟩:St)
def Zb5(nQ:Nat):Int×Array Value->LS
 |(y0_25,r0_17)=>([.a (.i .i64 y0_25)],[.sl .own ((nQ:Int).toNat) r0_17 77])
def Zfa(nQ:Nat):Int×Array Value->Exit×LS
 |t=>((.exit 0),(Zb5 nQ) t)
def Zas(P:Program)(a0 a1:Array Value)(bQ:Option (Option Addr))(nQ:Nat)(aQ:Array Value):Int×Array Value->Option (Stp (Int×Array Value) (Int×Array Value))
 |(y0_25,r0_17)=>bif decide (y0_25<(nQ:Int)) then (bif (decide (0<=y0_25)&&decide (y0_25<(nQ:Int))) then (bif ((Zaa (num (aQ.extract ((y0_25).toNat*2) (((y0_25).toNat*2)+2)) 1) 1 14&&(decide (num (aQ.extract ((y0_25).toNat*2) (((y0_25).toNat*2)+2)) 1<((((latV aQ nQ).toNat+1)):Int))&&(decide (0<=num (aQ.extract ((y0_25).toNat*2) (((y0_25).toNat*2)+2)) 0)&&decide (num (aQ.extract ((y0_25).toNat*2) (((y0_25).toNat*2)+2)) 0<36))))&&decide (0<=(prtV (recC PZ a1 (num a0 0) (num a0 1) (latV aQ nQ).toNat) (aQ.extract ((y0_25).toNat*2) (((y0_25).toNat*2)+2))))) then (bif (decide (0<=y0_25)&&decide (y0_25<(((nQ:Int).toNat):Int))) then (some (.more ((i64.wrap (y0_25+(1:Int))),(r0_17.setIfInBounds ((y0_25).toNat*1) ((scV ((prtV (recC PZ a1 (num a0 0) (num a0 1) (latV aQ nQ).toNat) (aQ.extract ((y0_25).toNat*2) (((y0_25).toNat*2)+2)))==(0:Int)) (scN (prtV (recC PZ a1 (num a0 0) (num a0 1) (latV aQ nQ).toNat) (aQ.extract ((y0_25).toNat*2) (((y0_25).toNat*2)+2))) (num (aQ.extract ((y0_25).toNat*2) (((y0_25).toNat*2)+2)) 1)))))))) else (none)) else (none)) else (none)) else (some (.done (y0_25,r0_17)))
noncomputable abbrev cKCuC42:=codeOf f42
theorem Zo4(N:Nat)(a0 a1:Array Value)(bQ:Option (Option Addr))(nQ:Nat)(aQ:Array Value):∀t:Int×Array Value,Uah PZ Za5 N (cAt cKCuC42 [1,1,1,0,1,0,0]) (pAt (Uaa cKCuC42 [([25],[17])]).1 [1,1,1,0,1,0]) [25] [17] (Zbo a0 a1 bQ nQ aQ) ((Zb5 nQ) t)=mapS (Zb5 nQ) (Zfa nQ) (Zas PZ a0 a1 bQ nQ aQ t):=by
 rintro⟨y0_25,r0_17⟩
 conv=>rhs;simp only[Zas,Zao,Zam,Zan,Zap,Zb5,Zfa]
 kernel_rfl
def Zcn(P:Program)(N:Nat)(a0 a1:Array Value)(bQ:Option (Option Addr))(nQ:Nat)(aQ:Array Value)(z0_25:Int)(q0_17:Array Value):Option (SV×Eff×Bool):=some (.a .x,.newS none ((nQ:Int).toNat) q0_17 77,true)
theorem Zlr(N:Nat)(a0 a1:Array Value)(bQ:Option (Option Addr))(nQ:Nat)(aQ:Array Value)(z0_25:Int)(q0_17:Array Value):(Uad 0 (kSeq (veC PZ Za5 N (cAt cKCuC42 [1,1,1,1]) (pAt (Uaa cKCuC42 [([25],[17])]).1 [1,1,1,1]) (SV×Eff×Bool)) (finK PZ [.sl (.came bQ) nQ aQ 70] [.tmp 4]))) (.exit 0) (left (writes (cAt cKCuC42 [1,1,1,0,1,0,0])) [25] [17] (Zbo a0 a1 bQ nQ aQ) ([.a (.i .i64 z0_25)],[.sl .own ((nQ:Int).toNat) q0_17 77]))=Zcn PZ N a0 a1 bQ nQ aQ z0_25 q0_17:=by kernel_rfl
theorem Zo7(N:Nat)(a0 a1:Array Value)(bQ:Option (Option Addr))(nQ:Nat)(aQ:Array Value):Uag (Uab (Uah PZ Za5 N (cAt cKCuC42 [1,1,1,0,1,0,0]) (pAt (Uaa cKCuC42 [([25],[17])]).1 [1,1,1,0,1,0]) [25] [17] (Zbo a0 a1 bQ nQ aQ)) N ([.a (.i .i64 0)],[.sl .own ((nQ:Int).toNat) (madeCells (zc PZ 77) ((nQ:Int).toNat*1)) 77])) (λe s=>(Uad 0 (kSeq (veC PZ Za5 N (cAt cKCuC42 [1,1,1,1]) (pAt (Uaa cKCuC42 [([25],[17])]).1 [1,1,1,1]) (SV×Eff×Bool)) (finK PZ [.sl (.came bQ) nQ aQ 70] [.tmp 4]))) e (left (writes (cAt cKCuC42 [1,1,1,0,1,0,0])) [25] [17] (Zbo a0 a1 bQ nQ aQ) s))=Uai (Uab (Zas PZ a0 a1 bQ nQ aQ) N ((0:Int),(madeCells (zc PZ 77) ((nQ:Int).toNat*1)))) (λx=>Zcn PZ N a0 a1 bQ nQ aQ x.1 x.2):=by refine Zar (Zb5 nQ) (Zfa nQ) _ _ (Zo4 N a0 a1 bQ nQ aQ) N ((0:Int),(madeCells (zc PZ 77) ((nQ:Int).toNat*1))) _ _ ?_;intro x;exact Zlr N a0 a1 bQ nQ aQ x.1 x.2
theorem Zn9(N:Nat)(a0 a1:Array Value)(bQ:Option (Option Addr))(nQ:Nat)(aQ:Array Value):ansV PZ Za5 N f42 [([25],[17])] [.r a0 74 [(2,0)],.g a1 37] [.sl (.came bQ) nQ aQ 70]=(bif Nat.ble nQ 60 then (bif (okS a1&&((Zab (num a0 0) a1&&Zaa (num a0 1) 0 1)&&Zaa (latV aQ nQ) 0 14)) then (bif (decide (0<=(nQ:Int))&&((nQ:Int)==(nQ:Int)&&decide ((bytesOf PZ 77:Int)*(nQ:Int)<=281474976710656))) then (Uai (Uab (Zas PZ a0 a1 bQ nQ aQ) N ((0:Int),(madeCells (zc PZ 77) ((nQ:Int).toNat*1)))) (λx=>Zcn PZ N a0 a1 bQ nQ aQ x.1 x.2)) else (none)) else (none)) else (none)):=by
 conv=>rhs;simp only[<- Zo7 N a0 a1 bQ nQ aQ]
 kernel_rfl
theorem Zm5(a0 a1:Array Value)(bQ:Option (Option Addr))(nQ:Nat)(aQ:Array Value)(h_a0:WT PZ 74 a0)(h_a1:WT PZ 37 a1)(h_a0x2:aQ.size=nQ*(lay PZ 70).length/\(∀k,k<nQ->WT PZ 70 (aQ.extract (k*(lay PZ 70).length) (k*(lay PZ 70).length+(lay PZ 70).length)))/\nQ<=9223372036854775807)(hg:((vf a1 nQ aQ&&(Zab (num a0 0) a1&&Zaa (num a0 1) 0 1)))=true):ansV PZ Za5 1000 f42 [([25],[17])] [.r a0 74 [(2,0)],.g a1 37] [.sl (.came bQ) nQ aQ 70]=some (.a .x,.newS none nQ (scsC PZ a1 (num a0 0) (num a0 1) aQ nQ) 77,true):=by
 have hl:(lay PZ 70).length=2:=by kernel_rfl
 rw[hl]at h_a0x2;obtain⟨s1,s2,s3⟩:=h_a0x2;simp only[Q7]at hg;obtain⟨hv,i0,t0⟩:=hg;obtain⟨o0,hn,_⟩:=Ud6 hv;obtain⟨L0,L1,L2⟩:=vf_lat hv s2;have hh:=Yku hv s2;refine(Zn9 1000 a0 a1 bQ nQ aQ).trans ?_;have g1:Nat.ble nQ 60=true:=Nat.ble_eq_true_of_le hn;have g2:(decide (0<=(nQ:Int))&&((nQ:Int)==(nQ:Int)&&decide ((bytesOf PZ 77:Int)*(nQ:Int)<=281474976710656)))=true:=by rw[bytes_sc,Q3 (show 0<=(nQ:Int) by omega),beq_self_eq_true,Q3 (show ((16:Nat):Int)*(nQ:Int)<=281474976710656 by omega)];rfl
 rw[g1,g2,o0,i0,t0,in_of (x:=latV aQ nQ) (a:=0) (b:=14) ⟨L0,L1⟩];simp only[Bool.and_self,Q1,Q9];have hq:∀q:Array Value,Uab (Zas PZ a0 a1 bQ nQ aQ) 1000 ((0:Int),madeCells (zc PZ 77) (nQ*1))=some ((nQ:Int),q)->Uai (Uab (Zas PZ a0 a1 bQ nQ aQ) 1000 ((0:Int),madeCells (zc PZ 77) (nQ*1))) (λx=>Zcn PZ 1000 a0 a1 bQ nQ aQ x.1 x.2)=some (.a .x,.newS none nQ q 77,true):=λq e=>by rw[e];rfl
 refine hq _ ?_;have hz:(zc PZ 77).size=1:=by kernel_rfl
 have hcz:=Yfx a1 (num a0 0) (num a0 1) aQ nQ;have hs:(scsC PZ a1 (num a0 0) (num a0 1) aQ nQ).size=(madeCells (zc PZ 77) (nQ*1)).size:=by rw[hcz,size_madeCells];omega
 have hF:∀(k:Nat) (s:Array Value),k<nQ->Zas PZ a0 a1 bQ nQ aQ ((k:Int),s)=some (.more (((k+1:Nat):Int),s.setIfInBounds (k*1) (scV (noK PZ a1 (num a0 0) (num a0 1) aQ k) (nuK PZ a1 (num a0 0) (num a0 1) aQ k)))):=λk s hk=>by
  obtain⟨p3,p4,p5,p6⟩:=hh k hk;have r3:=Zj2 p3;have hL:=L2 k hk;have h1:decide ((k:Int)<(nQ:Int))=true:=Q3 (by omega);have h2:decide (0<=(k:Int))=true:=Q3 (by omega);have h3:i64.wrap ((k:Int)+1)=((k+1:Nat):Int):=by rw[w64 (by omega)];omega
  have e1:prtV (recC PZ a1 (num a0 0) (num a0 1) (latV aQ nQ).toNat) (aQ.extract (k*2) (k*2+2))=ptK PZ a1 (num a0 0) (num a0 1) aQ k:=by unfold prtV ptK inH;rw[Ypc a1 (num a0 0) (num a0 1) (latV aQ nQ).toNat _ (by omega),Ypc a1 (num a0 0) (num a0 1) (latV aQ nQ).toNat _ (by omega)]
  have e2:0<=ptK PZ a1 (num a0 0) (num a0 1) aQ k:=(Ysj h_a1 o0 i0 t0 (k:=(num (aQ.extract (k*2) (k*2+2)) 0).toNat) (n:=(num (aQ.extract (k*2) (k*2+2)) 1).toNat) (by omega) (by omega)).2.1;have g3:decide ((num (aQ.extract (k*2) (k*2+2)) 1)<(((latV aQ nQ).toNat+1:Nat):Int))=true:=Q3 (by omega);have g3':decide ((num (aQ.extract (k*2) (k*2+2)) 1)<((latV aQ nQ).toNat:Int)+1)=true:=Q3 (by omega);have g4:decide (0<=(num (aQ.extract (k*2) (k*2+2)) 0))=true:=Q3 p4;have g5:decide ((num (aQ.extract (k*2) (k*2+2)) 0)<36)=true:=Q3 p5;simp only[Zas,h1,h2,h3,p3,g3,g3',g4,g5,e1,Q3 e2,Q9,Bool.and_self,Q1];rfl
 have hat:=Yov a1 (num a0 0) (num a0 1) aQ nQ;generalize madeCells (zc PZ 77) (nQ*1)=Z at hs|-
 generalize hW:(λk=>scV (noK PZ a1 (num a0 0) (num a0 1) aQ k) (nuK PZ a1 (num a0 0) (num a0 1) aQ k))=W;have hF':∀(k:Nat) (s:Array Value),k<nQ->Zas PZ a0 a1 bQ nQ aQ ((k:Int),s)=some (.more (((k+1:Nat):Int),s.setIfInBounds (k*1) (W k))):=λk s hk=>by rw[<- hW];exact hF k s hk
 have hat':∀k,k<nQ->(scsC PZ a1 (num a0 0) (num a0 1) aQ nQ)[k]?=some (W k):=λk hk=>by rw[<- hW];exact hat k hk
 generalize scsC PZ a1 (num a0 0) (num a0 1) aQ nQ=C at hs hcz hat'|-
 have h:=Zcr (g:=Zas PZ a0 a1 bQ nQ aQ) (λk=>((k:Int),upto C Z k)) (m:=nQ) (x:=((nQ:Int),upto C Z nQ)) (N:=1000) (λk hk=>by
  rw[hF' k _ hk,Nat.mul_one,Yam hs (hat' k hk)]) (by
  have h1:decide ((nQ:Int)<(nQ:Int))=false:=Q4 (by omega);simp only[Zas,h1,Q2]) (by omega)
 rw[Zuj hs hcz,Zqw hs]at h;exact h
def Zeu:Con:=λargs h=>match args,h with|[.r a0 74 [(2,0)],.g a1 37],[.sl (.came bQ) nQ aQ 70]=>some (.a .x,.newS none nQ (scsC PZ a1 (num a0 0) (num a0 1) aQ nQ) 77,(vf a1 nQ aQ&&(Zab (num a0 0) a1&&Zaa (num a0 1) 0 1)))|_,_=>none
theorem Zmp:EntX PZ 42:=Zaj (fn:=f42)
theorem Zow:Uac (md F) PZ 42 Zeu:=(ansY (N:=1000) (mKc (Zae Yew) Zxh (mKc (Zae Zxs) Zti (mKc (Zae Zu7) Zq0 mKn))) f42 [([25],[17])]).of (by
 intro ρ h w args vals r e hA hH hr;unfold Zeu at hr;split at hr
 ·rename_i a0 a1 bQ nQ aQ;obtain⟨rfl,rfl,hg2⟩:=BQi hr;exact Zm5 a0 a1 bQ nQ aQ (hA.wtr 0 rfl) (hA.wt 1 rfl) (hH.slw 0 rfl) hg2
 ·cases hr)
def Zjw:Cons:=(mkΓ [(42,con Zeu),(58,con Zp5)])
theorem Zoq(N:Nat)(a0 a1:Array Value)(bQ:Option (Option Addr))(nQ:Nat)(aQ:Array Value):ansV PZ Zjw N f39 [] [.r a0 74 [(2,0)],.g a1 37] [.sl (.came bQ) nQ aQ 70]=(bif (vf a1 nQ aQ&&(Zab (num a0 0) a1&&Zaa (num a0 1) 0 1)) then (bif (allSc (scsC PZ a1 (num a0 0) (num a0 1) aQ nQ) nQ&&Nat.ble nQ 60) then (some (.a (.v ((scV (totZ (scsC PZ a1 (num a0 0) (num a0 1) aQ nQ) nQ) (totS (scsC PZ a1 (num a0 0) (num a0 1) aQ nQ) nQ)))),.none,true)) else (none)) else (none)):=by kernel_rfl
theorem Zn0(a0 a1:Array Value)(bQ:Option (Option Addr))(nQ:Nat)(aQ:Array Value)(h_a0:WT PZ 74 a0)(h_a1:WT PZ 37 a1)(h_a0x2:aQ.size=nQ*(lay PZ 70).length/\(∀k,k<nQ->WT PZ 70 (aQ.extract (k*(lay PZ 70).length) (k*(lay PZ 70).length+(lay PZ 70).length)))/\nQ<=9223372036854775807)(hg:((vf a1 nQ aQ&&(Zab (num a0 0) a1&&Zaa (num a0 1) 0 1)))=true):ansV PZ Zjw 1000 f39 [] [.r a0 74 [(2,0)],.g a1 37] [.sl (.came bQ) nQ aQ 70]=some (.a (.v ((scV (finZ PZ a1 (num a0 0) (num a0 1) aQ nQ) (finS PZ a1 (num a0 0) (num a0 1) aQ nQ)))),.none,true):=by have hn:=(Ud6 (Bool.and_eq_true_iff.1 hg).1).2.1;refine(Zoq 1000 a0 a1 bQ nQ aQ).trans ?_;rw[hg,scs_all,tot_fin,show Nat.ble nQ 60=true from Nat.ble_eq_true_of_le hn];rfl
def Zfb:Con:=λargs h=>match args,h with|[.r a0 74 [(2,0)],.g a1 37],[.sl (.came bQ) nQ aQ 70]=>some (.a (.v ((scV (finZ PZ a1 (num a0 0) (num a0 1) aQ nQ) (finS PZ a1 (num a0 0) (num a0 1) aQ nQ)))),.none,(vf a1 nQ aQ&&(Zab (num a0 0) a1&&Zaa (num a0 1) 0 1)))|_,_=>none
theorem Zmy:EntX PZ 39:=Zaj (fn:=f39)
theorem Zpm:Uac (md F) PZ 39 Zfb:=(ansY (N:=1000) (mKc (Zae Zow) Zmp (mKc (Zae Ykr) Ydu mKn)) f39 []).of (by
 intro ρ h w args vals r e hA hH hr;unfold Zfb at hr;split at hr
 ·rename_i a0 a1 bQ nQ aQ;obtain⟨rfl,rfl,hg2⟩:=BQi hr;exact Zn0 a0 a1 bQ nQ aQ (hA.wtr 0 rfl) (hA.wt 1 rfl) (hH.slw 0 rfl) hg2
 ·cases hr)
end
end Go.Proofs.YtdfefaanfiheoaaGreatDoor
