/- The score of a find, and of several. -/
import Derived.Test.YtdfefaanfiheoaaGreatDoorProg
import Derived.Test.YtdfefaanfiheoaaGreatDoorCuA
import Derived.Test.YtdfefaanfiheoaaGreatDoorCuL
set_option linter.unusedVariables false
set_option linter.unusedSimpArgs false
namespace Go.Proofs.YtdfefaanfiheoaaGreatDoor
open Tryz (f62 f63 f146 f147)
open Go.ChangeShapes Go.WideShapes Go.ChangeAt Go.RowKit Ve Vc
open Tryz renaming prog -> PZ
open IntKind (i64)
set_option maxRecDepth 100000
noncomputable section
variable {F:Vc.Fd}
def scV(z:Bool)(n:Int):Value:=.iface (bif z then 129 else 127) (bif z then .agg #[] else .int .i64 n)
def isSc(y:Value):Bool:=(Ub0 127 y&&okI .i64 127 y)||(Ub0 129 y&&Ufo 129 y)
def noSc(y:Value):Bool:=Ub0 129 y
theorem isSc_of{y:Value}(h:isSc y=true):(∃n,y=.iface 127 (.int .i64 n)/\i64.min<=n/\n<=i64.max)\/y=.iface 129 (.agg #[]):=by
 unfold isSc at h
 match y,h with
 | .iface t p,h=>
  simp only[Ub0,okI,Ufo]at h;cases h1:Nat.beq t 127 with
  |true=>
   obtain rfl:=Nat.eq_of_beq_eq_true h1;have e2:Nat.beq 127 129=false:=by decide
   simp only[h1,e2,Q1,Bool.true_and,Bool.false_and,Bool.or_false]at h;split at h
   case h_2=>cases h
   rename_i k n;simp only[Q7,decide_eq_true_eq]at h;obtain⟨hk,h2,h3⟩:=h;obtain rfl:=kbeq hk;exact .inl ⟨n,rfl,h2,h3⟩
  |false=>
   simp only[h1,Q2,Bool.false_and,Bool.false_or,Q7]at h;obtain⟨h2,h3⟩:=h;obtain rfl:=Nat.eq_of_beq_eq_true h2;simp only[h2,Q1]at h3;split at h3
   case h_2=>cases h3
   rename_i D;obtain rfl:D=#[]:=Array.eq_empty_of_size_eq_zero (Nat.eq_of_beq_eq_true h3);exact .inr rfl
theorem sc_is{z:Bool}{n:Int}(h:i64.min<=n/\n<=i64.max):isSc (scV z n)=true:=by
 cases z with
 |true=>rfl
 |false=>unfold isSc scV;simp only[Q2,Ub0,okI,Q3 h.1,Q3 h.2];rfl
def toldV(y:Value):Int:=bif noSc y then 0 else payI y
def Ugd(y:Value):Int:=bif noSc y then 6 else 0
def Zw9:Con:=λargs h=>match args with
 |[.v y]=>some (.t [.i .i64 (toldV y),.i .i64 (Ugd y)],.none,isSc y)
 |_=>none
theorem Zty(N:Nat)(a0:Int):ansV PZ (mkΓ []) N f146 [] [.i .i64 (a0)] []=(some (.t [.i .i64 (a0),.i .i64 (0:Int)],.none,true)):=by kernel_rfl
theorem Zq0(a0:Int)(h_a0:i64.min<=a0/\a0<=i64.max)(hg:(true)=true):ansV PZ (mkΓ []) 1000 f146 [] [.i .i64 (a0)] []=some (.t [.i .i64 (a0),.i .i64 (0:Int)],.none,true):=by refine(Zty 1000 a0).trans ?_;rfl
def Zmt:Con:=λargs h=>match args,h with
 |[.i .i64 a0],[]=>some (.t [.i .i64 (a0),.i .i64 (0:Int)],.none,true)
 |_,_=>none
theorem Zvs:Uac (md F) PZ 146 Zmt:=(ansY (N:=1000) mKn f146 []).of (by
 intro ρ h w args vals r e hA hH hr;unfold Zmt at hr;split at hr
 ·rename_i a0
  obtain⟨rfl,rfl,hg2⟩:=BQi hr;exact Zq0 a0 (hA.rng 0 rfl) hg2
 ·cases hr)
theorem Zrr(N:Nat)(a0:Array Value):ansV PZ (mkΓ []) N f147 [] [.g a0 129] []=(some (.t [.i .i64 (0:Int),.i .i64 (6:Int)],.none,true)):=by kernel_rfl
theorem Zqi(a0:Array Value)(h_a0:WT PZ 129 a0)(hg:(true)=true):ansV PZ (mkΓ []) 1000 f147 [] [.g a0 129] []=some (.t [.i .i64 (0:Int),.i .i64 (6:Int)],.none,true):=by refine(Zrr 1000 a0).trans ?_;rfl
def Zlx:Con:=λargs h=>match args,h with
 |[.g a0 129],[]=>some (.t [.i .i64 (0:Int),.i .i64 (6:Int)],.none,true)
 |_,_=>none
theorem Zt4:Uac (md F) PZ 147 Zlx:=(ansY (N:=1000) mKn f147 []).of (by
 intro ρ h w args vals r e hA hH hr;unfold Zlx at hr;split at hr
 ·rename_i a0
  obtain⟨rfl,rfl,hg2⟩:=BQi hr;exact Zqi a0 (hA.wt 0 rfl) hg2
 ·cases hr)
theorem Ylz (n : Int) : ∀ w es, (callMethod (.iface 127 (.int .i64 n)) "loop.example/g01300/impl.told" (#[] : Array Value)).runT PZ w es = (.ok (.enter 146 #[.int .i64 n]) w, es) := λ w es => by kernel_rfl
theorem Yp1 : ∀ w es, (callMethod (.iface 129 (.agg #[])) "loop.example/g01300/impl.told" (#[] : Array Value)).runT PZ w es = (.ok (.enter 147 #[.agg #[]]) w, es) := λ w es => by kernel_rfl
theorem Ypx {z : Value} {r : Next} {v : World} (h : ∀ w es, (callMethod z "loop.example/g01300/impl.told" (#[] : Array Value)).runT PZ w es = (.ok r w, es)) : Tr PZ (callMethod z "loop.example/g01300/impl.told" (#[] : Array Value)) v r v := Ymq h
theorem Yir : Ufg (md F) PZ "loop.example/g01300/impl.told" Zw9 := by
 intro ρ h v z args vals r ef hr hA hH;cases args with
 |cons q l=>cases hr
 |nil=>
  obtain rfl:vals=[]:=List.eq_nil_of_length_eq_zero hA.1.symm;obtain⟨rfl,hg0⟩:=Q6 (Q5 hr);obtain⟨rfl,hg1⟩:=Q6 hg0;rcases isSc_of hg1 with ⟨n,rfl,h1,h2⟩|rfl
  ·exact⟨146,#[.int .i64 n],Ypx (Ylz n),Zae Zvs ρ h v [.i .i64 n] [.int .i64 n] _ _ rfl ⟨rfl,λi y v h3 h4=>by
    match i with
    |0=>cases h3;cases h4;exact⟨rfl,h1,h2⟩
    |i+1=>cases h3⟩ hH⟩
  ·exact⟨147,#[.agg #[]],Ypx Yp1,Zae Zt4 ρ h v [.g #[] 129] [.agg #[]] _ _ rfl ⟨rfl,λi y v h3 h4=>by
    match i with
    |0=>cases h3;cases h4;exact⟨rfl,by kernel_rfl,λ_ h=>by cases h⟩
    |i+1=>cases h3⟩ hH⟩
def Zdo(b_a0:Option (Option Addr))(n_a0:Nat)(a0:Array Value):St:=(⟨.a (.l 0) :: .a (.u) :: .a (.i .i64 (0:Int)) :: .a (.i .i64 (0:Int)) :: .a (.u) :: .a (.u) :: .a (.l 0) :: .a (.i .i64 (n_a0:Int)) :: .a (.i .i64 (0:Int))::us 10 ([]),[.sl (.came b_a0) n_a0 a0 70],[]⟩:St)
def Zfi:Int×Int->LS
 |(y0_3,y0_8)=>([.a (.i .i64 (y0_3)),.a (.i .i64 (y0_8))],[])
def Zju:Int×Int->Exit×LS
 |t=>((.exit 0),Zfi t)
def Zbx(P:Program)(b_a0:Option (Option Addr))(n_a0:Nat)(a0:Array Value):Int×Int->Option (Stp (Int×Int) (Int×Int))
 |(y0_3,y0_8)=>bif decide (y0_8<(n_a0:Int)) then (bif (decide (0<=y0_8)&&decide (y0_8<(n_a0:Int))) then (some (.more ((bif decide ((i64.wrap (num (a0.extract ((y0_8).toNat*2) (((y0_8).toNat*2)+2)) 1)) > y0_3) then (i64.wrap (num (a0.extract ((y0_8).toNat*2) (((y0_8).toNat*2)+2)) 1)) else y0_3),(i64.wrap (y0_8+(1:Int))))))
   else (none))
  else (some (.done (y0_3,y0_8)))
noncomputable abbrev cKCuB62:=codeOf f62
theorem Zv4(N:Nat)(b_a0:Option (Option Addr))(n_a0:Nat)(a0:Array Value):∀t:Int×Int,Uag PZ (mkΓ []) N (cAt cKCuB62 [1,1,0,1,0,0]) (pAt (Uaa cKCuB62 [([3,8],[])]).1 [1,1,0,1,0]) [3,8] [] (Zdo b_a0 n_a0 a0) (Zfi t)=mapS Zfi Zju (Zbx PZ b_a0 n_a0 a0 t):=by
 rintro⟨y0_3,y0_8⟩;refine Eq.trans (b:=(bif decide (y0_8<(n_a0:Int)) then (bif (decide (0<=y0_8)&&decide (y0_8<(n_a0:Int))) then (some (.more ([.a (.i .i64 (bif decide ((i64.wrap (num (a0.extract ((y0_8).toNat*2) (((y0_8).toNat*2)+2)) 1)) > y0_3) then (i64.wrap (num (a0.extract ((y0_8).toNat*2) (((y0_8).toNat*2)+2)) 1)) else y0_3)),.a (.i .i64 (i64.wrap (y0_8+(1:Int))))],[])))
   else (none))
  else (some (.done ((.exit 0),([.a (.i .i64 (y0_3)),.a (.i .i64 (y0_8))],[])))))) (by kernel_rfl) ?_
 simp only[Zbx,Zao,Zap,Zam,Zan,Zfi,Zju]
def Zis(P:Program)(N:Nat)(b_a0:Option (Option Addr))(n_a0:Nat)(a0:Array Value)(z0_3:Int)(z0_8:Int):Option (SV×Eff×Bool):=some (.a (.i .i64 (z0_3)),.none,true)
theorem Zpw(N:Nat)(b_a0:Option (Option Addr))(n_a0:Nat)(a0:Array Value)(z0_3:Int)(z0_8:Int):(Uad 0 (kSeq (veC PZ (mkΓ []) N (cAt cKCuB62 [1,1,1]) (pAt (Uaa cKCuB62 [([3,8],[])]).1 [1,1,1]) (SV×Eff×Bool)) (finK PZ [.sl (.came b_a0) n_a0 a0 70] [.tmp 2]))) (.exit 0) (left (writes (cAt cKCuB62 [1,1,0,1,0,0])) [3,8] [] (Zdo b_a0 n_a0 a0) ([.a (.i .i64 (z0_3)),.a (.i .i64 (z0_8))],[]))=Zis PZ N b_a0 n_a0 a0 z0_3 z0_8:=by refine Eq.trans (b:=(some (.a (.i .i64 (z0_3)),.none,true))) (by kernel_rfl) ?_;rfl
theorem Zyl(N:Nat)(b_a0:Option (Option Addr))(n_a0:Nat)(a0:Array Value):Uaj (Uab (Uag PZ (mkΓ []) N (cAt cKCuB62 [1,1,0,1,0,0]) (pAt (Uaa cKCuB62 [([3,8],[])]).1 [1,1,0,1,0]) [3,8] [] (Zdo b_a0 n_a0 a0)) N ([.a (.i .i64 (0:Int)),.a (.i .i64 (0:Int))],[])) (λe s=>(Uad 0 (kSeq (veC PZ (mkΓ []) N (cAt cKCuB62 [1,1,1]) (pAt (Uaa cKCuB62 [([3,8],[])]).1 [1,1,1]) (SV×Eff×Bool)) (finK PZ [.sl (.came b_a0) n_a0 a0 70] [.tmp 2]))) e (left (writes (cAt cKCuB62 [1,1,0,1,0,0])) [3,8] [] (Zdo b_a0 n_a0 a0) s))=Uak (Uab (Zbx PZ b_a0 n_a0 a0) N ((0:Int),(0:Int))) (λx=>Zis PZ N b_a0 n_a0 a0 x.1 x.2):=by refine Zau Zfi Zju _ _ (Zv4 N b_a0 n_a0 a0) N ((0:Int),(0:Int)) _ _ ?_;intro x;exact Zpw N b_a0 n_a0 a0 x.1 x.2
theorem Zux(N:Nat)(b_a0:Option (Option Addr))(n_a0:Nat)(a0:Array Value):ansV PZ (mkΓ []) N f62 [([3,8],[])] [.l 0] [.sl (.came b_a0) n_a0 a0 70]=(Uak (Uab (Zbx PZ b_a0 n_a0 a0) N ((0:Int),(0:Int))) (λx=>Zis PZ N b_a0 n_a0 a0 x.1 x.2)):=by refine Eq.trans (b:=(Uaj (Uab (Uag PZ (mkΓ []) N (cAt cKCuB62 [1,1,0,1,0,0]) (pAt (Uaa cKCuB62 [([3,8],[])]).1 [1,1,0,1,0]) [3,8] [] (Zdo b_a0 n_a0 a0)) N ([.a (.i .i64 (0:Int)),.a (.i .i64 (0:Int))],[])) (λe s=>(Uad 0 (kSeq (veC PZ (mkΓ []) N (cAt cKCuB62 [1,1,1]) (pAt (Uaa cKCuB62 [([3,8],[])]).1 [1,1,1]) (SV×Eff×Bool)) (finK PZ [.sl (.came b_a0) n_a0 a0 70] [.tmp 2]))) e (left (writes (cAt cKCuB62 [1,1,0,1,0,0])) [3,8] [] (Zdo b_a0 n_a0 a0) s)))) (by kernel_rfl) ?_;simp only[Zyl N b_a0 n_a0 a0]
theorem one_le{x:Int}(h:0<=x)(h0:(x==0)=false):decide (1<=x)=true:=Q3 (by
 have:x≠0:=λe=>by subst e;exact nomatch h0
 omega)
def latF(a:Array Value)(s:Int)(k:Nat):Int:=bif decide (i64.wrap (num (a.extract (k*2) (k*2+2)) 1) > s) then i64.wrap (num (a.extract (k*2) (k*2+2)) 1) else s
def latV(a:Array Value)(n:Nat):Int:=folds (latF a) 0 n
theorem lat_mono(a:Array Value)(s:Int)(k:Nat):s<=latF a s k/\i64.wrap (num (a.extract (k*2) (k*2+2)) 1)<=latF a s k:=by
 unfold latF;cases h:decide (i64.wrap (num (a.extract (k*2) (k*2+2)) 1) > s) with
 |true=>have:=of_decide_eq_true h;simp only[Q1];omega
 |false=>have:=of_decide_eq_false h;simp only[Q2];omega
theorem lat_le(a:Array Value):∀n k,k<n->i64.wrap (num (a.extract (k*2) (k*2+2)) 1)<=latV a n
 |0,k,hk=>by omega
 | n+1,k,hk=>by
  have e:latV a (n+1)=latF a (latV a n) n:=Zef _ _ _;obtain⟨h1,h2⟩:=lat_mono a (latV a n) n
  by_cases h:k<n
  ·have:=lat_le a n k h;omega
  ·obtain rfl:k=n:=by omega
   omega
theorem lat_in(a:Array Value):∀n,(∀k,k<n->1<=i64.wrap (num (a.extract (k*2) (k*2+2)) 1)/\i64.wrap (num (a.extract (k*2) (k*2+2)) 1)<=14)->0<=latV a n/\latV a n<=14
 |0,_=>by
  have e:latV a 0=0:=rfl;omega
 |n+1,h=>by
  have ih:=lat_in a n (λk hk=>h k (by omega));have e:latV a (n+1)=latF a (latV a n) n:=Zef _ _ _;have hn:=h n (by omega);rw[e];unfold latF;cases decide (i64.wrap (num (a.extract (n*2) (n*2+2)) 1) > latV a n) with
  |true=>simp only[Q1];omega
  |false=>simp only[Q2];omega
theorem Zt6(b_a0:Option (Option Addr))(n_a0:Nat)(a0:Array Value)(h_a0:a0.size=n_a0*(lay PZ 70).length/\(∀k,k<n_a0->WT PZ 70 (a0.extract (k*(lay PZ 70).length) (k*(lay PZ 70).length+(lay PZ 70).length)))/\n_a0<=9223372036854775807)(hg:(Nat.ble n_a0 60)=true):ansV PZ (mkΓ []) 1000 f62 [([3,8],[])] [.l 0] [.sl (.came b_a0) n_a0 a0 70]=some (.a (.i .i64 (latV a0 n_a0)),.none,true):=by
 have hn:n_a0<=60:=Nat.le_of_ble_eq_true hg;refine(Zux 1000 b_a0 n_a0 a0).trans ?_;have h:=Zh6 (g:=Zbx PZ b_a0 n_a0 a0) (λ(s:Int) k=>(s,(k:Int))) (latF a0) (m:=n_a0) (t:=(0:Int)) (x:=(latV a0 n_a0,(n_a0:Int))) (N:=1000) (λk s hk _=>by
  have h1:decide ((k:Int)<(n_a0:Int))=true:=Q3 (by omega);have h0:decide (0<=(k:Int))=true:=Q3 (by omega);have h3:i64.wrap ((k:Int)+1)=((k+1:Nat):Int):=by rw[w64 (by omega)];omega
  simp only[Zbx,h1,h0,h3,latF,Q9,Bool.and_self,Q1]) (by
  have h1:decide ((n_a0:Int)<(n_a0:Int))=false:=Q4 (by omega);simp only[Zbx,h1,Q2];rfl) (by omega)
 have h':Uab (Zbx PZ b_a0 n_a0 a0) 1000 ((0:Int),(0:Int))=some (latV a0 n_a0,(n_a0:Int)):=h;rw[h'];rfl
def Zjl:Con:=λargs h=>match args,h with
 |[.l 0],[.sl (.came b_a0) n_a0 a0 70]=>some (.a (.i .i64 (latV a0 n_a0)),.none,Nat.ble n_a0 60)
 |_,_=>none
theorem Zsq:EntX PZ 62:=Zah (fn:=f62)
theorem Zw5:Uac (md F) PZ 62 Zjl:=(ansY (N:=1000) mKn f62 [([3,8],[])]).of (by
 intro ρ h w args vals r e hA hH hr;unfold Zjl at hr;split at hr
 ·rename_i b_a0 n_a0 a0
  obtain⟨rfl,rfl,hg2⟩:=BQi hr;exact Zt6 b_a0 n_a0 a0 (hH.slw 0 rfl) hg2
 ·cases hr)
def Znl:Cons:=(mkΓ [(88,con Zho),(89,con Zog)])
theorem Zsl(N:Nat)(a1:Array Value)(b_a0:Option (Option Addr))(n_a0:Nat)(a0:Array Value):ansV PZ Znl N f63 [] [.l 0,.g a1 70] [.sl (.came b_a0) n_a0 a0 105]=(bif (Zaa (num a1 1) 1 14&&(decide (num a1 1<(n_a0:Int))&&(decide (0<=num a1 0)&&decide (num a1 0<36)))) then (bif ((prtV a0 a1)==(0:Int)) then (some (.a (.v (.iface 129 (.agg #[]))),.none,true))
   else (bif decide (1<=(prtV a0 a1)) then (bif decide (1<=(12:Int)) then (some (.a (.v (.iface 127 (.int .i64 (i64.wrap ((lg (prtV a0 a1)) - (i64.wrap ((i64.wrap (num a1 1))*(lg (12:Int))))))))),.none,true))
     else (none))
    else (none)))
  else (none)):=by kernel_rfl
def scN(p h:Int):Int:=i64.wrap (lg p - i64.wrap (h*lg (12:Int)))
theorem Zqn(a1:Array Value)(b_a0:Option (Option Addr))(n_a0:Nat)(a0:Array Value)(h_a1:WT PZ 70 a1)(h_a0:a0.size=n_a0*(lay PZ 105).length/\(∀k,k<n_a0->WT PZ 105 (a0.extract (k*(lay PZ 105).length) (k*(lay PZ 105).length+(lay PZ 105).length)))/\n_a0<=9223372036854775807)(hg:(((Zaa (num a1 1) 1 14&&(decide (num a1 1<(n_a0:Int))&&(decide (0<=num a1 0)&&decide (num a1 0<36))))&&decide (0<=(prtV a0 a1))))=true):ansV PZ Znl 1000 f63 [] [.l 0,.g a1 70] [.sl (.came b_a0) n_a0 a0 105]=some (.a (.v ((scV ((prtV a0 a1)==(0:Int)) (scN (prtV a0 a1) (num a1 1))))),.none,true):=by
 obtain⟨z,e0,e1,_,_⟩:=Zrz h_a1;rw[Q7]at hg;obtain⟨q1,q2⟩:=hg;refine(Zsl 1000 a1 b_a0 n_a0 a0).trans ?_;rw[q1,e1];generalize (prtV a0 a1)=p at q2|-
 cases hp:(p==(0:Int)) with
 |true=>rfl
 |false=>have h1:=one_le (of_decide_eq_true q2) hp;rw[h1];rfl
def Zhr:Con:=λargs h=>match args,h with
 |[.l 0,.g a1 70],[.sl (.came b_a0) n_a0 a0 105]=>some (.a (.v ((scV ((prtV a0 a1)==(0:Int)) (scN (prtV a0 a1) (num a1 1))))),.none,((Zaa (num a1 1) 1 14&&(decide (num a1 1<(n_a0:Int))&&(decide (0<=num a1 0)&&decide (num a1 0<36))))&&decide (0<=(prtV a0 a1))))
 |_,_=>none
theorem Zpr:EntX PZ 63:=Zah (fn:=f63)
theorem Ztv:Uac (md F) PZ 63 Zhr:=(ansY (N:=1000) (mKc (Zae Ztq) Zpg (mKc (Zae Yiu) Yb9 mKn)) f63 []).of (by
 intro ρ h w args vals r e hA hH hr;unfold Zhr at hr;split at hr
 ·rename_i a1 b_a0 n_a0 a0
  obtain⟨rfl,rfl,hg2⟩:=BQi hr;exact Zqn a1 b_a0 n_a0 a0 (hA.wt 1 rfl) (hH.slw 0 rfl) hg2
 ·cases hr)
end
end Go.Proofs.YtdfefaanfiheoaaGreatDoor
