/- The score of a find, and of several. -/
import Derived.Test.YtdfefaanfiheoaaGreatDoorProg
import Derived.Test.YtdfefaanfiheoaaGreatDoorCuA
import Derived.Test.YtdfefaanfiheoaaGreatDoorCuL
set_option linter.unusedVariables false
set_option linter.unusedSimpArgs false
namespace Go.Proofs.YtdfefaanfiheoaaGreatDoor
open Tryz (f43 f58 f62 f63 f64 f90 f146 f147)
open Go.ChangeShapes Go.WideShapes Go.ChangeAt Go.RowKit Ve Vc
open Tryz renaming prog -> PZ
open IntKind (i64)
set_option maxRecDepth 100000
noncomputable section
variable {F:Vc.Fd}
def scV(z:Bool)(n:Int):Value:=.iface (bif z then 129 else 127) (bif z then .agg #[] else .int .i64 n)
def isSc(y:Value):Bool:=(Ubi 127 y&&okI .i64 127 y)||(Ubi 129 y&&Ude 129 y)
def noSc(y:Value):Bool:=Ubi 129 y
theorem Yt6{y:Value}(h:isSc y=true):(∃n,y=.iface 127 (.int .i64 n)/\i64.min<=n/\n<=i64.max)\/y=.iface 129 (.agg #[]):=by
 unfold isSc at h
 match y,h with
 | .iface t p,h=>
  simp only[Ubi,okI,Ude]at h;cases h1:Nat.beq t 127 with
  |true=>
   obtain rfl:=Nat.eq_of_beq_eq_true h1;have e2:Nat.beq 127 129=false:=by decide
   simp only[h1,e2,Q1,Bool.true_and,Bool.false_and,Bool.or_false]at h;split at h
   case h_2=>cases h
   rename_i k n;simp only[Q7,decide_eq_true_eq]at h;obtain⟨hk,h2,h3⟩:=h;obtain rfl:=kbeq hk;exact .inl ⟨n,rfl,h2,h3⟩
  |false=>
   simp only[h1,Q2,Bool.false_and,Bool.false_or,Q7]at h;obtain⟨h2,h3⟩:=h;obtain rfl:=Nat.eq_of_beq_eq_true h2;simp only[h2,Q1]at h3;split at h3
   case h_2=>cases h3
   rename_i D;obtain rfl:D=#[]:=Array.eq_empty_of_size_eq_zero (Nat.eq_of_beq_eq_true h3);exact .inr rfl
theorem sc_is{z:Bool}{n:Int}(h:i64.min<=n/\n<=i64.max):isSc (scV z n)=true:=by cases z with|true=>rfl|false=>unfold isSc scV;simp only[Q2,Ubi,okI,Q3 h.1,Q3 h.2];rfl
theorem sc_no(z:Bool)(n:Int):noSc (scV z n)=z:=by cases z<;>rfl
theorem sc_pay(n:Int):payI (scV false n)=n:=rfl
def Ufk(y:Value):Int:=bif noSc y then 0 else payI y
def Ucz(y:Value):Int:=bif noSc y then 6 else 0
def Zzf:Con:=λargs h=>match args with|[.v y]=>some (.t [.i .i64 (Ufk y),.i .i64 (Ucz y)],.none,isSc y)|_=>none
theorem Zvf(N:Nat)(a0:Int):ansV PZ (mkΓ []) N f146 [] [.i .i64 a0] []=(some (.t [.i .i64 a0,.i .i64 0],.none,true)):=by kernel_rfl
theorem Zsw(a0:Int)(h_a0:i64.min<=a0/\a0<=i64.max)(hg:(true)=true):ansV PZ (mkΓ []) 1000 f146 [] [.i .i64 a0] []=some (.t [.i .i64 a0,.i .i64 0],.none,true):=by refine(Zvf 1000 a0).trans ?_;rfl
def Znt:Con:=λargs h=>match args,h with|[.i .i64 a0],[]=>some (.t [.i .i64 a0,.i .i64 0],.none,true)|_,_=>none
theorem Zxp:Uac (md F) PZ 146 Znt:=(ansY (N:=1000) mKn f146 []).of (by
 intro ρ h w args vals r e hA hH hr;unfold Znt at hr;split at hr
 ·rename_i a0;obtain⟨rfl,rfl,hg2⟩:=BQi hr;exact Zsw a0 (hA.rng 0 rfl) hg2
 ·cases hr)
theorem Zs2(N:Nat)(a0:Array Value):ansV PZ (mkΓ []) N f147 [] [.g a0 129] []=(some (.t [.i .i64 0,.i .i64 6],.none,true)):=by kernel_rfl
theorem Zse(a0:Array Value)(h_a0:WT PZ 129 a0)(hg:(true)=true):ansV PZ (mkΓ []) 1000 f147 [] [.g a0 129] []=some (.t [.i .i64 0,.i .i64 6],.none,true):=by refine(Zs2 1000 a0).trans ?_;rfl
def Zmq:Con:=λargs h=>match args,h with|[.g a0 129],[]=>some (.t [.i .i64 0,.i .i64 6],.none,true)|_,_=>none
theorem Zu9:Uac (md F) PZ 147 Zmq:=(ansY (N:=1000) mKn f147 []).of (by
 intro ρ h w args vals r e hA hH hr;unfold Zmq at hr;split at hr
 ·rename_i a0;obtain⟨rfl,rfl,hg2⟩:=BQi hr;exact Zse a0 (hA.wt 0 rfl) hg2
 ·cases hr)
theorem Yoi (n : Int) : ∀ w es, (callMethod (.iface 127 (.int .i64 n)) "loop.example/g01300/impl.told" (#[] : Array Value)).runT PZ w es = (.ok (.enter 146 #[.int .i64 n]) w, es) := λ w es => by kernel_rfl
theorem Yt9 : ∀ w es, (callMethod (.iface 129 (.agg #[])) "loop.example/g01300/impl.told" (#[] : Array Value)).runT PZ w es = (.ok (.enter 147 #[.agg #[]]) w, es) := λ w es => by kernel_rfl
theorem Yt0 {z : Value} {r : Next} {v : World} (h : ∀ w es, (callMethod z "loop.example/g01300/impl.told" (#[] : Array Value)).runT PZ w es = (.ok r w, es)) : Tr PZ (callMethod z "loop.example/g01300/impl.told" (#[] : Array Value)) v r v := Yo4 h
theorem Yqc : Ufl (md F) PZ "loop.example/g01300/impl.told" Zzf := by
 intro ρ h v z args vals r ef hr hA hH;cases args with
 |cons q l=>cases hr
 |nil=>
  obtain rfl:vals=[]:=List.eq_nil_of_length_eq_zero hA.1.symm;obtain⟨rfl,hg0⟩:=Q6 (Q5 hr);obtain⟨rfl,hg1⟩:=Q6 hg0;rcases Yt6 hg1 with ⟨n,rfl,h1,h2⟩|rfl
  ·exact⟨146,#[.int .i64 n],Yt0 (Yoi n),Zae Zxp ρ h v [.i .i64 n] [.int .i64 n] _ _ rfl ⟨rfl,λi y v h3 h4=>by
    match i with
    |0=>cases h3;cases h4;exact⟨rfl,h1,h2⟩
    |i+1=>cases h3⟩ hH⟩
  ·exact⟨147,#[.agg #[]],Yt0 Yt9,Zae Zu9 ρ h v [.g #[] 129] [.agg #[]] _ _ rfl ⟨rfl,λi y v h3 h4=>by
    match i with
    |0=>cases h3;cases h4;exact⟨rfl,by kernel_rfl,λ_ h=>by cases h⟩
    |i+1=>cases h3⟩ hH⟩
theorem Zwi(N:Nat)(a0:Int):ansV PZ (mkΓ []) N f90 [] [.i .i64 a0] []=(some (.a (.b ((a0 != a0))),.none,true)):=by kernel_rfl
theorem Zvi(a0:Int)(h_a0:i64.min<=a0/\a0<=i64.max)(hg:(true)=true):ansV PZ (mkΓ []) 1000 f90 [] [.i .i64 a0] []=some (.a (.b ((a0 != a0))),.none,true):=by refine(Zwi 1000 a0).trans ?_;rfl
def Zg6:Con:=λargs h=>match args,h with|[.i .i64 a0],[]=>some (.a (.b ((a0 != a0))),.none,true)|_,_=>none
theorem Zsx:EntX PZ 90:=Zaj (fn:=f90)
theorem Zxr:Uac (md F) PZ 90 Zg6:=(ansY (N:=1000) mKn f90 []).of (by
 intro ρ h w args vals r e hA hH hr;unfold Zg6 at hr;split at hr
 ·rename_i a0;obtain⟨rfl,rfl,hg2⟩:=BQi hr;exact Zvi a0 (hA.rng 0 rfl) hg2
 ·cases hr)
theorem Zt6(N:Nat)(a0 a1:Int):ansV PZ (mkΓ [(90,con Zg6)]) N f64 [] [.i .i64 a0,.i .i64 a1] []=(bif (a0 != a0) then (bif (a1 != a1) then (some (.a (.i .i64 0),.none,true)) else (some (.a (.i .i64 (-1:Int)),.none,true))) else (bif (a1 != a1) then (some (.a (.i .i64 1),.none,true)) else (bif decide (a0<a1) then (some (.a (.i .i64 (-1:Int)),.none,true)) else (bif decide (a0 > a1) then (some (.a (.i .i64 1),.none,true)) else (some (.a (.i .i64 0),.none,true)))))):=by kernel_rfl
def Za6(a0 a1:Int):Int:=(bif (a0 != a0) then (bif (a1 != a1) then (0:Int) else (-1:Int)) else (bif (a1 != a1) then (1:Int) else (bif decide (a0<a1) then (-1:Int) else (bif decide (a0 > a1) then (1:Int) else (0:Int)))))
theorem Zsa(a0 a1:Int)(h_a0:i64.min<=a0/\a0<=i64.max)(h_a1:i64.min<=a1/\a1<=i64.max)(hg:(true)=true):ansV PZ (mkΓ [(90,con Zg6)]) 1000 f64 [] [.i .i64 a0,.i .i64 a1] []=some (.a (.i .i64 (Za6 a0 a1)),.none,true):=by
 refine(Zt6 1000 a0 a1).trans ?_;unfold Za6;revert hg;generalize ((a0 != a0))=b2;intro hg;cases b2
 ·skip
  revert hg;generalize ((a1 != a1))=b4;intro hg;cases b4
  ·skip
   revert hg;generalize (decide (a0<a1))=b6;intro hg;cases b6
   ·skip
    revert hg;generalize (decide (a0 > a1))=b8;intro hg;cases b8
    ·skip
     first|rfl|exact(nomatch (hg:false=true))
    ·skip
     first|rfl|exact(nomatch (hg:false=true))
   ·skip
    first|rfl|exact(nomatch (hg:false=true))
  ·skip
   first|rfl|exact(nomatch (hg:false=true))
 ·skip
  revert hg;generalize ((a1 != a1))=b4;intro hg;cases b4
  ·skip
   first|rfl|exact(nomatch (hg:false=true))
  ·skip
   first|rfl|exact(nomatch (hg:false=true))
def Zil:Con:=λargs h=>match args,h with|[.i .i64 a0,.i .i64 a1],[]=>some (.a (.i .i64 (Za6 a0 a1)),.none,true)|_,_=>none
theorem Zq6:EntX PZ 64:=Zaj (fn:=f64)
theorem Zv2:Uac (md F) PZ 64 Zil:=(ansY (N:=1000) (mKc (Zae Zxr) Zsx mKn) f64 []).of (by
 intro ρ h w args vals r e hA hH hr;unfold Zil at hr;split at hr
 ·rename_i a0 a1;obtain⟨rfl,rfl,hg2⟩:=BQi hr;exact Zsa a0 a1 (hA.rng 0 rfl) (hA.rng 1 rfl) hg2
 ·cases hr)
def Znw : Cons := (withM [("loop.example/g01300/impl.told", Zzf)] (mkΓ [(64, con Zil)]))
theorem Zsc(N:Nat)(a0 a1:Value):ansV PZ Znw N f43 [] [.v (a0),.v a1] []=(bif (isSc a0) then (bif (isSc a1) then (bif ((Ucz a0) != (Ucz a1)) then (some (.a (.i .i64 (Za6 (Ucz a1) (Ucz a0))),.none,true)) else (some (.a (.i .i64 (Za6 (Ufk a0) (Ufk a1))),.none,true))) else (none)) else (none)):=by kernel_rfl
def Zb1(a0 a1:Value):Int:=(bif ((Ucz a0) != (Ucz a1)) then (Za6 (Ucz a1) (Ucz a0)) else (Za6 (Ufk a0) (Ufk a1)))
theorem Zrh(a0 a1:Value) (hg:((bif (isSc a0) then (isSc a1) else false))=true):ansV PZ Znw 1000 f43 [] [.v (a0),.v a1] []=some (.a (.i .i64 (Zb1 a0 a1)),.none,true):=by
 refine(Zsc 1000 a0 a1).trans ?_;unfold Zb1;revert hg;generalize ((isSc a0))=b2;intro hg;cases b2
 ·skip
  first|exact(nomatch (hg:false=true))|rfl
 ·skip
  revert hg;generalize ((isSc a1))=b4;intro hg;cases b4
  ·skip
   first|exact(nomatch (hg:false=true))|rfl
  ·skip
   revert hg;generalize (((Ucz a0) != (Ucz a1)))=b6;intro hg;cases b6
   ·skip
    first|rfl|exact(nomatch (hg:false=true))
   ·skip
    first|rfl|exact(nomatch (hg:false=true))
def Zh7:Con:=λargs h=>match args,h with|[.v a0,.v a1],[]=>some (.a (.i .i64 (Zb1 a0 a1)),.none,(bif (isSc a0) then (isSc a1) else false))|_,_=>none
theorem Zqq:EntX PZ 43:=Zaj (fn:=f43)
theorem Ztu : Uac (md F) PZ 43 Zh7 := (ansY (N := 1000) (Ym3 (m := [("loop.example/g01300/impl.told", Zzf)]) (λ q hq => by simp only [List.mem_cons, List.not_mem_nil, or_false] at hq; subst hq; first | exact Yqc) (mKc (Zae Zv2) Zq6 mKn)) f43 []).of (by
 intro ρ h w args vals r e hA hH hr;unfold Zh7 at hr;split at hr
 ·rename_i a0 a1;obtain⟨rfl,rfl,hg2⟩:=BQi hr;exact Zrh a0 a1  hg2
 ·cases hr)
def Zd9(b_a0:Option (Option Addr))(n_a0:Nat)(a0:Array Value):St:=(⟨.a (.l 0)::.a (.u)::.a (.i .i64 0)::.a (.i .i64 0)::.a (.u)::.a (.u)::.a (.l 0)::.a (.i .i64 (n_a0:Int))::.a (.i .i64 0)::us 10 ([]),[.sl (.came b_a0) n_a0 a0 70],[]⟩:St)
def Zgf:Int×Int->LS
 |(y0_3,y0_8)=>([.a (.i .i64 y0_3),.a (.i .i64 y0_8)],[])
def Zli:Int×Int->Exit×LS
 |t=>((.exit 0),Zgf t)
def Zce(P:Program)(b_a0:Option (Option Addr))(n_a0:Nat)(a0:Array Value):Int×Int->Option (Stp (Int×Int) (Int×Int))
 |(y0_3,y0_8)=>bif decide (y0_8<(n_a0:Int)) then (bif (decide (0<=y0_8)&&decide (y0_8<(n_a0:Int))) then (some (.more ((bif decide ((i64.wrap (num (a0.extract ((y0_8).toNat*2) (((y0_8).toNat*2)+2)) 1)) > y0_3) then (i64.wrap (num (a0.extract ((y0_8).toNat*2) (((y0_8).toNat*2)+2)) 1)) else y0_3),(i64.wrap (y0_8+(1:Int)))))) else (none)) else (some (.done (y0_3,y0_8)))
noncomputable abbrev cKCuB62:=codeOf f62
theorem Zx9(N:Nat)(b_a0:Option (Option Addr))(n_a0:Nat)(a0:Array Value):∀t:Int×Int,Uah PZ (mkΓ []) N (cAt cKCuB62 [1,1,0,1,0,0]) (pAt (Uaa cKCuB62 [([3,8],[])]).1 [1,1,0,1,0]) [3,8] [] (Zd9 b_a0 n_a0 a0) (Zgf t)=mapS Zgf Zli (Zce PZ b_a0 n_a0 a0 t):=by
 rintro⟨y0_3,y0_8⟩
 conv=>rhs;simp only[Zce,Zao,Zam,Zan,Zap,Zgf,Zli]
 kernel_rfl
def Zjl(P:Program)(N:Nat)(b_a0:Option (Option Addr))(n_a0:Nat)(a0:Array Value)(z0_3:Int)(z0_8:Int):Option (SV×Eff×Bool):=some (.a (.i .i64 z0_3),.none,true)
theorem Zq3(N:Nat)(b_a0:Option (Option Addr))(n_a0:Nat)(a0:Array Value)(z0_3:Int)(z0_8:Int):(Uad 0 (kSeq (veC PZ (mkΓ []) N (cAt cKCuB62 [1,1,1]) (pAt (Uaa cKCuB62 [([3,8],[])]).1 [1,1,1]) (SV×Eff×Bool)) (finK PZ [.sl (.came b_a0) n_a0 a0 70] [.tmp 2]))) (.exit 0) (left (writes (cAt cKCuB62 [1,1,0,1,0,0])) [3,8] [] (Zd9 b_a0 n_a0 a0) ([.a (.i .i64 z0_3),.a (.i .i64 z0_8)],[]))=Zjl PZ N b_a0 n_a0 a0 z0_3 z0_8:=by kernel_rfl
theorem Zyz(N:Nat)(b_a0:Option (Option Addr))(n_a0:Nat)(a0:Array Value):Uag (Uab (Uah PZ (mkΓ []) N (cAt cKCuB62 [1,1,0,1,0,0]) (pAt (Uaa cKCuB62 [([3,8],[])]).1 [1,1,0,1,0]) [3,8] [] (Zd9 b_a0 n_a0 a0)) N ([.a (.i .i64 0),.a (.i .i64 0)],[])) (λe s=>(Uad 0 (kSeq (veC PZ (mkΓ []) N (cAt cKCuB62 [1,1,1]) (pAt (Uaa cKCuB62 [([3,8],[])]).1 [1,1,1]) (SV×Eff×Bool)) (finK PZ [.sl (.came b_a0) n_a0 a0 70] [.tmp 2]))) e (left (writes (cAt cKCuB62 [1,1,0,1,0,0])) [3,8] [] (Zd9 b_a0 n_a0 a0) s))=Uai (Uab (Zce PZ b_a0 n_a0 a0) N ((0:Int),(0:Int))) (λx=>Zjl PZ N b_a0 n_a0 a0 x.1 x.2):=by refine Zar Zgf Zli _ _ (Zx9 N b_a0 n_a0 a0) N ((0:Int),(0:Int)) _ _ ?_;intro x;exact Zq3 N b_a0 n_a0 a0 x.1 x.2
theorem Zw0(N:Nat)(b_a0:Option (Option Addr))(n_a0:Nat)(a0:Array Value):ansV PZ (mkΓ []) N f62 [([3,8],[])] [.l 0] [.sl (.came b_a0) n_a0 a0 70]=(Uai (Uab (Zce PZ b_a0 n_a0 a0) N ((0:Int),(0:Int))) (λx=>Zjl PZ N b_a0 n_a0 a0 x.1 x.2)):=by
 conv=>rhs;simp only[<- Zyz N b_a0 n_a0 a0]
 kernel_rfl
theorem one_le{x:Int}(h:0<=x)(h0:(x==0)=false):decide (1<=x)=true:=Q3 (by
 have:x≠0:=λe=>by subst e;exact nomatch h0
 omega)
def latF(a:Array Value)(s:Int)(k:Nat):Int:=bif decide (i64.wrap (num (a.extract (k*2) (k*2+2)) 1) > s) then i64.wrap (num (a.extract (k*2) (k*2+2)) 1) else s
def latV(a:Array Value)(n:Nat):Int:=folds (latF a) 0 n
theorem lat_mono(a:Array Value)(s:Int)(k:Nat):s<=latF a s k/\i64.wrap (num (a.extract (k*2) (k*2+2)) 1)<=latF a s k:=by unfold latF;cases h:decide (i64.wrap (num (a.extract (k*2) (k*2+2)) 1) > s) with|true=>have:=of_decide_eq_true h;simp only[Q1];omega|false=>have:=of_decide_eq_false h;simp only[Q2];omega
theorem lat_le(a:Array Value):∀n k,k<n->i64.wrap (num (a.extract (k*2) (k*2+2)) 1)<=latV a n
 |0,k,hk=>by omega
 | n+1,k,hk=>by
  have e:latV a (n+1)=latF a (latV a n) n:=Zdg _ _ _;obtain⟨h1,h2⟩:=lat_mono a (latV a n) n
  by_cases h:k<n
  ·have:=lat_le a n k h;omega
  ·obtain rfl:k=n:=by omega
   omega
theorem lat_in(a:Array Value):∀n,(∀k,k<n->1<=i64.wrap (num (a.extract (k*2) (k*2+2)) 1)/\i64.wrap (num (a.extract (k*2) (k*2+2)) 1)<=14)->0<=latV a n/\latV a n<=14
 |0,_=>by
  have e:latV a 0=0:=rfl;omega
 |n+1,h=>by
  have ih:=lat_in a n (λk hk=>h k (by omega));have e:latV a (n+1)=latF a (latV a n) n:=Zdg _ _ _;have hn:=h n (by omega);rw[e];unfold latF;cases decide (i64.wrap (num (a.extract (n*2) (n*2+2)) 1) > latV a n) with|true=>simp only[Q1];omega|false=>simp only[Q2];omega
theorem Zvl(b_a0:Option (Option Addr))(n_a0:Nat)(a0:Array Value)(h_a0:a0.size=n_a0*(lay PZ 70).length/\(∀k,k<n_a0->WT PZ 70 (a0.extract (k*(lay PZ 70).length) (k*(lay PZ 70).length+(lay PZ 70).length)))/\n_a0<=9223372036854775807)(hg:(Nat.ble n_a0 60)=true):ansV PZ (mkΓ []) 1000 f62 [([3,8],[])] [.l 0] [.sl (.came b_a0) n_a0 a0 70]=some (.a (.i .i64 (latV a0 n_a0)),.none,true):=by
 have hn:n_a0<=60:=Nat.le_of_ble_eq_true hg;refine(Zw0 1000 b_a0 n_a0 a0).trans ?_;have h:=Zi6 (g:=Zce PZ b_a0 n_a0 a0) (λ(s:Int) k=>(s,(k:Int))) (latF a0) (m:=n_a0) (t:=(0:Int)) (x:=(latV a0 n_a0,(n_a0:Int))) (N:=1000) (λk s hk _=>by
  have h1:decide ((k:Int)<(n_a0:Int))=true:=Q3 (by omega);have h0:decide (0<=(k:Int))=true:=Q3 (by omega);have h3:i64.wrap ((k:Int)+1)=((k+1:Nat):Int):=by rw[w64 (by omega)];omega
  simp only[Zce,h1,h0,h3,latF,Q9,Bool.and_self,Q1]) (by
  have h1:decide ((n_a0:Int)<(n_a0:Int))=false:=Q4 (by omega);simp only[Zce,h1,Q2];rfl) (by omega)
 have h':Uab (Zce PZ b_a0 n_a0 a0) 1000 ((0:Int),(0:Int))=some (latV a0 n_a0,(n_a0:Int)):=h;rw[h'];rfl
def Zkb:Con:=λargs h=>match args,h with|[.l 0],[.sl (.came b_a0) n_a0 a0 70]=>some (.a (.i .i64 (latV a0 n_a0)),.none,Nat.ble n_a0 60)|_,_=>none
theorem Zti:EntX PZ 62:=Zaj (fn:=f62)
theorem Zxs:Uac (md F) PZ 62 Zkb:=(ansY (N:=1000) mKn f62 [([3,8],[])]).of (by
 intro ρ h w args vals r e hA hH hr;unfold Zkb at hr;split at hr
 ·rename_i b_a0 n_a0 a0;obtain⟨rfl,rfl,hg2⟩:=BQi hr;exact Zvl b_a0 n_a0 a0 (hH.slw 0 rfl) hg2
 ·cases hr)
def Zpg:Cons:=(mkΓ [(88,con Ziw),(89,con Zp1)])
theorem Ztj(N:Nat)(a1:Array Value)(b_a0:Option (Option Addr))(n_a0:Nat)(a0:Array Value):ansV PZ Zpg N f63 [] [.l 0,.g a1 70] [.sl (.came b_a0) n_a0 a0 105]=(bif (Zaa (num a1 1) 1 14&&(decide (num a1 1<(n_a0:Int))&&(decide (0<=num a1 0)&&decide (num a1 0<36)))) then (bif ((prtV a0 a1)==(0:Int)) then (some (.a (.v (.iface 129 (.agg #[]))),.none,true)) else (bif decide (1<=(prtV a0 a1)) then (bif decide (1<=(12:Int)) then (some (.a (.v (.iface 127 (.int .i64 (i64.wrap ((lg (prtV a0 a1)) - (i64.wrap ((i64.wrap (num a1 1))*(lg (12:Int))))))))),.none,true)) else (none)) else (none))) else (none)):=by kernel_rfl
def scN(p h:Int):Int:=i64.wrap (lg p - i64.wrap (h*lg (12:Int)))
theorem Zr3(a1:Array Value)(b_a0:Option (Option Addr))(n_a0:Nat)(a0:Array Value)(h_a1:WT PZ 70 a1)(h_a0:a0.size=n_a0*(lay PZ 105).length/\(∀k,k<n_a0->WT PZ 105 (a0.extract (k*(lay PZ 105).length) (k*(lay PZ 105).length+(lay PZ 105).length)))/\n_a0<=9223372036854775807)(hg:(((Zaa (num a1 1) 1 14&&(decide (num a1 1<(n_a0:Int))&&(decide (0<=num a1 0)&&decide (num a1 0<36))))&&decide (0<=(prtV a0 a1))))=true):ansV PZ Zpg 1000 f63 [] [.l 0,.g a1 70] [.sl (.came b_a0) n_a0 a0 105]=some (.a (.v ((scV ((prtV a0 a1)==(0:Int)) (scN (prtV a0 a1) (num a1 1))))),.none,true):=by
 obtain⟨z,e0,e1,_,_⟩:=Zte h_a1;rw[Q7]at hg;obtain⟨q1,q2⟩:=hg;refine(Ztj 1000 a1 b_a0 n_a0 a0).trans ?_;rw[q1,e1];generalize (prtV a0 a1)=p at q2|-
 cases hp:(p==(0:Int)) with|true=>rfl|false=>have h1:=one_le (of_decide_eq_true q2) hp;rw[h1];rfl
def Zim:Con:=λargs h=>match args,h with|[.l 0,.g a1 70],[.sl (.came b_a0) n_a0 a0 105]=>some (.a (.v ((scV ((prtV a0 a1)==(0:Int)) (scN (prtV a0 a1) (num a1 1))))),.none,((Zaa (num a1 1) 1 14&&(decide (num a1 1<(n_a0:Int))&&(decide (0<=num a1 0)&&decide (num a1 0<36))))&&decide (0<=(prtV a0 a1))))|_,_=>none
theorem Zq0:EntX PZ 63:=Zaj (fn:=f63)
theorem Zu7:Uac (md F) PZ 63 Zim:=(ansY (N:=1000) (mKc (Zae Zvw) Zrd (mKc (Zae Ykx) Ye4 mKn)) f63 []).of (by
 intro ρ h w args vals r e hA hH hr;unfold Zim at hr;split at hr
 ·rename_i a1 b_a0 n_a0 a0;obtain⟨rfl,rfl,hg2⟩:=BQi hr;exact Zr3 a1 b_a0 n_a0 a0 (hA.wt 1 rfl) (hH.slw 0 rfl) hg2
 ·cases hr)
def Zg7(b_a0:Option (Option Addr))(n_a0:Nat)(a0:Array Value):St:=(⟨.a (.l 0)::.a (.u)::.a (.v .nilIface)::.a (.i .i64 0)::us 4 (.a (.l 0)::.a (.i .i64 (n_a0:Int))::.a (.i .i64 0)::us 18 ([])),[.sl (.came b_a0) n_a0 a0 77],[]⟩:St)
def Zi0:Value×Int×Int->LS
 |(y0_2,y0_3,y0_10)=>([.a (.v y0_2),.a (.i .i64 y0_3),.a (.i .i64 y0_10)],[])
def Zrm:(Stp (Value×Int×Int) (Value×Int×Int))->Exit×LS
 |.more t=>(.ret,Zi0 t)
 |.done t=>((.exit 0),Zi0 t)
def Zew(P:Program)(b_a0:Option (Option Addr))(n_a0:Nat)(a0:Array Value):Value×Int×Int->Option (Stp (Value×Int×Int) (Stp (Value×Int×Int) (Value×Int×Int)))
 |(y0_2,y0_3,y0_10)=>bif decide (y0_10<(n_a0:Int)) then (bif (decide (0<=y0_10)&&decide (y0_10<(n_a0:Int))) then (bif (okI .i64 127 (cel a0 ((y0_10).toNat*1))) then (bif Ubi 127 (cel a0 ((y0_10).toNat*1)) then (some (.more (y0_2,(i64.wrap (y0_3+(bif Ubi 127 (cel a0 ((y0_10).toNat*1)) then payI (cel a0 ((y0_10).toNat*1)) else 0))),(i64.wrap (y0_10+(1:Int)))))) else (bif (Ude 129 (cel a0 ((y0_10).toNat*1))) then (bif Ubi 129 (cel a0 ((y0_10).toNat*1)) then (some (.done (.more (.iface 129 (.agg #[]),y0_3,y0_10)))) else (some (.more (y0_2,y0_3,(i64.wrap (y0_10+(1:Int))))))) else (none))) else (none)) else (none)) else (some (.done (.done (y0_2,y0_3,y0_10))))
noncomputable abbrev cKCuB58:=codeOf f58
theorem Yk3(N:Nat)(b_a0:Option (Option Addr))(n_a0:Nat)(a0:Array Value):∀t:Value×Int×Int,Uah PZ (mkΓ []) N (cAt cKCuB58 [1,1,0,1,0,0]) (pAt (Uaa cKCuB58 [([2,3,10],[])]).1 [1,1,0,1,0]) [2,3,10] [] (Zg7 b_a0 n_a0 a0) (Zi0 t)=mapS Zi0 Zrm (Zew PZ b_a0 n_a0 a0 t):=by
 rintro⟨y0_2,y0_3,y0_10⟩
 conv=>rhs;simp only[Zew,Zao,Zam,Zan,Zap,Zi0,Zrm]
 kernel_rfl
def Zph(P:Program)(N:Nat)(b_a0:Option (Option Addr))(n_a0:Nat)(a0:Array Value)(z0_2:Value)(z0_3:Int)(z0_10:Int):Option (SV×Eff×Bool):=some (.a (.v z0_2),.none,true)
theorem Zze(N:Nat)(b_a0:Option (Option Addr))(n_a0:Nat)(a0:Array Value)(z0_2:Value)(z0_3:Int)(z0_10:Int):(Uad 0 (kSeq (veC PZ (mkΓ []) N (cAt cKCuB58 [1,1,1]) (pAt (Uaa cKCuB58 [([2,3,10],[])]).1 [1,1,1]) (SV×Eff×Bool)) (finK PZ [.sl (.came b_a0) n_a0 a0 77] [.tmp 2]))) .ret (left (writes (cAt cKCuB58 [1,1,0,1,0,0])) [2,3,10] [] (Zg7 b_a0 n_a0 a0) ([.a (.v z0_2),.a (.i .i64 z0_3),.a (.i .i64 z0_10)],[]))=Zph PZ N b_a0 n_a0 a0 z0_2 z0_3 z0_10:=by kernel_rfl
def Zos(P:Program)(N:Nat)(b_a0:Option (Option Addr))(n_a0:Nat)(a0:Array Value)(z0_2:Value)(z0_3:Int)(z0_10:Int):Option (SV×Eff×Bool):=some (.a (.v (.iface 127 (.int .i64 z0_3))),.none,true)
theorem Zxt(N:Nat)(b_a0:Option (Option Addr))(n_a0:Nat)(a0:Array Value)(z0_2:Value)(z0_3:Int)(z0_10:Int):(Uad 0 (kSeq (veC PZ (mkΓ []) N (cAt cKCuB58 [1,1,1]) (pAt (Uaa cKCuB58 [([2,3,10],[])]).1 [1,1,1]) (SV×Eff×Bool)) (finK PZ [.sl (.came b_a0) n_a0 a0 77] [.tmp 2]))) (.exit 0) (left (writes (cAt cKCuB58 [1,1,0,1,0,0])) [2,3,10] [] (Zg7 b_a0 n_a0 a0) ([.a (.v z0_2),.a (.i .i64 z0_3),.a (.i .i64 z0_10)],[]))=Zos PZ N b_a0 n_a0 a0 z0_2 z0_3 z0_10:=by kernel_rfl
theorem Ylq(N:Nat)(b_a0:Option (Option Addr))(n_a0:Nat)(a0:Array Value):Uag (Uab (Uah PZ (mkΓ []) N (cAt cKCuB58 [1,1,0,1,0,0]) (pAt (Uaa cKCuB58 [([2,3,10],[])]).1 [1,1,0,1,0]) [2,3,10] [] (Zg7 b_a0 n_a0 a0)) N ([.a (.v ((.nilIface))),.a (.i .i64 0),.a (.i .i64 0)],[])) (λe s=>(Uad 0 (kSeq (veC PZ (mkΓ []) N (cAt cKCuB58 [1,1,1]) (pAt (Uaa cKCuB58 [([2,3,10],[])]).1 [1,1,1]) (SV×Eff×Bool)) (finK PZ [.sl (.came b_a0) n_a0 a0 77] [.tmp 2]))) e (left (writes (cAt cKCuB58 [1,1,0,1,0,0])) [2,3,10] [] (Zg7 b_a0 n_a0 a0) s))=Uai (Uab (Zew PZ b_a0 n_a0 a0) N ((.nilIface),(0:Int),(0:Int))) (st2 (λx=>Zph PZ N b_a0 n_a0 a0 x.1 x.2.1 x.2.2) (λx=>Zos PZ N b_a0 n_a0 a0 x.1 x.2.1 x.2.2)):=by refine Zar Zi0 Zrm _ _ (Yk3 N b_a0 n_a0 a0) N ((.nilIface),(0:Int),(0:Int)) _ _ ?_;intro x;cases x with|more x=>exact Zze N b_a0 n_a0 a0 x.1 x.2.1 x.2.2|done x=>exact Zxt N b_a0 n_a0 a0 x.1 x.2.1 x.2.2
theorem Yim(N:Nat)(b_a0:Option (Option Addr))(n_a0:Nat)(a0:Array Value):ansV PZ (mkΓ []) N f58 [([2,3,10],[])] [.l 0] [.sl (.came b_a0) n_a0 a0 77]=(Uai (Uab (Zew PZ b_a0 n_a0 a0) N ((.nilIface),(0:Int),(0:Int))) (st2 (λx=>Zph PZ N b_a0 n_a0 a0 x.1 x.2.1 x.2.2) (λx=>Zos PZ N b_a0 n_a0 a0 x.1 x.2.1 x.2.2))):=by
 conv=>rhs;simp only[<- Ylq N b_a0 n_a0 a0]
 kernel_rfl
def allSc(C:Array Value)(n:Nat):Bool:=(List.range n).all λk=>isSc (cel C k)
def totF(C:Array Value)(s:Int)(k:Nat):Int:=i64.wrap (s+payI (cel C k))
def totZ(C:Array Value)(n:Nat):Bool:=((List.range n).find? λk=>noSc (cel C k)).isSome
def totS(C:Array Value)(n:Nat):Int:=folds (totF C) 0 n
theorem Yp0{y:Value}(h:isSc y=true):okI .i64 127 y=true/\Ude 129 y=true/\Ubi 127 y=!(noSc y)/\Ubi 129 y=noSc y:=by
 rcases Yt6 h with ⟨n,rfl,h1,h2⟩|rfl
 ·refine⟨?_,rfl,rfl,rfl⟩;simp only[okI,Q3 h1,Q3 h2];rfl
 ·exact⟨rfl,rfl,rfl,rfl⟩
theorem Yhe(b_a0:Option (Option Addr))(n_a0:Nat)(a0:Array Value)(h_a0:a0.size=n_a0*(lay PZ 77).length/\(∀k,k<n_a0->WT PZ 77 (a0.extract (k*(lay PZ 77).length) (k*(lay PZ 77).length+(lay PZ 77).length)))/\n_a0<=9223372036854775807)(hg:((allSc a0 n_a0&&Nat.ble n_a0 60))=true):ansV PZ (mkΓ []) 1000 f58 [([2,3,10],[])] [.l 0] [.sl (.came b_a0) n_a0 a0 77]=some (.a (.v ((scV (totZ a0 n_a0) (totS a0 n_a0)))),.none,true):=by
 rw[Q7]at hg;obtain⟨q1,q2⟩:=hg;have hn:n_a0<=60:=Nat.le_of_ble_eq_true q2;have hs:∀k,k<n_a0->isSc (cel a0 k)=true:=λk hk=>List.all_eq_true.1 q1 k (List.mem_range.2 hk)
 refine(Yim 1000 b_a0 n_a0 a0).trans ?_;have l0:=Zor (g:=Zew PZ b_a0 n_a0 a0) (λk=>(Value.nilIface,folds (totF a0) 0 k,(k:Int))) (λk=>noSc (cel a0 k)) n_a0 (N:=1000) (xd:=.done (Value.nilIface,folds (totF a0) 0 n_a0,(n_a0:Int))) (by omega) (λk=>.more (Value.iface 129 (.agg #[]),folds (totF a0) 0 k,(k:Int))) (λk hk hp=>by
  have h1:decide ((k:Int)<(n_a0:Int))=true:=Q3 (by omega);have h2:decide (0<=(k:Int))=true:=Q3 (by omega);have h3:i64.wrap ((k:Int)+1)=((k+1:Nat):Int):=by rw[w64 (by omega)];omega
  obtain⟨f1,f2,f3,f4⟩:=Yp0 (hs k hk);rw[hp]at f3 f4;have ef:folds (totF a0) 0 (k+1)=totF a0 (folds (totF a0) 0 k) k:=Zdg _ _ _;rw[ef];simp only[Zew,h1,h2,h3,Q9,Nat.mul_one,f1,f2,f3,f4,totF,Bool.and_self,Bool.not_false,Q1,Q2]) (λk hk hp=>by
  have h1:decide ((k:Int)<(n_a0:Int))=true:=Q3 (by omega);have h2:decide (0<=(k:Int))=true:=Q3 (by omega);obtain⟨f1,f2,f3,f4⟩:=Yp0 (hs k hk);rw[hp]at f3 f4;simp only[Zew,h1,h2,Q9,Nat.mul_one,f1,f2,f3,f4,Bool.and_self,Bool.not_true,Q1,Q2]) (by
  have h1:decide ((n_a0:Int)<(n_a0:Int))=false:=Q4 (by omega);simp only[Zew,h1,Q2])
 have l0':Uab (Zew PZ b_a0 n_a0 a0) 1000 (Value.nilIface,(0:Int),(0:Int))=some (match (List.range n_a0).find? (λk=>noSc (cel a0 k)) with|some k=>.more (Value.iface 129 (.agg #[]),folds (totF a0) 0 k,(k:Int))|none=>.done (Value.nilIface,folds (totF a0) 0 n_a0,(n_a0:Int))):=l0;rw[l0'];unfold totZ totS;cases (List.range n_a0).find? (λk=>noSc (cel a0 k))<;>rfl
def Zp5:Con:=λargs h=>match args,h with|[.l 0],[.sl (.came b_a0) n_a0 a0 77]=>some (.a (.v ((scV (totZ a0 n_a0) (totS a0 n_a0)))),.none,(allSc a0 n_a0&&Nat.ble n_a0 60))|_,_=>none
theorem Ydu:EntX PZ 58:=Zaj (fn:=f58)
theorem Ykr:Uac (md F) PZ 58 Zp5:=(ansY (N:=1000) mKn f58 [([2,3,10],[])]).of (by
 intro ρ h w args vals r e hA hH hr;unfold Zp5 at hr;split at hr
 ·rename_i b_a0 n_a0 a0;obtain⟨rfl,rfl,hg2⟩:=BQi hr;exact Yhe b_a0 n_a0 a0 (hH.slw 0 rfl) hg2
 ·cases hr)
end
end Go.Proofs.YtdfefaanfiheoaaGreatDoor
