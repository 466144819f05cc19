/- The bits of all cells, in company. -/
import Derived.Test.YtdfefaanfiheoaaGreatDoorProg
import Derived.Test.YtdfefaanfiheoaaGreatDoorCxEachWater
set_option linter.unusedVariables false
set_option linter.unusedSimpArgs false
namespace Go.Proofs.YtdfefaanfiheoaaGreatDoor
open Tryz (f69 f98)
open Go.ChangeShapes Go.WideShapes Go.ChangeAt Go.RowKit Ve Vc
open Tryz renaming prog -> PZ
open IntKind (i64)
set_option maxRecDepth 100000
noncomputable section
variable {mn:Md}
theorem Zqy(S:Array Value)(c:Int):Zal S c=Zab c S:=by
 unfold Zal Zab Zaa
 by_cases h0:0<=c
 ·have e1:∀x y:Int,0<=x->0<=y->Zat S #[.int .i64 x,.int .i64 y]=(bif decide (x<i64.wrap (num S 0)) then decide (y<i64.wrap (num S 1)) else false):=λx y hx hy=>by
   show (bif decide (x>=0) then (bif decide (x<i64.wrap (num S 0)) then (bif decide (y>=0) then decide (y<i64.wrap (num S 1)) else false) else false) else false)=_
   rw[Q3 (show x>=0 from hx),Q3 (show y>=0 from hy)];cases decide (x<i64.wrap (num S 0))<;>rfl
  by_cases h1:c<=35
  ·have hx:0<=c.tmod 6:=Int.tmod_nonneg 6 h0
   have hy:0<=i64.wrap (c.tdiv 6):=by have:c.tdiv 6=c / 6:=Int.tdiv_eq_ediv_of_nonneg h0;rw[this,IntWalk.i64_in _ (by omega)];omega
   rw[e1 _ _ hx hy,Q3 (show c>=0 from h0),Q3 (show c<36 by omega),Q3 h1];rfl
  ·rw[Q4 (show ¬c<36 by omega),Q4 h1];cases decide (c>=0)<;>rfl
 ·rw[Q4 (show ¬c>=0 from h0)];rfl
theorem Zh7{S:Array Value}{c:Int}(h:Zab c S=true):0<=c/\c<=35:=by
 unfold Zab Zaa at h;cases h0:decide (c>=0) with
 |false=>rw[h0]at h;exact nomatch h
 |true=>
  cases h1:decide (c<=35) with
  |false=>rw[h0,h1]at h;exact nomatch h
  |true=>exact⟨of_decide_eq_true h0,of_decide_eq_true h1⟩
theorem u64_c{c:Int}(hc:0<=c/\c<=35):IntKind.u64.wrap c=c:=by rw[IntKind.wrap_u64];omega
theorem wt_land{T:TypeId}(hL:lay PZ T=0::0::7::List.replicate 360 4){S:Array Value}(h:WT PZ T S):0<=num S 2/\num S 2<=18446744073709551615:=(h.int (o:=2) (k:=.u64) (by rw[hL];rfl)).2
theorem Yl3:lay PZ 37=0::0::7::List.replicate 360 4:=by kernel_rfl
theorem Yq6{S:Array Value}(h:WT PZ 37 S):0<=num S 2/\num S 2<=18446744073709551615:=wt_land Yl3 h
theorem Yky{S:Array Value}(h:WT PZ 37 S){k:Nat}(hk:k<36):Zab (k:Int) S=inC (num S 0) (num S 1) k:=by
 obtain⟨s0,a0,b0⟩:=h.int (o:=0) (k:=.i8) (by kernel_rfl);obtain⟨s1,a1,b1⟩:=h.int (o:=1) (k:=.i8) (by kernel_rfl);have e1:IntKind.i8.min=-128:=rfl;have e2:IntKind.i8.max=127:=rfl;unfold Zab Zaa inC;rw[Q3 (show (k:Int)>=0 by omega),Q3 (show (k:Int)<=35 by omega),IntWalk.i64_in (num S 0) (by omega),IntWalk.i64_in (num S 1) (by omega)];have h1:((k:Int)).tmod 6=((k % 6:Nat):Int):=by rw[Int.tmod_eq_emod_of_nonneg (by omega)];omega
 have h2:((k:Int)).tdiv 6=((k / 6:Nat):Int):=by rw[Int.tdiv_eq_ediv_of_nonneg (by omega)];omega
 rw[h1,h2,IntWalk.i64_in _ (by omega)];simp only[Q1,Q2];cases decide (((k % 6:Nat):Int)<num S 0)<;>rfl
theorem Ylk(k:Nat):Zd7 (k:Int)=oneI k:=by unfold Zd7 oneI;rw[Q9]
theorem u64w{k:Nat}(hk:k<36):IntKind.u64.wrap (k:Int)=(k:Int):=u64_c (by omega)
def Ze5(a0:Array Value):St:=(⟨.a (.w 0) :: .a (.u) :: .a (.i .u64 (0:Int)) :: .a (.i .u64 (0:Int)) :: .a (.i .i64 (0:Int))::us 13 ([]),[.row a0 37],[]⟩:St)
def Zg4:Int×Int->LS
 |(y0_3,y0_4)=>([.a (.i .u64 (y0_3)),.a (.i .i64 (y0_4))],[])
def Zma:Int×Int->Exit×LS
 |t=>((.exit 0),Zg4 t)
def Zc4(P:Program)(a0:Array Value):Int×Int->Option (Stp (Int×Int) (Int×Int))
 |(y0_3,y0_4)=>bif decide (y0_4<(36:Int)) then (bif (Zab y0_4 a0) then (bif decide (0<=(IntKind.u64.wrap y0_4)) then (some (.more ((IntKind.u64.wrap (BitVec.ofInt IntKind.u64.bits y0_3 ||| BitVec.ofInt IntKind.u64.bits (IntKind.u64.wrap ((1:Int)*2^(min ((IntKind.u64.wrap y0_4)).toNat IntKind.u64.bits)))).toNat),(i64.wrap (y0_4+(1:Int))))))
    else (none))
   else (some (.more (y0_3,(i64.wrap (y0_4+(1:Int)))))))
  else (some (.done (y0_3,y0_4)))
noncomputable abbrev cKCxB69:=codeOf f69
def Ufv:=(Uaa cKCxB69 [([3,4],[])]).1
theorem Ycq(N:Nat)(a0:Array Value):∀t:Int×Int,Uag PZ (mkΓ [(72,con Zbo)]) N (cAt cKCxB69 [1,1,0,1,0,0]) (pAt Ufv [1,1,0,1,0]) [3,4] [] (Ze5 a0) (Zg4 t)=mapS Zg4 Zma (Zc4 PZ a0 t):=by
 rintro⟨y0_3,y0_4⟩;refine Eq.trans (b:=(bif decide (y0_4<(36:Int)) then (bif (Zab y0_4 a0) then (bif decide (0<=(IntKind.u64.wrap y0_4)) then (some (.more ([.a (.i .u64 (IntKind.u64.wrap (BitVec.ofInt IntKind.u64.bits y0_3 ||| BitVec.ofInt IntKind.u64.bits (IntKind.u64.wrap ((1:Int)*2^(min ((IntKind.u64.wrap y0_4)).toNat IntKind.u64.bits)))).toNat)),.a (.i .i64 (i64.wrap (y0_4+(1:Int))))],[])))
    else (none))
   else (some (.more ([.a (.i .u64 (y0_3)),.a (.i .i64 (i64.wrap (y0_4+(1:Int))))],[]))))
  else (some (.done ((.exit 0),([.a (.i .u64 (y0_3)),.a (.i .i64 (y0_4))],[])))))) (by kernel_rfl) ?_
 simp only[Zc4,Zao,Zap,Zam,Zan,Zg4,Zma]
def Zj4(P:Program)(N:Nat)(a0:Array Value)(z0_3:Int)(z0_4:Int):Option (SV×Eff×Bool):=some (.a (.i .u64 (z0_3)),.none,true)
def Ugk(N:Nat)(a0:Array Value):=(Uad 0 (kSeq (veC PZ (mkΓ [(72,con Zbo)]) N (cAt cKCxB69 [1,1,1]) (pAt Ufv [1,1,1]) (SV×Eff×Bool)) (finK PZ [.row a0 37] [.tmp 2])))
theorem Zrg(N:Nat)(a0:Array Value)(z0_3:Int)(z0_4:Int):(Ugk N a0) (.exit 0) (left (writes (cAt cKCxB69 [1,1,0,1,0,0])) [3,4] [] (Ze5 a0) ([.a (.i .u64 (z0_3)),.a (.i .i64 (z0_4))],[]))=Zj4 PZ N a0 z0_3 z0_4:=by refine Eq.trans (b:=(some (.a (.i .u64 (z0_3)),.none,true))) (by kernel_rfl) ?_;rfl
theorem Ycn(N:Nat)(a0:Array Value):Uaj (Uab (Uag PZ (mkΓ [(72,con Zbo)]) N (cAt cKCxB69 [1,1,0,1,0,0]) (pAt Ufv [1,1,0,1,0]) [3,4] [] (Ze5 a0)) N ([.a (.i .u64 (0:Int)),.a (.i .i64 (0:Int))],[])) (λe s=>(Ugk N a0) e (left (writes (cAt cKCxB69 [1,1,0,1,0,0])) [3,4] [] (Ze5 a0) s))=Uak (Uab (Zc4 PZ a0) N ((0:Int),(0:Int))) (λx=>Zj4 PZ N a0 x.1 x.2):=by refine Zau Zg4 Zma _ _ (Ycq N a0) N ((0:Int),(0:Int)) _ _ ?_;intro x;exact Zrg N a0 x.1 x.2
theorem Yam(N:Nat)(a0:Array Value):ansV PZ (mkΓ [(72,con Zbo)]) N f69 [([3,4],[])] [.w 0] [.row a0 37]=(Uak (Uab (Zc4 PZ a0) N ((0:Int),(0:Int))) (λx=>Zj4 PZ N a0 x.1 x.2)):=by refine Eq.trans (b:=(Uaj (Uab (Uag PZ (mkΓ [(72,con Zbo)]) N (cAt cKCxB69 [1,1,0,1,0,0]) (pAt Ufv [1,1,0,1,0]) [3,4] [] (Ze5 a0)) N ([.a (.i .u64 (0:Int)),.a (.i .i64 (0:Int))],[])) (λe s=>(Ugk N a0) e (left (writes (cAt cKCxB69 [1,1,0,1,0,0])) [3,4] [] (Ze5 a0) s)))) (by kernel_rfl) ?_;simp only[Ycn N a0]
theorem Zwo(a0:Array Value)(h_a0:WT PZ 37 a0)(hg:(true)=true):ansV PZ (mkΓ [(72,con Zbo)]) 1000 f69 [([3,4],[])] [.w 0] [.row a0 37]=some (.a (.i .u64 (Ua3 (num a0 0) (num a0 1) 36)),.none,true):=by
 refine(Yam 1000 a0).trans ?_;have h:=Zh6 (g:=Zc4 PZ a0) (λs k=>(s,(k:Int))) (λb k=>if inC (num a0 0) (num a0 1) k then orI b (oneI k) else b) (m:=36) (t:=(0:Int)) (x:=(Ua3 (num a0 0) (num a0 1) 36,36)) (N:=1000) (λk s hk _=>by
  have h1:decide ((k:Int)<36)=true:=Q3 (by omega);have h0:decide (0<=(k:Int))=true:=Q3 (by omega);have h3:i64.wrap ((k:Int)+1)=((k+1:Nat):Int):=by rw[IntWalk.i64_in _ (by omega)];omega
  simp only[Zc4,h1,Q1,Yky h_a0 hk,u64w hk,h0,h3,Q9];cases inC (num a0 0) (num a0 1) k<;>rfl) (by
  have h1:decide (((36:Nat):Int)<36)=false:=by decide
  simp only[Zc4,h1,Q2];rfl) (by omega)
 have h':Uab (Zc4 PZ a0) 1000 ((0:Int),(0:Int))=some (Ua3 (num a0 0) (num a0 1) 36,(36:Int)):=h;rw[h'];rfl
def Zk4:Con:=λargs h=>match args,h with
 |[.w 0],[.row a0 37]=>some (.a (.i .u64 (Ua3 (num a0 0) (num a0 1) 36)),.none,true)
 |_,_=>none
theorem Zve:EntX PZ 69:=Zah (fn:=f69)
theorem Ybc:Uac mn PZ 69 Zk4:=(ansY (N:=1000) (mKc (Zae Zkl) Zgt mKn) f69 [([3,4],[])]).of (by
 intro ρ h w args vals r e hA hH hr;unfold Zk4 at hr;split at hr
 ·rename_i a0
  obtain⟨rfl,rfl,hg2⟩:=BQi hr;exact Zwo a0 (hH.wt 0 rfl) hg2
 ·cases hr)
def Zf8:Cons:=(mkΓx [(102,con Zi7)] [(111,Zg2)] [(118,Zfa)])
def Zc5(a0:Array Value):St:=(⟨.a (.g a0 37) :: .a (.w 0) :: .a (.i .u64 (0:Int)) :: .a (.w 2) :: .a (.u) :: .a (.g a0 37) :: .a (.c 118 [6,8])::us 6 ([]),[.row a0 37,.no,.row #[.int .u64 (0:Int)] 23,.no,.no,.no,.row #[.int .i64 (num a0 1)] 2,.no,.row #[.int .i64 (num a0 0)] 2,.no,.no],[]⟩:St)
def Zi8:Int->BS
 |r0_2=>([.row #[.int .u64 (r0_2)] 23]:BS)
def Zl2:Empty->Exit×BS:=λx=>nomatch x
def Ze6(P:Program)(a0:Array Value)(x0:Int):Int->Option (Stp (Int) Empty)
 |r0_2=>bif decide (0<=x0) then (some (.more (IntKind.u64.wrap (BitVec.ofInt IntKind.u64.bits r0_2 ||| BitVec.ofInt IntKind.u64.bits (Zd7 x0)).toNat)))
  else (none)
noncomputable abbrev cKCxB98:=codeOf f98
def Ufq:=(Uaa cKCxB98 [([],[2])]).1
theorem Ycl(N:Nat)(a0:Array Value)(x0:Int):∀t:Int,Ud4 PZ Zf8 N (cAt cKCxB98 [1,1,0,1,0,0]) (pAt Ufq [1,1,0,1,0]) 11 [2] [7] [(4,7)] (Zc5 a0) [.i .i64 (x0)] (Zi8 t)=mapS Zi8 Zl2 (Ze6 PZ a0 x0 t):=by
 rintro r0_2;refine Eq.trans (b:=(bif decide (0<=x0) then (some (.more ([.row #[.int .u64 (IntKind.u64.wrap (BitVec.ofInt IntKind.u64.bits r0_2 ||| BitVec.ofInt IntKind.u64.bits (Zd7 x0)).toNat)] 23]:BS)))
  else (none))) (by kernel_rfl) ?_
 simp only[Ze6,Zao,Zap,Zam,Zan,Zi8,Zl2]
def Zjz(P:Program)(N:Nat)(a0:Array Value)(q0_2:Int):Option (SV×Eff×Bool):=some (.a (.i .u64 (q0_2)),.none,true)
def Ueu(N:Nat):=(Uad 0 (kSeq (veC PZ Zf8 N (cAt cKCxB98 [1,1,1]) (pAt Ufq [1,1,1]) (SV×Eff×Bool)) (finK PZ [] [.tmp 2])))
theorem Zro(N:Nat)(a0:Array Value)(q0_2:Int):(Ueu N) .normal (Ubh [2] (Zc5 a0) ([.row #[.int .u64 (q0_2)] 23]:BS))=Zjz PZ N a0 q0_2:=by refine Eq.trans (b:=(some (.a (.i .u64 (q0_2)),.none,true))) (by kernel_rfl) ?_;rfl
theorem Ybe(N:Nat)(a0:Array Value):Udi (Ua0 (λ(x0:Int) (hb:BS)=>Ud4 PZ Zf8 N (cAt cKCxB98 [1,1,0,1,0,0]) (pAt Ufq [1,1,0,1,0]) 11 [2] [7] [(4,7)] (Zc5 a0) [.i .i64 (x0)] hb) (Uan (num a0 0) (num a0 1) 36) ([.row #[.int .u64 (0:Int)] 23]:BS)) (λhb=>(Ueu N) .normal (Ubh [2] (Zc5 a0) hb)) (λe hb=>(Ueu N) e (Ubh [2] (Zc5 a0) hb))=Ue1 (Ua0 (Ze6 PZ a0) (Uan (num a0 0) (num a0 1) 36) (0:Int)) (λx=>Zjz PZ N a0 x) (λx:Empty=>nomatch x):=by
 refine Yfs Zi8 Zl2 _ _ (λy t=>Ycl N a0 y t) _ (0:Int) _ _ _ _ ?_ ?_
 ·intro x;exact Zro N a0 x
 ·intro x;exact nomatch x
theorem Zy6(N:Nat)(a0:Array Value):ansV PZ Zf8 N f98 [([],[2])] [.g a0 37] []=(bif (decide (0<=(num a0 0))&&decide ((num a0 0)<=6)&&(decide (0<=(num a0 1))&&decide ((num a0 1)<=6))) then (Ue1 (Ua0 (Ze6 PZ a0) (Uan (num a0 0) (num a0 1) 36) (0:Int)) (λx=>Zjz PZ N a0 x) (λx:Empty=>nomatch x))
  else (none)):=by
 refine Eq.trans (b:=(bif (decide (0<=(num a0 0))&&decide ((num a0 0)<=6)&&(decide (0<=(num a0 1))&&decide ((num a0 1)<=6))) then (Udi (Ua0 (λ(x0:Int) (hb:BS)=>Ud4 PZ Zf8 N (cAt cKCxB98 [1,1,0,1,0,0]) (pAt Ufq [1,1,0,1,0]) 11 [2] [7] [(4,7)] (Zc5 a0) [.i .i64 (x0)] hb) (Uan (num a0 0) (num a0 1) 36) ([.row #[.int .u64 (0:Int)] 23]:BS)) (λhb=>(Ueu N) .normal (Ubh [2] (Zc5 a0) hb)) (λe hb=>(Ueu N) e (Ubh [2] (Zc5 a0) hb)))
  else (none))) (by kernel_rfl) ?_
 simp only[Ybe N a0]
theorem Zv8(a0:Array Value)(h_a0:WT PZ 37 a0)(hg:((decide (0<=num a0 0)&&decide (num a0 0<=6)&&(decide (0<=num a0 1)&&decide (num a0 1<=6))))=true):ansV PZ Zf8 1000 f98 [([],[2])] [.g a0 37] []=some (.a (.i .u64 (Ua3 (num a0 0) (num a0 1) 36)),.none,true):=by
 refine(Zy6 1000 a0).trans ?_;have h:=Ypc (X:=Empty) (g:=Ze6 PZ a0) (λb k=>orI b (oneI k)) (wd:=num a0 0) (hi:=num a0 1) (λs k hk _=>by
  have h0:decide (0<=(k:Int))=true:=Q3 (by omega);simp only[Ze6,h0,Q1,Ylk];rfl) (0:Int)
 simp only[hg,Q1,h];rfl
def Zlg:Con:=λargs h=>match args,h with
 |[.g a0 37],[]=>some (.a (.i .u64 (Ua3 (num a0 0) (num a0 1) 36)),.none,(decide (0<=num a0 0)&&decide (num a0 0<=6)&&(decide (0<=num a0 1)&&decide (num a0 1<=6))))
 |_,_=>none
theorem Zvn:EntX PZ 98:=Zah (fn:=f98)
theorem Ya8:Uac mn PZ 98 Zlg:=(ansY (N:=1000) (mKx (Zae Zwe) Zqc (mkΓx_nX Zk9 Zjc (mkΓx_iX Zu4 Zhv mkΓx_nilX))) f98 [([],[2])]).of (by
 intro ρ h w args vals r e hA hH hr;unfold Zlg at hr;split at hr
 ·rename_i a0
  obtain⟨rfl,rfl,hg2⟩:=BQi hr;exact Zv8 a0 (hA.wt 0 rfl) hg2
 ·cases hr)
theorem Zta{S:Array Value}{k:Nat}(hk:k<36):Zac S (k:Int)=bitI (num S 2) k:=by have h:=bit_test (c:=num S 2) (j:=k) (by omega);rw[<- h,<- Ylk];rfl
theorem Ypv{S:Array Value}(hS:WT PZ 37 S){k:Nat}(hk:k<36):Zag (k:Int) S=bitI (num S 2) k:=by have h:=bit_shr (c:=num S 2) (Yq6 hS) (k:=k) (by omega);rw[<- h];unfold Zag;rw[u64w hk,Q9]
theorem Yoc{S:Array Value}(hS:WT PZ 37 S){k:Nat}(hk:k<36):Zac S (k:Int)=Zag (k:Int) S:=by rw[Zta hk,Ypv hS hk]
end
end Go.Proofs.YtdfefaanfiheoaaGreatDoor
