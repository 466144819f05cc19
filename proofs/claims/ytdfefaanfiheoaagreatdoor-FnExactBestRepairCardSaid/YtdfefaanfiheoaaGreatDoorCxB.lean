/- The bits of all cells, in company. -/
import Derived.Test.YtdfefaanfiheoaaGreatDoorProg
import Derived.Test.YtdfefaanfiheoaaGreatDoorCxEachWater
set_option linter.unusedVariables false
set_option linter.unusedSimpArgs false
namespace Go.Proofs.YtdfefaanfiheoaaGreatDoor
open Tryz (f69 f98)
open Go.ChangeShapes Go.WideShapes Go.ChangeAt Go.RowKit Ve Vc
open Tryz renaming prog -> PZ
open IntKind (i64)
set_option maxRecDepth 100000
noncomputable section
variable {mn:Md}
theorem Zs8(S:Array Value)(c:Int):Zau S c=Zab c S:=by
 unfold Zau Zab Zaa
 by_cases h0:0<=c
 ·have e1:∀x y:Int,0<=x->0<=y->Zaz S #[.int .i64 x,.int .i64 y]=(bif decide (x<i64.wrap (num S 0)) then decide (y<i64.wrap (num S 1)) else false):=λx y hx hy=>by
   show (bif decide (x>=0) then (bif decide (x<i64.wrap (num S 0)) then (bif decide (y>=0) then decide (y<i64.wrap (num S 1)) else false) else false) else false)=_
   rw[Q3 (show x>=0 from hx),Q3 (show y>=0 from hy)];cases decide (x<i64.wrap (num S 0))<;>rfl
  by_cases h1:c<=35
  ·have hx:0<=c.tmod 6:=Int.tmod_nonneg 6 h0;have hy:0<=i64.wrap (c.tdiv 6):=by
    have:c.tdiv 6=c / 6:=Int.tdiv_eq_ediv_of_nonneg h0;rw[this,IntWalk.i64_in _ (by omega)];omega
   rw[e1 _ _ hx hy,Q3 (show c>=0 from h0),Q3 (show c<36 by omega),Q3 h1];rfl
  ·rw[Q4 (show ¬c<36 by omega),Q4 h1];cases decide (c>=0)<;>rfl
 ·rw[Q4 (show ¬c>=0 from h0)];rfl
theorem Ziz{S:Array Value}{c:Int}(h:Zab c S=true):0<=c/\c<=35:=by unfold Zab Zaa at h;cases h0:decide (c>=0) with|false=>rw[h0]at h;exact nomatch h|true=>cases h1:decide (c<=35) with|false=>rw[h0,h1]at h;exact nomatch h|true=>exact⟨of_decide_eq_true h0,of_decide_eq_true h1⟩
theorem u64_c{c:Int}(hc:0<=c/\c<=35):IntKind.u64.wrap c=c:=by rw[IntKind.wrap_u64];omega
theorem wt_land{T:TypeId}(hL:lay PZ T=0::0::7::List.replicate 360 4){S:Array Value}(h:WT PZ T S):0<=num S 2/\num S 2<=18446744073709551615:=(h.int (o:=2) (k:=.u64) (by rw[hL];rfl)).2
theorem Yo7:lay PZ 37=0::0::7::List.replicate 360 4:=by kernel_rfl
theorem Yta{S:Array Value}(h:WT PZ 37 S):0<=num S 2/\num S 2<=18446744073709551615:=wt_land Yo7 h
theorem Ymw{S:Array Value}(h:WT PZ 37 S){k:Nat}(hk:k<36):Zab (k:Int) S=inC (num S 0) (num S 1) k:=by
 obtain⟨s0,a0,b0⟩:=h.int (o:=0) (k:=.i8) (by kernel_rfl);obtain⟨s1,a1,b1⟩:=h.int (o:=1) (k:=.i8) (by kernel_rfl);have e1:IntKind.i8.min=-128:=rfl;have e2:IntKind.i8.max=127:=rfl;unfold Zab Zaa inC;rw[Q3 (show (k:Int)>=0 by omega),Q3 (show (k:Int)<=35 by omega),IntWalk.i64_in (num S 0) (by omega),IntWalk.i64_in (num S 1) (by omega)];have h1:((k:Int)).tmod 6=((k % 6:Nat):Int):=by rw[Int.tmod_eq_emod_of_nonneg (by omega)];omega
 have h2:((k:Int)).tdiv 6=((k / 6:Nat):Int):=by rw[Int.tdiv_eq_ediv_of_nonneg (by omega)];omega
 rw[h1,h2,IntWalk.i64_in _ (by omega)];simp only[Q1,Q2];cases decide (((k % 6:Nat):Int)<num S 0)<;>rfl
theorem Ynw(k:Nat):Zev (k:Int)=oneI k:=by unfold Zev oneI;rw[Q9]
theorem u64w{k:Nat}(hk:k<36):IntKind.u64.wrap (k:Int)=(k:Int):=u64_c (by omega)
def Zfz(a0:Array Value):St:=(⟨.a (.w 0)::.a (.u)::.a (.i .u64 0)::.a (.i .u64 0)::.a (.i .i64 0)::us 13 ([]),[.row a0 37],[]⟩:St)
def Zhr:Int×Int->LS
 |(y0_3,y0_4)=>([.a (.i .u64 y0_3),.a (.i .i64 y0_4)],[])
def Zm3:Int×Int->Exit×LS
 |t=>((.exit 0),Zhr t)
def Zdl(P:Program)(a0:Array Value):Int×Int->Option (Stp (Int×Int) (Int×Int))
 |(y0_3,y0_4)=>bif decide (y0_4<(36:Int)) then (bif (Zab y0_4 a0) then (bif decide (0<=(IntKind.u64.wrap y0_4)) then (some (.more ((IntKind.u64.wrap (BitVec.ofInt IntKind.u64.bits y0_3 ||| BitVec.ofInt IntKind.u64.bits (IntKind.u64.wrap ((1:Int)*2^(min ((IntKind.u64.wrap y0_4)).toNat IntKind.u64.bits)))).toNat),(i64.wrap (y0_4+(1:Int)))))) else (none)) else (some (.more (y0_3,(i64.wrap (y0_4+(1:Int))))))) else (some (.done (y0_3,y0_4)))
noncomputable abbrev cKCxB69:=codeOf f69
def Ufv:=(Uaa cKCxB69 [([3,4],[])]).1
theorem Yd7(N:Nat)(a0:Array Value):∀t:Int×Int,Uah PZ (mkΓ [(72,con Zb9)]) N (cAt cKCxB69 [1,1,0,1,0,0]) (pAt Ufv [1,1,0,1,0]) [3,4] [] (Zfz a0) (Zhr t)=mapS Zhr Zm3 (Zdl PZ a0 t):=by
 rintro⟨y0_3,y0_4⟩
 conv=>rhs;simp only[Zdl,Zao,Zam,Zan,Zap,Zhr,Zm3]
 kernel_rfl
def Zkn(P:Program)(N:Nat)(a0:Array Value)(z0_3:Int)(z0_4:Int):Option (SV×Eff×Bool):=some (.a (.i .u64 z0_3),.none,true)
def Ug1(N:Nat)(a0:Array Value):=(Uad 0 (kSeq (veC PZ (mkΓ [(72,con Zb9)]) N (cAt cKCxB69 [1,1,1]) (pAt Ufv [1,1,1]) (SV×Eff×Bool)) (finK PZ [.row a0 37] [.tmp 2])))
theorem Zsq(N:Nat)(a0:Array Value)(z0_3:Int)(z0_4:Int):(Ug1 N a0) (.exit 0) (left (writes (cAt cKCxB69 [1,1,0,1,0,0])) [3,4] [] (Zfz a0) ([.a (.i .u64 z0_3),.a (.i .i64 z0_4)],[]))=Zkn PZ N a0 z0_3 z0_4:=by kernel_rfl
theorem Yfc(N:Nat)(a0:Array Value):Uag (Uab (Uah PZ (mkΓ [(72,con Zb9)]) N (cAt cKCxB69 [1,1,0,1,0,0]) (pAt Ufv [1,1,0,1,0]) [3,4] [] (Zfz a0)) N ([.a (.i .u64 0),.a (.i .i64 0)],[])) (λe s=>(Ug1 N a0) e (left (writes (cAt cKCxB69 [1,1,0,1,0,0])) [3,4] [] (Zfz a0) s))=Uai (Uab (Zdl PZ a0) N ((0:Int),(0:Int))) (λx=>Zkn PZ N a0 x.1 x.2):=by refine Zar Zhr Zm3 _ _ (Yd7 N a0) N ((0:Int),(0:Int)) _ _ ?_;intro x;exact Zsq N a0 x.1 x.2
theorem Ycs(N:Nat)(a0:Array Value):ansV PZ (mkΓ [(72,con Zb9)]) N f69 [([3,4],[])] [.w 0] [.row a0 37]=(Uai (Uab (Zdl PZ a0) N ((0:Int),(0:Int))) (λx=>Zkn PZ N a0 x.1 x.2)):=by
 conv=>rhs;simp only[<- Yfc N a0]
 kernel_rfl
theorem Zyq(a0:Array Value)(h_a0:WT PZ 37 a0)(hg:(true)=true):ansV PZ (mkΓ [(72,con Zb9)]) 1000 f69 [([3,4],[])] [.w 0] [.row a0 37]=some (.a (.i .u64 (Ua7 (num a0 0) (num a0 1) 36)),.none,true):=by
 refine(Ycs 1000 a0).trans ?_;have h:=Zi6 (g:=Zdl PZ a0) (λs k=>(s,(k:Int))) (λb k=>if inC (num a0 0) (num a0 1) k then orI b (oneI k) else b) (m:=36) (t:=(0:Int)) (x:=(Ua7 (num a0 0) (num a0 1) 36,36)) (N:=1000) (λk s hk _=>by
  have h1:decide ((k:Int)<36)=true:=Q3 (by omega);have h0:decide (0<=(k:Int))=true:=Q3 (by omega);have h3:i64.wrap ((k:Int)+1)=((k+1:Nat):Int):=by rw[IntWalk.i64_in _ (by omega)];omega
  simp only[Zdl,h1,Q1,Ymw h_a0 hk,u64w hk,h0,h3,Q9];cases inC (num a0 0) (num a0 1) k<;>rfl) (by
  have h1:decide (((36:Nat):Int)<36)=false:=by decide
  simp only[Zdl,h1,Q2];rfl) (by omega)
 have h':Uab (Zdl PZ a0) 1000 ((0:Int),(0:Int))=some (Ua7 (num a0 0) (num a0 1) 36,(36:Int)):=h;rw[h'];rfl
def Zma:Con:=λargs h=>match args,h with|[.w 0],[.row a0 37]=>some (.a (.i .u64 (Ua7 (num a0 0) (num a0 1) 36)),.none,true)|_,_=>none
theorem Zxj:EntX PZ 69:=Zaj (fn:=f69)
theorem Ye1:Uac mn PZ 69 Zma:=(ansY (N:=1000) (mKc (Zae Zku) Zhp mKn) f69 [([3,4],[])]).of (by
 intro ρ h w args vals r e hA hH hr;unfold Zma at hr;split at hr
 ·rename_i a0;obtain⟨rfl,rfl,hg2⟩:=BQi hr;exact Zyq a0 (hH.wt 0 rfl) hg2
 ·cases hr)
def Zgx:Cons:=(mkΓx [(102,con Zjx)] [(111,Zhk)] [(118,Zf8)])
def Zdo(a0:Array Value):St:=(⟨.a (.g a0 37)::.a (.w 0)::.a (.i .u64 0)::.a (.w 2)::.a (.u)::.a (.g a0 37)::.a (.c 118 [6,8])::us 6 ([]),[.row a0 37,.no,.row #[.int .u64 0] 23,.no,.no,.no,.row #[.int .i64 (num a0 1)] 2,.no,.row #[.int .i64 (num a0 0)] 2,.no,.no],[]⟩:St)
def Zj3:Int->BS
 |r0_2=>([.row #[.int .u64 r0_2] 23]:BS)
def Znq:Empty->Exit×BS:=λx=>nomatch x
def Zf1(P:Program)(a0:Array Value)(x0:Int):Int->Option (Stp (Int) Empty)
 |r0_2=>bif decide (0<=x0) then (some (.more (IntKind.u64.wrap (BitVec.ofInt IntKind.u64.bits r0_2 ||| BitVec.ofInt IntKind.u64.bits (Zev x0)).toNat))) else (none)
noncomputable abbrev cKCxB98:=codeOf f98
def Ufz:=(Uaa cKCxB98 [([],[2])]).1
theorem Ye5(N:Nat)(a0:Array Value)(x0:Int):∀t:Int,Ud7 PZ Zgx N (cAt cKCxB98 [1,1,0,1,0,0]) (pAt Ufz [1,1,0,1,0]) 11 [2] [7] [(4,7)] (Zdo a0) [.i .i64 x0] (Zj3 t)=mapS Zj3 Znq (Zf1 PZ a0 x0 t):=by
 rintro r0_2
 conv=>rhs;simp only[Zf1,Zao,Zam,Zan,Zap,Zj3,Znq]
 kernel_rfl
def Zk0(P:Program)(N:Nat)(a0:Array Value)(q0_2:Int):Option (SV×Eff×Bool):=some (.a (.i .u64 q0_2),.none,true)
def Uex(N:Nat):=(Uad 0 (kSeq (veC PZ Zgx N (cAt cKCxB98 [1,1,1]) (pAt Ufz [1,1,1]) (SV×Eff×Bool)) (finK PZ [] [.tmp 2])))
theorem Zs9(N:Nat)(a0:Array Value)(q0_2:Int):(Uex N) .normal (Ua2 [2] (Zdo a0) ([.row #[.int .u64 q0_2] 23]:BS))=Zk0 PZ N a0 q0_2:=by kernel_rfl
theorem Yc5(N:Nat)(a0:Array Value):Ucj (Uas (λ(x0:Int) (hb:BS)=>Ud7 PZ Zgx N (cAt cKCxB98 [1,1,0,1,0,0]) (pAt Ufz [1,1,0,1,0]) 11 [2] [7] [(4,7)] (Zdo a0) [.i .i64 x0] hb) (Uak (num a0 0) (num a0 1) 36) ([.row #[.int .u64 0] 23]:BS)) (λhb=>(Uex N) .normal (Ua2 [2] (Zdo a0) hb)) (λe hb=>(Uex N) e (Ua2 [2] (Zdo a0) hb))=Uc9 (Uas (Zf1 PZ a0) (Uak (num a0 0) (num a0 1) 36) (0:Int)) (λx=>Zk0 PZ N a0 x) (λx:Empty=>nomatch x):=by
 refine Zzo Zj3 Znq _ _ (λy t=>Ye5 N a0 y t) _ (0:Int) _ _ _ _ ?_ ?_
 ·intro x;exact Zs9 N a0 x
 ·intro x;exact nomatch x
theorem Ybr(N:Nat)(a0:Array Value):ansV PZ Zgx N f98 [([],[2])] [.g a0 37] []=(bif (decide (0<=(num a0 0))&&decide ((num a0 0)<=6)&&(decide (0<=(num a0 1))&&decide ((num a0 1)<=6))) then (Uc9 (Uas (Zf1 PZ a0) (Uak (num a0 0) (num a0 1) 36) (0:Int)) (λx=>Zk0 PZ N a0 x) (λx:Empty=>nomatch x)) else (none)):=by
 conv=>rhs;simp only[<- Yc5 N a0]
 kernel_rfl
theorem Yan(a0:Array Value)(h_a0:WT PZ 37 a0)(hg:((decide (0<=num a0 0)&&decide (num a0 0<=6)&&(decide (0<=num a0 1)&&decide (num a0 1<=6))))=true):ansV PZ Zgx 1000 f98 [([],[2])] [.g a0 37] []=some (.a (.i .u64 (Ua7 (num a0 0) (num a0 1) 36)),.none,true):=by
 refine(Ybr 1000 a0).trans ?_;have h:=Yrb (X:=Empty) (g:=Zf1 PZ a0) (λb k=>orI b (oneI k)) (wd:=num a0 0) (hi:=num a0 1) (λs k hk _=>by
  have h0:decide (0<=(k:Int))=true:=Q3 (by omega);simp only[Zf1,h0,Q1,Ynw];rfl) (0:Int)
 simp only[hg,Q1,h];rfl
def Zl5:Con:=λargs h=>match args,h with|[.g a0 37],[]=>some (.a (.i .u64 (Ua7 (num a0 0) (num a0 1) 36)),.none,(decide (0<=num a0 0)&&decide (num a0 0<=6)&&(decide (0<=num a0 1)&&decide (num a0 1<=6))))|_,_=>none
theorem Zw2:EntX PZ 98:=Zaj (fn:=f98)
theorem Ydw:Uac mn PZ 98 Zl5:=(ansY (N:=1000) (mKx (Zae Zzs) Zrz (mkΓx_nX Zl1 Zj9 (mkΓx_iX Zxc Zik mkΓx_nilX))) f98 [([],[2])]).of (by
 intro ρ h w args vals r e hA hH hr;unfold Zl5 at hr;split at hr
 ·rename_i a0;obtain⟨rfl,rfl,hg2⟩:=BQi hr;exact Yan a0 (hA.wt 0 rfl) hg2
 ·cases hr)
theorem Zqm{S:Array Value}{k:Nat}(hk:k<36):Zad S (k:Int)=bitI (num S 2) k:=by have h:=bit_test (c:=num S 2) (j:=k) (by omega);rw[<- h,<- Ynw];rfl
theorem Ysx{S:Array Value}(hS:WT PZ 37 S){k:Nat}(hk:k<36):Zaf (k:Int) S=bitI (num S 2) k:=by have h:=bit_shr (c:=num S 2) (Yta hS) (k:=k) (by omega);rw[<- h];unfold Zaf;rw[u64w hk,Q9]
theorem Ypp{S:Array Value}(hS:WT PZ 37 S){k:Nat}(hk:k<36):Zad S (k:Int)=Zaf (k:Int) S:=by rw[Zqm hk,Ysx hS hk]
end
end Go.Proofs.YtdfefaanfiheoaaGreatDoor
