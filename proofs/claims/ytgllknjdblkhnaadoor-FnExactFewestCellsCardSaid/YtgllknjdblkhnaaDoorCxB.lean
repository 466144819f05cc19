/- The bits of all cells, in company. -/
import Derived.Test.YtgllknjdblkhnaaDoorProg
import Derived.Test.YtgllknjdblkhnaaDoorCxEach
set_option linter.unusedVariables false
set_option linter.unusedSimpArgs false
namespace Go.Proofs.YtgllknjdblkhnaaDoor
open Tryd (f34 f60)
open Go.ChangeShapes Go.WideShapes Go.ChangeAt Go.RowKit Ve Vc
open Tryd (prog)
open IntKind (i64)
set_option maxRecDepth 100000
noncomputable section
variable {mn:Md}
theorem cell_is(S:Array Value)(c:Int):Zau S c=Zaw c S:=by
 unfold Zau Zaw Zaa
 by_cases h0:0<=c
 ·have e1:∀x y:Int,0<=x->0<=y->Zar S #[.int .i64 x,.int .i64 y]=(bif decide (x<i64.wrap (num S 0)) then decide (y<i64.wrap (num S 1)) else false):=λx y hx hy=>by
   show (bif decide (x>=0) then (bif decide (x<i64.wrap (num S 0)) then (bif decide (y>=0) then decide (y<i64.wrap (num S 1)) else false) else false) else false)=_
   rw[Q3 (show x>=0 from hx),Q3 (show y>=0 from hy)];cases decide (x<i64.wrap (num S 0))<;>rfl
  by_cases h1:c<=35
  ·have hx:0<=c.tmod 6:=Int.tmod_nonneg 6 h0;have hy:0<=i64.wrap (c.tdiv 6):=by
    have:c.tdiv 6=c / 6:=Int.tdiv_eq_ediv_of_nonneg h0;rw[this,IntWalk.i64_in _ (by omega)];omega
   rw[e1 _ _ hx hy,Q3 (show c>=0 from h0),Q3 (show c<36 by omega),Q3 h1];rfl
  ·rw[Q4 (show ¬c<36 by omega),Q4 h1];cases decide (c>=0)<;>rfl
 ·rw[Q4 (show ¬c>=0 from h0)];rfl
theorem Yib{S:Array Value}{c:Int}(h:Zaw c S=true):0<=c/\c<=35:=by unfold Zaw Zaa at h;cases h0:decide (c>=0) with|false=>rw[h0]at h;exact nomatch h|true=>cases h1:decide (c<=35) with|false=>rw[h0,h1]at h;exact nomatch h|true=>exact⟨of_decide_eq_true h0,of_decide_eq_true h1⟩
theorem Uf4{c:Int}(hc:0<=c/\c<=35):IntKind.u64.wrap c=c:=by rw[IntKind.wrap_u64];omega
theorem bit_of{c:Int}(hc:0<=c/\c<=35):Za0 c=IntKind.u64.wrap ((1:Int)*2^(min ((IntKind.u64.wrap c)).toNat IntKind.u64.bits)):=by unfold Za0;rw[Uf4 hc]
theorem wt_land{T:TypeId}(hL:lay prog T=0::0::7::List.replicate 360 4){S:Array Value}(h:WT prog T S):0<=num S 2/\num S 2<=18446744073709551615:=(h.int (o:=2) (k:=.u64) (by rw[hL];rfl)).2
theorem Ydb:lay prog 35=0::0::7::List.replicate 360 4:=by kernel_rfl
theorem land_of{S:Array Value}(h:WT prog 35 S):0<=num S 2/\num S 2<=18446744073709551615:=wt_land Ydb h
theorem Ycm{S:Array Value}(h:WT prog 35 S){k:Nat}(hk:k<36):Zaw (k:Int) S=inC (num S 0) (num S 1) k:=by
 obtain⟨s0,a0,b0⟩:=h.int (o:=0) (k:=.i8) (by kernel_rfl);obtain⟨s1,a1,b1⟩:=h.int (o:=1) (k:=.i8) (by kernel_rfl);have e1:IntKind.i8.min=-128:=rfl;have e2:IntKind.i8.max=127:=rfl;unfold Zaw Zaa inC;rw[Q3 (show (k:Int)>=0 by omega),Q3 (show (k:Int)<=35 by omega),IntWalk.i64_in (num S 0) (by omega),IntWalk.i64_in (num S 1) (by omega)];have h1:((k:Int)).tmod 6=((k % 6:Nat):Int):=by rw[Int.tmod_eq_emod_of_nonneg (by omega)];omega
 have h2:((k:Int)).tdiv 6=((k / 6:Nat):Int):=by rw[Int.tdiv_eq_ediv_of_nonneg (by omega)];omega
 rw[h1,h2,IntWalk.i64_in _ (by omega)];simp only[Q1,Q2];cases decide (((k % 6:Nat):Int)<num S 0)<;>rfl
theorem Zl6(k:Nat):Za0 (k:Int)=oneI k:=by unfold Za0 oneI;rw[Q9]
theorem u64w{k:Nat}(hk:k<36):IntKind.u64.wrap (k:Int)=(k:Int):=Uf4 (by omega)
def Ze6(a0:Array Value):St:=(⟨.a (.w 0)::.a (.u)::.a (.i .u64 0)::.a (.i .u64 0)::.a (.i .i64 0)::us 13 ([]),[.row a0 35],[]⟩:St)
def Zgn:Int×Int->LS
 |(y0_3,y0_4)=>([.a (.i .u64 y0_3),.a (.i .i64 y0_4)],[])
def Zk3:Int×Int->Exit×LS
 |t=>((.exit 0),Zgn t)
def Zdn(P:Program)(a0:Array Value):Int×Int->Option (Stp (Int×Int) (Int×Int))
 |(y0_3,y0_4)=>bif decide (y0_4<(36:Int)) then (bif (Zaw y0_4 a0) then (bif decide (0<=(IntKind.u64.wrap y0_4)) then (some (.more ((IntKind.u64.wrap (BitVec.ofInt IntKind.u64.bits y0_3 ||| BitVec.ofInt IntKind.u64.bits (IntKind.u64.wrap ((1:Int)*2^(min ((IntKind.u64.wrap y0_4)).toNat IntKind.u64.bits)))).toNat),(i64.wrap (y0_4+(1:Int)))))) else (none)) else (some (.more (y0_3,(i64.wrap (y0_4+(1:Int))))))) else (some (.done (y0_3,y0_4)))
noncomputable abbrev cKCxB34:=codeOf f34
theorem Zyg(N:Nat)(a0:Array Value):∀t:Int×Int,Uao prog (mkΓ [(56,con Zcs)]) N (cAt cKCxB34 [1,1,0,1,0,0]) (pAt (Uaa cKCxB34 [([3,4],[])]).1 [1,1,0,1,0]) [3,4] [] (Ze6 a0) (Zgn t)=mapS Zgn Zk3 (Zdn prog a0 t):=by
 rintro⟨y0_3,y0_4⟩
 conv=>rhs;simp only[Zdn,Za3,Za8,Za6,Za7,Zgn,Zk3]
 kernel_rfl
def Zjw(P:Program)(N:Nat)(a0:Array Value)(z0_3:Int)(z0_4:Int):Option (SV×Eff×Bool):=some (.a (.i .u64 z0_3),.none,true)
theorem Zpv(N:Nat)(a0:Array Value)(z0_3:Int)(z0_4:Int):(Uac 0 (kSeq (veC prog (mkΓ [(56,con Zcs)]) N (cAt cKCxB34 [1,1,1]) (pAt (Uaa cKCxB34 [([3,4],[])]).1 [1,1,1]) (SV×Eff×Bool)) (finK prog [.row a0 35] [.tmp 2]))) (.exit 0) (left (writes (cAt cKCxB34 [1,1,0,1,0,0])) [3,4] [] (Ze6 a0) ([.a (.i .u64 z0_3),.a (.i .i64 z0_4)],[]))=Zjw prog N a0 z0_3 z0_4:=by kernel_rfl
theorem Zyr(N:Nat)(a0:Array Value):Uaj (Uab (Uao prog (mkΓ [(56,con Zcs)]) N (cAt cKCxB34 [1,1,0,1,0,0]) (pAt (Uaa cKCxB34 [([3,4],[])]).1 [1,1,0,1,0]) [3,4] [] (Ze6 a0)) N ([.a (.i .u64 0),.a (.i .i64 0)],[])) (λe s=>(Uac 0 (kSeq (veC prog (mkΓ [(56,con Zcs)]) N (cAt cKCxB34 [1,1,1]) (pAt (Uaa cKCxB34 [([3,4],[])]).1 [1,1,1]) (SV×Eff×Bool)) (finK prog [.row a0 35] [.tmp 2]))) e (left (writes (cAt cKCxB34 [1,1,0,1,0,0])) [3,4] [] (Ze6 a0) s))=Uas (Uab (Zdn prog a0) N ((0:Int),(0:Int))) (λx=>Zjw prog N a0 x.1 x.2):=by refine Zbe Zgn Zk3 _ _ (Zyg N a0) N ((0:Int),(0:Int)) _ _ ?_;intro x;exact Zpv N a0 x.1 x.2
theorem Zwr(N:Nat)(a0:Array Value):ansV prog (mkΓ [(56,con Zcs)]) N f34 [([3,4],[])] [.w 0] [.row a0 35]=(Uas (Uab (Zdn prog a0) N ((0:Int),(0:Int))) (λx=>Zjw prog N a0 x.1 x.2)):=by
 conv=>rhs;simp only[<- Zyr N a0]
 kernel_rfl
theorem Zt3(a0:Array Value)(h_a0:WT prog 35 a0)(hg:(true)=true):ansV prog (mkΓ [(56,con Zcs)]) 1000 f34 [([3,4],[])] [.w 0] [.row a0 35]=some (.a (.i .u64 (Ua0 (num a0 0) (num a0 1) 36)),.none,true):=by
 refine(Zwr 1000 a0).trans ?_;have h:=Zi9 (g:=Zdn prog a0) (λs k=>(s,(k:Int))) (λb k=>if inC (num a0 0) (num a0 1) k then orI b (oneI k) else b) (m:=36) (t:=(0:Int)) (x:=(Ua0 (num a0 0) (num a0 1) 36,36)) (N:=1000) (λk s hk _=>by
  have h1:decide ((k:Int)<36)=true:=Q3 (by omega);have h0:decide (0<=(k:Int))=true:=Q3 (by omega);have h3:i64.wrap ((k:Int)+1)=((k+1:Nat):Int):=by rw[IntWalk.i64_in _ (by omega)];omega
  simp only[Zdn,h1,Q1,Ycm h_a0 hk,u64w hk,h0,h3,Q9];cases inC (num a0 0) (num a0 1) k<;>rfl) (by
  have h1:decide (((36:Nat):Int)<36)=false:=by decide
  simp only[Zdn,h1,Q2];rfl) (by omega)
 have h':Uab (Zdn prog a0) 1000 ((0:Int),(0:Int))=some (Ua0 (num a0 0) (num a0 1) 36,(36:Int)):=h;rw[h'];rfl
def Zhu:Con:=λargs h=>match args,h with|[.w 0],[.row a0 35]=>some (.a (.i .u64 (Ua0 (num a0 0) (num a0 1) 36)),.none,true)|_,_=>none
theorem Zl1:EntX prog 34:=Zao (fn:=f34)
theorem Zor:Uad mn prog 34 Zhu:=(ansY (N:=1000) (mKc (Zai Zup) Zos mKn) f34 [([3,4],[])]).of (by
 intro ρ h w args vals r e hA hH hr;unfold Zhu at hr;split at hr
 ·rename_i a0;obtain⟨rfl,rfl,hg2⟩:=BQi hr;exact Zt3 a0 (hH.wt 0 rfl) hg2
 ·cases hr)
def Zct:Cons:=(mkΓx [(46,con Zcd)] [(78,Zin)] [(93,Zd7)])
def Zdl(a0:Array Value):St:=(⟨.a (.g a0 35)::.a (.w 0)::.a (.i .u64 0)::.a (.w 2)::.a (.u)::.a (.g a0 35)::.a (.c 93 [6,8])::us 6 ([]),[.row a0 35,.no,.row #[.int .u64 0] 23,.no,.no,.no,.row #[.int .i64 (num a0 1)] 2,.no,.row #[.int .i64 (num a0 0)] 2,.no,.no],[]⟩:St)
def Zij:Int->BS
 |r0_2=>([.row #[.int .u64 r0_2] 23]:BS)
def Zk8:Empty->Exit×BS:=λx=>nomatch x
def Zfc(P:Program)(a0:Array Value)(x0:Int):Int->Option (Stp (Int) Empty)
 |r0_2=>bif decide (0<=x0) then (some (.more (IntKind.u64.wrap (BitVec.ofInt IntKind.u64.bits r0_2 ||| BitVec.ofInt IntKind.u64.bits (Za0 x0)).toNat))) else (none)
noncomputable abbrev cKCxB60:=codeOf f60
theorem Zyf(N:Nat)(a0:Array Value)(x0:Int):∀t:Int,Uc5 prog Zct N (cAt cKCxB60 [1,1,0,1,0,0]) (pAt (Uaa cKCxB60 [([],[2])]).1 [1,1,0,1,0]) 11 [2] [7] [(4,7)] (Zdl a0) [.i .i64 x0] (Zij t)=mapS Zij Zk8 (Zfc prog a0 x0 t):=by
 rintro r0_2
 conv=>rhs;simp only[Zfc,Za3,Za8,Za6,Za7,Zij,Zk8]
 kernel_rfl
def Zjr(P:Program)(N:Nat)(a0:Array Value)(q0_2:Int):Option (SV×Eff×Bool):=some (.a (.i .u64 q0_2),.none,true)
theorem Zqo(N:Nat)(a0:Array Value)(q0_2:Int):(Uac 0 (kSeq (veC prog Zct N (cAt cKCxB60 [1,1,1]) (pAt (Uaa cKCxB60 [([],[2])]).1 [1,1,1]) (SV×Eff×Bool)) (finK prog [] [.tmp 2]))) .normal (Uau [2] (Zdl a0) ([.row #[.int .u64 q0_2] 23]:BS))=Zjr prog N a0 q0_2:=by kernel_rfl
theorem Zy2(N:Nat)(a0:Array Value):Ubz (Uam (λ(x0:Int) (hb:BS)=>Uc5 prog Zct N (cAt cKCxB60 [1,1,0,1,0,0]) (pAt (Uaa cKCxB60 [([],[2])]).1 [1,1,0,1,0]) 11 [2] [7] [(4,7)] (Zdl a0) [.i .i64 x0] hb) (Uaw (num a0 0) (num a0 1) 36) ([.row #[.int .u64 0] 23]:BS)) (λhb=>(Uac 0 (kSeq (veC prog Zct N (cAt cKCxB60 [1,1,1]) (pAt (Uaa cKCxB60 [([],[2])]).1 [1,1,1]) (SV×Eff×Bool)) (finK prog [] [.tmp 2]))) .normal (Uau [2] (Zdl a0) hb)) (λe hb=>(Uac 0 (kSeq (veC prog Zct N (cAt cKCxB60 [1,1,1]) (pAt (Uaa cKCxB60 [([],[2])]).1 [1,1,1]) (SV×Eff×Bool)) (finK prog [] [.tmp 2]))) e (Uau [2] (Zdl a0) hb))=Udo (Uam (Zfc prog a0) (Uaw (num a0 0) (num a0 1) 36) (0:Int)) (λx=>Zjr prog N a0 x) (λx:Empty=>nomatch x):=by
 refine Zp0 Zij Zk8 _ _ (λy t=>Zyf N a0 y t) _ (0:Int) _ _ _ _ ?_ ?_
 ·intro x;exact Zqo N a0 x
 ·intro x;exact nomatch x
theorem Zxf(N:Nat)(a0:Array Value):ansV prog Zct N f60 [([],[2])] [.g a0 35] []=(bif (decide (0<=(num a0 0))&&decide ((num a0 0)<=6)&&(decide (0<=(num a0 1))&&decide ((num a0 1)<=6))) then (Udo (Uam (Zfc prog a0) (Uaw (num a0 0) (num a0 1) 36) (0:Int)) (λx=>Zjr prog N a0 x) (λx:Empty=>nomatch x)) else (none)):=by
 conv=>rhs;simp only[<- Zy2 N a0]
 kernel_rfl
theorem Zv2(a0:Array Value)(h_a0:WT prog 35 a0)(hg:((decide (0<=num a0 0)&&decide (num a0 0<=6)&&(decide (0<=num a0 1)&&decide (num a0 1<=6))))=true):ansV prog Zct 1000 f60 [([],[2])] [.g a0 35] []=some (.a (.i .u64 (Ua0 (num a0 0) (num a0 1) 36)),.none,true):=by
 refine(Zxf 1000 a0).trans ?_;have h:=Yc8 (X:=Empty) (g:=Zfc prog a0) (λb k=>orI b (oneI k)) (wd:=num a0 0) (hi:=num a0 1) (λs k hk _=>by
  have h0:decide (0<=(k:Int))=true:=Q3 (by omega);simp only[Zfc,h0,Q1,Zl6];rfl) (0:Int)
 simp only[hg,Q1,h];rfl
def Zds:Con:=λargs h=>match args,h with|[.g a0 35],[]=>some (.a (.i .u64 (Ua0 (num a0 0) (num a0 1) 36)),.none,(decide (0<=num a0 0)&&decide (num a0 0<=6)&&(decide (0<=num a0 1)&&decide (num a0 1<=6))))|_,_=>none
theorem Zi5:EntX prog 60:=Zao (fn:=f60)
theorem Zkz:Uad mn prog 60 Zds:=(ansY (N:=1000) (mKx (Zai Zht) Ze9 (mkΓx_nX Znv Zl2 (mkΓx_iX Zlm Zks mkΓx_nilX))) f60 [([],[2])]).of (by
 intro ρ h w args vals r e hA hH hr;unfold Zds at hr;split at hr
 ·rename_i a0;obtain⟨rfl,rfl,hg2⟩:=BQi hr;exact Zv2 a0 (hA.wt 0 rfl) hg2
 ·cases hr)
theorem Yb8{S:Array Value}{k:Nat}(hk:k<36):Zbl S (k:Int)=bitI (num S 2) k:=by have h:=bit_test (c:=num S 2) (j:=k) (by omega);rw[<- h,<- Zl6];rfl
theorem Yhy{S:Array Value}(hS:WT prog 35 S){k:Nat}(hk:k<36):Zc8 (k:Int) S=bitI (num S 2) k:=by have h:=Yld (c:=num S 2) (land_of hS) (k:=k) (by omega);rw[<- h];unfold Zc8;rw[u64w hk,Q9]
theorem land_dry{S:Array Value}(hS:WT prog 35 S){k:Nat}(hk:k<36):Zbl S (k:Int)=Zc8 (k:Int) S:=by rw[Yb8 hk,Yhy hS hk]
end
end Go.Proofs.YtgllknjdblkhnaaDoor
