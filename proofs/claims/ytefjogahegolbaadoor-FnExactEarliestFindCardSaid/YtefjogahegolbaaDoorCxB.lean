/- The bits of all cells, in company. -/
import Derived.Test.YtefjogahegolbaaDoorProg
import Derived.Test.YtefjogahegolbaaDoorCxEachWater
set_option linter.unusedVariables false
set_option linter.unusedSimpArgs false
namespace Go.Proofs.YtefjogahegolbaaDoor
open Tryd (f62 f72)
open Go.ChangeShapes Go.WideShapes Go.ChangeAt Go.RowKit Ve Vc
open Tryd (prog)
open IntKind (i64)
set_option maxRecDepth 100000
noncomputable section
variable {mn:Md}
theorem Zpg(S:Array Value)(c:Int):Zak S c=Zac c S:=by
 unfold Zak Zac Zaa
 by_cases h0:0<=c
 ·have e1:∀x y:Int,0<=x->0<=y->Zas S #[.int .i64 x,.int .i64 y]=(bif decide (x<i64.wrap (num S 0)) then decide (y<i64.wrap (num S 1)) else false):=λx y hx hy=>by
   show (bif decide (x>=0) then (bif decide (x<i64.wrap (num S 0)) then (bif decide (y>=0) then decide (y<i64.wrap (num S 1)) else false) else false) else false)=_
   rw[Q3 (show x>=0 from hx),Q3 (show y>=0 from hy)];cases decide (x<i64.wrap (num S 0))<;>rfl
  by_cases h1:c<=35
  ·have hx:0<=c.tmod 6:=Int.tmod_nonneg 6 h0;have hy:0<=i64.wrap (c.tdiv 6):=by
    have:c.tdiv 6=c / 6:=Int.tdiv_eq_ediv_of_nonneg h0;rw[this,IntWalk.i64_in _ (by omega)];omega
   rw[e1 _ _ hx hy,Q3 (show c>=0 from h0),Q3 (show c<36 by omega),Q3 h1];rfl
  ·rw[Q4 (show ¬c<36 by omega),Q4 h1];cases decide (c>=0)<;>rfl
 ·rw[Q4 (show ¬c>=0 from h0)];rfl
theorem Zgd{S:Array Value}{c:Int}(h:Zac c S=true):0<=c/\c<=35:=by unfold Zac Zaa at h;cases h0:decide (c>=0) with|false=>rw[h0]at h;exact nomatch h|true=>cases h1:decide (c<=35) with|false=>rw[h0,h1]at h;exact nomatch h|true=>exact⟨of_decide_eq_true h0,of_decide_eq_true h1⟩
theorem u64_c{c:Int}(hc:0<=c/\c<=35):IntKind.u64.wrap c=c:=by rw[IntKind.wrap_u64];omega
theorem wt_land{T:TypeId}(hL:lay prog T=0::0::7::List.replicate 360 4){S:Array Value}(h:WT prog T S):0<=num S 2/\num S 2<=18446744073709551615:=(h.int (o:=2) (k:=.u64) (by rw[hL];rfl)).2
theorem Ykt:lay prog 35=0::0::7::List.replicate 360 4:=by kernel_rfl
theorem land_of{S:Array Value}(h:WT prog 35 S):0<=num S 2/\num S 2<=18446744073709551615:=wt_land Ykt h
theorem Ye7{S:Array Value}(h:WT prog 35 S){k:Nat}(hk:k<36):Zac (k:Int) S=inC (num S 0) (num S 1) k:=by
 obtain⟨s0,a0,b0⟩:=h.int (o:=0) (k:=.i8) (by kernel_rfl);obtain⟨s1,a1,b1⟩:=h.int (o:=1) (k:=.i8) (by kernel_rfl);have e1:IntKind.i8.min=-128:=rfl;have e2:IntKind.i8.max=127:=rfl;unfold Zac Zaa inC;rw[Q3 (show (k:Int)>=0 by omega),Q3 (show (k:Int)<=35 by omega),IntWalk.i64_in (num S 0) (by omega),IntWalk.i64_in (num S 1) (by omega)];have h1:((k:Int)).tmod 6=((k % 6:Nat):Int):=by rw[Int.tmod_eq_emod_of_nonneg (by omega)];omega
 have h2:((k:Int)).tdiv 6=((k / 6:Nat):Int):=by rw[Int.tdiv_eq_ediv_of_nonneg (by omega)];omega
 rw[h1,h2,IntWalk.i64_in _ (by omega)];simp only[Q1,Q2];cases decide (((k % 6:Nat):Int)<num S 0)<;>rfl
theorem Yd3(k:Nat):Zdu (k:Int)=oneI k:=by unfold Zdu oneI;rw[Q9]
theorem u64w{k:Nat}(hk:k<36):IntKind.u64.wrap (k:Int)=(k:Int):=u64_c (by omega)
def Zee(a0:Array Value):St:=(⟨.a (.w 0)::.a (.u)::.a (.i .u64 0)::.a (.i .u64 0)::.a (.i .i64 0)::us 13 ([]),[.row a0 35],[]⟩:St)
def Zfl:Int×Int->LS
 |(y0_3,y0_4)=>([.a (.i .u64 y0_3),.a (.i .i64 y0_4)],[])
def Zj0:Int×Int->Exit×LS
 |t=>((.exit 0),Zfl t)
def Zc2(P:Program)(a0:Array Value):Int×Int->Option (Stp (Int×Int) (Int×Int))
 |(y0_3,y0_4)=>bif decide (y0_4<(36:Int)) then (bif (Zac y0_4 a0) then (bif decide (0<=(IntKind.u64.wrap y0_4)) then (some (.more ((IntKind.u64.wrap (BitVec.ofInt IntKind.u64.bits y0_3 ||| BitVec.ofInt IntKind.u64.bits (IntKind.u64.wrap ((1:Int)*2^(min ((IntKind.u64.wrap y0_4)).toNat IntKind.u64.bits)))).toNat),(i64.wrap (y0_4+(1:Int)))))) else (none)) else (some (.more (y0_3,(i64.wrap (y0_4+(1:Int))))))) else (some (.done (y0_3,y0_4)))
noncomputable abbrev cKCxB62:=codeOf f62
theorem Zw8(N:Nat)(a0:Array Value):∀t:Int×Int,Uaw prog (mkΓ [(30,con Zbj)]) N (cAt cKCxB62 [1,1,0,1,0,0]) (pAt (Uaa cKCxB62 [([3,4],[])]).1 [1,1,0,1,0]) [3,4] [] (Zee a0) (Zfl t)=mapS Zfl Zj0 (Zc2 prog a0 t):=by
 rintro⟨y0_3,y0_4⟩
 conv=>rhs;simp only[Zc2,Zbg,Zbe,Zbd,Zbh,Zfl,Zj0]
 kernel_rfl
def Zin(P:Program)(N:Nat)(a0:Array Value)(z0_3:Int)(z0_4:Int):Option (SV×Eff×Bool):=some (.a (.i .u64 z0_3),.none,true)
theorem Zow(N:Nat)(a0:Array Value)(z0_3:Int)(z0_4:Int):(Uac 0 (kSeq (veC prog (mkΓ [(30,con Zbj)]) N (cAt cKCxB62 [1,1,1]) (pAt (Uaa cKCxB62 [([3,4],[])]).1 [1,1,1]) (SV×Eff×Bool)) (finK prog [.row a0 35] [.tmp 2]))) (.exit 0) (left (writes (cAt cKCxB62 [1,1,0,1,0,0])) [3,4] [] (Zee a0) ([.a (.i .u64 z0_3),.a (.i .i64 z0_4)],[]))=Zin prog N a0 z0_3 z0_4:=by kernel_rfl
theorem Zxh(N:Nat)(a0:Array Value):Ual (Uab (Uaw prog (mkΓ [(30,con Zbj)]) N (cAt cKCxB62 [1,1,0,1,0,0]) (pAt (Uaa cKCxB62 [([3,4],[])]).1 [1,1,0,1,0]) [3,4] [] (Zee a0)) N ([.a (.i .u64 0),.a (.i .i64 0)],[])) (λe s=>(Uac 0 (kSeq (veC prog (mkΓ [(30,con Zbj)]) N (cAt cKCxB62 [1,1,1]) (pAt (Uaa cKCxB62 [([3,4],[])]).1 [1,1,1]) (SV×Eff×Bool)) (finK prog [.row a0 35] [.tmp 2]))) e (left (writes (cAt cKCxB62 [1,1,0,1,0,0])) [3,4] [] (Zee a0) s))=Uay (Uab (Zc2 prog a0) N ((0:Int),(0:Int))) (λx=>Zin prog N a0 x.1 x.2):=by refine Zbw Zfl Zj0 _ _ (Zw8 N a0) N ((0:Int),(0:Int)) _ _ ?_;intro x;exact Zow N a0 x.1 x.2
theorem Zvr(N:Nat)(a0:Array Value):ansV prog (mkΓ [(30,con Zbj)]) N f62 [([3,4],[])] [.w 0] [.row a0 35]=(Uay (Uab (Zc2 prog a0) N ((0:Int),(0:Int))) (λx=>Zin prog N a0 x.1 x.2)):=by
 conv=>rhs;simp only[<- Zxh N a0]
 kernel_rfl
theorem Zsr(a0:Array Value)(h_a0:WT prog 35 a0)(hg:(true)=true):ansV prog (mkΓ [(30,con Zbj)]) 1000 f62 [([3,4],[])] [.w 0] [.row a0 35]=some (.a (.i .u64 (Ua8 (num a0 0) (num a0 1) 36)),.none,true):=by
 refine(Zvr 1000 a0).trans ?_;have h:=Zh4 (g:=Zc2 prog a0) (λs k=>(s,(k:Int))) (λb k=>if inC (num a0 0) (num a0 1) k then orI b (oneI k) else b) (m:=36) (t:=(0:Int)) (x:=(Ua8 (num a0 0) (num a0 1) 36,36)) (N:=1000) (λk s hk _=>by
  have h1:decide ((k:Int)<36)=true:=Q3 (by omega);have h0:decide (0<=(k:Int))=true:=Q3 (by omega);have h3:i64.wrap ((k:Int)+1)=((k+1:Nat):Int):=by rw[IntWalk.i64_in _ (by omega)];omega
  simp only[Zc2,h1,Q1,Ye7 h_a0 hk,u64w hk,h0,h3,Q9];cases inC (num a0 0) (num a0 1) k<;>rfl) (by
  have h1:decide (((36:Nat):Int)<36)=false:=by decide
  simp only[Zc2,h1,Q2];rfl) (by omega)
 have h':Uab (Zc2 prog a0) 1000 ((0:Int),(0:Int))=some (Ua8 (num a0 0) (num a0 1) 36,(36:Int)):=h;rw[h'];rfl
def Zi7:Con:=λargs h=>match args,h with|[.w 0],[.row a0 35]=>some (.a (.i .u64 (Ua8 (num a0 0) (num a0 1) 36)),.none,true)|_,_=>none
theorem Zrt:EntX prog 62:=Zal (fn:=f62)
theorem Zwn:Uad mn prog 62 Zi7:=(ansY (N:=1000) (mKc (Zah Zim) Zfs mKn) f62 [([3,4],[])]).of (by
 intro ρ h w args vals r e hA hH hr;unfold Zi7 at hr;split at hr
 ·rename_i a0;obtain⟨rfl,rfl,hg2⟩:=BQi hr;exact Zsr a0 (hH.wt 0 rfl) hg2
 ·cases hr)
def Zcb:Cons:=(mkΓx [(71,con Zhk)] [(48,Zft)] [(69,Zet)])
def Zcz(a0:Array Value):St:=(⟨.a (.g a0 35)::.a (.w 0)::.a (.i .u64 0)::.a (.w 2)::.a (.u)::.a (.g a0 35)::.a (.c 69 [6,8])::us 6 ([]),[.row a0 35,.no,.row #[.int .u64 0] 23,.no,.no,.no,.row #[.int .i64 (num a0 1)] 2,.no,.row #[.int .i64 (num a0 0)] 2,.no,.no],[]⟩:St)
def Zho:Int->BS
 |r0_2=>([.row #[.int .u64 r0_2] 23]:BS)
def Zj2:Empty->Exit×BS:=λx=>nomatch x
def Zej(P:Program)(a0:Array Value)(x0:Int):Int->Option (Stp (Int) Empty)
 |r0_2=>bif decide (0<=x0) then (some (.more (IntKind.u64.wrap (BitVec.ofInt IntKind.u64.bits r0_2 ||| BitVec.ofInt IntKind.u64.bits (Zdu x0)).toNat))) else (none)
noncomputable abbrev cKCxB72:=codeOf f72
theorem Zwd(N:Nat)(a0:Array Value)(x0:Int):∀t:Int,Ud8 prog Zcb N (cAt cKCxB72 [1,1,0,1,0,0]) (pAt (Uaa cKCxB72 [([],[2])]).1 [1,1,0,1,0]) 11 [2] [7] [(4,7)] (Zcz a0) [.i .i64 x0] (Zho t)=mapS Zho Zj2 (Zej prog a0 x0 t):=by
 rintro r0_2
 conv=>rhs;simp only[Zej,Zbg,Zbe,Zbd,Zbh,Zho,Zj2]
 kernel_rfl
def Zif(P:Program)(N:Nat)(a0:Array Value)(q0_2:Int):Option (SV×Eff×Bool):=some (.a (.i .u64 q0_2),.none,true)
theorem Zou(N:Nat)(a0:Array Value)(q0_2:Int):(Uac 0 (kSeq (veC prog Zcb N (cAt cKCxB72 [1,1,1]) (pAt (Uaa cKCxB72 [([],[2])]).1 [1,1,1]) (SV×Eff×Bool)) (finK prog [] [.tmp 2]))) .normal (Uar [2] (Zcz a0) ([.row #[.int .u64 q0_2] 23]:BS))=Zif prog N a0 q0_2:=by kernel_rfl
theorem Zv8(N:Nat)(a0:Array Value):Uby (Uas (λ(x0:Int) (hb:BS)=>Ud8 prog Zcb N (cAt cKCxB72 [1,1,0,1,0,0]) (pAt (Uaa cKCxB72 [([],[2])]).1 [1,1,0,1,0]) 11 [2] [7] [(4,7)] (Zcz a0) [.i .i64 x0] hb) (Uap (num a0 0) (num a0 1) 36) ([.row #[.int .u64 0] 23]:BS)) (λhb=>(Uac 0 (kSeq (veC prog Zcb N (cAt cKCxB72 [1,1,1]) (pAt (Uaa cKCxB72 [([],[2])]).1 [1,1,1]) (SV×Eff×Bool)) (finK prog [] [.tmp 2]))) .normal (Uar [2] (Zcz a0) hb)) (λe hb=>(Uac 0 (kSeq (veC prog Zcb N (cAt cKCxB72 [1,1,1]) (pAt (Uaa cKCxB72 [([],[2])]).1 [1,1,1]) (SV×Eff×Bool)) (finK prog [] [.tmp 2]))) e (Uar [2] (Zcz a0) hb))=Ud7 (Uas (Zej prog a0) (Uap (num a0 0) (num a0 1) 36) (0:Int)) (λx=>Zif prog N a0 x) (λx:Empty=>nomatch x):=by
 refine Ztu Zho Zj2 _ _ (λy t=>Zwd N a0 y t) _ (0:Int) _ _ _ _ ?_ ?_
 ·intro x;exact Zou N a0 x
 ·intro x;exact nomatch x
theorem Zuo(N:Nat)(a0:Array Value):ansV prog Zcb N f72 [([],[2])] [.g a0 35] []=(bif (decide (0<=(num a0 0))&&decide ((num a0 0)<=6)&&(decide (0<=(num a0 1))&&decide ((num a0 1)<=6))) then (Ud7 (Uas (Zej prog a0) (Uap (num a0 0) (num a0 1) 36) (0:Int)) (λx=>Zif prog N a0 x) (λx:Empty=>nomatch x)) else (none)):=by
 conv=>rhs;simp only[<- Zv8 N a0]
 kernel_rfl
theorem Zr8(a0:Array Value)(h_a0:WT prog 35 a0)(hg:((decide (0<=num a0 0)&&decide (num a0 0<=6)&&(decide (0<=num a0 1)&&decide (num a0 1<=6))))=true):ansV prog Zcb 1000 f72 [([],[2])] [.g a0 35] []=some (.a (.i .u64 (Ua8 (num a0 0) (num a0 1) 36)),.none,true):=by
 refine(Zuo 1000 a0).trans ?_;have h:=Yh8 (X:=Empty) (g:=Zej prog a0) (λb k=>orI b (oneI k)) (wd:=num a0 0) (hi:=num a0 1) (λs k hk _=>by
  have h0:decide (0<=(k:Int))=true:=Q3 (by omega);simp only[Zej,h0,Q1,Yd3];rfl) (0:Int)
 simp only[hg,Q1,h];rfl
def Zi0:Con:=λargs h=>match args,h with|[.g a0 35],[]=>some (.a (.i .u64 (Ua8 (num a0 0) (num a0 1) 36)),.none,(decide (0<=num a0 0)&&decide (num a0 0<=6)&&(decide (0<=num a0 1)&&decide (num a0 1<=6))))|_,_=>none
theorem Zrk:EntX prog 72:=Zal (fn:=f72)
theorem Zwp:Uad mn prog 72 Zi0:=(ansY (N:=1000) (mKx (Zah Zua) Zno (mkΓx_nX Zi3 Zhv (mkΓx_iX Zrp Zgm mkΓx_nilX))) f72 [([],[2])]).of (by
 intro ρ h w args vals r e hA hH hr;unfold Zi0 at hr;split at hr
 ·rename_i a0;obtain⟨rfl,rfl,hg2⟩:=BQi hr;exact Zr8 a0 (hA.wt 0 rfl) hg2
 ·cases hr)
theorem Zuv{S:Array Value}{k:Nat}(hk:k<36):Zae S (k:Int)=bitI (num S 2) k:=by have h:=bit_test (c:=num S 2) (j:=k) (by omega);rw[<- h,<- Yd3];rfl
theorem Yja{S:Array Value}(hS:WT prog 35 S){k:Nat}(hk:k<36):Zab (k:Int) S=bitI (num S 2) k:=by have h:=bit_shr (c:=num S 2) (land_of hS) (k:=k) (by omega);rw[<- h];unfold Zab;rw[u64w hk,Q9]
theorem Ygt{S:Array Value}(hS:WT prog 35 S){k:Nat}(hk:k<36):Zae S (k:Int)=Zab (k:Int) S:=by rw[Zuv hk,Yja hS hk]
end
end Go.Proofs.YtefjogahegolbaaDoor
