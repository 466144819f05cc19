/- The bits of all cells, in company. -/
import Derived.Test.YtgllknjdblkhnaaGreatDoorProg
import Derived.Test.YtgllknjdblkhnaaGreatDoorCxEach
set_option linter.unusedVariables false
set_option linter.unusedSimpArgs false
namespace Go.Proofs.YtgllknjdblkhnaaGreatDoor
open Tryz (f38 f42)
open Go.ChangeShapes Go.WideShapes Go.ChangeAt Go.RowKit Ve Vc
open Tryz renaming prog -> PZ
open IntKind (i64)
set_option maxRecDepth 100000
noncomputable section
variable {mn:Md}
theorem cell_is(S:Array Value)(c:Int):Zav S c=Za1 c S:=by
 unfold Zav Za1 Zaa
 by_cases h0:0<=c
 ·have e1:∀x y:Int,0<=x->0<=y->Zas S #[.int .i64 x,.int .i64 y]=(bif decide (x<i64.wrap (num S 0)) then decide (y<i64.wrap (num S 1)) else false):=λx y hx hy=>by
   show (bif decide (x>=0) then (bif decide (x<i64.wrap (num S 0)) then (bif decide (y>=0) then decide (y<i64.wrap (num S 1)) else false) else false) else false)=_
   rw[Q3 (show x>=0 from hx),Q3 (show y>=0 from hy)];cases decide (x<i64.wrap (num S 0))<;>rfl
  by_cases h1:c<=35
  ·have hx:0<=c.tmod 6:=Int.tmod_nonneg 6 h0;have hy:0<=i64.wrap (c.tdiv 6):=by
    have:c.tdiv 6=c / 6:=Int.tdiv_eq_ediv_of_nonneg h0;rw[this,IntWalk.i64_in _ (by omega)];omega
   rw[e1 _ _ hx hy,Q3 (show c>=0 from h0),Q3 (show c<36 by omega),Q3 h1];rfl
  ·rw[Q4 (show ¬c<36 by omega),Q4 h1];cases decide (c>=0)<;>rfl
 ·rw[Q4 (show ¬c>=0 from h0)];rfl
theorem Ymw{S:Array Value}{c:Int}(h:Za1 c S=true):0<=c/\c<=35:=by unfold Za1 Zaa at h;cases h0:decide (c>=0) with|false=>rw[h0]at h;exact nomatch h|true=>cases h1:decide (c<=35) with|false=>rw[h0,h1]at h;exact nomatch h|true=>exact⟨of_decide_eq_true h0,of_decide_eq_true h1⟩
theorem Ugk{c:Int}(hc:0<=c/\c<=35):IntKind.u64.wrap c=c:=by rw[IntKind.wrap_u64];omega
theorem bit_of{c:Int}(hc:0<=c/\c<=35):Za6 c=IntKind.u64.wrap ((1:Int)*2^(min ((IntKind.u64.wrap c)).toNat IntKind.u64.bits)):=by unfold Za6;rw[Ugk hc]
theorem wt_land{T:TypeId}(hL:lay PZ T=0::0::7::List.replicate 360 4){S:Array Value}(h:WT PZ T S):0<=num S 2/\num S 2<=18446744073709551615:=(h.int (o:=2) (k:=.u64) (by rw[hL];rfl)).2
theorem Yg6:lay PZ 38=0::0::7::List.replicate 360 4:=by kernel_rfl
theorem land_of{S:Array Value}(h:WT PZ 38 S):0<=num S 2/\num S 2<=18446744073709551615:=wt_land Yg6 h
theorem Yfs{S:Array Value}(h:WT PZ 38 S){k:Nat}(hk:k<36):Za1 (k:Int) S=inC (num S 0) (num S 1) k:=by
 obtain⟨s0,a0,b0⟩:=h.int (o:=0) (k:=.i8) (by kernel_rfl);obtain⟨s1,a1,b1⟩:=h.int (o:=1) (k:=.i8) (by kernel_rfl);have e1:IntKind.i8.min=-128:=rfl;have e2:IntKind.i8.max=127:=rfl;unfold Za1 Zaa inC;rw[Q3 (show (k:Int)>=0 by omega),Q3 (show (k:Int)<=35 by omega),IntWalk.i64_in (num S 0) (by omega),IntWalk.i64_in (num S 1) (by omega)];have h1:((k:Int)).tmod 6=((k % 6:Nat):Int):=by rw[Int.tmod_eq_emod_of_nonneg (by omega)];omega
 have h2:((k:Int)).tdiv 6=((k / 6:Nat):Int):=by rw[Int.tdiv_eq_ediv_of_nonneg (by omega)];omega
 rw[h1,h2,IntWalk.i64_in _ (by omega)];simp only[Q1,Q2];cases decide (((k % 6:Nat):Int)<num S 0)<;>rfl
theorem Zn0(k:Nat):Za6 (k:Int)=oneI k:=by unfold Za6 oneI;rw[Q9]
theorem u64w{k:Nat}(hk:k<36):IntKind.u64.wrap (k:Int)=(k:Int):=Ugk (by omega)
def Zfx(a0:Array Value):St:=(⟨.a (.w 0)::.a (.u)::.a (.i .u64 0)::.a (.i .u64 0)::.a (.i .i64 0)::us 13 ([]),[.row a0 38],[]⟩:St)
def Zhj:Int×Int->LS
 |(y0_3,y0_4)=>([.a (.i .u64 y0_3),.a (.i .i64 y0_4)],[])
def Zml:Int×Int->Exit×LS
 |t=>((.exit 0),Zhj t)
def Zdw(P:Program)(a0:Array Value):Int×Int->Option (Stp (Int×Int) (Int×Int))
 |(y0_3,y0_4)=>bif decide (y0_4<(36:Int)) then (bif (Za1 y0_4 a0) then (bif decide (0<=(IntKind.u64.wrap y0_4)) then (some (.more ((IntKind.u64.wrap (BitVec.ofInt IntKind.u64.bits y0_3 ||| BitVec.ofInt IntKind.u64.bits (IntKind.u64.wrap ((1:Int)*2^(min ((IntKind.u64.wrap y0_4)).toNat IntKind.u64.bits)))).toNat),(i64.wrap (y0_4+(1:Int)))))) else (none)) else (some (.more (y0_3,(i64.wrap (y0_4+(1:Int))))))) else (some (.done (y0_3,y0_4)))
noncomputable abbrev cKCxB38:=codeOf f38
def Ueg:=(Uaa cKCxB38 [([3,4],[])]).1
theorem Ybh(N:Nat)(a0:Array Value):∀t:Int×Int,Ual PZ (mkΓ [(58,con Zec)]) N (cAt cKCxB38 [1,1,0,1,0,0]) (pAt Ueg [1,1,0,1,0]) [3,4] [] (Zfx a0) (Zhj t)=mapS Zhj Zml (Zdw PZ a0 t):=by
 rintro⟨y0_3,y0_4⟩
 conv=>rhs;simp only[Zdw,Zax,Zay,Zaw,Zaz,Zhj,Zml]
 kernel_rfl
def Zk2(P:Program)(N:Nat)(a0:Array Value)(z0_3:Int)(z0_4:Int):Option (SV×Eff×Bool):=some (.a (.i .u64 z0_3),.none,true)
def Ufq(N:Nat)(a0:Array Value):=(Uad 0 (kSeq (veC PZ (mkΓ [(58,con Zec)]) N (cAt cKCxB38 [1,1,1]) (pAt Ueg [1,1,1]) (SV×Eff×Bool)) (finK PZ [.row a0 38] [.tmp 2])))
theorem Zs1(N:Nat)(a0:Array Value)(z0_3:Int)(z0_4:Int):(Ufq N a0) (.exit 0) (left (writes (cAt cKCxB38 [1,1,0,1,0,0])) [3,4] [] (Zfx a0) ([.a (.i .u64 z0_3),.a (.i .i64 z0_4)],[]))=Zk2 PZ N a0 z0_3 z0_4:=by kernel_rfl
theorem Ybz(N:Nat)(a0:Array Value):Uah (Uab (Ual PZ (mkΓ [(58,con Zec)]) N (cAt cKCxB38 [1,1,0,1,0,0]) (pAt Ueg [1,1,0,1,0]) [3,4] [] (Zfx a0)) N ([.a (.i .u64 0),.a (.i .i64 0)],[])) (λe s=>(Ufq N a0) e (left (writes (cAt cKCxB38 [1,1,0,1,0,0])) [3,4] [] (Zfx a0) s))=Uao (Uab (Zdw PZ a0) N ((0:Int),(0:Int))) (λx=>Zk2 PZ N a0 x.1 x.2):=by refine Za2 Zhj Zml _ _ (Ybh N a0) N ((0:Int),(0:Int)) _ _ ?_;intro x;exact Zs1 N a0 x.1 x.2
theorem Zzu(N:Nat)(a0:Array Value):ansV PZ (mkΓ [(58,con Zec)]) N f38 [([3,4],[])] [.w 0] [.row a0 38]=(Uao (Uab (Zdw PZ a0) N ((0:Int),(0:Int))) (λx=>Zk2 PZ N a0 x.1 x.2)):=by
 conv=>rhs;simp only[<- Ybz N a0]
 kernel_rfl
theorem Zy5(a0:Array Value)(h_a0:WT PZ 38 a0)(hg:(true)=true):ansV PZ (mkΓ [(58,con Zec)]) 1000 f38 [([3,4],[])] [.w 0] [.row a0 38]=some (.a (.i .u64 (Ua0 (num a0 0) (num a0 1) 36)),.none,true):=by
 refine(Zzu 1000 a0).trans ?_;have h:=Zkf (g:=Zdw PZ a0) (λs k=>(s,(k:Int))) (λb k=>if inC (num a0 0) (num a0 1) k then orI b (oneI k) else b) (m:=36) (t:=(0:Int)) (x:=(Ua0 (num a0 0) (num a0 1) 36,36)) (N:=1000) (λk s hk _=>by
  have h1:decide ((k:Int)<36)=true:=Q3 (by omega);have h0:decide (0<=(k:Int))=true:=Q3 (by omega);have h3:i64.wrap ((k:Int)+1)=((k+1:Nat):Int):=by rw[IntWalk.i64_in _ (by omega)];omega
  simp only[Zdw,h1,Q1,Yfs h_a0 hk,u64w hk,h0,h3,Q9];cases inC (num a0 0) (num a0 1) k<;>rfl) (by
  have h1:decide (((36:Nat):Int)<36)=false:=by decide
  simp only[Zdw,h1,Q2];rfl) (by omega)
 have h':Uab (Zdw PZ a0) 1000 ((0:Int),(0:Int))=some (Ua0 (num a0 0) (num a0 1) 36,(36:Int)):=h;rw[h'];rfl
def Zio:Con:=λargs h=>match args,h with|[.w 0],[.row a0 38]=>some (.a (.i .u64 (Ua0 (num a0 0) (num a0 1) 36)),.none,true)|_,_=>none
theorem Znh:EntX PZ 38:=Zak (fn:=f38)
theorem Zq3:Uac mn PZ 38 Zio:=(ansY (N:=1000) (mKc (Zag Zw9) Zq0 mKn) f38 [([3,4],[])]).of (by
 intro ρ h w args vals r e hA hH hr;unfold Zio at hr;split at hr
 ·rename_i a0;obtain⟨rfl,rfl,hg2⟩:=BQi hr;exact Zy5 a0 (hH.wt 0 rfl) hg2
 ·cases hr)
def Zgl:Cons:=(mkΓx [(31,con Zcl)] [(61,Zjn)] [(74,Zeo)])
def Zdx(a0:Array Value):St:=(⟨.a (.g a0 38)::.a (.w 0)::.a (.i .u64 0)::.a (.w 2)::.a (.u)::.a (.g a0 38)::.a (.c 74 [6,8])::us 6 ([]),[.row a0 38,.no,.row #[.int .u64 0] 23,.no,.no,.no,.row #[.int .i64 (num a0 1)] 2,.no,.row #[.int .i64 (num a0 0)] 2,.no,.no],[]⟩:St)
def Zjq:Int->BS
 |r0_2=>([.row #[.int .u64 r0_2] 23]:BS)
def Zms:Empty->Exit×BS:=λx=>nomatch x
def Zfu(P:Program)(a0:Array Value)(x0:Int):Int->Option (Stp (Int) Empty)
 |r0_2=>bif decide (0<=x0) then (some (.more (IntKind.u64.wrap (BitVec.ofInt IntKind.u64.bits r0_2 ||| BitVec.ofInt IntKind.u64.bits (Za6 x0)).toNat))) else (none)
noncomputable abbrev cKCxB42:=codeOf f42
def Uea:=(Uaa cKCxB42 [([],[2])]).1
theorem Ybx(N:Nat)(a0:Array Value)(x0:Int):∀t:Int,Uc7 PZ Zgl N (cAt cKCxB42 [1,1,0,1,0,0]) (pAt Uea [1,1,0,1,0]) 11 [2] [7] [(4,7)] (Zdx a0) [.i .i64 x0] (Zjq t)=mapS Zjq Zms (Zfu PZ a0 x0 t):=by
 rintro r0_2
 conv=>rhs;simp only[Zfu,Zax,Zay,Zaw,Zaz,Zjq,Zms]
 kernel_rfl
def Zk7(P:Program)(N:Nat)(a0:Array Value)(q0_2:Int):Option (SV×Eff×Bool):=some (.a (.i .u64 q0_2),.none,true)
def Udr(N:Nat):=(Uad 0 (kSeq (veC PZ Zgl N (cAt cKCxB42 [1,1,1]) (pAt Uea [1,1,1]) (SV×Eff×Bool)) (finK PZ [] [.tmp 2])))
theorem Zrt(N:Nat)(a0:Array Value)(q0_2:Int):(Udr N) .normal (Uas [2] (Zdx a0) ([.row #[.int .u64 q0_2] 23]:BS))=Zk7 PZ N a0 q0_2:=by kernel_rfl
theorem Ycb(N:Nat)(a0:Array Value):Ubv (Uam (λ(x0:Int) (hb:BS)=>Uc7 PZ Zgl N (cAt cKCxB42 [1,1,0,1,0,0]) (pAt Uea [1,1,0,1,0]) 11 [2] [7] [(4,7)] (Zdx a0) [.i .i64 x0] hb) (Uax (num a0 0) (num a0 1) 36) ([.row #[.int .u64 0] 23]:BS)) (λhb=>(Udr N) .normal (Uas [2] (Zdx a0) hb)) (λe hb=>(Udr N) e (Uas [2] (Zdx a0) hb))=Ucw (Uam (Zfu PZ a0) (Uax (num a0 0) (num a0 1) 36) (0:Int)) (λx=>Zk7 PZ N a0 x) (λx:Empty=>nomatch x):=by
 refine Zpp Zjq Zms _ _ (λy t=>Ybx N a0 y t) _ (0:Int) _ _ _ _ ?_ ?_
 ·intro x;exact Zrt N a0 x
 ·intro x;exact nomatch x
theorem Yaa(N:Nat)(a0:Array Value):ansV PZ Zgl N f42 [([],[2])] [.g a0 38] []=(bif (decide (0<=(num a0 0))&&decide ((num a0 0)<=6)&&(decide (0<=(num a0 1))&&decide ((num a0 1)<=6))) then (Ucw (Uam (Zfu PZ a0) (Uax (num a0 0) (num a0 1) 36) (0:Int)) (λx=>Zk7 PZ N a0 x) (λx:Empty=>nomatch x)) else (none)):=by
 conv=>rhs;simp only[<- Ycb N a0]
 kernel_rfl
theorem Zy0(a0:Array Value)(h_a0:WT PZ 38 a0)(hg:((decide (0<=num a0 0)&&decide (num a0 0<=6)&&(decide (0<=num a0 1)&&decide (num a0 1<=6))))=true):ansV PZ Zgl 1000 f42 [([],[2])] [.g a0 38] []=some (.a (.i .u64 (Ua0 (num a0 0) (num a0 1) 36)),.none,true):=by
 refine(Yaa 1000 a0).trans ?_;have h:=Yf2 (X:=Empty) (g:=Zfu PZ a0) (λb k=>orI b (oneI k)) (wd:=num a0 0) (hi:=num a0 1) (λs k hk _=>by
  have h0:decide (0<=(k:Int))=true:=Q3 (by omega);simp only[Zfu,h0,Q1,Zn0];rfl) (0:Int)
 simp only[hg,Q1,h];rfl
def Zd5:Con:=λargs h=>match args,h with|[.g a0 38],[]=>some (.a (.i .u64 (Ua0 (num a0 0) (num a0 1) 36)),.none,(decide (0<=num a0 0)&&decide (num a0 0<=6)&&(decide (0<=num a0 1)&&decide (num a0 1<=6))))|_,_=>none
theorem Zjs:EntX PZ 42:=Zak (fn:=f42)
theorem Zmf:Uac mn PZ 42 Zd5:=(ansY (N:=1000) (mKx (Zag Ziu) Zfr (mkΓx_nX Zo7 Zng (mkΓx_iX Znl Zmd mkΓx_nilX))) f42 [([],[2])]).of (by
 intro ρ h w args vals r e hA hH hr;unfold Zd5 at hr;split at hr
 ·rename_i a0;obtain⟨rfl,rfl,hg2⟩:=BQi hr;exact Zy0 a0 (hA.wt 0 rfl) hg2
 ·cases hr)
theorem Yf3{S:Array Value}{k:Nat}(hk:k<36):Zbn S (k:Int)=bitI (num S 2) k:=by have h:=bit_test (c:=num S 2) (j:=k) (by omega);rw[<- h,<- Zn0];rfl
theorem Yk8{S:Array Value}(hS:WT PZ 38 S){k:Nat}(hk:k<36):Zdg (k:Int) S=bitI (num S 2) k:=by have h:=Yku (c:=num S 2) (land_of hS) (k:=k) (by omega);rw[<- h];unfold Zdg;rw[u64w hk,Q9]
theorem land_dry{S:Array Value}(hS:WT PZ 38 S){k:Nat}(hk:k<36):Zbn S (k:Int)=Zdg (k:Int) S:=by rw[Yf3 hk,Yk8 hS hk]
end
end Go.Proofs.YtgllknjdblkhnaaGreatDoor
