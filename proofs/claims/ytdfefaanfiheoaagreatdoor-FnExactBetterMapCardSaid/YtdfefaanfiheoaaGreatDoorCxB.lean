/- The bits of all cells, in company. -/
import Derived.Test.YtdfefaanfiheoaaGreatDoorProg
import Derived.Test.YtdfefaanfiheoaaGreatDoorCxEachWater
set_option linter.unusedVariables false
set_option linter.unusedSimpArgs false
namespace Go.Proofs.YtdfefaanfiheoaaGreatDoor
open Tryz (f69 f98)
open Go.ChangeShapes Go.WideShapes Go.ChangeAt Go.RowKit Ve Vc
open Tryz renaming prog -> PZ
open IntKind (i64)
set_option maxRecDepth 100000
noncomputable section
variable {mn:Md}
theorem Zrp (S:Array Value) (c:Int):Zal S c=Zab c S:=by
 unfold Zal Zab Zaa
 by_cases h0:0<=c
 ·have e1:∀ x y:Int,0<=x->0<=y->Zao S #[.int .i64 x,.int .i64 y]=(bif decide (x<i64.wrap (num S 0)) then decide (y<i64.wrap (num S 1)) else false):=λ x y hx hy=>by
   show (bif decide (x>=0) then (bif decide (x<i64.wrap (num S 0)) then (bif decide (y>=0) then decide (y<i64.wrap (num S 1)) else false) else false) else false)=_
   rw [Q3 (show x>=0 from hx),Q3 (show y>=0 from hy)]
   cases decide (x<i64.wrap (num S 0))<;>rfl
  by_cases h1:c<=35
  ·have hx:0<=c.tmod 6:=Int.tmod_nonneg 6 h0
   have hy:0<=i64.wrap (c.tdiv 6):=by
    have:c.tdiv 6=c / 6:=Int.tdiv_eq_ediv_of_nonneg h0
    rw [this,IntWalk.i64_in _ (by omega)];omega
   rw [e1 _ _ hx hy,Q3 (show c>=0 from h0),Q3 (show c<36 by omega),Q3 h1]
   rfl
  ·rw [Q4 (show ¬ c<36 by omega),Q4 h1];cases decide (c>=0)<;>rfl
 ·rw [Q4 (show ¬ c>=0 from h0)];rfl
theorem Zhu {S:Array Value} {c:Int} (h:Zab c S=true):0<=c/\c<=35:=by
 unfold Zab Zaa at h
 cases h0:decide (c>=0) with
 | false=>rw [h0] at h;exact nomatch h
 | true=>
  cases h1:decide (c<=35) with
  | false=>rw [h0,h1] at h;exact nomatch h
  | true=>exact ⟨of_decide_eq_true h0,of_decide_eq_true h1⟩
theorem u64_c {c:Int} (hc:0<=c/\c<=35):IntKind.u64.wrap c=c:=by rw [IntKind.wrap_u64];omega
theorem wt_land {T:TypeId} (hL:lay PZ T=0::0::7::List.replicate 360 4) {S:Array Value} (h:WT PZ T S):0<=num S 2/\num S 2<=18446744073709551615:=(h.int (o:=2) (k:=.u64) (by rw [hL];rfl)).2
theorem Yl2:lay PZ 37=0::0::7::List.replicate 360 4:=by kernel_rfl
theorem Yqd {S:Array Value} (h:WT PZ 37 S):0<=num S 2/\num S 2<=18446744073709551615:=wt_land Yl2 h
theorem Yi7 {S:Array Value} (h:WT PZ 37 S) {k:Nat} (hk:k<36):Zab (k:Int) S=inC (num S 0) (num S 1) k:=by
 obtain ⟨s0,a0,b0⟩:=h.int (o:=0) (k:=.i8) (by kernel_rfl)
 obtain ⟨s1,a1,b1⟩:=h.int (o:=1) (k:=.i8) (by kernel_rfl)
 have e1:IntKind.i8.min = -128:=rfl
 have e2:IntKind.i8.max=127:=rfl
 unfold Zab Zaa inC
 rw [Q3 (show (k:Int)>=0 by omega),Q3 (show (k:Int)<=35 by omega),IntWalk.i64_in (num S 0) (by omega),IntWalk.i64_in (num S 1) (by omega)]
 have h1:((k:Int)).tmod 6=((k % 6:Nat):Int):=by rw [Int.tmod_eq_emod_of_nonneg (by omega)];omega
 have h2:((k:Int)).tdiv 6=((k / 6:Nat):Int):=by rw [Int.tdiv_eq_ediv_of_nonneg (by omega)];omega
 rw [h1,h2,IntWalk.i64_in _ (by omega)]
 simp only [Q1,Q2]
 cases decide (((k % 6:Nat):Int)<num S 0)<;>rfl
theorem Yjb (k:Nat):Zd1 (k:Int)=oneI k:=by unfold Zd1 oneI;rw [Q9]
theorem u64w {k:Nat} (hk:k<36):IntKind.u64.wrap (k:Int)=(k:Int):=u64_c (by omega)
def Zes (a0:Array Value):St:=(⟨.a (.w 0) :: .a (.u) :: .a (.i .u64 (0:Int)) :: .a (.i .u64 (0:Int)) :: .a (.i .i64 (0:Int))::us 13 ([]),[.row a0 37],[]⟩:St)
def Zgm:Int×Int->LS
 | (y0_3,y0_4)=>([.a (.i .u64 (y0_3)),.a (.i .i64 (y0_4))],[])
def Zl1:Int×Int->Exit×LS
 | t=>((.exit 0),Zgm t)
def Zcz (P : Program) (a0 : Array Value) : Int × Int → Option (Stp (Int × Int) (Int × Int))
 | (y0_3, y0_4) => bif decide (y0_4 < (36 : Int)) then (bif (Zab y0_4 a0) then (bif decide (0 ≤ (IntKind.u64.wrap y0_4)) then (some (.more ((IntKind.u64.wrap (BitVec.ofInt IntKind.u64.bits y0_3 ||| BitVec.ofInt IntKind.u64.bits (IntKind.u64.wrap ((1 : Int) * 2 ^ (min ((IntKind.u64.wrap y0_4)).toNat IntKind.u64.bits)))).toNat), (i64.wrap (y0_4 + (1 : Int))))))
    else (none))
   else (some (.more (y0_3,(i64.wrap (y0_4+(1:Int)))))))
  else (some (.done (y0_3,y0_4)))
noncomputable abbrev cKCxB69:=codeOf f69
def Ufs:=(Uaa cKCxB69 [([3,4],[])]).1
theorem Yb3 (N:Nat) (a0:Array Value):∀ t:Int×Int,Uag PZ (mkΓ [(72,con Zbt)]) N (cAt cKCxB69 [1,1,0,1,0,0]) (pAt Ufs [1,1,0,1,0]) [3,4] [] (Zes a0) (Zgm t)=mapS Zgm Zl1 (Zcz PZ a0 t):=by
 rintro ⟨y0_3,y0_4⟩
 refine Eq.trans (b:=(bif decide (y0_4<(36:Int)) then (bif (Zab y0_4 a0) then (bif decide (0<=(IntKind.u64.wrap y0_4)) then (some (.more ([.a (.i .u64 (IntKind.u64.wrap (BitVec.ofInt IntKind.u64.bits y0_3 ||| BitVec.ofInt IntKind.u64.bits (IntKind.u64.wrap ((1:Int)*2^(min ((IntKind.u64.wrap y0_4)).toNat IntKind.u64.bits)))).toNat)),.a (.i .i64 (i64.wrap (y0_4+(1:Int))))],[])))
    else (none))
   else (some (.more ([.a (.i .u64 (y0_3)),.a (.i .i64 (i64.wrap (y0_4+(1:Int))))],[]))))
  else (some (.done ((.exit 0),([.a (.i .u64 (y0_3)),.a (.i .i64 (y0_4))],[])))))) (by kernel_rfl) ?_
 simp only [Zcz,Zar,Zap,Zas,Zaq,Zgm,Zl1]
def Zj9 (P:Program) (N:Nat) (a0:Array Value) (z0_3:Int) (z0_4:Int):Option (SV×Eff×Bool):=some (.a (.i .u64 (z0_3)),.none,true)
def Ugi (N:Nat) (a0:Array Value):=(Uad 0 (kSeq (veC PZ (mkΓ [(72,con Zbt)]) N (cAt cKCxB69 [1,1,1]) (pAt Ufs [1,1,1]) (SV×Eff×Bool)) (finK PZ [.row a0 37] [.tmp 2])))
theorem Zrw (N:Nat) (a0:Array Value) (z0_3:Int) (z0_4:Int):(Ugi N a0) (.exit 0) (left (writes (cAt cKCxB69 [1,1,0,1,0,0])) [3,4] [] (Zes a0) ([.a (.i .u64 (z0_3)),.a (.i .i64 (z0_4))],[]))=Zj9 PZ N a0 z0_3 z0_4:=by
 refine Eq.trans (b:=(some (.a (.i .u64 (z0_3)),.none,true))) (by kernel_rfl) ?_
 rfl
theorem Ybr (N:Nat) (a0:Array Value):Uah (Uab (Uag PZ (mkΓ [(72,con Zbt)]) N (cAt cKCxB69 [1,1,0,1,0,0]) (pAt Ufs [1,1,0,1,0]) [3,4] [] (Zes a0)) N ([.a (.i .u64 (0:Int)),.a (.i .i64 (0:Int))],[])) (λ e s=>(Ugi N a0) e (left (writes (cAt cKCxB69 [1,1,0,1,0,0])) [3,4] [] (Zes a0) s))=Uai (Uab (Zcz PZ a0) N ((0:Int),(0:Int))) (λ x=>Zj9 PZ N a0 x.1 x.2):=by
 refine Zau Zgm Zl1 _ _ (Yb3 N a0) N ((0:Int),(0:Int)) _ _ ?_
 intro x;exact Zrw N a0 x.1 x.2
theorem Zym (N:Nat) (a0:Array Value):ansV PZ (mkΓ [(72,con Zbt)]) N f69 [([3,4],[])] [.w 0] [.row a0 37]=(Uai (Uab (Zcz PZ a0) N ((0:Int),(0:Int))) (λ x=>Zj9 PZ N a0 x.1 x.2)):=by
 refine Eq.trans (b:=(Uah (Uab (Uag PZ (mkΓ [(72,con Zbt)]) N (cAt cKCxB69 [1,1,0,1,0,0]) (pAt Ufs [1,1,0,1,0]) [3,4] [] (Zes a0)) N ([.a (.i .u64 (0:Int)),.a (.i .i64 (0:Int))],[])) (λ e s=>(Ugi N a0) e (left (writes (cAt cKCxB69 [1,1,0,1,0,0])) [3,4] [] (Zes a0) s)))) (by kernel_rfl) ?_
 simp only [Ybr N a0]
theorem Zwx (a0:Array Value) (h_a0:WT PZ 37 a0) (hg:(true)=true):ansV PZ (mkΓ [(72,con Zbt)]) 1000 f69 [([3,4],[])] [.w 0] [.row a0 37]=some (.a (.i .u64 (Ua2 (num a0 0) (num a0 1) 36)),.none,true):=by
 refine (Zym 1000 a0).trans ?_
 have h:=Zhz (g:=Zcz PZ a0) (λ s k=>(s,(k:Int))) (λ b k=>if inC (num a0 0) (num a0 1) k then orI b (oneI k) else b) (m:=36) (t:=(0:Int)) (x:=(Ua2 (num a0 0) (num a0 1) 36,36)) (N:=1000) (λ k s hk _=>by
  have h1:decide ((k:Int)<36)=true:=Q3 (by omega)
  have h0:decide (0<=(k:Int))=true:=Q3 (by omega)
  have h3:i64.wrap ((k:Int)+1)=((k+1:Nat):Int):=by rw [IntWalk.i64_in _ (by omega)];omega
  simp only [Zcz,h1,Q1,Yi7 h_a0 hk,u64w hk,h0,h3,Q9]
  cases inC (num a0 0) (num a0 1) k<;>rfl) (by
  have h1:decide (((36:Nat):Int)<36)=false:=by decide
  simp only [Zcz,h1,Q2]
  rfl) (by omega)
 have h':Uab (Zcz PZ a0) 1000 ((0:Int),(0:Int))=some (Ua2 (num a0 0) (num a0 1) 36,(36:Int)):=h
 rw [h']
 rfl
def Zkw:Con:=λ args h=>match args,h with
 | [.w 0],[.row a0 37]=>some (.a (.i .u64 (Ua2 (num a0 0) (num a0 1) 36)),.none,true)
 | _,_=>none
theorem Zuh:EntX PZ 69:=Zah (fn:=f69)
theorem Yb9:Uac mn PZ 69 Zkw:=(ansY (N:=1000) (mKc (Zae Zka) Zgq mKn) f69 [([3,4],[])]).of (by
 intro ρ h w args vals r e hA hH hr
 unfold Zkw at hr
 split at hr
 ·rename_i a0
  obtain ⟨rfl,rfl,hg2⟩:=BQi hr
  exact Zwx a0 (hH.wt 0 rfl) hg2
 ·cases hr)
def Zf0:Cons:=(mkΓx [(102,con Ziq)] [(111,Zgl)] [(118,Ze5)])
def Zc2 (a0:Array Value):St:=(⟨.a (.g a0 37) :: .a (.w 0) :: .a (.i .u64 (0:Int)) :: .a (.w 2) :: .a (.u) :: .a (.g a0 37) :: .a (.c 118 [6,8])::us 6 ([]),[.row a0 37,.no,.row #[.int .u64 (0:Int)] 23,.no,.no,.no,.row #[.int .i64 (num a0 1)] 2,.no,.row #[.int .i64 (num a0 0)] 2,.no,.no],[]⟩:St)
def Zix:Int->BS
 | r0_2=>([.row #[.int .u64 (r0_2)] 23]:BS)
def Zlv:Empty->Exit×BS:=λ x=>nomatch x
def Zep (P:Program) (a0:Array Value) (x0:Int):Int->Option (Stp (Int) Empty)
 | r0_2=>bif decide (0<=x0) then (some (.more (IntKind.u64.wrap (BitVec.ofInt IntKind.u64.bits r0_2 ||| BitVec.ofInt IntKind.u64.bits (Zd1 x0)).toNat)))
  else (none)
noncomputable abbrev cKCxB98:=codeOf f98
def Ufq:=(Uaa cKCxB98 [([],[2])]).1
theorem Yan (N:Nat) (a0:Array Value) (x0:Int):∀ t:Int,Ud3 PZ Zf0 N (cAt cKCxB98 [1,1,0,1,0,0]) (pAt Ufq [1,1,0,1,0]) 11 [2] [7] [(4,7)] (Zc2 a0) [.i .i64 (x0)] (Zix t)=mapS Zix Zlv (Zep PZ a0 x0 t):=by
 rintro r0_2
 refine Eq.trans (b:=(bif decide (0<=x0) then (some (.more ([.row #[.int .u64 (IntKind.u64.wrap (BitVec.ofInt IntKind.u64.bits r0_2 ||| BitVec.ofInt IntKind.u64.bits (Zd1 x0)).toNat)] 23]:BS)))
  else (none))) (by kernel_rfl) ?_
 simp only [Zep,Zar,Zap,Zas,Zaq,Zix,Zlv]
def Zj6 (P:Program) (N:Nat) (a0:Array Value) (q0_2:Int):Option (SV×Eff×Bool):=some (.a (.i .u64 (q0_2)),.none,true)
def Uep (N:Nat):=(Uad 0 (kSeq (veC PZ Zf0 N (cAt cKCxB98 [1,1,1]) (pAt Ufq [1,1,1]) (SV×Eff×Bool)) (finK PZ [] [.tmp 2])))
theorem Zra (N:Nat) (a0:Array Value) (q0_2:Int):(Uep N) .normal (Ubh [2] (Zc2 a0) ([.row #[.int .u64 (q0_2)] 23]:BS))=Zj6 PZ N a0 q0_2:=by
 refine Eq.trans (b:=(some (.a (.i .u64 (q0_2)),.none,true))) (by kernel_rfl) ?_
 rfl
theorem Yb8 (N:Nat) (a0:Array Value):Udh (Ua1 (λ (x0:Int) (hb:BS)=>Ud3 PZ Zf0 N (cAt cKCxB98 [1,1,0,1,0,0]) (pAt Ufq [1,1,0,1,0]) 11 [2] [7] [(4,7)] (Zc2 a0) [.i .i64 (x0)] hb) (Ual (num a0 0) (num a0 1) 36) ([.row #[.int .u64 (0:Int)] 23]:BS)) (λ hb=>(Uep N) .normal (Ubh [2] (Zc2 a0) hb)) (λ e hb=>(Uep N) e (Ubh [2] (Zc2 a0) hb))=Ufb (Ua1 (Zep PZ a0) (Ual (num a0 0) (num a0 1) 36) (0:Int)) (λ x=>Zj6 PZ N a0 x) (λ x:Empty=>nomatch x):=by
 refine Ycx Zix Zlv _ _ (λ y t=>Yan N a0 y t) _ (0:Int) _ _ _ _ ?_ ?_
 ·intro x;exact Zra N a0 x
 ·intro x;exact nomatch x
theorem Zyp (N:Nat) (a0:Array Value):ansV PZ Zf0 N f98 [([],[2])] [.g a0 37] []=(bif (decide (0<=(num a0 0))&&decide ((num a0 0)<=6)&&(decide (0<=(num a0 1))&&decide ((num a0 1)<=6))) then (Ufb (Ua1 (Zep PZ a0) (Ual (num a0 0) (num a0 1) 36) (0:Int)) (λ x=>Zj6 PZ N a0 x) (λ x:Empty=>nomatch x))
  else (none)):=by
 refine Eq.trans (b:=(bif (decide (0<=(num a0 0))&&decide ((num a0 0)<=6)&&(decide (0<=(num a0 1))&&decide ((num a0 1)<=6))) then (Udh (Ua1 (λ (x0:Int) (hb:BS)=>Ud3 PZ Zf0 N (cAt cKCxB98 [1,1,0,1,0,0]) (pAt Ufq [1,1,0,1,0]) 11 [2] [7] [(4,7)] (Zc2 a0) [.i .i64 (x0)] hb) (Ual (num a0 0) (num a0 1) 36) ([.row #[.int .u64 (0:Int)] 23]:BS)) (λ hb=>(Uep N) .normal (Ubh [2] (Zc2 a0) hb)) (λ e hb=>(Uep N) e (Ubh [2] (Zc2 a0) hb)))
  else (none))) (by kernel_rfl) ?_
 simp only [Yb8 N a0]
theorem Zw1 (a0:Array Value) (h_a0:WT PZ 37 a0) (hg:((decide (0<=num a0 0)&&decide (num a0 0<=6)&&(decide (0<=num a0 1)&&decide (num a0 1<=6))))=true):ansV PZ Zf0 1000 f98 [([],[2])] [.g a0 37] []=some (.a (.i .u64 (Ua2 (num a0 0) (num a0 1) 36)),.none,true):=by
 refine (Zyp 1000 a0).trans ?_
 have h:=Yo4 (X:=Empty) (g:=Zep PZ a0) (λ b k=>orI b (oneI k)) (wd:=num a0 0) (hi:=num a0 1) (λ s k hk _=>by
  have h0:decide (0<=(k:Int))=true:=Q3 (by omega)
  simp only [Zep,h0,Q1,Yjb]
  rfl) (0:Int)
 simp only [hg,Q1,h]
 rfl
def Zkv:Con:=λ args h=>match args,h with
 | [.g a0 37],[]=>some (.a (.i .u64 (Ua2 (num a0 0) (num a0 1) 36)),.none,(decide (0<=num a0 0)&&decide (num a0 0<=6)&&(decide (0<=num a0 1)&&decide (num a0 1<=6))))
 | _,_=>none
theorem Zub:EntX PZ 98:=Zah (fn:=f98)
theorem Ybf:Uac mn PZ 98 Zkv:=(ansY (N:=1000) (mKx (Zae Zxr) Zp0 (mkΓx_nX Zko Zi5 (mkΓx_iX Zva Zhb mkΓx_nilX))) f98 [([],[2])]).of (by
 intro ρ h w args vals r e hA hH hr
 unfold Zkv at hr
 split at hr
 ·rename_i a0
  obtain ⟨rfl,rfl,hg2⟩:=BQi hr
  exact Zw1 a0 (hA.wt 0 rfl) hg2
 ·cases hr)
theorem Zss {S:Array Value} {k:Nat} (hk:k<36):Zac S (k:Int)=bitI (num S 2) k:=by
 have h:=bit_test (c:=num S 2) (j:=k) (by omega)
 rw [<- h,<- Yjb]
 rfl
theorem Yph {S:Array Value} (hS:WT PZ 37 S) {k:Nat} (hk:k<36):Zag (k:Int) S=bitI (num S 2) k:=by
 have h:=bit_shr (c:=num S 2) (Yqd hS) (k:=k) (by omega)
 rw [<- h]
 unfold Zag
 rw [u64w hk,Q9]
theorem Ymk {S:Array Value} (hS:WT PZ 37 S) {k:Nat} (hk:k<36):Zac S (k:Int)=Zag (k:Int) S:=by rw [Zss hk,Yph hS hk]
end
end Go.Proofs.YtdfefaanfiheoaaGreatDoor
