/- The bits of all cells, in company. -/
import Derived.Test.YtffagbiedigmcaaDoorProg
import Derived.Test.YtffagbiedigmcaaDoorCxEach
namespace Go.Proofs.YtffagbiedigmcaaDoor
open Go.ChangeShapes Go.WideShapes Go.ChangeAt Go.RowKit Ve Vc
open Tryd (prog)
open IntKind (i64)
set_option linter.unusedVariables false
set_option linter.unusedSimpArgs false
set_option maxRecDepth 100000
noncomputable section
variable {mn:Md}
theorem cell_is (S:Array Value) (c:Int):Zao S c=Zas c S:=by
 unfold Zao Zas Zaa
 by_cases h0:0≤c
 ·have e1:∀ x y:Int,0≤x→0≤y→Zak S #[.int .i64 x,.int .i64 y]=(bif decide (x<i64.wrap (num S 0)) then decide (y<i64.wrap (num S 1)) else false):=fun x y hx hy=>by
   show (bif decide (x ≥ 0) then (bif decide (x<i64.wrap (num S 0)) then (bif decide (y ≥ 0) then decide (y<i64.wrap (num S 1)) else false) else false) else false)=_
   rw [decide_eq_true (show x ≥ 0 from hx),decide_eq_true (show y ≥ 0 from hy)]
   cases decide (x<i64.wrap (num S 0))<;>rfl
  by_cases h1:c≤35
  ·have hx:0≤c.tmod 6:=Int.tmod_nonneg 6 h0
   have hy:0≤i64.wrap (c.tdiv 6):=by
    have:c.tdiv 6=c / 6:=Int.tdiv_eq_ediv_of_nonneg h0
    rw [this,IntWalk.i64_in _ (by omega)];omega
   rw [e1 _ _ hx hy,decide_eq_true (show c ≥ 0 from h0),decide_eq_true (show c<36 by omega),decide_eq_true h1]
   rfl
  ·rw [decide_eq_false (show ¬ c<36 by omega),decide_eq_false h1];cases decide (c ≥ 0)<;>rfl
 ·rw [decide_eq_false (show ¬ c ≥ 0 from h0)];rfl
theorem Ydi {S:Array Value} {c:Int} (h:Zas c S=true):0≤c∧c≤35:=by
 unfold Zas Zaa at h
 cases h0:decide (c ≥ 0) with
 | false=>rw [h0] at h;exact nomatch h
 | true=>
  cases h1:decide (c≤35) with
  | false=>rw [h0,h1] at h;exact nomatch h
  | true=>exact ⟨of_decide_eq_true h0,of_decide_eq_true h1⟩
theorem u64_c {c:Int} (hc:0≤c∧c≤35):IntKind.u64.wrap c=c:=by rw [IntKind.wrap_u64];omega
theorem bit_of {c:Int} (hc:0≤c∧c≤35):Zbq c=IntKind.u64.wrap ((1:Int)*2^(min ((IntKind.u64.wrap c)).toNat IntKind.u64.bits)):=by
 unfold Zbq;rw [u64_c hc]
theorem wt_land {T:TypeId} (hL:lay prog T=0::0::7::List.replicate 360 4) {S:Array Value} (h:WT prog T S):0≤num S 2∧num S 2≤18446744073709551615:=(h.int (o:=2) (k:=.u64) (by rw [hL];rfl)).2
theorem Zy7:lay prog 35=0::0::7::List.replicate 360 4:=by kernel_rfl
theorem land_of {S:Array Value} (h:WT prog 35 S):0≤num S 2∧num S 2≤18446744073709551615:=wt_land Zy7 h
theorem Zx5 {S:Array Value} (h:WT prog 35 S) {k:Nat} (hk:k<36):Zas (k:Int) S=inC (num S 0) (num S 1) k:=by
 obtain ⟨s0,a0,b0⟩:=h.int (o:=0) (k:=.i8) (by kernel_rfl)
 obtain ⟨s1,a1,b1⟩:=h.int (o:=1) (k:=.i8) (by kernel_rfl)
 have e1:IntKind.i8.min = -128:=rfl
 have e2:IntKind.i8.max=127:=rfl
 unfold Zas Zaa inC
 rw [decide_eq_true (show (k:Int) ≥ 0 by omega),decide_eq_true (show (k:Int)≤35 by omega),IntWalk.i64_in (num S 0) (by omega),IntWalk.i64_in (num S 1) (by omega)]
 have h1:((k:Int)).tmod 6=((k % 6:Nat):Int):=by rw [Int.tmod_eq_emod_of_nonneg (by omega)];omega
 have h2:((k:Int)).tdiv 6=((k / 6:Nat):Int):=by rw [Int.tdiv_eq_ediv_of_nonneg (by omega)];omega
 rw [h1,h2,IntWalk.i64_in _ (by omega)]
 simp only [cond_true,cond_false]
 cases decide (((k % 6:Nat):Int)<num S 0)<;>rfl
theorem Zvf (k:Nat):Zbq (k:Int)=oneI k:=by unfold Zbq oneI;rw [Int.toNat_natCast]
theorem u64w {k:Nat} (hk:k<36):IntKind.u64.wrap (k:Int)=(k:Int):=u64_c (by omega)
def Zd1 (a0:Array Value):St:=(⟨.a (.w 0) :: .a (.u) :: .a (.i .u64 (0:Int)) :: .a (.i .u64 (0:Int)) :: .a (.i .i64 (0:Int))::us 13 ([]),[.row a0 35],[]⟩:St)
def Ze7:Int×Int→LS
 | (y0_3,y0_4)=>([.a (.i .u64 (y0_3)),.a (.i .i64 (y0_4))],[])
def Zif:Int×Int→Exit×LS
 | t=>((.exit 0),Ze7 t)
def Zct (P : Program) (a0 : Array Value) : Int × Int → Option (Stp (Int × Int) (Int × Int))
 | (y0_3, y0_4) => bif decide (y0_4 < (36 : Int)) then (bif (Zas y0_4 a0) then (bif decide (0 ≤ (IntKind.u64.wrap y0_4)) then (some (.more ((IntKind.u64.wrap (BitVec.ofInt IntKind.u64.bits y0_3 ||| BitVec.ofInt IntKind.u64.bits (IntKind.u64.wrap ((1 : Int) * 2 ^ (min ((IntKind.u64.wrap y0_4)).toNat IntKind.u64.bits)))).toNat), (i64.wrap (y0_4 + (1 : Int))))))
    else (none))
   else (some (.more (y0_3, (i64.wrap (y0_4 + (1 : Int)))))))
  else (some (.done (y0_3, y0_4)))
theorem Zuf (N:Nat) (a0:Array Value):∀ t:Int×Int,stepV prog (mkΓ [(41,con Zb6)]) N (cAt (codeOf Tryd.f40) [1,1,0,1,0,0]) (pAt (mkPlan (codeOf Tryd.f40) [([3,4],[])]).1 [1,1,0,1,0]) [3,4] [] (Zd1 a0) (Ze7 t)=mapS Ze7 Zif (Zct prog a0 t):=by
 rintro ⟨y0_3,y0_4⟩
 refine Eq.trans (b:=(bif decide (y0_4<(36:Int)) then (bif (Zas y0_4 a0) then (bif decide (0≤(IntKind.u64.wrap y0_4)) then (some (.more ([.a (.i .u64 (IntKind.u64.wrap (BitVec.ofInt IntKind.u64.bits y0_3 ||| BitVec.ofInt IntKind.u64.bits (IntKind.u64.wrap ((1:Int)*2^(min ((IntKind.u64.wrap y0_4)).toNat IntKind.u64.bits)))).toNat)),.a (.i .i64 (i64.wrap (y0_4+(1:Int))))],[])))
    else (none))
   else (some (.more ([.a (.i .u64 (y0_3)),.a (.i .i64 (i64.wrap (y0_4+(1:Int))))],[]))))
  else (some (.done ((.exit 0),([.a (.i .u64 (y0_3)),.a (.i .i64 (y0_4))],[])))))) (by kernel_rfl) ?_
 simp only [Zct,Zbe,Zbc,Zbb,Zbf,Ze7,Zif]
def Zha (P:Program) (N:Nat) (a0:Array Value) (z0_3:Int) (z0_4:Int):Option (SV×Eff×Bool):=some (.a (.i .u64 (z0_3)),.none,true)
theorem Zm0 (N:Nat) (a0:Array Value) (z0_3:Int) (z0_4:Int):(kBlock 0 (kSeq (veC prog (mkΓ [(41,con Zb6)]) N (cAt (codeOf Tryd.f40) [1,1,1]) (pAt (mkPlan (codeOf Tryd.f40) [([3,4],[])]).1 [1,1,1]) (SV×Eff×Bool)) (finK prog [.row a0 35] [.tmp 2]))) (.exit 0) (left (writes (cAt (codeOf Tryd.f40) [1,1,0,1,0,0])) [3,4] [] (Zd1 a0) ([.a (.i .u64 (z0_3)),.a (.i .i64 (z0_4))],[]))=Zha prog N a0 z0_3 z0_4:=by
 refine Eq.trans (b:=(some (.a (.i .u64 (z0_3)),.none,true))) (by kernel_rfl) ?_
 rfl
theorem Zt3 (N:Nat) (a0:Array Value):bindX (iterO (stepV prog (mkΓ [(41,con Zb6)]) N (cAt (codeOf Tryd.f40) [1,1,0,1,0,0]) (pAt (mkPlan (codeOf Tryd.f40) [([3,4],[])]).1 [1,1,0,1,0]) [3,4] [] (Zd1 a0)) N ([.a (.i .u64 (0:Int)),.a (.i .i64 (0:Int))],[])) (fun e s=>(kBlock 0 (kSeq (veC prog (mkΓ [(41,con Zb6)]) N (cAt (codeOf Tryd.f40) [1,1,1]) (pAt (mkPlan (codeOf Tryd.f40) [([3,4],[])]).1 [1,1,1]) (SV×Eff×Bool)) (finK prog [.row a0 35] [.tmp 2]))) e (left (writes (cAt (codeOf Tryd.f40) [1,1,0,1,0,0])) [3,4] [] (Zd1 a0) s))=nodeX (iterO (Zct prog a0) N ((0:Int),(0:Int))) (fun x=>Zha prog N a0 x.1 x.2):=by
 refine Zcl Ze7 Zif _ _ (Zuf N a0) N ((0:Int),(0:Int)) _ _ ?_
 intro x;exact Zm0 N a0 x.1 x.2
theorem Zss (N:Nat) (a0:Array Value):ansV prog (mkΓ [(41,con Zb6)]) N Tryd.f40 [([3,4],[])] [.w 0] [.row a0 35]=(nodeX (iterO (Zct prog a0) N ((0:Int),(0:Int))) (fun x=>Zha prog N a0 x.1 x.2)):=by
 refine Eq.trans (b:=(bindX (iterO (stepV prog (mkΓ [(41,con Zb6)]) N (cAt (codeOf Tryd.f40) [1,1,0,1,0,0]) (pAt (mkPlan (codeOf Tryd.f40) [([3,4],[])]).1 [1,1,0,1,0]) [3,4] [] (Zd1 a0)) N ([.a (.i .u64 (0:Int)),.a (.i .i64 (0:Int))],[])) (fun e s=>(kBlock 0 (kSeq (veC prog (mkΓ [(41,con Zb6)]) N (cAt (codeOf Tryd.f40) [1,1,1]) (pAt (mkPlan (codeOf Tryd.f40) [([3,4],[])]).1 [1,1,1]) (SV×Eff×Bool)) (finK prog [.row a0 35] [.tmp 2]))) e (left (writes (cAt (codeOf Tryd.f40) [1,1,0,1,0,0])) [3,4] [] (Zd1 a0) s)))) (by kernel_rfl) ?_
 simp only [Zt3 N a0]
theorem Zr7 (a0:Array Value) (h_a0:WT prog 35 a0) (hg:(true)=true):ansV prog (mkΓ [(41,con Zb6)]) 1000 Tryd.f40 [([3,4],[])] [.w 0] [.row a0 35]=some (.a (.i .u64 (gridI (num a0 0) (num a0 1) 36)),.none,true):=by
 refine (Zss 1000 a0).trans ?_
 have h:=Zg6 (g:=Zct prog a0) (fun s k=>(s,(k:Int))) (fun b k=>if inC (num a0 0) (num a0 1) k then orI b (oneI k) else b) (m:=36) (t:=(0:Int)) (x:=(gridI (num a0 0) (num a0 1) 36,36)) (N:=1000) (fun k s hk _=>by
  have h1:decide ((k:Int)<36)=true:=decide_eq_true (by omega)
  have h0:decide (0≤(k:Int))=true:=decide_eq_true (by omega)
  have h3:i64.wrap ((k:Int)+1)=((k+1:Nat):Int):=by rw [IntWalk.i64_in _ (by omega)];omega
  simp only [Zct,h1,cond_true,Zx5 h_a0 hk,u64w hk,h0,h3,Int.toNat_natCast]
  cases inC (num a0 0) (num a0 1) k<;>rfl) (by
  have h1:decide (((36:Nat):Int)<36)=false:=by decide
  simp only [Zct,h1,cond_false]
  rfl) (by omega)
 have h':iterO (Zct prog a0) 1000 ((0:Int),(0:Int))=some (gridI (num a0 0) (num a0 1) 36,(36:Int)):=h
 rw [h']
 rfl
def Zf0:Con:=fun args h=>match args,h with
 | [.w 0],[.row a0 35]=>some (.a (.i .u64 (gridI (num a0 0) (num a0 1) 36)),.none,true)
 | _,_=>none
theorem Zjc:EntX prog 40:=Zam (fn:=Tryd.f40) (by kernel_rfl) (by kernel_rfl) (by kernel_rfl)
theorem Zlz:ConOkX mn prog 40 Zf0:=(Zat (N:=1000) (by kernel_rfl) (mkΓ_consX (Zag Zry) Zl1 mkΓ_nilX) (fn:=Tryd.f40) (by kernel_rfl) (by kernel_rfl) [([3,4],[])]).of (by
 intro ρ h w args vals r e hA hH hr
 unfold Zf0 at hr
 split at hr
 ·rename_i a0
  obtain ⟨rfl,hg⟩:=Prod.mk.inj (Option.some.inj hr)
  obtain ⟨rfl,hg2⟩:=Prod.mk.inj hg
  exact Zr7 a0 (hH.wt 0 rfl) hg2
 ·cases hr)
def Zb7:Cons:=(mkΓx [(54,con Zbj)] [(85,Zgk)] [(99,Zda)])
def Zcv (a0:Array Value):St:=(⟨.a (.g a0 35) :: .a (.w 0) :: .a (.i .u64 (0:Int)) :: .a (.w 2) :: .a (.u) :: .a (.g a0 35) :: .a (.c 99 [6,8])::us 6 ([]),[.row a0 35,.no,.row #[.int .u64 (0:Int)] 23,.no,.no,.no,.row #[.int .i64 (num a0 1)] 2,.no,.row #[.int .i64 (num a0 0)] 2,.no,.no],[]⟩:St)
def Zgi:Int→BS
 | r0_2=>([.row #[.int .u64 (r0_2)] 23]:BS)
def Zit:Empty→Exit×BS:=fun x=>nomatch x
def Zd4 (P:Program) (a0:Array Value) (x0:Int):Int→Option (Stp (Int) Empty)
 | r0_2=>bif decide (0≤x0) then (some (.more (IntKind.u64.wrap (BitVec.ofInt IntKind.u64.bits r0_2 ||| BitVec.ofInt IntKind.u64.bits (Zbq x0)).toNat)))
  else (none)
theorem Ztz (N:Nat) (a0:Array Value) (x0:Int):∀ t:Int,stepI prog Zb7 N (cAt (codeOf Tryd.f66) [1,1,0,1,0,0]) (pAt (mkPlan (codeOf Tryd.f66) [([],[2])]).1 [1,1,0,1,0]) 11 [2] [7] [(4,7)] (Zcv a0) [.i .i64 (x0)] (Zgi t)=mapS Zgi Zit (Zd4 prog a0 x0 t):=by
 rintro r0_2
 refine Eq.trans (b:=(bif decide (0≤x0) then (some (.more ([.row #[.int .u64 (IntKind.u64.wrap (BitVec.ofInt IntKind.u64.bits r0_2 ||| BitVec.ofInt IntKind.u64.bits (Zbq x0)).toNat)] 23]:BS)))
  else (none))) (by kernel_rfl) ?_
 simp only [Zd4,Zbe,Zbc,Zbb,Zbf,Zgi,Zit]
def Zhf (P:Program) (N:Nat) (a0:Array Value) (q0_2:Int):Option (SV×Eff×Bool):=some (.a (.i .u64 (q0_2)),.none,true)
theorem Zmm (N:Nat) (a0:Array Value) (q0_2:Int):(kBlock 0 (kSeq (veC prog Zb7 N (cAt (codeOf Tryd.f66) [1,1,1]) (pAt (mkPlan (codeOf Tryd.f66) [([],[2])]).1 [1,1,1]) (SV×Eff×Bool)) (finK prog [] [.tmp 2]))) .normal (leftI [2] (Zcv a0) ([.row #[.int .u64 (q0_2)] 23]:BS))=Zhf prog N a0 q0_2:=by
 refine Eq.trans (b:=(some (.a (.i .u64 (q0_2)),.none,true))) (by kernel_rfl) ?_
 rfl
theorem Zua (N:Nat) (a0:Array Value):bindI (foldI (fun (x0:Int) (hb:BS)=>stepI prog Zb7 N (cAt (codeOf Tryd.f66) [1,1,0,1,0,0]) (pAt (mkPlan (codeOf Tryd.f66) [([],[2])]).1 [1,1,0,1,0]) 11 [2] [7] [(4,7)] (Zcv a0) [.i .i64 (x0)] hb) (cellsL (num a0 0) (num a0 1) 36) ([.row #[.int .u64 (0:Int)] 23]:BS)) (fun hb=>(kBlock 0 (kSeq (veC prog Zb7 N (cAt (codeOf Tryd.f66) [1,1,1]) (pAt (mkPlan (codeOf Tryd.f66) [([],[2])]).1 [1,1,1]) (SV×Eff×Bool)) (finK prog [] [.tmp 2]))) .normal (leftI [2] (Zcv a0) hb)) (fun e hb=>(kBlock 0 (kSeq (veC prog Zb7 N (cAt (codeOf Tryd.f66) [1,1,1]) (pAt (mkPlan (codeOf Tryd.f66) [([],[2])]).1 [1,1,1]) (SV×Eff×Bool)) (finK prog [] [.tmp 2]))) e (leftI [2] (Zcv a0) hb))=nodeI (foldI (Zd4 prog a0) (cellsL (num a0 0) (num a0 1) 36) (0:Int)) (fun x=>Zhf prog N a0 x) (fun x:Empty=>nomatch x):=by
 refine Zv1 Zgi Zit _ _ (fun y t=>Ztz N a0 y t) _ (0:Int) _ _ _ _ ?_ ?_
 ·intro x;exact Zmm N a0 x
 ·intro x;exact nomatch x
theorem Ztg (N:Nat) (a0:Array Value):ansV prog Zb7 N Tryd.f66 [([],[2])] [.g a0 35] []=(bif (decide (0≤(num a0 0))&&decide ((num a0 0)≤6)&&(decide (0≤(num a0 1))&&decide ((num a0 1)≤6))) then (nodeI (foldI (Zd4 prog a0) (cellsL (num a0 0) (num a0 1) 36) (0:Int)) (fun x=>Zhf prog N a0 x) (fun x:Empty=>nomatch x))
  else (none)):=by
 refine Eq.trans (b:=(bif (decide (0≤(num a0 0))&&decide ((num a0 0)≤6)&&(decide (0≤(num a0 1))&&decide ((num a0 1)≤6))) then (bindI (foldI (fun (x0:Int) (hb:BS)=>stepI prog Zb7 N (cAt (codeOf Tryd.f66) [1,1,0,1,0,0]) (pAt (mkPlan (codeOf Tryd.f66) [([],[2])]).1 [1,1,0,1,0]) 11 [2] [7] [(4,7)] (Zcv a0) [.i .i64 (x0)] hb) (cellsL (num a0 0) (num a0 1) 36) ([.row #[.int .u64 (0:Int)] 23]:BS)) (fun hb=>(kBlock 0 (kSeq (veC prog Zb7 N (cAt (codeOf Tryd.f66) [1,1,1]) (pAt (mkPlan (codeOf Tryd.f66) [([],[2])]).1 [1,1,1]) (SV×Eff×Bool)) (finK prog [] [.tmp 2]))) .normal (leftI [2] (Zcv a0) hb)) (fun e hb=>(kBlock 0 (kSeq (veC prog Zb7 N (cAt (codeOf Tryd.f66) [1,1,1]) (pAt (mkPlan (codeOf Tryd.f66) [([],[2])]).1 [1,1,1]) (SV×Eff×Bool)) (finK prog [] [.tmp 2]))) e (leftI [2] (Zcv a0) hb)))
  else (none))) (by kernel_rfl) ?_
 simp only [Zua N a0]
theorem Zra (a0:Array Value) (h_a0:WT prog 35 a0) (hg:((decide (0≤num a0 0)&&decide (num a0 0≤6)&&(decide (0≤num a0 1)&&decide (num a0 1≤6))))=true):ansV prog Zb7 1000 Tryd.f66 [([],[2])] [.g a0 35] []=some (.a (.i .u64 (gridI (num a0 0) (num a0 1) 36)),.none,true):=by
 refine (Ztg 1000 a0).trans ?_
 have h:=Zxw (X:=Empty) (g:=Zd4 prog a0) (fun b k=>orI b (oneI k)) (wd:=num a0 0) (hi:=num a0 1) (fun s k hk _=>by
  have h0:decide (0≤(k:Int))=true:=decide_eq_true (by omega)
  simp only [Zd4,h0,cond_true,Zvf]
  rfl) (0:Int)
 simp only [hg,cond_true,h]
 rfl
def Zc1:Con:=fun args h=>match args,h with
 | [.g a0 35],[]=>some (.a (.i .u64 (gridI (num a0 0) (num a0 1) 36)),.none,(decide (0≤num a0 0)&&decide (num a0 0≤6)&&(decide (0≤num a0 1)&&decide (num a0 1≤6))))
 | _,_=>none
theorem Zgr:EntX prog 66:=Zam (fn:=Tryd.f66) (by kernel_rfl) (by kernel_rfl) (by kernel_rfl)
theorem Zid:ConOkX mn prog 66 Zc1:=(Zat (N:=1000) (by kernel_rfl) (mkΓx_cX (Zag Zlw) Zih (mkΓx_nX Zk4 Zi5 (mkΓx_iX Zi7 Zia mkΓx_nilX))) (fn:=Tryd.f66) (by kernel_rfl) (by kernel_rfl) [([],[2])]).of (by
 intro ρ h w args vals r e hA hH hr
 unfold Zc1 at hr
 split at hr
 ·rename_i a0
  obtain ⟨rfl,hg⟩:=Prod.mk.inj (Option.some.inj hr)
  obtain ⟨rfl,hg2⟩:=Prod.mk.inj hg
  exact Zra a0 (hA.wt 0 rfl) hg2
 ·cases hr)
theorem Zyh {S:Array Value} {k:Nat} (hk:k<36):Zad S (k:Int)=bitI (num S 2) k:=by
 have h:=bit_test (c:=num S 2) (j:=k) (by omega)
 rw [← h,← Zvf]
 rfl
theorem Yb2 {S:Array Value} (hS:WT prog 35 S) {k:Nat} (hk:k<36):Zcf (k:Int) S=bitI (num S 2) k:=by
 have h:=bit_shr (c:=num S 2) (land_of hS) (k:=k) (by omega)
 rw [← h]
 unfold Zcf
 rw [u64w hk,Int.toNat_natCast]
theorem land_dry {S:Array Value} (hS:WT prog 35 S) {k:Nat} (hk:k<36):Zad S (k:Int)=Zcf (k:Int) S:=by rw [Zyh hk,Yb2 hS hk]
end
end Go.Proofs.YtffagbiedigmcaaDoor
