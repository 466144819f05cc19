/- The bits of all cells, in company. -/
import Derived.Test.YtflnjkpejbohjaaGreatDoorProg
import Derived.Test.YtflnjkpejbohjaaGreatDoorCxEachWater
namespace Go.Proofs.YtflnjkpejbohjaaGreatDoor
open Go.ChangeShapes Go.WideShapes Go.ChangeAt Go.RowKit Ve Vc
open IntKind (i64)
set_option linter.unusedVariables false
set_option linter.unusedSimpArgs false
set_option maxRecDepth 100000
noncomputable section
variable {mn:Md}
theorem Ylm (S:Array Value) (c:Int):Zah S c=Za0 c S:=by
 unfold Zah Za0 Zaa
 by_cases h0:0≤c
 ·have e1:∀ x y:Int,0≤x→0≤y→Zak S #[.int .i64 x,.int .i64 y]=(bif decide (x<i64.wrap (num S 0)) then decide (y<i64.wrap (num S 1)) else false):=fun x y hx hy=>by
   show (bif decide (x ≥ 0) then (bif decide (x<i64.wrap (num S 0)) then (bif decide (y ≥ 0) then decide (y<i64.wrap (num S 1)) else false) else false) else false)=_
   rw [decide_eq_true (show x ≥ 0 from hx),decide_eq_true (show y ≥ 0 from hy)]
   cases decide (x<i64.wrap (num S 0))<;>rfl
  by_cases h1:c≤35
  ·have hx:0≤c.tmod 6:=Int.tmod_nonneg 6 h0
   have hy:0≤i64.wrap (c.tdiv 6):=by
    have:c.tdiv 6=c / 6:=Int.tdiv_eq_ediv_of_nonneg h0
    rw [this,IntWalk.i64_in _ (by omega)];omega
   rw [e1 _ _ hx hy,decide_eq_true (show c ≥ 0 from h0),decide_eq_true (show c<36 by omega),decide_eq_true h1]
   rfl
  ·rw [decide_eq_false (show ¬ c<36 by omega),decide_eq_false h1];cases decide (c ≥ 0)<;>rfl
 ·rw [decide_eq_false (show ¬ c ≥ 0 from h0)];rfl
theorem Yi0 {S:Array Value} {c:Int} (h:Za0 c S=true):0≤c∧c≤35:=by
 unfold Za0 Zaa at h
 cases h0:decide (c ≥ 0) with
 | false=>rw [h0] at h;exact nomatch h
 | true=>
  cases h1:decide (c≤35) with
  | false=>rw [h0,h1] at h;exact nomatch h
  | true=>exact ⟨of_decide_eq_true h0,of_decide_eq_true h1⟩
theorem u64_c {c:Int} (hc:0≤c∧c≤35):IntKind.u64.wrap c=c:=by rw [IntKind.wrap_u64];omega
theorem wt_land {T:TypeId} (hL:lay Tryz.prog T=0::0::7::List.replicate 360 4) {S:Array Value} (h:WT Tryz.prog T S):0≤num S 2∧num S 2≤18446744073709551615:=(h.int (o:=2) (k:=.u64) (by rw [hL];rfl)).2
theorem Yg8:lay Tryz.prog 41=0::0::7::List.replicate 360 4:=by kernel_rfl
theorem land_of {S:Array Value} (h:WT Tryz.prog 41 S):0≤num S 2∧num S 2≤18446744073709551615:=wt_land Yg8 h
theorem Yh7 {S:Array Value} (h:WT Tryz.prog 41 S) {k:Nat} (hk:k<36):Za0 (k:Int) S=inC (num S 0) (num S 1) k:=by
 obtain ⟨s0,a0,b0⟩:=h.int (o:=0) (k:=.i8) (by kernel_rfl)
 obtain ⟨s1,a1,b1⟩:=h.int (o:=1) (k:=.i8) (by kernel_rfl)
 have e1:IntKind.i8.min = -128:=rfl
 have e2:IntKind.i8.max=127:=rfl
 unfold Za0 Zaa inC
 rw [decide_eq_true (show (k:Int) ≥ 0 by omega),decide_eq_true (show (k:Int)≤35 by omega),IntWalk.i64_in (num S 0) (by omega),IntWalk.i64_in (num S 1) (by omega)]
 have h1:((k:Int)).tmod 6=((k % 6:Nat):Int):=by rw [Int.tmod_eq_emod_of_nonneg (by omega)];omega
 have h2:((k:Int)).tdiv 6=((k / 6:Nat):Int):=by rw [Int.tdiv_eq_ediv_of_nonneg (by omega)];omega
 rw [h1,h2,IntWalk.i64_in _ (by omega)]
 simp only [cond_true,cond_false]
 cases decide (((k % 6:Nat):Int)<num S 0)<;>rfl
theorem Yau (k:Nat):Zce (k:Int)=oneI k:=by unfold Zce oneI;rw [Int.toNat_natCast]
theorem u64w {k:Nat} (hk:k<36):IntKind.u64.wrap (k:Int)=(k:Int):=u64_c (by omega)
def Zes (a0:Array Value):St:=(⟨.a (.w 0) :: .a (.u) :: .a (.i .u64 (0:Int)) :: .a (.i .u64 (0:Int)) :: .a (.i .i64 (0:Int))::us 13 ([]),[.row a0 41],[]⟩:St)
def Zfu:Int×Int→LS
 | (y0_3,y0_4)=>([.a (.i .u64 (y0_3)),.a (.i .i64 (y0_4))],[])
def Zj5:Int×Int→Exit×LS
 | t=>((.exit 0),Zfu t)
def Zc2 (P : Program) (a0 : Array Value) : Int × Int → Option (Stp (Int × Int) (Int × Int))
 | (y0_3, y0_4) => bif decide (y0_4 < (36 : Int)) then (bif (Za0 y0_4 a0) then (bif decide (0 ≤ (IntKind.u64.wrap y0_4)) then (some (.more ((IntKind.u64.wrap (BitVec.ofInt IntKind.u64.bits y0_3 ||| BitVec.ofInt IntKind.u64.bits (IntKind.u64.wrap ((1 : Int) * 2 ^ (min ((IntKind.u64.wrap y0_4)).toNat IntKind.u64.bits)))).toNat), (i64.wrap (y0_4 + (1 : Int))))))
    else (none))
   else (some (.more (y0_3, (i64.wrap (y0_4 + (1 : Int)))))))
  else (some (.done (y0_3, y0_4)))
theorem Zx5 (N:Nat) (a0:Array Value):∀ t:Int×Int,stepV Tryz.prog (mkΓ [(62,con Zcb)]) N (cAt (codeOf Tryz.f40) [1,1,0,1,0,0]) (pAt (mkPlan (codeOf Tryz.f40) [([3,4],[])]).1 [1,1,0,1,0]) [3,4] [] (Zes a0) (Zfu t)=mapS Zfu Zj5 (Zc2 Tryz.prog a0 t):=by
 rintro ⟨y0_3,y0_4⟩
 refine Eq.trans (b:=(bif decide (y0_4<(36:Int)) then (bif (Za0 y0_4 a0) then (bif decide (0≤(IntKind.u64.wrap y0_4)) then (some (.more ([.a (.i .u64 (IntKind.u64.wrap (BitVec.ofInt IntKind.u64.bits y0_3 ||| BitVec.ofInt IntKind.u64.bits (IntKind.u64.wrap ((1:Int)*2^(min ((IntKind.u64.wrap y0_4)).toNat IntKind.u64.bits)))).toNat)),.a (.i .i64 (i64.wrap (y0_4+(1:Int))))],[])))
    else (none))
   else (some (.more ([.a (.i .u64 (y0_3)),.a (.i .i64 (i64.wrap (y0_4+(1:Int))))],[]))))
  else (some (.done ((.exit 0),([.a (.i .u64 (y0_3)),.a (.i .i64 (y0_4))],[])))))) (by kernel_rfl) ?_
 simp only [Zc2,Zay,Zaz,Zax,Zaw,Zfu,Zj5]
def Zik (P:Program) (N:Nat) (a0:Array Value) (z0_3:Int) (z0_4:Int):Option (SV×Eff×Bool):=some (.a (.i .u64 (z0_3)),.none,true)
theorem Zph (N:Nat) (a0:Array Value) (z0_3:Int) (z0_4:Int):(kBlock 0 (kSeq (veC Tryz.prog (mkΓ [(62,con Zcb)]) N (cAt (codeOf Tryz.f40) [1,1,1]) (pAt (mkPlan (codeOf Tryz.f40) [([3,4],[])]).1 [1,1,1]) (SV×Eff×Bool)) (finK Tryz.prog [.row a0 41] [.tmp 2]))) (.exit 0) (left (writes (cAt (codeOf Tryz.f40) [1,1,0,1,0,0])) [3,4] [] (Zes a0) ([.a (.i .u64 (z0_3)),.a (.i .i64 (z0_4))],[]))=Zik Tryz.prog N a0 z0_3 z0_4:=by
 refine Eq.trans (b:=(some (.a (.i .u64 (z0_3)),.none,true))) (by kernel_rfl) ?_
 rfl
theorem Zyy (N:Nat) (a0:Array Value):bindX (iterO (stepV Tryz.prog (mkΓ [(62,con Zcb)]) N (cAt (codeOf Tryz.f40) [1,1,0,1,0,0]) (pAt (mkPlan (codeOf Tryz.f40) [([3,4],[])]).1 [1,1,0,1,0]) [3,4] [] (Zes a0)) N ([.a (.i .u64 (0:Int)),.a (.i .i64 (0:Int))],[])) (fun e s=>(kBlock 0 (kSeq (veC Tryz.prog (mkΓ [(62,con Zcb)]) N (cAt (codeOf Tryz.f40) [1,1,1]) (pAt (mkPlan (codeOf Tryz.f40) [([3,4],[])]).1 [1,1,1]) (SV×Eff×Bool)) (finK Tryz.prog [.row a0 41] [.tmp 2]))) e (left (writes (cAt (codeOf Tryz.f40) [1,1,0,1,0,0])) [3,4] [] (Zes a0) s))=nodeX (iterO (Zc2 Tryz.prog a0) N ((0:Int),(0:Int))) (fun x=>Zik Tryz.prog N a0 x.1 x.2):=by
 refine Zbc Zfu Zj5 _ _ (Zx5 N a0) N ((0:Int),(0:Int)) _ _ ?_
 intro x;exact Zph N a0 x.1 x.2
theorem Zvm (N:Nat) (a0:Array Value):ansV Tryz.prog (mkΓ [(62,con Zcb)]) N Tryz.f40 [([3,4],[])] [.w 0] [.row a0 41]=(nodeX (iterO (Zc2 Tryz.prog a0) N ((0:Int),(0:Int))) (fun x=>Zik Tryz.prog N a0 x.1 x.2)):=by
 refine Eq.trans (b:=(bindX (iterO (stepV Tryz.prog (mkΓ [(62,con Zcb)]) N (cAt (codeOf Tryz.f40) [1,1,0,1,0,0]) (pAt (mkPlan (codeOf Tryz.f40) [([3,4],[])]).1 [1,1,0,1,0]) [3,4] [] (Zes a0)) N ([.a (.i .u64 (0:Int)),.a (.i .i64 (0:Int))],[])) (fun e s=>(kBlock 0 (kSeq (veC Tryz.prog (mkΓ [(62,con Zcb)]) N (cAt (codeOf Tryz.f40) [1,1,1]) (pAt (mkPlan (codeOf Tryz.f40) [([3,4],[])]).1 [1,1,1]) (SV×Eff×Bool)) (finK Tryz.prog [.row a0 41] [.tmp 2]))) e (left (writes (cAt (codeOf Tryz.f40) [1,1,0,1,0,0])) [3,4] [] (Zes a0) s)))) (by kernel_rfl) ?_
 simp only [Zyy N a0]
theorem Zt9 (a0:Array Value) (h_a0:WT Tryz.prog 41 a0) (hg:(true)=true):ansV Tryz.prog (mkΓ [(62,con Zcb)]) 1000 Tryz.f40 [([3,4],[])] [.w 0] [.row a0 41]=some (.a (.i .u64 (gridI (num a0 0) (num a0 1) 36)),.none,true):=by
 refine (Zvm 1000 a0).trans ?_
 have h:=Zja (g:=Zc2 Tryz.prog a0) (fun s k=>(s,(k:Int))) (fun b k=>if inC (num a0 0) (num a0 1) k then orI b (oneI k) else b) (m:=36) (t:=(0:Int)) (x:=(gridI (num a0 0) (num a0 1) 36,36)) (N:=1000) (fun k s hk _=>by
  have h1:decide ((k:Int)<36)=true:=decide_eq_true (by omega)
  have h0:decide (0≤(k:Int))=true:=decide_eq_true (by omega)
  have h3:i64.wrap ((k:Int)+1)=((k+1:Nat):Int):=by rw [IntWalk.i64_in _ (by omega)];omega
  simp only [Zc2,h1,cond_true,Yh7 h_a0 hk,u64w hk,h0,h3,Int.toNat_natCast]
  cases inC (num a0 0) (num a0 1) k<;>rfl) (by
  have h1:decide (((36:Nat):Int)<36)=false:=by decide
  simp only [Zc2,h1,cond_false]
  rfl) (by omega)
 have h':iterO (Zc2 Tryz.prog a0) 1000 ((0:Int),(0:Int))=some (gridI (num a0 0) (num a0 1) 36,(36:Int)):=h
 rw [h']
 rfl
def Zg1:Con:=fun args h=>match args,h with
 | [.w 0],[.row a0 41]=>some (.a (.i .u64 (gridI (num a0 0) (num a0 1) 36)),.none,true)
 | _,_=>none
theorem Zky:EntX Tryz.prog 40:=Zaf (fn:=Tryz.f40) (by kernel_rfl) (by kernel_rfl) (by kernel_rfl)
theorem Zn1:ConOkX mn Tryz.prog 40 Zg1:=(Zag (N:=1000) (by kernel_rfl) (mkΓ_consX (Zad Zs3) Zn7 mkΓ_nilX) (fn:=Tryz.f40) (by kernel_rfl) (by kernel_rfl) [([3,4],[])]).of (by
 intro ρ h w args vals r e hA hH hr
 unfold Zg1 at hr
 split at hr
 ·rename_i a0
  obtain ⟨rfl,hg⟩:=Prod.mk.inj (Option.some.inj hr)
  obtain ⟨rfl,hg2⟩:=Prod.mk.inj hg
  exact Zt9 a0 (hH.wt 0 rfl) hg2
 ·cases hr)
def Zb9:Cons:=(mkΓx [(52,con Zbl)] [(81,Zhn)] [(93,Zez)])
def Zc1 (a0:Array Value):St:=(⟨.a (.g a0 41) :: .a (.w 0) :: .a (.i .u64 (0:Int)) :: .a (.w 2) :: .a (.u) :: .a (.g a0 41) :: .a (.c 93 [6,8])::us 6 ([]),[.row a0 41,.no,.row #[.int .u64 (0:Int)] 23,.no,.no,.no,.row #[.int .i64 (num a0 1)] 2,.no,.row #[.int .i64 (num a0 0)] 2,.no,.no],[]⟩:St)
def Zho:Int→BS
 | r0_2=>([.row #[.int .u64 (r0_2)] 23]:BS)
def Zjz:Empty→Exit×BS:=fun x=>nomatch x
def Zel (P:Program) (a0:Array Value) (x0:Int):Int→Option (Stp (Int) Empty)
 | r0_2=>bif decide (0≤x0) then (some (.more (IntKind.u64.wrap (BitVec.ofInt IntKind.u64.bits r0_2 ||| BitVec.ofInt IntKind.u64.bits (Zce x0)).toNat)))
  else (none)
theorem Zx9 (N:Nat) (a0:Array Value) (x0:Int):∀ t:Int,stepI Tryz.prog Zb9 N (cAt (codeOf Tryz.f67) [1,1,0,1,0,0]) (pAt (mkPlan (codeOf Tryz.f67) [([],[2])]).1 [1,1,0,1,0]) 11 [2] [7] [(4,7)] (Zc1 a0) [.i .i64 (x0)] (Zho t)=mapS Zho Zjz (Zel Tryz.prog a0 x0 t):=by
 rintro r0_2
 refine Eq.trans (b:=(bif decide (0≤x0) then (some (.more ([.row #[.int .u64 (IntKind.u64.wrap (BitVec.ofInt IntKind.u64.bits r0_2 ||| BitVec.ofInt IntKind.u64.bits (Zce x0)).toNat)] 23]:BS)))
  else (none))) (by kernel_rfl) ?_
 simp only [Zel,Zay,Zaz,Zax,Zaw,Zho,Zjz]
def Zic (P:Program) (N:Nat) (a0:Array Value) (q0_2:Int):Option (SV×Eff×Bool):=some (.a (.i .u64 (q0_2)),.none,true)
theorem Zpr (N:Nat) (a0:Array Value) (q0_2:Int):(kBlock 0 (kSeq (veC Tryz.prog Zb9 N (cAt (codeOf Tryz.f67) [1,1,1]) (pAt (mkPlan (codeOf Tryz.f67) [([],[2])]).1 [1,1,1]) (SV×Eff×Bool)) (finK Tryz.prog [] [.tmp 2]))) .normal (leftI [2] (Zc1 a0) ([.row #[.int .u64 (q0_2)] 23]:BS))=Zic Tryz.prog N a0 q0_2:=by
 refine Eq.trans (b:=(some (.a (.i .u64 (q0_2)),.none,true))) (by kernel_rfl) ?_
 rfl
theorem Zx0 (N:Nat) (a0:Array Value):bindI (foldI (fun (x0:Int) (hb:BS)=>stepI Tryz.prog Zb9 N (cAt (codeOf Tryz.f67) [1,1,0,1,0,0]) (pAt (mkPlan (codeOf Tryz.f67) [([],[2])]).1 [1,1,0,1,0]) 11 [2] [7] [(4,7)] (Zc1 a0) [.i .i64 (x0)] hb) (cellsL (num a0 0) (num a0 1) 36) ([.row #[.int .u64 (0:Int)] 23]:BS)) (fun hb=>(kBlock 0 (kSeq (veC Tryz.prog Zb9 N (cAt (codeOf Tryz.f67) [1,1,1]) (pAt (mkPlan (codeOf Tryz.f67) [([],[2])]).1 [1,1,1]) (SV×Eff×Bool)) (finK Tryz.prog [] [.tmp 2]))) .normal (leftI [2] (Zc1 a0) hb)) (fun e hb=>(kBlock 0 (kSeq (veC Tryz.prog Zb9 N (cAt (codeOf Tryz.f67) [1,1,1]) (pAt (mkPlan (codeOf Tryz.f67) [([],[2])]).1 [1,1,1]) (SV×Eff×Bool)) (finK Tryz.prog [] [.tmp 2]))) e (leftI [2] (Zc1 a0) hb))=nodeI (foldI (Zel Tryz.prog a0) (cellsL (num a0 0) (num a0 1) 36) (0:Int)) (fun x=>Zic Tryz.prog N a0 x) (fun x:Empty=>nomatch x):=by
 refine Yfz Zho Zjz _ _ (fun y t=>Zx9 N a0 y t) _ (0:Int) _ _ _ _ ?_ ?_
 ·intro x;exact Zpr N a0 x
 ·intro x;exact nomatch x
theorem Zv5 (N:Nat) (a0:Array Value):ansV Tryz.prog Zb9 N Tryz.f67 [([],[2])] [.g a0 41] []=(bif (decide (0≤(num a0 0))&&decide ((num a0 0)≤6)&&(decide (0≤(num a0 1))&&decide ((num a0 1)≤6))) then (nodeI (foldI (Zel Tryz.prog a0) (cellsL (num a0 0) (num a0 1) 36) (0:Int)) (fun x=>Zic Tryz.prog N a0 x) (fun x:Empty=>nomatch x))
  else (none)):=by
 refine Eq.trans (b:=(bif (decide (0≤(num a0 0))&&decide ((num a0 0)≤6)&&(decide (0≤(num a0 1))&&decide ((num a0 1)≤6))) then (bindI (foldI (fun (x0:Int) (hb:BS)=>stepI Tryz.prog Zb9 N (cAt (codeOf Tryz.f67) [1,1,0,1,0,0]) (pAt (mkPlan (codeOf Tryz.f67) [([],[2])]).1 [1,1,0,1,0]) 11 [2] [7] [(4,7)] (Zc1 a0) [.i .i64 (x0)] hb) (cellsL (num a0 0) (num a0 1) 36) ([.row #[.int .u64 (0:Int)] 23]:BS)) (fun hb=>(kBlock 0 (kSeq (veC Tryz.prog Zb9 N (cAt (codeOf Tryz.f67) [1,1,1]) (pAt (mkPlan (codeOf Tryz.f67) [([],[2])]).1 [1,1,1]) (SV×Eff×Bool)) (finK Tryz.prog [] [.tmp 2]))) .normal (leftI [2] (Zc1 a0) hb)) (fun e hb=>(kBlock 0 (kSeq (veC Tryz.prog Zb9 N (cAt (codeOf Tryz.f67) [1,1,1]) (pAt (mkPlan (codeOf Tryz.f67) [([],[2])]).1 [1,1,1]) (SV×Eff×Bool)) (finK Tryz.prog [] [.tmp 2]))) e (leftI [2] (Zc1 a0) hb)))
  else (none))) (by kernel_rfl) ?_
 simp only [Zx0 N a0]
theorem Zte (a0:Array Value) (h_a0:WT Tryz.prog 41 a0) (hg:((decide (0≤num a0 0)&&decide (num a0 0≤6)&&(decide (0≤num a0 1)&&decide (num a0 1≤6))))=true):ansV Tryz.prog Zb9 1000 Tryz.f67 [([],[2])] [.g a0 41] []=some (.a (.i .u64 (gridI (num a0 0) (num a0 1) 36)),.none,true):=by
 refine (Zv5 1000 a0).trans ?_
 have h:=Yka (X:=Empty) (g:=Zel Tryz.prog a0) (fun b k=>orI b (oneI k)) (wd:=num a0 0) (hi:=num a0 1) (fun s k hk _=>by
  have h0:decide (0≤(k:Int))=true:=decide_eq_true (by omega)
  simp only [Zel,h0,cond_true,Yau]
  rfl) (0:Int)
 simp only [hg,cond_true,h]
 rfl
def Zff:Con:=fun args h=>match args,h with
 | [.g a0 41],[]=>some (.a (.i .u64 (gridI (num a0 0) (num a0 1) 36)),.none,(decide (0≤num a0 0)&&decide (num a0 0≤6)&&(decide (0≤num a0 1)&&decide (num a0 1≤6))))
 | _,_=>none
theorem Zkx:EntX Tryz.prog 67:=Zaf (fn:=Tryz.f67) (by kernel_rfl) (by kernel_rfl) (by kernel_rfl)
theorem Zn6:ConOkX mn Tryz.prog 67 Zff:=(Zag (N:=1000) (by kernel_rfl) (mkΓx_cX (Zad Zns) Zju (mkΓx_nX Zmp Zk5 (mkΓx_iX Zr6 Zjr mkΓx_nilX))) (fn:=Tryz.f67) (by kernel_rfl) (by kernel_rfl) [([],[2])]).of (by
 intro ρ h w args vals r e hA hH hr
 unfold Zff at hr
 split at hr
 ·rename_i a0
  obtain ⟨rfl,hg⟩:=Prod.mk.inj (Option.some.inj hr)
  obtain ⟨rfl,hg2⟩:=Prod.mk.inj hg
  exact Zte a0 (hA.wt 0 rfl) hg2
 ·cases hr)
theorem Zwi {S:Array Value} {k:Nat} (hk:k<36):Zas S (k:Int)=bitI (num S 2) k:=by
 have h:=Yjl (c:=num S 2) (j:=k) (by omega)
 rw [← h,← Yau]
 rfl
theorem Ymi {S:Array Value} (hS:WT Tryz.prog 41 S) {k:Nat} (hk:k<36):Zco (k:Int) S=bitI (num S 2) k:=by
 have h:=Yle (c:=num S 2) (land_of hS) (k:=k) (by omega)
 rw [← h]
 unfold Zco
 rw [u64w hk,Int.toNat_natCast]
theorem land_dry {S:Array Value} (hS:WT Tryz.prog 41 S) {k:Nat} (hk:k<36):Zas S (k:Int)=Zco (k:Int) S:=by rw [Zwi hk,Ymi hS hk]
end
end Go.Proofs.YtflnjkpejbohjaaGreatDoor
