/- The bits of all cells, in company. -/
import Derived.Test.YtflnjkpejbohjaaDoorProg
import Derived.Test.YtflnjkpejbohjaaDoorCxEachWater
namespace Go.Proofs.YtflnjkpejbohjaaDoor
open Go.ChangeShapes Go.WideShapes Go.ChangeAt Go.RowKit Ve Vc
open Tryd (prog)
open IntKind (i64)
set_option linter.unusedVariables false
set_option linter.unusedSimpArgs false
set_option maxRecDepth 100000
noncomputable section
variable {mn:Md}
theorem Yma (S:Array Value) (c:Int):Zai S c=Za2 c S:=by
 unfold Zai Za2 Zaa
 by_cases h0:0≤c
 ·have e1:∀ x y:Int,0≤x→0≤y→Zal S #[.int .i64 x,.int .i64 y]=(bif decide (x<i64.wrap (num S 0)) then decide (y<i64.wrap (num S 1)) else false):=fun x y hx hy=>by
   show (bif decide (x ≥ 0) then (bif decide (x<i64.wrap (num S 0)) then (bif decide (y ≥ 0) then decide (y<i64.wrap (num S 1)) else false) else false) else false)=_
   rw [decide_eq_true (show x ≥ 0 from hx),decide_eq_true (show y ≥ 0 from hy)]
   cases decide (x<i64.wrap (num S 0))<;>rfl
  by_cases h1:c≤35
  ·have hx:0≤c.tmod 6:=Int.tmod_nonneg 6 h0
   have hy:0≤i64.wrap (c.tdiv 6):=by
    have:c.tdiv 6=c / 6:=Int.tdiv_eq_ediv_of_nonneg h0
    rw [this,IntWalk.i64_in _ (by omega)];omega
   rw [e1 _ _ hx hy,decide_eq_true (show c ≥ 0 from h0),decide_eq_true (show c<36 by omega),decide_eq_true h1]
   rfl
  ·rw [decide_eq_false (show ¬ c<36 by omega),decide_eq_false h1];cases decide (c ≥ 0)<;>rfl
 ·rw [decide_eq_false (show ¬ c ≥ 0 from h0)];rfl
theorem Yjl {S:Array Value} {c:Int} (h:Za2 c S=true):0≤c∧c≤35:=by
 unfold Za2 Zaa at h
 cases h0:decide (c ≥ 0) with
 | false=>rw [h0] at h;exact nomatch h
 | true=>
  cases h1:decide (c≤35) with
  | false=>rw [h0,h1] at h;exact nomatch h
  | true=>exact ⟨of_decide_eq_true h0,of_decide_eq_true h1⟩
theorem u64_c {c:Int} (hc:0≤c∧c≤35):IntKind.u64.wrap c=c:=by rw [IntKind.wrap_u64];omega
theorem bit_of {c:Int} (hc:0≤c∧c≤35):Zbz c=IntKind.u64.wrap ((1:Int)*2^(min ((IntKind.u64.wrap c)).toNat IntKind.u64.bits)):=by
 unfold Zbz;rw [u64_c hc]
theorem wt_land {T:TypeId} (hL:lay prog T=0::0::7::List.replicate 360 4) {S:Array Value} (h:WT prog T S):0≤num S 2∧num S 2≤18446744073709551615:=(h.int (o:=2) (k:=.u64) (by rw [hL];rfl)).2
theorem Yk1:lay prog 42=0::0::7::List.replicate 360 4:=by kernel_rfl
theorem land_of {S:Array Value} (h:WT prog 42 S):0≤num S 2∧num S 2≤18446744073709551615:=wt_land Yk1 h
theorem Yjn {S:Array Value} (h:WT prog 42 S) {k:Nat} (hk:k<36):Za2 (k:Int) S=inC (num S 0) (num S 1) k:=by
 obtain ⟨s0,a0,b0⟩:=h.int (o:=0) (k:=.i8) (by kernel_rfl)
 obtain ⟨s1,a1,b1⟩:=h.int (o:=1) (k:=.i8) (by kernel_rfl)
 have e1:IntKind.i8.min = -128:=rfl
 have e2:IntKind.i8.max=127:=rfl
 unfold Za2 Zaa inC
 rw [decide_eq_true (show (k:Int) ≥ 0 by omega),decide_eq_true (show (k:Int)≤35 by omega),IntWalk.i64_in (num S 0) (by omega),IntWalk.i64_in (num S 1) (by omega)]
 have h1:((k:Int)).tmod 6=((k % 6:Nat):Int):=by rw [Int.tmod_eq_emod_of_nonneg (by omega)];omega
 have h2:((k:Int)).tdiv 6=((k / 6:Nat):Int):=by rw [Int.tdiv_eq_ediv_of_nonneg (by omega)];omega
 rw [h1,h2,IntWalk.i64_in _ (by omega)]
 simp only [cond_true,cond_false]
 cases decide (((k % 6:Nat):Int)<num S 0)<;>rfl
theorem Ygn (k:Nat):Zbz (k:Int)=oneI k:=by unfold Zbz oneI;rw [Int.toNat_natCast]
theorem u64w {k:Nat} (hk:k<36):IntKind.u64.wrap (k:Int)=(k:Int):=u64_c (by omega)
def Zeq (a0:Array Value):St:=(⟨.a (.w 0) :: .a (.u) :: .a (.i .u64 (0:Int)) :: .a (.i .u64 (0:Int)) :: .a (.i .i64 (0:Int))::us 13 ([]),[.row a0 42],[]⟩:St)
def Zf7:Int×Int→LS
 | (y0_3,y0_4)=>([.a (.i .u64 (y0_3)),.a (.i .i64 (y0_4))],[])
def Zk3:Int×Int→Exit×LS
 | t=>((.exit 0),Zf7 t)
def Zda (P : Program) (a0 : Array Value) : Int × Int → Option (Stp (Int × Int) (Int × Int))
 | (y0_3, y0_4) => bif decide (y0_4 < (36 : Int)) then (bif (Za2 y0_4 a0) then (bif decide (0 ≤ (IntKind.u64.wrap y0_4)) then (some (.more ((IntKind.u64.wrap (BitVec.ofInt IntKind.u64.bits y0_3 ||| BitVec.ofInt IntKind.u64.bits (IntKind.u64.wrap ((1 : Int) * 2 ^ (min ((IntKind.u64.wrap y0_4)).toNat IntKind.u64.bits)))).toNat), (i64.wrap (y0_4 + (1 : Int))))))
    else (none))
   else (some (.more (y0_3, (i64.wrap (y0_4 + (1 : Int)))))))
  else (some (.done (y0_3, y0_4)))
theorem Zy2 (N:Nat) (a0:Array Value):∀ t:Int×Int,stepV prog (mkΓ [(56,con Zck)]) N (cAt (codeOf Tryd.f42) [1,1,0,1,0,0]) (pAt (mkPlan (codeOf Tryd.f42) [([3,4],[])]).1 [1,1,0,1,0]) [3,4] [] (Zeq a0) (Zf7 t)=mapS Zf7 Zk3 (Zda prog a0 t):=by
 rintro ⟨y0_3,y0_4⟩
 refine Eq.trans (b:=(bif decide (y0_4<(36:Int)) then (bif (Za2 y0_4 a0) then (bif decide (0≤(IntKind.u64.wrap y0_4)) then (some (.more ([.a (.i .u64 (IntKind.u64.wrap (BitVec.ofInt IntKind.u64.bits y0_3 ||| BitVec.ofInt IntKind.u64.bits (IntKind.u64.wrap ((1:Int)*2^(min ((IntKind.u64.wrap y0_4)).toNat IntKind.u64.bits)))).toNat)),.a (.i .i64 (i64.wrap (y0_4+(1:Int))))],[])))
    else (none))
   else (some (.more ([.a (.i .u64 (y0_3)),.a (.i .i64 (i64.wrap (y0_4+(1:Int))))],[]))))
  else (some (.done ((.exit 0),([.a (.i .u64 (y0_3)),.a (.i .i64 (y0_4))],[])))))) (by kernel_rfl) ?_
 simp only [Zda,Za0,Zay,Za1,Zaz,Zf7,Zk3]
def Ziy (P:Program) (N:Nat) (a0:Array Value) (z0_3:Int) (z0_4:Int):Option (SV×Eff×Bool):=some (.a (.i .u64 (z0_3)),.none,true)
theorem Zp7 (N:Nat) (a0:Array Value) (z0_3:Int) (z0_4:Int):(kBlock 0 (kSeq (veC prog (mkΓ [(56,con Zck)]) N (cAt (codeOf Tryd.f42) [1,1,1]) (pAt (mkPlan (codeOf Tryd.f42) [([3,4],[])]).1 [1,1,1]) (SV×Eff×Bool)) (finK prog [.row a0 42] [.tmp 2]))) (.exit 0) (left (writes (cAt (codeOf Tryd.f42) [1,1,0,1,0,0])) [3,4] [] (Zeq a0) ([.a (.i .u64 (z0_3)),.a (.i .i64 (z0_4))],[]))=Ziy prog N a0 z0_3 z0_4:=by
 refine Eq.trans (b:=(some (.a (.i .u64 (z0_3)),.none,true))) (by kernel_rfl) ?_
 rfl
theorem Zzg (N:Nat) (a0:Array Value):bindX (iterO (stepV prog (mkΓ [(56,con Zck)]) N (cAt (codeOf Tryd.f42) [1,1,0,1,0,0]) (pAt (mkPlan (codeOf Tryd.f42) [([3,4],[])]).1 [1,1,0,1,0]) [3,4] [] (Zeq a0)) N ([.a (.i .u64 (0:Int)),.a (.i .i64 (0:Int))],[])) (fun e s=>(kBlock 0 (kSeq (veC prog (mkΓ [(56,con Zck)]) N (cAt (codeOf Tryd.f42) [1,1,1]) (pAt (mkPlan (codeOf Tryd.f42) [([3,4],[])]).1 [1,1,1]) (SV×Eff×Bool)) (finK prog [.row a0 42] [.tmp 2]))) e (left (writes (cAt (codeOf Tryd.f42) [1,1,0,1,0,0])) [3,4] [] (Zeq a0) s))=nodeX (iterO (Zda prog a0) N ((0:Int),(0:Int))) (fun x=>Ziy prog N a0 x.1 x.2):=by
 refine Zbg Zf7 Zk3 _ _ (Zy2 N a0) N ((0:Int),(0:Int)) _ _ ?_
 intro x;exact Zp7 N a0 x.1 x.2
theorem Zxv (N:Nat) (a0:Array Value):ansV prog (mkΓ [(56,con Zck)]) N Tryd.f42 [([3,4],[])] [.w 0] [.row a0 42]=(nodeX (iterO (Zda prog a0) N ((0:Int),(0:Int))) (fun x=>Ziy prog N a0 x.1 x.2)):=by
 refine Eq.trans (b:=(bindX (iterO (stepV prog (mkΓ [(56,con Zck)]) N (cAt (codeOf Tryd.f42) [1,1,0,1,0,0]) (pAt (mkPlan (codeOf Tryd.f42) [([3,4],[])]).1 [1,1,0,1,0]) [3,4] [] (Zeq a0)) N ([.a (.i .u64 (0:Int)),.a (.i .i64 (0:Int))],[])) (fun e s=>(kBlock 0 (kSeq (veC prog (mkΓ [(56,con Zck)]) N (cAt (codeOf Tryd.f42) [1,1,1]) (pAt (mkPlan (codeOf Tryd.f42) [([3,4],[])]).1 [1,1,1]) (SV×Eff×Bool)) (finK prog [.row a0 42] [.tmp 2]))) e (left (writes (cAt (codeOf Tryd.f42) [1,1,0,1,0,0])) [3,4] [] (Zeq a0) s)))) (by kernel_rfl) ?_
 simp only [Zzg N a0]
theorem Zu3 (a0:Array Value) (h_a0:WT prog 42 a0) (hg:(true)=true):ansV prog (mkΓ [(56,con Zck)]) 1000 Tryd.f42 [([3,4],[])] [.w 0] [.row a0 42]=some (.a (.i .u64 (gridI (num a0 0) (num a0 1) 36)),.none,true):=by
 refine (Zxv 1000 a0).trans ?_
 have h:=Zhf (g:=Zda prog a0) (fun s k=>(s,(k:Int))) (fun b k=>if inC (num a0 0) (num a0 1) k then orI b (oneI k) else b) (m:=36) (t:=(0:Int)) (x:=(gridI (num a0 0) (num a0 1) 36,36)) (N:=1000) (fun k s hk _=>by
  have h1:decide ((k:Int)<36)=true:=decide_eq_true (by omega)
  have h0:decide (0≤(k:Int))=true:=decide_eq_true (by omega)
  have h3:i64.wrap ((k:Int)+1)=((k+1:Nat):Int):=by rw [IntWalk.i64_in _ (by omega)];omega
  simp only [Zda,h1,cond_true,Yjn h_a0 hk,u64w hk,h0,h3,Int.toNat_natCast]
  cases inC (num a0 0) (num a0 1) k<;>rfl) (by
  have h1:decide (((36:Nat):Int)<36)=false:=by decide
  simp only [Zda,h1,cond_false]
  rfl) (by omega)
 have h':iterO (Zda prog a0) 1000 ((0:Int),(0:Int))=some (gridI (num a0 0) (num a0 1) 36,(36:Int)):=h
 rw [h']
 rfl
def Zhh:Con:=fun args h=>match args,h with
 | [.w 0],[.row a0 42]=>some (.a (.i .u64 (gridI (num a0 0) (num a0 1) 36)),.none,true)
 | _,_=>none
theorem Zl9:EntX prog 42:=Zag (fn:=Tryd.f42) (by kernel_rfl) (by kernel_rfl) (by kernel_rfl)
theorem Zo5:ConOkX mn prog 42 Zhh:=(Zah (N:=1000) (by kernel_rfl) (mkΓ_consX (Zad Zvx) Zo2 mkΓ_nilX) (fn:=Tryd.f42) (by kernel_rfl) (by kernel_rfl) [([3,4],[])]).of (by
 intro ρ h w args vals r e hA hH hr
 unfold Zhh at hr
 split at hr
 ·rename_i a0
  obtain ⟨rfl,hg⟩:=Prod.mk.inj (Option.some.inj hr)
  obtain ⟨rfl,hg2⟩:=Prod.mk.inj hg
  exact Zu3 a0 (hH.wt 0 rfl) hg2
 ·cases hr)
def Zcm:Cons:=(mkΓx [(85,con Zbu)] [(102,Zh2)] [(109,Ze3)])
def Zdc (a0:Array Value):St:=(⟨.a (.g a0 42) :: .a (.w 0) :: .a (.i .u64 (0:Int)) :: .a (.w 2) :: .a (.u) :: .a (.g a0 42) :: .a (.c 109 [6,8])::us 6 ([]),[.row a0 42,.no,.row #[.int .u64 (0:Int)] 23,.no,.no,.no,.row #[.int .i64 (num a0 1)] 2,.no,.row #[.int .i64 (num a0 0)] 2,.no,.no],[]⟩:St)
def Zh3:Int→BS
 | r0_2=>([.row #[.int .u64 (r0_2)] 23]:BS)
def Zkp:Empty→Exit×BS:=fun x=>nomatch x
def Zeu (P:Program) (a0:Array Value) (x0:Int):Int→Option (Stp (Int) Empty)
 | r0_2=>bif decide (0≤x0) then (some (.more (IntKind.u64.wrap (BitVec.ofInt IntKind.u64.bits r0_2 ||| BitVec.ofInt IntKind.u64.bits (Zbz x0)).toNat)))
  else (none)
theorem Zz2 (N:Nat) (a0:Array Value) (x0:Int):∀ t:Int,stepI prog Zcm N (cAt (codeOf Tryd.f84) [1,1,0,1,0,0]) (pAt (mkPlan (codeOf Tryd.f84) [([],[2])]).1 [1,1,0,1,0]) 11 [2] [7] [(4,7)] (Zdc a0) [.i .i64 (x0)] (Zh3 t)=mapS Zh3 Zkp (Zeu prog a0 x0 t):=by
 rintro r0_2
 refine Eq.trans (b:=(bif decide (0≤x0) then (some (.more ([.row #[.int .u64 (IntKind.u64.wrap (BitVec.ofInt IntKind.u64.bits r0_2 ||| BitVec.ofInt IntKind.u64.bits (Zbz x0)).toNat)] 23]:BS)))
  else (none))) (by kernel_rfl) ?_
 simp only [Zeu,Za0,Zay,Za1,Zaz,Zh3,Zkp]
def Zi3 (P:Program) (N:Nat) (a0:Array Value) (q0_2:Int):Option (SV×Eff×Bool):=some (.a (.i .u64 (q0_2)),.none,true)
theorem Zp3 (N:Nat) (a0:Array Value) (q0_2:Int):(kBlock 0 (kSeq (veC prog Zcm N (cAt (codeOf Tryd.f84) [1,1,1]) (pAt (mkPlan (codeOf Tryd.f84) [([],[2])]).1 [1,1,1]) (SV×Eff×Bool)) (finK prog [] [.tmp 2]))) .normal (leftI [2] (Zdc a0) ([.row #[.int .u64 (q0_2)] 23]:BS))=Zi3 prog N a0 q0_2:=by
 refine Eq.trans (b:=(some (.a (.i .u64 (q0_2)),.none,true))) (by kernel_rfl) ?_
 rfl
theorem Zzh (N:Nat) (a0:Array Value):bindI (foldI (fun (x0:Int) (hb:BS)=>stepI prog Zcm N (cAt (codeOf Tryd.f84) [1,1,0,1,0,0]) (pAt (mkPlan (codeOf Tryd.f84) [([],[2])]).1 [1,1,0,1,0]) 11 [2] [7] [(4,7)] (Zdc a0) [.i .i64 (x0)] hb) (cellsL (num a0 0) (num a0 1) 36) ([.row #[.int .u64 (0:Int)] 23]:BS)) (fun hb=>(kBlock 0 (kSeq (veC prog Zcm N (cAt (codeOf Tryd.f84) [1,1,1]) (pAt (mkPlan (codeOf Tryd.f84) [([],[2])]).1 [1,1,1]) (SV×Eff×Bool)) (finK prog [] [.tmp 2]))) .normal (leftI [2] (Zdc a0) hb)) (fun e hb=>(kBlock 0 (kSeq (veC prog Zcm N (cAt (codeOf Tryd.f84) [1,1,1]) (pAt (mkPlan (codeOf Tryd.f84) [([],[2])]).1 [1,1,1]) (SV×Eff×Bool)) (finK prog [] [.tmp 2]))) e (leftI [2] (Zdc a0) hb))=nodeI (foldI (Zeu prog a0) (cellsL (num a0 0) (num a0 1) 36) (0:Int)) (fun x=>Zi3 prog N a0 x) (fun x:Empty=>nomatch x):=by
 refine Yfo Zh3 Zkp _ _ (fun y t=>Zz2 N a0 y t) _ (0:Int) _ _ _ _ ?_ ?_
 ·intro x;exact Zp3 N a0 x
 ·intro x;exact nomatch x
theorem Zxh (N:Nat) (a0:Array Value):ansV prog Zcm N Tryd.f84 [([],[2])] [.g a0 42] []=(bif (decide (0≤(num a0 0))&&decide ((num a0 0)≤6)&&(decide (0≤(num a0 1))&&decide ((num a0 1)≤6))) then (nodeI (foldI (Zeu prog a0) (cellsL (num a0 0) (num a0 1) 36) (0:Int)) (fun x=>Zi3 prog N a0 x) (fun x:Empty=>nomatch x))
  else (none)):=by
 refine Eq.trans (b:=(bif (decide (0≤(num a0 0))&&decide ((num a0 0)≤6)&&(decide (0≤(num a0 1))&&decide ((num a0 1)≤6))) then (bindI (foldI (fun (x0:Int) (hb:BS)=>stepI prog Zcm N (cAt (codeOf Tryd.f84) [1,1,0,1,0,0]) (pAt (mkPlan (codeOf Tryd.f84) [([],[2])]).1 [1,1,0,1,0]) 11 [2] [7] [(4,7)] (Zdc a0) [.i .i64 (x0)] hb) (cellsL (num a0 0) (num a0 1) 36) ([.row #[.int .u64 (0:Int)] 23]:BS)) (fun hb=>(kBlock 0 (kSeq (veC prog Zcm N (cAt (codeOf Tryd.f84) [1,1,1]) (pAt (mkPlan (codeOf Tryd.f84) [([],[2])]).1 [1,1,1]) (SV×Eff×Bool)) (finK prog [] [.tmp 2]))) .normal (leftI [2] (Zdc a0) hb)) (fun e hb=>(kBlock 0 (kSeq (veC prog Zcm N (cAt (codeOf Tryd.f84) [1,1,1]) (pAt (mkPlan (codeOf Tryd.f84) [([],[2])]).1 [1,1,1]) (SV×Eff×Bool)) (finK prog [] [.tmp 2]))) e (leftI [2] (Zdc a0) hb)))
  else (none))) (by kernel_rfl) ?_
 simp only [Zzh N a0]
theorem Zwy (a0:Array Value) (h_a0:WT prog 42 a0) (hg:((decide (0≤num a0 0)&&decide (num a0 0≤6)&&(decide (0≤num a0 1)&&decide (num a0 1≤6))))=true):ansV prog Zcm 1000 Tryd.f84 [([],[2])] [.g a0 42] []=some (.a (.i .u64 (gridI (num a0 0) (num a0 1) 36)),.none,true):=by
 refine (Zxh 1000 a0).trans ?_
 have h:=Ykp (X:=Empty) (g:=Zeu prog a0) (fun b k=>orI b (oneI k)) (wd:=num a0 0) (hi:=num a0 1) (fun s k hk _=>by
  have h0:decide (0≤(k:Int))=true:=decide_eq_true (by omega)
  simp only [Zeu,h0,cond_true,Ygn]
  rfl) (0:Int)
 simp only [hg,cond_true,h]
 rfl
def Zfo:Con:=fun args h=>match args,h with
 | [.g a0 42],[]=>some (.a (.i .u64 (gridI (num a0 0) (num a0 1) 36)),.none,(decide (0≤num a0 0)&&decide (num a0 0≤6)&&(decide (0≤num a0 1)&&decide (num a0 1≤6))))
 | _,_=>none
theorem Zlq:EntX prog 84:=Zag (fn:=Tryd.f84) (by kernel_rfl) (by kernel_rfl) (by kernel_rfl)
theorem Zo7:ConOkX mn prog 84 Zfo:=(Zah (N:=1000) (by kernel_rfl) (mkΓx_cX (Zad Zoc) Zk6 (mkΓx_nX Zns Zl7 (mkΓx_iX Ztj Zkh mkΓx_nilX))) (fn:=Tryd.f84) (by kernel_rfl) (by kernel_rfl) [([],[2])]).of (by
 intro ρ h w args vals r e hA hH hr
 unfold Zfo at hr
 split at hr
 ·rename_i a0
  obtain ⟨rfl,hg⟩:=Prod.mk.inj (Option.some.inj hr)
  obtain ⟨rfl,hg2⟩:=Prod.mk.inj hg
  exact Zwy a0 (hA.wt 0 rfl) hg2
 ·cases hr)
theorem Zyi {S:Array Value} {k:Nat} (hk:k<36):Zav S (k:Int)=bitI (num S 2) k:=by
 have h:=bit_test (c:=num S 2) (j:=k) (by omega)
 rw [← h,← Ygn]
 rfl
theorem Yl6 {S:Array Value} (hS:WT prog 42 S) {k:Nat} (hk:k<36):Zcv (k:Int) S=bitI (num S 2) k:=by
 have h:=bit_shr (c:=num S 2) (land_of hS) (k:=k) (by omega)
 rw [← h]
 unfold Zcv
 rw [u64w hk,Int.toNat_natCast]
theorem land_dry {S:Array Value} (hS:WT prog 42 S) {k:Nat} (hk:k<36):Zav S (k:Int)=Zcv (k:Int) S:=by rw [Zyi hk,Yl6 hS hk]
end
end Go.Proofs.YtflnjkpejbohjaaDoor
