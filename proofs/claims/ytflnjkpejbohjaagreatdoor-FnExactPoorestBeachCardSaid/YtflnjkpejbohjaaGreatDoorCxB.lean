/- The bits of all cells, in company. -/
import Derived.Test.YtflnjkpejbohjaaGreatDoorProg
import Derived.Test.YtflnjkpejbohjaaGreatDoorCxEachWater
namespace Go.Proofs.YtflnjkpejbohjaaGreatDoor
open Go.ChangeShapes Go.WideShapes Go.ChangeAt Go.RowKit Ve Vc
open Tryz renaming prog → PZ
open IntKind (i64)
set_option linter.unusedVariables false
set_option linter.unusedSimpArgs false
set_option maxRecDepth 100000
noncomputable section
variable {mn:Md}
theorem Ymh (S:Array Value) (c:Int):Zaj S c=Za1 c S:=by
 unfold Zaj Za1 Zaa
 by_cases h0:0≤c
 ·have e1:∀ x y:Int,0≤x→0≤y→Zap S #[.int .i64 x,.int .i64 y]=(bif decide (x<i64.wrap (num S 0)) then decide (y<i64.wrap (num S 1)) else false):=fun x y hx hy=>by
   show (bif decide (x ≥ 0) then (bif decide (x<i64.wrap (num S 0)) then (bif decide (y ≥ 0) then decide (y<i64.wrap (num S 1)) else false) else false) else false)=_
   rw [decide_eq_true (show x ≥ 0 from hx),decide_eq_true (show y ≥ 0 from hy)]
   cases decide (x<i64.wrap (num S 0))<;>rfl
  by_cases h1:c≤35
  ·have hx:0≤c.tmod 6:=Int.tmod_nonneg 6 h0
   have hy:0≤i64.wrap (c.tdiv 6):=by
    have:c.tdiv 6=c / 6:=Int.tdiv_eq_ediv_of_nonneg h0
    rw [this,IntWalk.i64_in _ (by omega)];omega
   rw [e1 _ _ hx hy,decide_eq_true (show c ≥ 0 from h0),decide_eq_true (show c<36 by omega),decide_eq_true h1]
   rfl
  ·rw [decide_eq_false (show ¬ c<36 by omega),decide_eq_false h1];cases decide (c ≥ 0)<;>rfl
 ·rw [decide_eq_false (show ¬ c ≥ 0 from h0)];rfl
theorem Yjl {S:Array Value} {c:Int} (h:Za1 c S=true):0≤c∧c≤35:=by
 unfold Za1 Zaa at h
 cases h0:decide (c ≥ 0) with
 | false=>rw [h0] at h;exact nomatch h
 | true=>
  cases h1:decide (c≤35) with
  | false=>rw [h0,h1] at h;exact nomatch h
  | true=>exact ⟨of_decide_eq_true h0,of_decide_eq_true h1⟩
theorem u64_c {c:Int} (hc:0≤c∧c≤35):IntKind.u64.wrap c=c:=by rw [IntKind.wrap_u64];omega
theorem wt_land {T:TypeId} (hL:lay PZ T=0::0::7::List.replicate 360 4) {S:Array Value} (h:WT PZ T S):0≤num S 2∧num S 2≤18446744073709551615:=(h.int (o:=2) (k:=.u64) (by rw [hL];rfl)).2
theorem Yh2:lay PZ 41=0::0::7::List.replicate 360 4:=by kernel_rfl
theorem land_of {S:Array Value} (h:WT PZ 41 S):0≤num S 2∧num S 2≤18446744073709551615:=wt_land Yh2 h
theorem Yj3 {S:Array Value} (h:WT PZ 41 S) {k:Nat} (hk:k<36):Za1 (k:Int) S=inC (num S 0) (num S 1) k:=by
 obtain ⟨s0,a0,b0⟩:=h.int (o:=0) (k:=.i8) (by kernel_rfl)
 obtain ⟨s1,a1,b1⟩:=h.int (o:=1) (k:=.i8) (by kernel_rfl)
 have e1:IntKind.i8.min = -128:=rfl
 have e2:IntKind.i8.max=127:=rfl
 unfold Za1 Zaa inC
 rw [decide_eq_true (show (k:Int) ≥ 0 by omega),decide_eq_true (show (k:Int)≤35 by omega),IntWalk.i64_in (num S 0) (by omega),IntWalk.i64_in (num S 1) (by omega)]
 have h1:((k:Int)).tmod 6=((k % 6:Nat):Int):=by rw [Int.tmod_eq_emod_of_nonneg (by omega)];omega
 have h2:((k:Int)).tdiv 6=((k / 6:Nat):Int):=by rw [Int.tdiv_eq_ediv_of_nonneg (by omega)];omega
 rw [h1,h2,IntWalk.i64_in _ (by omega)]
 simp only [cond_true,cond_false]
 cases decide (((k % 6:Nat):Int)<num S 0)<;>rfl
theorem Yga (k:Nat):Zd8 (k:Int)=oneI k:=by unfold Zd8 oneI;rw [Int.toNat_natCast]
theorem u64w {k:Nat} (hk:k<36):IntKind.u64.wrap (k:Int)=(k:Int):=u64_c (by omega)
def Zev (a0:Array Value):St:=(⟨.a (.w 0) :: .a (.u) :: .a (.i .u64 (0:Int)) :: .a (.i .u64 (0:Int)) :: .a (.i .i64 (0:Int))::us 13 ([]),[.row a0 41],[]⟩:St)
def Zf5:Int×Int→LS
 | (y0_3,y0_4)=>([.a (.i .u64 (y0_3)),.a (.i .i64 (y0_4))],[])
def Zkt:Int×Int→Exit×LS
 | t=>((.exit 0),Zf5 t)
def Zc8 (P : Program) (a0 : Array Value) : Int × Int → Option (Stp (Int × Int) (Int × Int))
 | (y0_3, y0_4) => bif decide (y0_4 < (36 : Int)) then (bif (Za1 y0_4 a0) then (bif decide (0 ≤ (IntKind.u64.wrap y0_4)) then (some (.more ((IntKind.u64.wrap (BitVec.ofInt IntKind.u64.bits y0_3 ||| BitVec.ofInt IntKind.u64.bits (IntKind.u64.wrap ((1 : Int) * 2 ^ (min ((IntKind.u64.wrap y0_4)).toNat IntKind.u64.bits)))).toNat), (i64.wrap (y0_4 + (1 : Int))))))
    else (none))
   else (some (.more (y0_3, (i64.wrap (y0_4 + (1 : Int)))))))
  else (some (.done (y0_3, y0_4)))
theorem Zyg (N:Nat) (a0:Array Value):∀ t:Int×Int,Uah PZ (mkΓ [(62,con Zcg)]) N (cAt (codeOf Tryz.f40) [1,1,0,1,0,0]) (pAt (Uaa (codeOf Tryz.f40) [([3,4],[])]).1 [1,1,0,1,0]) [3,4] [] (Zev a0) (Zf5 t)=mapS Zf5 Zkt (Zc8 PZ a0 t):=by
 rintro ⟨y0_3,y0_4⟩
 refine Eq.trans (b:=(bif decide (y0_4<(36:Int)) then (bif (Za1 y0_4 a0) then (bif decide (0≤(IntKind.u64.wrap y0_4)) then (some (.more ([.a (.i .u64 (IntKind.u64.wrap (BitVec.ofInt IntKind.u64.bits y0_3 ||| BitVec.ofInt IntKind.u64.bits (IntKind.u64.wrap ((1:Int)*2^(min ((IntKind.u64.wrap y0_4)).toNat IntKind.u64.bits)))).toNat)),.a (.i .i64 (i64.wrap (y0_4+(1:Int))))],[])))
    else (none))
   else (some (.more ([.a (.i .u64 (y0_3)),.a (.i .i64 (i64.wrap (y0_4+(1:Int))))],[]))))
  else (some (.done ((.exit 0),([.a (.i .u64 (y0_3)),.a (.i .i64 (y0_4))],[])))))) (by kernel_rfl) ?_
 simp only [Zc8,Zax,Za0,Zay,Zaz,Zf5,Zkt]
def Ziz (P:Program) (N:Nat) (a0:Array Value) (z0_3:Int) (z0_4:Int):Option (SV×Eff×Bool):=some (.a (.i .u64 (z0_3)),.none,true)
theorem Zpl (N:Nat) (a0:Array Value) (z0_3:Int) (z0_4:Int):(Uac 0 (kSeq (veC PZ (mkΓ [(62,con Zcg)]) N (cAt (codeOf Tryz.f40) [1,1,1]) (pAt (Uaa (codeOf Tryz.f40) [([3,4],[])]).1 [1,1,1]) (SV×Eff×Bool)) (finK PZ [.row a0 41] [.tmp 2]))) (.exit 0) (left (writes (cAt (codeOf Tryz.f40) [1,1,0,1,0,0])) [3,4] [] (Zev a0) ([.a (.i .u64 (z0_3)),.a (.i .i64 (z0_4))],[]))=Ziz PZ N a0 z0_3 z0_4:=by
 refine Eq.trans (b:=(some (.a (.i .u64 (z0_3)),.none,true))) (by kernel_rfl) ?_
 rfl
theorem Zys (N:Nat) (a0:Array Value):Uaj (Uab (Uah PZ (mkΓ [(62,con Zcg)]) N (cAt (codeOf Tryz.f40) [1,1,0,1,0,0]) (pAt (Uaa (codeOf Tryz.f40) [([3,4],[])]).1 [1,1,0,1,0]) [3,4] [] (Zev a0)) N ([.a (.i .u64 (0:Int)),.a (.i .i64 (0:Int))],[])) (fun e s=>(Uac 0 (kSeq (veC PZ (mkΓ [(62,con Zcg)]) N (cAt (codeOf Tryz.f40) [1,1,1]) (pAt (Uaa (codeOf Tryz.f40) [([3,4],[])]).1 [1,1,1]) (SV×Eff×Bool)) (finK PZ [.row a0 41] [.tmp 2]))) e (left (writes (cAt (codeOf Tryz.f40) [1,1,0,1,0,0])) [3,4] [] (Zev a0) s))=Uak (Uab (Zc8 PZ a0) N ((0:Int),(0:Int))) (fun x=>Ziz PZ N a0 x.1 x.2):=by
 refine Zbk Zf5 Zkt _ _ (Zyg N a0) N ((0:Int),(0:Int)) _ _ ?_
 intro x;exact Zpl N a0 x.1 x.2
theorem Zxn (N:Nat) (a0:Array Value):ansV PZ (mkΓ [(62,con Zcg)]) N Tryz.f40 [([3,4],[])] [.w 0] [.row a0 41]=(Uak (Uab (Zc8 PZ a0) N ((0:Int),(0:Int))) (fun x=>Ziz PZ N a0 x.1 x.2)):=by
 refine Eq.trans (b:=(Uaj (Uab (Uah PZ (mkΓ [(62,con Zcg)]) N (cAt (codeOf Tryz.f40) [1,1,0,1,0,0]) (pAt (Uaa (codeOf Tryz.f40) [([3,4],[])]).1 [1,1,0,1,0]) [3,4] [] (Zev a0)) N ([.a (.i .u64 (0:Int)),.a (.i .i64 (0:Int))],[])) (fun e s=>(Uac 0 (kSeq (veC PZ (mkΓ [(62,con Zcg)]) N (cAt (codeOf Tryz.f40) [1,1,1]) (pAt (Uaa (codeOf Tryz.f40) [([3,4],[])]).1 [1,1,1]) (SV×Eff×Bool)) (finK PZ [.row a0 41] [.tmp 2]))) e (left (writes (cAt (codeOf Tryz.f40) [1,1,0,1,0,0])) [3,4] [] (Zev a0) s)))) (by kernel_rfl) ?_
 simp only [Zys N a0]
theorem Zu4 (a0:Array Value) (h_a0:WT PZ 41 a0) (hg:(true)=true):ansV PZ (mkΓ [(62,con Zcg)]) 1000 Tryz.f40 [([3,4],[])] [.w 0] [.row a0 41]=some (.a (.i .u64 (Uat (num a0 0) (num a0 1) 36)),.none,true):=by
 refine (Zxn 1000 a0).trans ?_
 have h:=Zjn (g:=Zc8 PZ a0) (fun s k=>(s,(k:Int))) (fun b k=>if inC (num a0 0) (num a0 1) k then orI b (oneI k) else b) (m:=36) (t:=(0:Int)) (x:=(Uat (num a0 0) (num a0 1) 36,36)) (N:=1000) (fun k s hk _=>by
  have h1:decide ((k:Int)<36)=true:=decide_eq_true (by omega)
  have h0:decide (0≤(k:Int))=true:=decide_eq_true (by omega)
  have h3:i64.wrap ((k:Int)+1)=((k+1:Nat):Int):=by rw [IntWalk.i64_in _ (by omega)];omega
  simp only [Zc8,h1,cond_true,Yj3 h_a0 hk,u64w hk,h0,h3,Int.toNat_natCast]
  cases inC (num a0 0) (num a0 1) k<;>rfl) (by
  have h1:decide (((36:Nat):Int)<36)=false:=by decide
  simp only [Zc8,h1,cond_false]
  rfl) (by omega)
 have h':Uab (Zc8 PZ a0) 1000 ((0:Int),(0:Int))=some (Uat (num a0 0) (num a0 1) 36,(36:Int)):=h
 rw [h']
 rfl
def Zhd:Con:=fun args h=>match args,h with
 | [.w 0],[.row a0 41]=>some (.a (.i .u64 (Uat (num a0 0) (num a0 1) 36)),.none,true)
 | _,_=>none
theorem Zfx:EntX PZ 40:=Zaf (fn:=Tryz.f40) (by kernel_rfl) (by kernel_rfl) (by kernel_rfl)
theorem Zh0:Uad mn PZ 40 Zhd:=(Zah (N:=1000) (by kernel_rfl) (mkΓ_consX (Zad Zuv) Zon mkΓ_nilX) (fn:=Tryz.f40) (by kernel_rfl) (by kernel_rfl) [([3,4],[])]).of (by
 intro ρ h w args vals r e hA hH hr
 unfold Zhd at hr
 split at hr
 ·rename_i a0
  obtain ⟨rfl,hg⟩:=Prod.mk.inj (Option.some.inj hr)
  obtain ⟨rfl,hg2⟩:=Prod.mk.inj hg
  exact Zu4 a0 (hH.wt 0 rfl) hg2
 ·cases hr)
def Zcf:Cons:=(mkΓx [(52,con Zhw)] [(81,Zh2)] [(93,Zez)])
def Zc9 (a0:Array Value):St:=(⟨.a (.g a0 41) :: .a (.w 0) :: .a (.i .u64 (0:Int)) :: .a (.w 2) :: .a (.u) :: .a (.g a0 41) :: .a (.c 93 [6,8])::us 6 ([]),[.row a0 41,.no,.row #[.int .u64 (0:Int)] 23,.no,.no,.no,.row #[.int .i64 (num a0 1)] 2,.no,.row #[.int .i64 (num a0 0)] 2,.no,.no],[]⟩:St)
def Zh4:Int→BS
 | r0_2=>([.row #[.int .u64 (r0_2)] 23]:BS)
def Zkk:Empty→Exit×BS:=fun x=>nomatch x
def Zet (P:Program) (a0:Array Value) (x0:Int):Int→Option (Stp (Int) Empty)
 | r0_2=>bif decide (0≤x0) then (some (.more (IntKind.u64.wrap (BitVec.ofInt IntKind.u64.bits r0_2 ||| BitVec.ofInt IntKind.u64.bits (Zd8 x0)).toNat)))
  else (none)
theorem Zyf (N:Nat) (a0:Array Value) (x0:Int):∀ t:Int,Udw PZ Zcf N (cAt (codeOf Tryz.f67) [1,1,0,1,0,0]) (pAt (Uaa (codeOf Tryz.f67) [([],[2])]).1 [1,1,0,1,0]) 11 [2] [7] [(4,7)] (Zc9 a0) [.i .i64 (x0)] (Zh4 t)=mapS Zh4 Zkk (Zet PZ a0 x0 t):=by
 rintro r0_2
 refine Eq.trans (b:=(bif decide (0≤x0) then (some (.more ([.row #[.int .u64 (IntKind.u64.wrap (BitVec.ofInt IntKind.u64.bits r0_2 ||| BitVec.ofInt IntKind.u64.bits (Zd8 x0)).toNat)] 23]:BS)))
  else (none))) (by kernel_rfl) ?_
 simp only [Zet,Zax,Za0,Zay,Zaz,Zh4,Zkk]
def Zi6 (P:Program) (N:Nat) (a0:Array Value) (q0_2:Int):Option (SV×Eff×Bool):=some (.a (.i .u64 (q0_2)),.none,true)
theorem Zpp (N:Nat) (a0:Array Value) (q0_2:Int):(Uac 0 (kSeq (veC PZ Zcf N (cAt (codeOf Tryz.f67) [1,1,1]) (pAt (Uaa (codeOf Tryz.f67) [([],[2])]).1 [1,1,1]) (SV×Eff×Bool)) (finK PZ [] [.tmp 2]))) .normal (Ubh [2] (Zc9 a0) ([.row #[.int .u64 (q0_2)] 23]:BS))=Zi6 PZ N a0 q0_2:=by
 refine Eq.trans (b:=(some (.a (.i .u64 (q0_2)),.none,true))) (by kernel_rfl) ?_
 rfl
theorem Zy0 (N:Nat) (a0:Array Value):Uc9 (Uaz (fun (x0:Int) (hb:BS)=>Udw PZ Zcf N (cAt (codeOf Tryz.f67) [1,1,0,1,0,0]) (pAt (Uaa (codeOf Tryz.f67) [([],[2])]).1 [1,1,0,1,0]) 11 [2] [7] [(4,7)] (Zc9 a0) [.i .i64 (x0)] hb) (Uap (num a0 0) (num a0 1) 36) ([.row #[.int .u64 (0:Int)] 23]:BS)) (fun hb=>(Uac 0 (kSeq (veC PZ Zcf N (cAt (codeOf Tryz.f67) [1,1,1]) (pAt (Uaa (codeOf Tryz.f67) [([],[2])]).1 [1,1,1]) (SV×Eff×Bool)) (finK PZ [] [.tmp 2]))) .normal (Ubh [2] (Zc9 a0) hb)) (fun e hb=>(Uac 0 (kSeq (veC PZ Zcf N (cAt (codeOf Tryz.f67) [1,1,1]) (pAt (Uaa (codeOf Tryz.f67) [([],[2])]).1 [1,1,1]) (SV×Eff×Bool)) (finK PZ [] [.tmp 2]))) e (Ubh [2] (Zc9 a0) hb))=Uem (Uaz (Zet PZ a0) (Uap (num a0 0) (num a0 1) 36) (0:Int)) (fun x=>Zi6 PZ N a0 x) (fun x:Empty=>nomatch x):=by
 refine Zz8 Zh4 Zkk _ _ (fun y t=>Zyf N a0 y t) _ (0:Int) _ _ _ _ ?_ ?_
 ·intro x;exact Zpp N a0 x
 ·intro x;exact nomatch x
theorem Zws (N:Nat) (a0:Array Value):ansV PZ Zcf N Tryz.f67 [([],[2])] [.g a0 41] []=(bif (decide (0≤(num a0 0))&&decide ((num a0 0)≤6)&&(decide (0≤(num a0 1))&&decide ((num a0 1)≤6))) then (Uem (Uaz (Zet PZ a0) (Uap (num a0 0) (num a0 1) 36) (0:Int)) (fun x=>Zi6 PZ N a0 x) (fun x:Empty=>nomatch x))
  else (none)):=by
 refine Eq.trans (b:=(bif (decide (0≤(num a0 0))&&decide ((num a0 0)≤6)&&(decide (0≤(num a0 1))&&decide ((num a0 1)≤6))) then (Uc9 (Uaz (fun (x0:Int) (hb:BS)=>Udw PZ Zcf N (cAt (codeOf Tryz.f67) [1,1,0,1,0,0]) (pAt (Uaa (codeOf Tryz.f67) [([],[2])]).1 [1,1,0,1,0]) 11 [2] [7] [(4,7)] (Zc9 a0) [.i .i64 (x0)] hb) (Uap (num a0 0) (num a0 1) 36) ([.row #[.int .u64 (0:Int)] 23]:BS)) (fun hb=>(Uac 0 (kSeq (veC PZ Zcf N (cAt (codeOf Tryz.f67) [1,1,1]) (pAt (Uaa (codeOf Tryz.f67) [([],[2])]).1 [1,1,1]) (SV×Eff×Bool)) (finK PZ [] [.tmp 2]))) .normal (Ubh [2] (Zc9 a0) hb)) (fun e hb=>(Uac 0 (kSeq (veC PZ Zcf N (cAt (codeOf Tryz.f67) [1,1,1]) (pAt (Uaa (codeOf Tryz.f67) [([],[2])]).1 [1,1,1]) (SV×Eff×Bool)) (finK PZ [] [.tmp 2]))) e (Ubh [2] (Zc9 a0) hb)))
  else (none))) (by kernel_rfl) ?_
 simp only [Zy0 N a0]
theorem Zt6 (a0:Array Value) (h_a0:WT PZ 41 a0) (hg:((decide (0≤num a0 0)&&decide (num a0 0≤6)&&(decide (0≤num a0 1)&&decide (num a0 1≤6))))=true):ansV PZ Zcf 1000 Tryz.f67 [([],[2])] [.g a0 41] []=some (.a (.i .u64 (Uat (num a0 0) (num a0 1) 36)),.none,true):=by
 refine (Zws 1000 a0).trans ?_
 have h:=Ykv (X:=Empty) (g:=Zet PZ a0) (fun b k=>orI b (oneI k)) (wd:=num a0 0) (hi:=num a0 1) (fun s k hk _=>by
  have h0:decide (0≤(k:Int))=true:=decide_eq_true (by omega)
  simp only [Zet,h0,cond_true,Yga]
  rfl) (0:Int)
 simp only [hg,cond_true,h]
 rfl
def Zfm:Con:=fun args h=>match args,h with
 | [.g a0 41],[]=>some (.a (.i .u64 (Uat (num a0 0) (num a0 1) 36)),.none,(decide (0≤num a0 0)&&decide (num a0 0≤6)&&(decide (0≤num a0 1)&&decide (num a0 1≤6))))
 | _,_=>none
theorem Zll:EntX PZ 67:=Zaf (fn:=Tryz.f67) (by kernel_rfl) (by kernel_rfl) (by kernel_rfl)
theorem Zop:Uad mn PZ 67 Zfm:=(Zah (N:=1000) (by kernel_rfl) (mkΓx_cX (Zad Zvg) Zoo (mkΓx_nX Zni Zlv (mkΓx_iX Zs8 Zj0 mkΓx_nilX))) (fn:=Tryz.f67) (by kernel_rfl) (by kernel_rfl) [([],[2])]).of (by
 intro ρ h w args vals r e hA hH hr
 unfold Zfm at hr
 split at hr
 ·rename_i a0
  obtain ⟨rfl,hg⟩:=Prod.mk.inj (Option.some.inj hr)
  obtain ⟨rfl,hg2⟩:=Prod.mk.inj hg
  exact Zt6 a0 (hA.wt 0 rfl) hg2
 ·cases hr)
theorem Zxr {S:Array Value} {k:Nat} (hk:k<36):Zau S (k:Int)=bitI (num S 2) k:=by
 have h:=bit_test (c:=num S 2) (j:=k) (by omega)
 rw [← h,← Yga]
 rfl
theorem Ymj {S:Array Value} (hS:WT PZ 41 S) {k:Nat} (hk:k<36):Zcr (k:Int) S=bitI (num S 2) k:=by
 have h:=Ymn (c:=num S 2) (land_of hS) (k:=k) (by omega)
 rw [← h]
 unfold Zcr
 rw [u64w hk,Int.toNat_natCast]
theorem land_dry {S:Array Value} (hS:WT PZ 41 S) {k:Nat} (hk:k<36):Zau S (k:Int)=Zcr (k:Int) S:=by rw [Zxr hk,Ymj hS hk]
end
end Go.Proofs.YtflnjkpejbohjaaGreatDoor
