/- The bits of all cells, in company. -/
import Derived.Test.YtohnggmlmglhmaaGreatDoorProg
import Derived.Test.YtohnggmlmglhmaaGreatDoorCxEach
namespace Go.Proofs.YtohnggmlmglhmaaGreatDoor
open Go.ChangeShapes Go.WideShapes Go.ChangeAt Go.RowKit Ve Vc
open Tryz renaming prog → PZ
open IntKind (i64)
set_option linter.unusedVariables false
set_option linter.unusedSimpArgs false
set_option maxRecDepth 100000
noncomputable section
variable {mn:Md}
theorem Ypt (S:Array Value) (c:Int):Zao S c=Zax c S:=by
 unfold Zao Zax Zaa
 by_cases h0:0≤c
 ·have e1:∀ x y:Int,0≤x→0≤y→Zas S #[.int .i64 x,.int .i64 y]=(bif decide (x<i64.wrap (num S 0)) then decide (y<i64.wrap (num S 1)) else false):=fun x y hx hy=>by
   show (bif decide (x ≥ 0) then (bif decide (x<i64.wrap (num S 0)) then (bif decide (y ≥ 0) then decide (y<i64.wrap (num S 1)) else false) else false) else false)=_
   rw [Q3 (show x ≥ 0 from hx),Q3 (show y ≥ 0 from hy)]
   cases decide (x<i64.wrap (num S 0))<;>rfl
  by_cases h1:c≤35
  ·have hx:0≤c.tmod 6:=Int.tmod_nonneg 6 h0
   have hy:0≤i64.wrap (c.tdiv 6):=by
    have:c.tdiv 6=c / 6:=Int.tdiv_eq_ediv_of_nonneg h0
    rw [this,IntWalk.i64_in _ (by omega)];omega
   rw [e1 _ _ hx hy,Q3 (show c ≥ 0 from h0),Q3 (show c<36 by omega),Q3 h1]
   rfl
  ·rw [Q4 (show ¬ c<36 by omega),Q4 h1];cases decide (c ≥ 0)<;>rfl
 ·rw [Q4 (show ¬ c ≥ 0 from h0)];rfl
theorem Yhu {S:Array Value} {c:Int} (h:Zax c S=true):0≤c∧c≤35:=by
 unfold Zax Zaa at h
 cases h0:decide (c ≥ 0) with
 | false=>rw [h0] at h;exact nomatch h
 | true=>
  cases h1:decide (c≤35) with
  | false=>rw [h0,h1] at h;exact nomatch h
  | true=>exact ⟨of_decide_eq_true h0,of_decide_eq_true h1⟩
theorem u64_c {c:Int} (hc:0≤c∧c≤35):IntKind.u64.wrap c=c:=by rw [IntKind.wrap_u64];omega
theorem wt_land {T:TypeId} (hL:lay PZ T=0::0::7::List.replicate 360 4) {S:Array Value} (h:WT PZ T S):0≤num S 2∧num S 2≤18446744073709551615:=(h.int (o:=2) (k:=.u64) (by rw [hL];rfl)).2
theorem Yhz:lay PZ 41=0::0::7::List.replicate 360 4:=by kernel_rfl
theorem land_of {S:Array Value} (h:WT PZ 41 S):0≤num S 2∧num S 2≤18446744073709551615:=wt_land Yhz h
theorem Ykf {S:Array Value} (h:WT PZ 41 S) {k:Nat} (hk:k<36):Zax (k:Int) S=inC (num S 0) (num S 1) k:=by
 obtain ⟨s0,a0,b0⟩:=h.int (o:=0) (k:=.i8) (by kernel_rfl)
 obtain ⟨s1,a1,b1⟩:=h.int (o:=1) (k:=.i8) (by kernel_rfl)
 have e1:IntKind.i8.min = -128:=rfl
 have e2:IntKind.i8.max=127:=rfl
 unfold Zax Zaa inC
 rw [Q3 (show (k:Int) ≥ 0 by omega),Q3 (show (k:Int)≤35 by omega),IntWalk.i64_in (num S 0) (by omega),IntWalk.i64_in (num S 1) (by omega)]
 have h1:((k:Int)).tmod 6=((k % 6:Nat):Int):=by rw [Int.tmod_eq_emod_of_nonneg (by omega)];omega
 have h2:((k:Int)).tdiv 6=((k / 6:Nat):Int):=by rw [Int.tdiv_eq_ediv_of_nonneg (by omega)];omega
 rw [h1,h2,IntWalk.i64_in _ (by omega)]
 simp only [Q1,Q2]
 cases decide (((k % 6:Nat):Int)<num S 0)<;>rfl
theorem Yjx (k:Nat):Zea (k:Int)=oneI k:=by unfold Zea oneI;rw [Q9]
theorem u64w {k:Nat} (hk:k<36):IntKind.u64.wrap (k:Int)=(k:Int):=u64_c (by omega)
def Zfj (a0:Array Value):St:=(⟨.a (.w 0) :: .a (.u) :: .a (.i .u64 (0:Int)) :: .a (.i .u64 (0:Int)) :: .a (.i .i64 (0:Int))::us 13 ([]),[.row a0 41],[]⟩:St)
def Zg9:Int×Int→LS
 | (y0_3,y0_4)=>([.a (.i .u64 (y0_3)),.a (.i .i64 (y0_4))],[])
def Zl6:Int×Int→Exit×LS
 | t=>((.exit 0),Zg9 t)
def Zdr (P : Program) (a0 : Array Value) : Int × Int → Option (Stp (Int × Int) (Int × Int))
 | (y0_3, y0_4) => bif decide (y0_4 < (36 : Int)) then (bif (Zax y0_4 a0) then (bif decide (0 ≤ (IntKind.u64.wrap y0_4)) then (some (.more ((IntKind.u64.wrap (BitVec.ofInt IntKind.u64.bits y0_3 ||| BitVec.ofInt IntKind.u64.bits (IntKind.u64.wrap ((1 : Int) * 2 ^ (min ((IntKind.u64.wrap y0_4)).toNat IntKind.u64.bits)))).toNat), (i64.wrap (y0_4 + (1 : Int))))))
    else (none))
   else (some (.more (y0_3, (i64.wrap (y0_4 + (1 : Int)))))))
  else (some (.done (y0_3, y0_4)))
def Uej:=(Uaf (codeOf Tryz.f55) [([3,4],[])]).1
theorem Ycs (N:Nat) (a0:Array Value):∀ t:Int×Int,Uag PZ (mkΓ [(24,con Zd5)]) N (cAt (codeOf Tryz.f55) [1,1,0,1,0,0]) (pAt Uej [1,1,0,1,0]) [3,4] [] (Zfj a0) (Zg9 t)=mapS Zg9 Zl6 (Zdr PZ a0 t):=by
 rintro ⟨y0_3,y0_4⟩
 refine Eq.trans (b:=(bif decide (y0_4<(36:Int)) then (bif (Zax y0_4 a0) then (bif decide (0≤(IntKind.u64.wrap y0_4)) then (some (.more ([.a (.i .u64 (IntKind.u64.wrap (BitVec.ofInt IntKind.u64.bits y0_3 ||| BitVec.ofInt IntKind.u64.bits (IntKind.u64.wrap ((1:Int)*2^(min ((IntKind.u64.wrap y0_4)).toNat IntKind.u64.bits)))).toNat)),.a (.i .i64 (i64.wrap (y0_4+(1:Int))))],[])))
    else (none))
   else (some (.more ([.a (.i .u64 (y0_3)),.a (.i .i64 (i64.wrap (y0_4+(1:Int))))],[]))))
  else (some (.done ((.exit 0),([.a (.i .u64 (y0_3)),.a (.i .i64 (y0_4))],[])))))) (by kernel_rfl) ?_
 simp only [Zdr,Zaz,Zay,Za1,Za0,Zg9,Zl6]
def Zkc (P:Program) (N:Nat) (a0:Array Value) (z0_3:Int) (z0_4:Int):Option (SV×Eff×Bool):=some (.a (.i .u64 (z0_3)),.none,true)
def Uft (N:Nat) (a0:Array Value):=(Uan 0 (kSeq (veC PZ (mkΓ [(24,con Zd5)]) N (cAt (codeOf Tryz.f55) [1,1,1]) (pAt Uej [1,1,1]) (SV×Eff×Bool)) (finK PZ [.row a0 41] [.tmp 2])))
theorem Zr6 (N:Nat) (a0:Array Value) (z0_3:Int) (z0_4:Int):(Uft N a0) (.exit 0) (left (writes (cAt (codeOf Tryz.f55) [1,1,0,1,0,0])) [3,4] [] (Zfj a0) ([.a (.i .u64 (z0_3)),.a (.i .i64 (z0_4))],[]))=Zkc PZ N a0 z0_3 z0_4:=by
 refine Eq.trans (b:=(some (.a (.i .u64 (z0_3)),.none,true))) (by kernel_rfl) ?_
 rfl
theorem Yct (N:Nat) (a0:Array Value):Uah (Uaa (Uag PZ (mkΓ [(24,con Zd5)]) N (cAt (codeOf Tryz.f55) [1,1,0,1,0,0]) (pAt Uej [1,1,0,1,0]) [3,4] [] (Zfj a0)) N ([.a (.i .u64 (0:Int)),.a (.i .i64 (0:Int))],[])) (fun e s=>(Uft N a0) e (left (writes (cAt (codeOf Tryz.f55) [1,1,0,1,0,0])) [3,4] [] (Zfj a0) s))=Uak (Uaa (Zdr PZ a0) N ((0:Int),(0:Int))) (fun x=>Zkc PZ N a0 x.1 x.2):=by
 refine Zbd Zg9 Zl6 _ _ (Ycs N a0) N ((0:Int),(0:Int)) _ _ ?_
 intro x;exact Zr6 N a0 x.1 x.2
theorem Ya1 (N:Nat) (a0:Array Value):ansV PZ (mkΓ [(24,con Zd5)]) N Tryz.f55 [([3,4],[])] [.w 0] [.row a0 41]=(Uak (Uaa (Zdr PZ a0) N ((0:Int),(0:Int))) (fun x=>Zkc PZ N a0 x.1 x.2)):=by
 refine Eq.trans (b:=(Uah (Uaa (Uag PZ (mkΓ [(24,con Zd5)]) N (cAt (codeOf Tryz.f55) [1,1,0,1,0,0]) (pAt Uej [1,1,0,1,0]) [3,4] [] (Zfj a0)) N ([.a (.i .u64 (0:Int)),.a (.i .i64 (0:Int))],[])) (fun e s=>(Uft N a0) e (left (writes (cAt (codeOf Tryz.f55) [1,1,0,1,0,0])) [3,4] [] (Zfj a0) s)))) (by kernel_rfl) ?_
 simp only [Yct N a0]
theorem Zyo (a0:Array Value) (h_a0:WT PZ 41 a0) (hg:(true)=true):ansV PZ (mkΓ [(24,con Zd5)]) 1000 Tryz.f55 [([3,4],[])] [.w 0] [.row a0 41]=some (.a (.i .u64 (Uaz (num a0 0) (num a0 1) 36)),.none,true):=by
 refine (Ya1 1000 a0).trans ?_
 have h:=Zt3 (g:=Zdr PZ a0) (fun s k=>(s,(k:Int))) (fun b k=>if inC (num a0 0) (num a0 1) k then orI b (oneI k) else b) (m:=36) (t:=(0:Int)) (x:=(Uaz (num a0 0) (num a0 1) 36,36)) (N:=1000) (fun k s hk _=>by
  have h1:decide ((k:Int)<36)=true:=Q3 (by omega)
  have h0:decide (0≤(k:Int))=true:=Q3 (by omega)
  have h3:i64.wrap ((k:Int)+1)=((k+1:Nat):Int):=by rw [IntWalk.i64_in _ (by omega)];omega
  simp only [Zdr,h1,Q1,Ykf h_a0 hk,u64w hk,h0,h3,Q9]
  cases inC (num a0 0) (num a0 1) k<;>rfl) (by
  have h1:decide (((36:Nat):Int)<36)=false:=by decide
  simp only [Zdr,h1,Q2]
  rfl) (by omega)
 have h':Uaa (Zdr PZ a0) 1000 ((0:Int),(0:Int))=some (Uaz (num a0 0) (num a0 1) 36,(36:Int)):=h
 rw [h']
 rfl
def Zig:Con:=fun args h=>match args,h with
 | [.w 0],[.row a0 41]=>some (.a (.i .u64 (Uaz (num a0 0) (num a0 1) 36)),.none,true)
 | _,_=>none
theorem Zgx:EntX PZ 55:=Zag (fn:=Tryz.f55) (by kernel_rfl) (by kernel_rfl) (by kernel_rfl)
theorem Zje:Uab mn PZ 55 Zig:=(Zaf (N:=1000) (by kernel_rfl) (mkΓ_consX (Zac Zy1) Zrf mkΓ_nilX) (fn:=Tryz.f55) (by kernel_rfl) (by kernel_rfl) [([3,4],[])]).of (by
 intro ρ h w args vals r e hA hH hr
 unfold Zig at hr
 split at hr
 ·rename_i a0
  obtain ⟨rfl,rfl,hg2⟩:=BQi hr
  exact Zyo a0 (hH.wt 0 rfl) hg2
 ·cases hr)
def Zgf:Cons:=(mkΓx [(36,con Zi3)] [(94,Zjd)] [(114,Zem)])
def Zdt (a0:Array Value):St:=(⟨.a (.g a0 41) :: .a (.w 0) :: .a (.i .u64 (0:Int)) :: .a (.w 2) :: .a (.u) :: .a (.g a0 41) :: .a (.c 114 [6,8])::us 6 ([]),[.row a0 41,.no,.row #[.int .u64 (0:Int)] 23,.no,.no,.no,.row #[.int .i64 (num a0 1)] 2,.no,.row #[.int .i64 (num a0 0)] 2,.no,.no],[]⟩:St)
def Zjh:Int→BS
 | r0_2=>([.row #[.int .u64 (r0_2)] 23]:BS)
def Zl7:Empty→Exit×BS:=fun x=>nomatch x
def Zfh (P:Program) (a0:Array Value) (x0:Int):Int→Option (Stp (Int) Empty)
 | r0_2=>bif decide (0≤x0) then (some (.more (IntKind.u64.wrap (BitVec.ofInt IntKind.u64.bits r0_2 ||| BitVec.ofInt IntKind.u64.bits (Zea x0)).toNat)))
  else (none)
def Ud8:=(Uaf (codeOf Tryz.f67) [([],[2])]).1
theorem Yby (N:Nat) (a0:Array Value) (x0:Int):∀ t:Int,Uel PZ Zgf N (cAt (codeOf Tryz.f67) [1,1,0,1,0,0]) (pAt Ud8 [1,1,0,1,0]) 11 [2] [7] [(4,7)] (Zdt a0) [.i .i64 (x0)] (Zjh t)=mapS Zjh Zl7 (Zfh PZ a0 x0 t):=by
 rintro r0_2
 refine Eq.trans (b:=(bif decide (0≤x0) then (some (.more ([.row #[.int .u64 (IntKind.u64.wrap (BitVec.ofInt IntKind.u64.bits r0_2 ||| BitVec.ofInt IntKind.u64.bits (Zea x0)).toNat)] 23]:BS)))
  else (none))) (by kernel_rfl) ?_
 simp only [Zfh,Zaz,Zay,Za1,Za0,Zjh,Zl7]
def Zku (P:Program) (N:Nat) (a0:Array Value) (q0_2:Int):Option (SV×Eff×Bool):=some (.a (.i .u64 (q0_2)),.none,true)
def Uc5 (N:Nat):=(Uan 0 (kSeq (veC PZ Zgf N (cAt (codeOf Tryz.f67) [1,1,1]) (pAt Ud8 [1,1,1]) (SV×Eff×Bool)) (finK PZ [] [.tmp 2])))
theorem Ztl (N:Nat) (a0:Array Value) (q0_2:Int):(Uc5 N) .normal (Ua5 [2] (Zdt a0) ([.row #[.int .u64 (q0_2)] 23]:BS))=Zku PZ N a0 q0_2:=by
 refine Eq.trans (b:=(some (.a (.i .u64 (q0_2)),.none,true))) (by kernel_rfl) ?_
 rfl
theorem Ycv (N:Nat) (a0:Array Value):Ucr (Uau (fun (x0:Int) (hb:BS)=>Uel PZ Zgf N (cAt (codeOf Tryz.f67) [1,1,0,1,0,0]) (pAt Ud8 [1,1,0,1,0]) 11 [2] [7] [(4,7)] (Zdt a0) [.i .i64 (x0)] hb) (Uar (num a0 0) (num a0 1) 36) ([.row #[.int .u64 (0:Int)] 23]:BS)) (fun hb=>(Uc5 N) .normal (Ua5 [2] (Zdt a0) hb)) (fun e hb=>(Uc5 N) e (Ua5 [2] (Zdt a0) hb))=Ufh (Uau (Zfh PZ a0) (Uar (num a0 0) (num a0 1) 36) (0:Int)) (fun x=>Zku PZ N a0 x) (fun x:Empty=>nomatch x):=by
 refine Yde Zjh Zl7 _ _ (fun y t=>Yby N a0 y t) _ (0:Int) _ _ _ _ ?_ ?_
 ·intro x;exact Ztl N a0 x
 ·intro x;exact nomatch x
theorem Zz4 (N:Nat) (a0:Array Value):ansV PZ Zgf N Tryz.f67 [([],[2])] [.g a0 41] []=(bif (decide (0≤(num a0 0))&&decide ((num a0 0)≤6)&&(decide (0≤(num a0 1))&&decide ((num a0 1)≤6))) then (Ufh (Uau (Zfh PZ a0) (Uar (num a0 0) (num a0 1) 36) (0:Int)) (fun x=>Zku PZ N a0 x) (fun x:Empty=>nomatch x))
  else (none)):=by
 refine Eq.trans (b:=(bif (decide (0≤(num a0 0))&&decide ((num a0 0)≤6)&&(decide (0≤(num a0 1))&&decide ((num a0 1)≤6))) then (Ucr (Uau (fun (x0:Int) (hb:BS)=>Uel PZ Zgf N (cAt (codeOf Tryz.f67) [1,1,0,1,0,0]) (pAt Ud8 [1,1,0,1,0]) 11 [2] [7] [(4,7)] (Zdt a0) [.i .i64 (x0)] hb) (Uar (num a0 0) (num a0 1) 36) ([.row #[.int .u64 (0:Int)] 23]:BS)) (fun hb=>(Uc5 N) .normal (Ua5 [2] (Zdt a0) hb)) (fun e hb=>(Uc5 N) e (Ua5 [2] (Zdt a0) hb)))
  else (none))) (by kernel_rfl) ?_
 simp only [Ycv N a0]
theorem Zxo (a0:Array Value) (h_a0:WT PZ 41 a0) (hg:((decide (0≤num a0 0)&&decide (num a0 0≤6)&&(decide (0≤num a0 1)&&decide (num a0 1≤6))))=true):ansV PZ Zgf 1000 Tryz.f67 [([],[2])] [.g a0 41] []=some (.a (.i .u64 (Uaz (num a0 0) (num a0 1) 36)),.none,true):=by
 refine (Zz4 1000 a0).trans ?_
 have h:=Ygn (X:=Empty) (g:=Zfh PZ a0) (fun b k=>orI b (oneI k)) (wd:=num a0 0) (hi:=num a0 1) (fun s k hk _=>by
  have h0:decide (0≤(k:Int))=true:=Q3 (by omega)
  simp only [Zfh,h0,Q1,Yjx]
  rfl) (0:Int)
 simp only [hg,Q1,h]
 rfl
def Zf4:Con:=fun args h=>match args,h with
 | [.g a0 41],[]=>some (.a (.i .u64 (Uaz (num a0 0) (num a0 1) 36)),.none,(decide (0≤num a0 0)&&decide (num a0 0≤6)&&(decide (0≤num a0 1)&&decide (num a0 1≤6))))
 | _,_=>none
theorem Znp:EntX PZ 67:=Zag (fn:=Tryz.f67) (by kernel_rfl) (by kernel_rfl) (by kernel_rfl)
theorem Zrd:Uab mn PZ 67 Zf4:=(Zaf (N:=1000) (by kernel_rfl) (mkΓx_cX (Zac Zw7) Zrg (mkΓx_nX Zpp Znx (mkΓx_iX Zm2 Zlv mkΓx_nilX))) (fn:=Tryz.f67) (by kernel_rfl) (by kernel_rfl) [([],[2])]).of (by
 intro ρ h w args vals r e hA hH hr
 unfold Zf4 at hr
 split at hr
 ·rename_i a0
  obtain ⟨rfl,rfl,hg2⟩:=BQi hr
  exact Zxo a0 (hA.wt 0 rfl) hg2
 ·cases hr)
theorem Ygi {S:Array Value} {k:Nat} (hk:k<36):Za9 S (k:Int)=bitI (num S 2) k:=by
 have h:=bit_test (c:=num S 2) (j:=k) (by omega)
 rw [← h,← Yjx]
 rfl
theorem Ylc {S:Array Value} (hS:WT PZ 41 S) {k:Nat} (hk:k<36):Zcb (k:Int) S=bitI (num S 2) k:=by
 have h:=Ypr (c:=num S 2) (land_of hS) (k:=k) (by omega)
 rw [← h]
 unfold Zcb
 rw [u64w hk,Q9]
theorem Ymv {S:Array Value} (hS:WT PZ 41 S) {k:Nat} (hk:k<36):Za9 S (k:Int)=Zcb (k:Int) S:=by rw [Ygi hk,Ylc hS hk]
end
end Go.Proofs.YtohnggmlmglhmaaGreatDoor
