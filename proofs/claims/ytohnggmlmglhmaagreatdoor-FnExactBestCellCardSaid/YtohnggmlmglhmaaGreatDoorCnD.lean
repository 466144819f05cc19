/- Prospects of a plan that comes in, and more bottles given out. -/
import Derived.Test.YtohnggmlmglhmaaGreatDoorProg
import Derived.Test.YtohnggmlmglhmaaGreatDoorCnC
namespace Go.Proofs.YtohnggmlmglhmaaGreatDoor
open Go.ChangeShapes Go.WideShapes Go.ChangeAt Go.RowKit Ve Vc
open Tryz renaming prog → PZ
set_option linter.unusedVariables false
set_option linter.unusedSimpArgs false
set_option maxRecDepth 100000
noncomputable section
variable {mn:Md}
def prsV (a0:Array Value):Array Value:=((spl (#[.int .i64 (0:Int),.int .i64 (0:Int),.slice none 0 0]:Array Value) 0 (a0.extract 0 (0+2)).toList).setIfInBounds 2 (.slice none 0 0))
def prsR (P:Program) (a0:Array Value) (c:Int):Array Value:=(catR P sumL (a0.extract 2 (2+363)) (rowC P c) (num a0 0) (num a0 1) ((num a0 1).toNat+1))
def prsN (a0:Array Value):Nat:=((num a0 1).toNat+1)
def prsG (a0:Array Value) (c:Int):Bool:=(((okS (a0.extract 2 (2+363))&&(decide (0≤(num a0 0))&&decide ((num a0 0)<2)))&&(decide (0≤(num a0 1))&&decide ((num a0 1)≤14)))&&decide (c<68719476736))
def Zax:Cons:=(mkΓx [(79,con Zhh)] [(73,Zk2)] [(98,Zgs)])
def Za7 (a0:Array Value) (a1:Int) (g_et:Addr) (g_tb:Addr) (bS:Option (Option Addr)) (n_a0x365:Nat) (aS:Array Value):St:=(⟨.a (.r a0 73 [(365,2)]) :: .a (.i .u64 (a1)) :: .a (.w 3) :: .a (.u) :: .a (.w 4) :: .a (.w 5) :: .a (.u) :: .a (.i .u64 (a1)) :: .a (.c 98 [9])::us 16 ([]),[.gl 0 184 g_et 3000075,.gl 1 0 g_tb 1000000000,.sl (.came bS) n_a0x365 aS 82,.one (.r a0 73 [(365,2)]) 73,.one (.r #[.int .i64 (0:Int),.int .i64 (0:Int),.slice none 0 0] 105 []) 105,.row (zc PZ 142) 142,.no,.no,.no,.row #[.int .u64 (a1)] 23,.no,.no,.no,.no],[]⟩:St)
def Zdq:Array Value→BS
 | r0_5=>([.row r0_5 142]:BS)
def Ze2:Empty→Exit×BS:=fun x=>nomatch x
def Zbr (P:Program) (a0:Array Value) (a1:Int) (g_et:Addr) (g_tb:Addr) (bS:Option (Option Addr)) (n_a0x365:Nat) (aS:Array Value) (x0:Int):Array Value→Option (Stp (Array Value) Empty)
 | r0_5=>bif (decide (0≤x0)&&decide (x0<36)) then (some (.more (r0_5.setIfInBounds ((x0).toNat*1) (.int .i64 (1:Int)))))
  else (none)
theorem Znf (N:Nat) (a0:Array Value) (a1:Int) (g_et:Addr) (g_tb:Addr) (bS:Option (Option Addr)) (n_a0x365:Nat) (aS:Array Value) (x0:Int):∀ t:Array Value,Ud1 PZ Zax N (cAt (codeOf Tryz.f51) [1,1,0,1,0,0]) (pAt (Uaa (codeOf Tryz.f51) [([],[5])]).1 [1,1,0,1,0]) 14 [5] [9] [(6,9)] (Za7 a0 a1 g_et g_tb bS n_a0x365 aS) [.i .i64 (x0)] (Zdq t)=mapS Zdq Ze2 (Zbr PZ a0 a1 g_et g_tb bS n_a0x365 aS x0 t):=by
 rintro r0_5
 refine Eq.trans (b:=(bif (decide (0≤x0)&&decide (x0<36)) then (some (.more ([.row (r0_5.setIfInBounds ((x0).toNat*1) (.int .i64 (1:Int))) 142]:BS)))
  else (none))) (by kernel_rfl) ?_
 simp only [Zbr,Za3,Za4,Za5,Za2,Zdq,Ze2]
def Zb2 (P:Program) (N:Nat) (a0:Array Value) (a1:Int) (g_et:Addr) (g_tb:Addr) (bS:Option (Option Addr)) (n_a0x365:Nat) (aS:Array Value) (q0_5:Array Value):Option (SV×Eff×Bool):=bif ((okS (a0.extract 2 (2+363))&&(decide (0≤(num a0 0))&&decide ((num a0 0)<2)))&&(decide (0≤(num a0 1))&&decide ((num a0 1)≤14))) then (some (.a (.r ((spl (#[.int .i64 (0:Int),.int .i64 (0:Int),.slice none 0 0]:Array Value) 0 (a0.extract 0 (0+2)).toList).setIfInBounds 2 (.slice none 0 0)) 105 [(2,HOLE)]),.newS (some 1000000) (((num a0 1).toNat+1)) (catR PZ sumL (a0.extract 2 (2+363)) q0_5 (num a0 0) (num a0 1) ((num a0 1).toNat+1)) 142,true))
  else (none)
theorem Zkn (N:Nat) (a0:Array Value) (a1:Int) (g_et:Addr) (g_tb:Addr) (bS:Option (Option Addr)) (n_a0x365:Nat) (aS:Array Value) (q0_5:Array Value):(Uab 0 (kSeq (veC PZ Zax N (cAt (codeOf Tryz.f51) [1,1,1]) (pAt (Uaa (codeOf Tryz.f51) [([],[5])]).1 [1,1,1]) (SV×Eff×Bool)) (finK PZ [.gl 0 184 g_et 3000075,.gl 1 0 g_tb 1000000000,.sl (.came bS) n_a0x365 aS 82] [.cell 4 105]))) .normal (Ua1 [5] (Za7 a0 a1 g_et g_tb bS n_a0x365 aS) ([.row q0_5 142]:BS))=Zb2 PZ N a0 a1 g_et g_tb bS n_a0x365 aS q0_5:=by
 refine Eq.trans (b:=(bif ((okS (a0.extract 2 (2+363))&&(decide (0≤(num a0 0))&&decide ((num a0 0)<2)))&&(decide (0≤(num a0 1))&&decide ((num a0 1)≤14))) then (some (.a (.r ((spl (#[.int .i64 (0:Int),.int .i64 (0:Int),.slice none 0 0]:Array Value) 0 (a0.extract 0 (0+2)).toList).setIfInBounds 2 (.slice none 0 0)) 105 [(2,HOLE)]),.newS (some 1000000) (((num a0 1).toNat+1)) (catR PZ sumL (a0.extract 2 (2+363)) q0_5 (num a0 0) (num a0 1) ((num a0 1).toNat+1)) 142,true))
  else (none))) (by kernel_rfl) ?_
 rfl
theorem Zng (N:Nat) (a0:Array Value) (a1:Int) (g_et:Addr) (g_tb:Addr) (bS:Option (Option Addr)) (n_a0x365:Nat) (aS:Array Value):Ub9 (Uaq (fun (x0:Int) (hb:BS)=>Ud1 PZ Zax N (cAt (codeOf Tryz.f51) [1,1,0,1,0,0]) (pAt (Uaa (codeOf Tryz.f51) [([],[5])]).1 [1,1,0,1,0]) 14 [5] [9] [(6,9)] (Za7 a0 a1 g_et g_tb bS n_a0x365 aS) [.i .i64 (x0)] hb) (Ube (a1).toNat) ([.row (zc PZ 142) 142]:BS)) (fun hb=>(Uab 0 (kSeq (veC PZ Zax N (cAt (codeOf Tryz.f51) [1,1,1]) (pAt (Uaa (codeOf Tryz.f51) [([],[5])]).1 [1,1,1]) (SV×Eff×Bool)) (finK PZ [.gl 0 184 g_et 3000075,.gl 1 0 g_tb 1000000000,.sl (.came bS) n_a0x365 aS 82] [.cell 4 105]))) .normal (Ua1 [5] (Za7 a0 a1 g_et g_tb bS n_a0x365 aS) hb)) (fun e hb=>(Uab 0 (kSeq (veC PZ Zax N (cAt (codeOf Tryz.f51) [1,1,1]) (pAt (Uaa (codeOf Tryz.f51) [([],[5])]).1 [1,1,1]) (SV×Eff×Bool)) (finK PZ [.gl 0 184 g_et 3000075,.gl 1 0 g_tb 1000000000,.sl (.came bS) n_a0x365 aS 82] [.cell 4 105]))) e (Ua1 [5] (Za7 a0 a1 g_et g_tb bS n_a0x365 aS) hb))=Udz (Uaq (Zbr PZ a0 a1 g_et g_tb bS n_a0x365 aS) (Ube (a1).toNat) (zc PZ 142)) (fun x=>Zb2 PZ N a0 a1 g_et g_tb bS n_a0x365 aS x) (fun x:Empty=>nomatch x):=by
 refine Zxu Zdq Ze2 _ _ (fun y t=>Znf N a0 a1 g_et g_tb bS n_a0x365 aS y t) _ (zc PZ 142) _ _ _ _ ?_ ?_
 ·intro x;exact Zkn N a0 a1 g_et g_tb bS n_a0x365 aS x
 ·intro x;exact nomatch x
theorem Zmw (N:Nat) (a0:Array Value) (a1:Int) (g_et:Addr) (g_tb:Addr) (bS:Option (Option Addr)) (n_a0x365:Nat) (aS:Array Value):ansV PZ Zax N Tryz.f51 [([],[5])] [.r a0 73 [(365,2)],.i .u64 (a1)] [.gl 0 184 g_et 3000075,.gl 1 0 g_tb 1000000000,.sl (.came bS) n_a0x365 aS 82]=(Udz (Uaq (Zbr PZ a0 a1 g_et g_tb bS n_a0x365 aS) (Ube (a1).toNat) (zc PZ 142)) (fun x=>Zb2 PZ N a0 a1 g_et g_tb bS n_a0x365 aS x) (fun x:Empty=>nomatch x)):=by
 refine Eq.trans (b:=(Ub9 (Uaq (fun (x0:Int) (hb:BS)=>Ud1 PZ Zax N (cAt (codeOf Tryz.f51) [1,1,0,1,0,0]) (pAt (Uaa (codeOf Tryz.f51) [([],[5])]).1 [1,1,0,1,0]) 14 [5] [9] [(6,9)] (Za7 a0 a1 g_et g_tb bS n_a0x365 aS) [.i .i64 (x0)] hb) (Ube (a1).toNat) ([.row (zc PZ 142) 142]:BS)) (fun hb=>(Uab 0 (kSeq (veC PZ Zax N (cAt (codeOf Tryz.f51) [1,1,1]) (pAt (Uaa (codeOf Tryz.f51) [([],[5])]).1 [1,1,1]) (SV×Eff×Bool)) (finK PZ [.gl 0 184 g_et 3000075,.gl 1 0 g_tb 1000000000,.sl (.came bS) n_a0x365 aS 82] [.cell 4 105]))) .normal (Ua1 [5] (Za7 a0 a1 g_et g_tb bS n_a0x365 aS) hb)) (fun e hb=>(Uab 0 (kSeq (veC PZ Zax N (cAt (codeOf Tryz.f51) [1,1,1]) (pAt (Uaa (codeOf Tryz.f51) [([],[5])]).1 [1,1,1]) (SV×Eff×Bool)) (finK PZ [.gl 0 184 g_et 3000075,.gl 1 0 g_tb 1000000000,.sl (.came bS) n_a0x365 aS 82] [.cell 4 105]))) e (Ua1 [5] (Za7 a0 a1 g_et g_tb bS n_a0x365 aS) hb)))) (by kernel_rfl) ?_
 simp only [Zng N a0 a1 g_et g_tb bS n_a0x365 aS]
theorem Zl2 (a0:Array Value) (a1:Int) (g_et:Addr) (g_tb:Addr) (bS:Option (Option Addr)) (n_a0x365:Nat) (aS:Array Value) (h_a0:WT PZ 73 a0) (h_a1:IntKind.u64.min≤a1∧a1≤IntKind.u64.max) (h_a0x365:aS.size=n_a0x365*(lay PZ 82).length∧(∀ k,k<n_a0x365→WT PZ 82 (aS.extract (k*(lay PZ 82).length) (k*(lay PZ 82).length+(lay PZ 82).length)))∧n_a0x365≤9223372036854775807) (hg:((prsG a0 a1))=true):ansV PZ Zax 1000 Tryz.f51 [([],[5])] [.r a0 73 [(365,2)],.i .u64 (a1)] [.gl 0 184 g_et 3000075,.gl 1 0 g_tb 1000000000,.sl (.came bS) n_a0x365 aS 82]=some (.a (.r (prsV a0) 105 [(2,HOLE)]),.newS (some 1000000) (prsN a0) (prsR PZ a0 a1) 142,true):=by
 unfold prsG at hg
 unfold prsV prsN prsR
 rw [Q7] at hg
 obtain ⟨hg,hlow⟩:=hg
 have hU:U64 a1:=h_a1
 have hh:=Yl6 hU (of_decide_eq_true hlow)
 refine (Zmw 1000 a0 a1 g_et g_tb bS n_a0x365 aS).trans ?_
 rw [Ynl (X:=Empty) (g:=Zbr PZ a0 a1 g_et g_tb bS n_a0x365 aS) (fun (r:Array Value) k=>r.setIfInBounds (k*1) (.int .i64 (1:Int))) hU hh (fun t k hk hb=>by
  simp only [Zbr,dec2 (show 0≤(k:Int) by omega) (show (k:Int)<36 by omega),Q9,Q1])]
 show Zb2 PZ 1000 a0 a1 g_et g_tb bS n_a0x365 aS (rowC PZ a1)=_
 unfold Zb2
 rw [hg,Q1]
def Zez:Con:=fun args h=>match args,h with
 | [.r a0 73 [(365,2)],.i .u64 a1],[.gl 0 184 g_et 3000075,.gl 1 0 g_tb 1000000000,.sl (.came bS) n_a0x365 aS 82]=>some (.a (.r (prsV a0) 105 [(2,HOLE)]),.newS (some 1000000) (prsN a0) (prsR PZ a0 a1) 142,(prsG a0 a1))
 | _,_=>none
theorem Zgu:EntX PZ 51:=Zag (fn:=Tryz.f51) (by kernel_rfl) (by kernel_rfl) (by kernel_rfl)
theorem Zh4:Uad mn PZ 51 Zez:=(Zai (N:=1000) (by kernel_rfl) (mkΓx_cX (Zad Zti) Zpm (mkΓx_nX Zrw Zom (mkΓx_iX Zoj Zmj mkΓx_nilX))) (fn:=Tryz.f51) (by kernel_rfl) (by kernel_rfl) [([],[5])]).of (by
 intro ρ h w args vals r e hA hH hr
 unfold Zez at hr
 split at hr
 ·rename_i a0 a1 g_et g_tb bS n_a0x365 aS
  obtain ⟨rfl,rfl,hg2⟩:=BQi hr
  exact Zl2 a0 a1 g_et g_tb bS n_a0x365 aS (hA.wtr 0 rfl) (hA.rng 1 rfl) (hH.slw 2 rfl) hg2
 ·cases hr)
end
end Go.Proofs.YtohnggmlmglhmaaGreatDoor
