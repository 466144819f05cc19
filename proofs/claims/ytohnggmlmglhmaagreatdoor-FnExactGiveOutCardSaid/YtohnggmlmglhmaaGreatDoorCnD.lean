/- Prospects of a plan that comes in, and more bottles given out. -/
import Derived.Test.YtohnggmlmglhmaaGreatDoorProg
import Derived.Test.YtohnggmlmglhmaaGreatDoorCnC
open _root_.Nat renaming zero_add→jA
namespace Go.Proofs.YtohnggmlmglhmaaGreatDoor
open Go.ChangeShapes Go.WideShapes Go.ChangeAt Go.RowKit Ve Vc
open Tryz renaming prog → PZ
open IntKind (i64)
set_option linter.unusedVariables false
set_option linter.unusedSimpArgs false
set_option maxRecDepth 100000
noncomputable section
variable {mn:Md}
def prsV (a0:Array Value):Array Value:=((spl (#[.int .i64 (0:Int),.int .i64 (0:Int),.slice none 0 0]:Array Value) 0 (a0.extract 0 (0+2)).toList).setIfInBounds 2 (.slice none 0 0))
def prsR (P:Program) (a0:Array Value) (c:Int):Array Value:=(catR P sumL (a0.extract 2 (2+363)) (rowC P c) (num a0 0) (num a0 1) ((num a0 1).toNat+1))
def prsN (a0:Array Value):Nat:=((num a0 1).toNat+1)
def prsG (a0:Array Value) (c:Int):Bool:=(((okS (a0.extract 2 (2+363))&&(decide (0≤(num a0 0))&&decide ((num a0 0)<2)))&&(decide (0≤(num a0 1))&&decide ((num a0 1)≤14)))&&decide (c<68719476736))
def Zbr:Cons:=(mkΓx [(79,con Zhs)] [(73,Zop)] [(98,Zja)])
def Za5 (a0:Array Value) (a1:Int) (g_et:Addr) (g_tb:Addr) (bS:Option (Option Addr)) (n_a0x365:Nat) (aS:Array Value):St:=(⟨.a (.r a0 73 [(365,2)]) :: .a (.i .u64 (a1)) :: .a (.w 3) :: .a (.u) :: .a (.w 4) :: .a (.w 5) :: .a (.u) :: .a (.i .u64 (a1)) :: .a (.c 98 [9])::us 16 ([]),[.gl 0 184 g_et 3000075,.gl 1 0 g_tb 1000000000,.sl (.came bS) n_a0x365 aS 82,.one (.r a0 73 [(365,2)]) 73,.one (.r #[.int .i64 (0:Int),.int .i64 (0:Int),.slice none 0 0] 105 []) 105,.row (zc PZ 142) 142,.no,.no,.no,.row #[.int .u64 (a1)] 23,.no,.no,.no,.no],[]⟩:St)
def Zdw:Array Value→BS
 | r0_5=>([.row r0_5 142]:BS)
def Zfc:Empty→Exit×BS:=fun x=>nomatch x
def Zbk (P:Program) (a0:Array Value) (a1:Int) (g_et:Addr) (g_tb:Addr) (bS:Option (Option Addr)) (n_a0x365:Nat) (aS:Array Value) (x0:Int):Array Value→Option (Stp (Array Value) Empty)
 | r0_5=>bif (decide (0≤x0)&&decide (x0<36)) then (some (.more (r0_5.setIfInBounds ((x0).toNat*1) (.int .i64 (1:Int)))))
  else (none)
def Uex:=(Uaf (codeOf Tryz.f51) [([],[5])]).1
theorem Zn8 (N:Nat) (a0:Array Value) (a1:Int) (g_et:Addr) (g_tb:Addr) (bS:Option (Option Addr)) (n_a0x365:Nat) (aS:Array Value) (x0:Int):∀ t:Array Value,Uel PZ Zbr N (cAt (codeOf Tryz.f51) [1,1,0,1,0,0]) (pAt Uex [1,1,0,1,0]) 14 [5] [9] [(6,9)] (Za5 a0 a1 g_et g_tb bS n_a0x365 aS) [.i .i64 (x0)] (Zdw t)=mapS Zdw Zfc (Zbk PZ a0 a1 g_et g_tb bS n_a0x365 aS x0 t):=by
 rintro r0_5
 refine Eq.trans (b:=(bif (decide (0≤x0)&&decide (x0<36)) then (some (.more ([.row (r0_5.setIfInBounds ((x0).toNat*1) (.int .i64 (1:Int))) 142]:BS)))
  else (none))) (by kernel_rfl) ?_
 simp only [Zbk,Zaz,Zay,Za1,Za0,Zdw,Zfc]
def Zb0 (P:Program) (N:Nat) (a0:Array Value) (a1:Int) (g_et:Addr) (g_tb:Addr) (bS:Option (Option Addr)) (n_a0x365:Nat) (aS:Array Value) (q0_5:Array Value):Option (SV×Eff×Bool):=bif ((okS (a0.extract 2 (2+363))&&(decide (0≤(num a0 0))&&decide ((num a0 0)<2)))&&(decide (0≤(num a0 1))&&decide ((num a0 1)≤14))) then (some (.a (.r ((spl (#[.int .i64 (0:Int),.int .i64 (0:Int),.slice none 0 0]:Array Value) 0 (a0.extract 0 (0+2)).toList).setIfInBounds 2 (.slice none 0 0)) 105 [(2,HOLE)]),.newS (some 1000000) (((num a0 1).toNat+1)) (catR PZ sumL (a0.extract 2 (2+363)) q0_5 (num a0 0) (num a0 1) ((num a0 1).toNat+1)) 142,true))
  else (none)
def Udc (N:Nat) (g_et g_tb:Addr) (bS:Option (Option Addr)) (n_a0x365:Nat) (aS:Array Value):=(Uan 0 (kSeq (veC PZ Zbr N (cAt (codeOf Tryz.f51) [1,1,1]) (pAt Uex [1,1,1]) (SV×Eff×Bool)) (finK PZ [.gl 0 184 g_et 3000075,.gl 1 0 g_tb 1000000000,.sl (.came bS) n_a0x365 aS 82] [.cell 4 105])))
theorem Zlb (N:Nat) (a0:Array Value) (a1:Int) (g_et:Addr) (g_tb:Addr) (bS:Option (Option Addr)) (n_a0x365:Nat) (aS:Array Value) (q0_5:Array Value):(Udc N g_et g_tb bS n_a0x365 aS) .normal (Ua5 [5] (Za5 a0 a1 g_et g_tb bS n_a0x365 aS) ([.row q0_5 142]:BS))=Zb0 PZ N a0 a1 g_et g_tb bS n_a0x365 aS q0_5:=by
 refine Eq.trans (b:=(bif ((okS (a0.extract 2 (2+363))&&(decide (0≤(num a0 0))&&decide ((num a0 0)<2)))&&(decide (0≤(num a0 1))&&decide ((num a0 1)≤14))) then (some (.a (.r ((spl (#[.int .i64 (0:Int),.int .i64 (0:Int),.slice none 0 0]:Array Value) 0 (a0.extract 0 (0+2)).toList).setIfInBounds 2 (.slice none 0 0)) 105 [(2,HOLE)]),.newS (some 1000000) (((num a0 1).toNat+1)) (catR PZ sumL (a0.extract 2 (2+363)) q0_5 (num a0 0) (num a0 1) ((num a0 1).toNat+1)) 142,true))
  else (none))) (by kernel_rfl) ?_
 rfl
theorem Zn4 (N:Nat) (a0:Array Value) (a1:Int) (g_et:Addr) (g_tb:Addr) (bS:Option (Option Addr)) (n_a0x365:Nat) (aS:Array Value):Ucr (Uau (fun (x0:Int) (hb:BS)=>Uel PZ Zbr N (cAt (codeOf Tryz.f51) [1,1,0,1,0,0]) (pAt Uex [1,1,0,1,0]) 14 [5] [9] [(6,9)] (Za5 a0 a1 g_et g_tb bS n_a0x365 aS) [.i .i64 (x0)] hb) (Ubl (a1).toNat) ([.row (zc PZ 142) 142]:BS)) (fun hb=>(Udc N g_et g_tb bS n_a0x365 aS) .normal (Ua5 [5] (Za5 a0 a1 g_et g_tb bS n_a0x365 aS) hb)) (fun e hb=>(Udc N g_et g_tb bS n_a0x365 aS) e (Ua5 [5] (Za5 a0 a1 g_et g_tb bS n_a0x365 aS) hb))=Ufh (Uau (Zbk PZ a0 a1 g_et g_tb bS n_a0x365 aS) (Ubl (a1).toNat) (zc PZ 142)) (fun x=>Zb0 PZ N a0 a1 g_et g_tb bS n_a0x365 aS x) (fun x:Empty=>nomatch x):=by
 refine Yde Zdw Zfc _ _ (fun y t=>Zn8 N a0 a1 g_et g_tb bS n_a0x365 aS y t) _ (zc PZ 142) _ _ _ _ ?_ ?_
 ·intro x;exact Zlb N a0 a1 g_et g_tb bS n_a0x365 aS x
 ·intro x;exact nomatch x
theorem Zm4 (N:Nat) (a0:Array Value) (a1:Int) (g_et:Addr) (g_tb:Addr) (bS:Option (Option Addr)) (n_a0x365:Nat) (aS:Array Value):ansV PZ Zbr N Tryz.f51 [([],[5])] [.r a0 73 [(365,2)],.i .u64 (a1)] [.gl 0 184 g_et 3000075,.gl 1 0 g_tb 1000000000,.sl (.came bS) n_a0x365 aS 82]=(Ufh (Uau (Zbk PZ a0 a1 g_et g_tb bS n_a0x365 aS) (Ubl (a1).toNat) (zc PZ 142)) (fun x=>Zb0 PZ N a0 a1 g_et g_tb bS n_a0x365 aS x) (fun x:Empty=>nomatch x)):=by
 refine Eq.trans (b:=(Ucr (Uau (fun (x0:Int) (hb:BS)=>Uel PZ Zbr N (cAt (codeOf Tryz.f51) [1,1,0,1,0,0]) (pAt Uex [1,1,0,1,0]) 14 [5] [9] [(6,9)] (Za5 a0 a1 g_et g_tb bS n_a0x365 aS) [.i .i64 (x0)] hb) (Ubl (a1).toNat) ([.row (zc PZ 142) 142]:BS)) (fun hb=>(Udc N g_et g_tb bS n_a0x365 aS) .normal (Ua5 [5] (Za5 a0 a1 g_et g_tb bS n_a0x365 aS) hb)) (fun e hb=>(Udc N g_et g_tb bS n_a0x365 aS) e (Ua5 [5] (Za5 a0 a1 g_et g_tb bS n_a0x365 aS) hb)))) (by kernel_rfl) ?_
 simp only [Zn4 N a0 a1 g_et g_tb bS n_a0x365 aS]
theorem Zmt (a0:Array Value) (a1:Int) (g_et:Addr) (g_tb:Addr) (bS:Option (Option Addr)) (n_a0x365:Nat) (aS:Array Value) (h_a0:WT PZ 73 a0) (h_a1:IntKind.u64.min≤a1∧a1≤IntKind.u64.max) (h_a0x365:SlT 82 n_a0x365 aS) (hg:((prsG a0 a1))=true):ansV PZ Zbr 1000 Tryz.f51 [([],[5])] [.r a0 73 [(365,2)],.i .u64 (a1)] [.gl 0 184 g_et 3000075,.gl 1 0 g_tb 1000000000,.sl (.came bS) n_a0x365 aS 82]=some (.a (.r (prsV a0) 105 [(2,HOLE)]),.newS (some 1000000) (prsN a0) (prsR PZ a0 a1) 142,true):=by
 unfold prsG at hg
 unfold prsV prsN prsR
 rw [Q7] at hg
 obtain ⟨hg,hlow⟩:=hg
 have hU:U64 a1:=h_a1
 have hh:=low_bits hU (of_decide_eq_true hlow)
 refine (Zm4 1000 a0 a1 g_et g_tb bS n_a0x365 aS).trans ?_
 rw [Yn4 (X:=Empty) (g:=Zbk PZ a0 a1 g_et g_tb bS n_a0x365 aS) (fun (r:Array Value) k=>r.setIfInBounds (k*1) (.int .i64 (1:Int))) hU hh (fun t k hk hb=>by
  simp only [Zbk,dec2 (show 0≤(k:Int) by omega) (show (k:Int)<36 by omega),Q9,Q1])]
 show Zb0 PZ 1000 a0 a1 g_et g_tb bS n_a0x365 aS (rowC PZ a1)=_
 unfold Zb0
 rw [hg,Q1]
def Zc8:Con:=fun args h=>match args,h with
 | [.r a0 73 [(365,2)],.i .u64 a1],[.gl 0 184 g_et 3000075,.gl 1 0 g_tb 1000000000,.sl (.came bS) n_a0x365 aS 82]=>some (.a (.r (prsV a0) 105 [(2,HOLE)]),.newS (some 1000000) (prsN a0) (prsR PZ a0 a1) 142,(prsG a0 a1))
 | _,_=>none
theorem Zeo:EntX PZ 51:=Zag (fn:=Tryz.f51) (by kernel_rfl) (by kernel_rfl) (by kernel_rfl)
theorem Zfe:Uab mn PZ 51 Zc8:=(Zaf (N:=1000) (by kernel_rfl) (mkΓx_cX (Zac Zvc) Zqq (mkΓx_nX Yd3 Zzq (mkΓx_iX Yav Zwf mkΓx_nilX))) (fn:=Tryz.f51) (by kernel_rfl) (by kernel_rfl) [([],[5])]).of (by
 intro ρ h w args vals r e hA hH hr
 unfold Zc8 at hr
 split at hr
 ·rename_i a0 a1 g_et g_tb bS n_a0x365 aS
  obtain ⟨rfl,rfl,hg2⟩:=BQi hr
  exact Zmt a0 a1 g_et g_tb bS n_a0x365 aS (hA.wtr 0 rfl) (hA.rng 1 rfl) (hH.slw 2 rfl) hg2
 ·cases hr)
def incA (A:Array Value) (z:Int):Array Value:=A.setIfInBounds (z.toNat*3+2) (.int .i16 (IntKind.i16.wrap (num A (z.toNat*3+2)+(1:Int))))
theorem inc_num (A:Array Value) (z:Int) {k i:Nat} (hi:i<2):num ((incA A z).extract (k*3) (k*3+3)) i=num (A.extract (k*3) (k*3+3)) i:=by
 unfold num incA
 rw [Array.getElem?_extract,Array.getElem?_extract,Array.size_setIfInBounds]
 by_cases h:i<min (k*3+3) A.size - k*3
 ·rw [if_pos h,if_pos h,Array.getElem?_setIfInBounds,if_neg (by omega)]
 ·rw [if_neg h,if_neg h]
theorem inc_size (A:Array Value) (z:Int):(incA A z).size=A.size:=by unfold incA;rw [Array.size_setIfInBounds]
def gvJ (gt:Nat→Nat→Bool) (n:Nat) (A:Array Value):Nat→Array Value
 | 0=>A
 | j+1=>incA (gvJ gt n A j) (Ua2 gt (gvJ gt n A j) n)
def gvOk (gt:Nat→Nat→Bool) (n:Nat) (A:Array Value):Nat→Bool
 | 0=>true
 | j+1=>gvOk gt n A j && !(decide (Ua2 gt (gvJ gt n A j) n<(0:Int)))
theorem Zxn (gt:Nat→Nat→Bool) (n:Nat) (A:Array Value) {k i:Nat} (hi:i<2):∀ j,num ((gvJ gt n A j).extract (k*3) (k*3+3)) i=num (A.extract (k*3) (k*3+3)) i
 | 0=>rfl
 | j+1=>by rw [gvJ,inc_num _ _ hi];exact Zxn gt n A hi j
theorem Ypz (gt:Nat→Nat→Bool) (n:Nat) (A:Array Value):∀ j,(gvJ gt n A j).size=A.size
 | 0=>rfl
 | j+1=>by rw [gvJ,inc_size];exact Ypz gt n A j
theorem gv_ok {gt:Nat→Nat→Bool} {n:Nat} {A:Array Value}:∀ {m},gvOk gt n A m=true→∀ j,j<m→¬ Ua2 gt (gvJ gt n A j) n<0
 | 0,_,j,hj=>by omega
 | m+1,h,j,hj=>by
  rw [gvOk,Q7,Bool.not_eq_true',decide_eq_false_iff_not] at h
  by_cases e:j=m
  ·subst e;exact h.2
  ·exact gv_ok h.1 j (by omega)
theorem Yk4 {gt:Nat→Nat→Bool} {n:Nat} {A:Array Value}:∀ {m},gvOk gt n A m=false→∃ j,j<m∧(∀ i,i<j→¬ Ua2 gt (gvJ gt n A i) n<0)∧Ua2 gt (gvJ gt n A j) n<0
 | 0,h=>by cases h
 | m+1,h=>by
  cases hk:gvOk gt n A m with
  | false=>
   obtain ⟨j,h1,h2,h3⟩:=Yk4 hk
   exact ⟨j,by omega,h2,h3⟩
  | true=>
   rw [gvOk,hk,Bool.true_and,Bool.not_eq_false',decide_eq_true_eq] at h
   exact ⟨m,by omega,gv_ok hk,h⟩
theorem Yc2 {V X Y:Array Value} (h:num X 1=num Y 1):lfP V X=lfP V Y:=by unfold lfP;rw [h]
theorem Yhr {V R X Y:Array Value} (h0:num X 0=num Y 0) (h1:num X 1=num Y 1):shP V R X=shP V R Y:=by unfold shP;rw [Yc2 h1,h0]
theorem ok_congr {V R X Y:Array Value} {n:Nat} (h0:num X 0=num Y 0) (h1:num X 1=num Y 1):okP V n R X=okP V n R Y:=by unfold okP;rw [Yc2 h1,Yhr h0 h1,h0]
theorem gtA_gv (V R A:Array Value) (gt:Nat→Nat→Bool) (n j:Nat):gtA V R (gvJ gt n A j)=gtA V R A:=by
 funext a b
 unfold gtA gtP
 rw [Yhr (Zxn gt n A (by omega) j) (Zxn gt n A (by omega) j),Yhr (Zxn gt n A (k:=a) (by omega) j) (Zxn gt n A (by omega) j),Yc2 (Zxn gt n A (k:=a) (by omega) j),Yc2 (Zxn gt n A (k:=b) (by omega) j)]
theorem Yp1 {V R A:Array Value} {gt:Nat→Nat→Bool} {r n m:Nat} (h:allP V r R m A=true) (j:Nat):allP V r R m (gvJ gt n A j)=true:=Zx1.2 fun k hk=>by
 rw [ok_congr (Zxn gt n A (by omega) j) (Zxn gt n A (by omega) j)]
 exact Zx1.1 h k hk
def Zbz:Cons:=(mkΓw [(64,conS Zgl)] [] [] [])
def Zcd (a0:Array Value) (a2:Int) (bR:Option (Option Addr)) (nR:Nat) (aR:Array Value) (b_a1:Option (Option Addr)) (n_a1:Nat) (a1:Array Value):St:=(⟨.a (.r a0 105 [(2,0)]) :: .a (.l 1) :: .a (.i .i64 (a2)) :: .a (.w 2) :: .a (.u) :: .a (.u) :: .a (.v (.slice none 0 0)) :: .a (.v (.nilIface)) :: .a (.l 7) :: .a (.u) :: .a (.u) :: .a (.l 5) :: .a (.l 1) :: .a (.l 7) :: .a (.i .i64 (a2)) :: .a (.i .i64 (0:Int))::us 20 ([]),[.sl (.came bR) nR aR 142,.sl (.came b_a1) n_a1 a1 82,.one (.r a0 105 [(2,0)]) 105,.no,.no,.sp,.no,.sl .own (0+n_a1) ((#[]:Array Value)++a1) 82,.no],[5]⟩:St)
def Zdf (n_a1:Nat):Int×Array Value→LS
 | (y0_15,r0_7)=>([.a (.i .i64 (y0_15))],[.sl .own (0+n_a1) r0_7 82])
def Zg0 (n_a1:Nat):Int×Array Value→Exit×LS
 | t=>((.exit 0),(Zdf n_a1) t)
def Zal (P:Program) (a0:Array Value) (a2:Int) (bR:Option (Option Addr)) (nR:Nat) (aR:Array Value) (b_a1:Option (Option Addr)) (n_a1:Nat) (a1:Array Value):Int×Array Value→Option (Stp (Int×Array Value) ((Int×Array Value) ⊕ (SV×Eff×Bool)))
  | (y0_15,r0_7)=>bif decide (y0_15<a2) then (bif decide ((Uas a0 aR r0_7 (0+n_a1))<(0:Int)) then (bif (allP a0 nR aR (0+n_a1) r0_7) then (some (.done (.inr (.t [.v (.slice none 0 0),.v (.iface 117 (.int .i64 (6:Int)))],.none,true))))
        else (none))
      else (bif (allP a0 nR aR (0+n_a1) r0_7) then (bif (decide (0≤(Uas a0 aR r0_7 (0+n_a1)))&&decide ((Uas a0 aR r0_7 (0+n_a1))<((0+n_a1):Int))) then (bif (decide (0≤(Uas a0 aR r0_7 (0+n_a1)))&&decide ((Uas a0 aR r0_7 (0+n_a1))<((0+n_a1):Int))) then (some (.more ((i64.wrap (y0_15+(1:Int))),(r0_7.setIfInBounds (((Uas a0 aR r0_7 (0+n_a1)).toNat*3)+2) (.int .i16 (IntKind.i16.wrap ((num r0_7 (((Uas a0 aR r0_7 (0+n_a1)).toNat*3)+2))+(1:Int))))))))
            else (none))
          else (none))
        else (none)))
    else (some (.done (.inl (y0_15,r0_7))))
def Ud6:=(Uaf (codeOf Tryz.f52) [([4000000000,15],[7])]).1
def Uct (N:Nat) (bR:Option (Option Addr)) (nR:Nat) (aR:Array Value) (b_a1:Option (Option Addr)) (n_a1:Nat) (a1:Array Value):=(Uan 0 (kSeq (veC PZ Zbz N (cAt (codeOf Tryz.f52) [1,1,1]) (pAt Ud6 [1,1,1]) (SV×Eff×Bool)) (finK PZ [.sl (.came bR) nR aR 142,.sl (.came b_a1) n_a1 a1 82] [.tmp 6,.tmp 7])))
theorem Zp8 (N:Nat) (a0:Array Value) (a2:Int) (bR:Option (Option Addr)) (nR:Nat) (aR:Array Value) (b_a1:Option (Option Addr)) (n_a1:Nat) (a1:Array Value):∀ t:Int×Array Value,Udu PZ Zbz N (cAt (codeOf Tryz.f52) [1,1,0,1,0,0]) (pAt Ud6 [1,1,0,1,0]) [15] [7] (Zcd a0 a2 bR nR aR b_a1 n_a1 a1) (Uct N bR nR aR b_a1 n_a1 a1) ((Zdf n_a1) t)=mapS (Zdf n_a1) (eR (Zg0 n_a1)) (Zal PZ a0 a2 bR nR aR b_a1 n_a1 a1 t):=by
  rintro ⟨y0_15,r0_7⟩
  refine Eq.trans (b:=(bif decide (y0_15<a2) then (bif decide ((Uas a0 aR r0_7 (0+n_a1))<(0:Int)) then (bif (allP a0 nR aR (0+n_a1) r0_7) then (some (.done (.inr (.t [.v (.slice none 0 0),.v (.iface 117 (.int .i64 (6:Int)))],.none,true))))
        else (none))
      else (bif (allP a0 nR aR (0+n_a1) r0_7) then (bif (decide (0≤(Uas a0 aR r0_7 (0+n_a1)))&&decide ((Uas a0 aR r0_7 (0+n_a1))<((0+n_a1):Int))) then (bif (decide (0≤(Uas a0 aR r0_7 (0+n_a1)))&&decide ((Uas a0 aR r0_7 (0+n_a1))<((0+n_a1):Int))) then (some (.more ([.a (.i .i64 (i64.wrap (y0_15+(1:Int))))],[.sl .own (0+n_a1) (r0_7.setIfInBounds (((Uas a0 aR r0_7 (0+n_a1)).toNat*3)+2) (.int .i16 (IntKind.i16.wrap ((num r0_7 (((Uas a0 aR r0_7 (0+n_a1)).toNat*3)+2))+(1:Int))))) 82])))
            else (none))
          else (none))
        else (none)))
    else (some (.done (.inl ((.exit 0),([.a (.i .i64 (y0_15))],[.sl .own (0+n_a1) r0_7 82]))))))) (by kernel_rfl) ?_
  simp only [Zal,Zaz,Zay,Za1,Za0,Zdf,Zg0,eR]
def Zcx (P:Program) (N:Nat) (a0:Array Value) (a2:Int) (bR:Option (Option Addr)) (nR:Nat) (aR:Array Value) (b_a1:Option (Option Addr)) (n_a1:Nat) (a1:Array Value) (z0_15:Int) (q0_7:Array Value):Option (SV×Eff×Bool):=some (.t [.x,.v (.nilIface)],.newS (some 0) (0+n_a1) q0_7 82,true)
theorem Zmr (N:Nat) (a0:Array Value) (a2:Int) (bR:Option (Option Addr)) (nR:Nat) (aR:Array Value) (b_a1:Option (Option Addr)) (n_a1:Nat) (a1:Array Value) (z0_15:Int) (q0_7:Array Value):(Uct N bR nR aR b_a1 n_a1 a1) (.exit 0) (left (writes (cAt (codeOf Tryz.f52) [1,1,0,1,0,0])) [15] [7] (Zcd a0 a2 bR nR aR b_a1 n_a1 a1) ([.a (.i .i64 (z0_15))],[.sl .own (0+n_a1) q0_7 82]))=Zcx PZ N a0 a2 bR nR aR b_a1 n_a1 a1 z0_15 q0_7:=by
 refine Eq.trans (b:=(some (.t [.x,.v (.nilIface)],.newS (some 0) (0+n_a1) q0_7 82,true))) (by kernel_rfl) ?_
 rfl
theorem Zq3 (N:Nat) (a0:Array Value) (a2:Int) (bR:Option (Option Addr)) (nR:Nat) (aR:Array Value) (b_a1:Option (Option Addr)) (n_a1:Nat) (a1:Array Value):Ubx (Uaa (Udu PZ Zbz N (cAt (codeOf Tryz.f52) [1,1,0,1,0,0]) (pAt Ud6 [1,1,0,1,0]) [15] [7] (Zcd a0 a2 bR nR aR b_a1 n_a1 a1) (Uct N bR nR aR b_a1 n_a1 a1)) N ([.a (.i .i64 (0:Int))],[.sl .own (0+n_a1) ((#[]:Array Value)++a1) 82])) (fun e s=>(Uct N bR nR aR b_a1 n_a1 a1) e (left (writes (cAt (codeOf Tryz.f52) [1,1,0,1,0,0])) [15] [7] (Zcd a0 a2 bR nR aR b_a1 n_a1 a1) s))=Ufv (Uaa (Zal PZ a0 a2 bR nR aR b_a1 n_a1 a1) N ((0:Int),((#[]:Array Value)++a1))) (fun x=>Zcx PZ N a0 a2 bR nR aR b_a1 n_a1 a1 x.1 x.2):=by
 refine Zz0 (Zdf n_a1) (Zg0 n_a1) _ _ (Zp8 N a0 a2 bR nR aR b_a1 n_a1 a1) N ((0:Int),((#[]:Array Value)++a1)) _ _ ?_
 intro x;exact Zmr N a0 a2 bR nR aR b_a1 n_a1 a1 x.1 x.2
theorem Zj8 (N:Nat) (a0:Array Value) (a2:Int) (bR:Option (Option Addr)) (nR:Nat) (aR:Array Value) (b_a1:Option (Option Addr)) (n_a1:Nat) (a1:Array Value):ansV PZ Zbz N Tryz.f52 [([4000000000,15],[7])] [.r a0 105 [(2,0)],.l 1,.i .i64 (a2)] [.sl (.came bR) nR aR 142,.sl (.came b_a1) n_a1 a1 82]=(bif (Nat.ble ((0+n_a1)*bytesOf PZ 82) 140737488355328) then (Ufv (Uaa (Zal PZ a0 a2 bR nR aR b_a1 n_a1 a1) N ((0:Int),((#[]:Array Value)++a1))) (fun x=>Zcx PZ N a0 a2 bR nR aR b_a1 n_a1 a1 x.1 x.2))
  else (none)):=by
 refine Eq.trans (b:=(bif (Nat.ble ((0+n_a1)*bytesOf PZ 82) 140737488355328) then (Ubx (Uaa (Udu PZ Zbz N (cAt (codeOf Tryz.f52) [1,1,0,1,0,0]) (pAt Ud6 [1,1,0,1,0]) [15] [7] (Zcd a0 a2 bR nR aR b_a1 n_a1 a1) (Uct N bR nR aR b_a1 n_a1 a1)) N ([.a (.i .i64 (0:Int))],[.sl .own (0+n_a1) ((#[]:Array Value)++a1) 82])) (fun e s=>(Uct N bR nR aR b_a1 n_a1 a1) e (left (writes (cAt (codeOf Tryz.f52) [1,1,0,1,0,0])) [15] [7] (Zcd a0 a2 bR nR aR b_a1 n_a1 a1) s)))
  else (none))) (by kernel_rfl) ?_
 simp only [Zq3 N a0 a2 bR nR aR b_a1 n_a1 a1]
theorem Zn7 (a0:Array Value) (a2:Int) (bR:Option (Option Addr)) (nR:Nat) (aR:Array Value) (b_a1:Option (Option Addr)) (n_a1:Nat) (a1:Array Value) (h_a0:WT PZ 105 a0) (h_a2:i64.min≤a2∧a2≤i64.max) (h_a0x2:SlT 142 nR aR) (h_a1:SlT 82 n_a1 a1) (hc0:((gvOk (gtA a0 aR a1) n_a1 a1 a2.toNat))=false) (hg:(((allP a0 nR aR n_a1 a1)&&(Nat.ble (n_a1*bytesOf PZ 82) 140737488355328&&decide (0≤a2∧a2≤1000000000))))=true):ansV PZ Zbz 18446744073709551616 Tryz.f52 [([4000000000,15],[7])] [.r a0 105 [(2,0)],.l 1,.i .i64 (a2)] [.sl (.came bR) nR aR 142,.sl (.came b_a1) n_a1 a1 82]=some (.t [.v (.slice none 0 0),.v (.iface 117 (.int .i64 (6:Int)))],.none,true):=by
 have hn:=h_a1.2.2
 rw [Q7,Q7] at hg
 obtain ⟨hall,hby,hr⟩:=hg
 have h0:=of_decide_eq_true hr
 obtain ⟨m,rfl⟩:=Int.eq_ofNat_of_zero_le (show 0≤a2 by omega)
 have h02:i64.max=9223372036854775807:=rfl
 rw [Q9] at hc0
 refine (Zj8 18446744073709551616 a0 (m:Int) bR nR aR b_a1 n_a1 a1).trans ?_
 have eA:(#[]:Array Value)++a1=a1:=Array.empty_append
 rw [jA,hby,Q1,eA]
 have hB:∀ j,Uas a0 aR (gvJ (gtA a0 aR a1) n_a1 a1 j) n_a1=Ua2 (gtA a0 aR a1) (gvJ (gtA a0 aR a1) n_a1 a1 j) n_a1:=fun j=>by unfold Uas;rw [gtA_gv]
 have hstep:∀ j,j<m→¬ Ua2 (gtA a0 aR a1) (gvJ (gtA a0 aR a1) n_a1 a1 j) n_a1<0→Zal PZ a0 (m:Int) bR nR aR b_a1 n_a1 a1 ((j:Int),gvJ (gtA a0 aR a1) n_a1 a1 j)=some (.more (((j+1:Nat):Int),gvJ (gtA a0 aR a1) n_a1 a1 (j+1))):=fun j hj hz=>by
  have h1:decide ((j:Int)<(m:Int))=true:=Q3 (by omega)
  have h3:i64.wrap ((j:Int)+1)=((j+1:Nat):Int):=by rw [IntWalk.i64_in _ (by omega)];omega
  have hin:=Zog (gtA a0 aR a1) (gvJ (gtA a0 aR a1) n_a1 a1 j) n_a1
  have ha:=Yp1 (gt:=(gtA a0 aR a1)) (n:=n_a1) hall j
  rw [gvJ]
  unfold incA
  simp only [Zal,jA,Int.zero_add,hB,h1,h3,ha,Q4 hz,dec2 (show 0≤Ua2 (gtA a0 aR a1) (gvJ (gtA a0 aR a1) n_a1 a1 j) n_a1 by omega) hin.2,Q1,Q2]
 obtain ⟨j0,hj0,hbef,hz⟩:=Yk4 hc0
 have hit:Uaa (Zal PZ a0 (m:Int) bR nR aR b_a1 n_a1 a1) 18446744073709551616 ((0:Int),a1)=some (.inr (.t [.v (.slice none 0 0),.v (.iface 117 (.int .i64 (6:Int)))],.none,true)):=Zcc (g:=Zal PZ a0 (m:Int) bR nR aR b_a1 n_a1 a1) (fun j=>((j:Int),gvJ (gtA a0 aR a1) n_a1 a1 j)) (m:=j0) (x:=.inr (.t [.v (.slice none 0 0),.v (.iface 117 (.int .i64 (6:Int)))],.none,true)) (N:=18446744073709551616) (fun j hj=>hstep j (by omega) (hbef j hj)) (by
  have h1:decide ((j0:Int)<(m:Int))=true:=Q3 (by omega)
  have ha:=Yp1 (gt:=(gtA a0 aR a1)) (n:=n_a1) hall j0
  simp only [Zal,jA,hB,h1,ha,Q3 hz,Q1]) (by omega)
 rw [hit]
 rfl
theorem Zn6 (a0:Array Value) (a2:Int) (bR:Option (Option Addr)) (nR:Nat) (aR:Array Value) (b_a1:Option (Option Addr)) (n_a1:Nat) (a1:Array Value) (h_a0:WT PZ 105 a0) (h_a2:i64.min≤a2∧a2≤i64.max) (h_a0x2:SlT 142 nR aR) (h_a1:SlT 82 n_a1 a1) (hc0:((gvOk (gtA a0 aR a1) n_a1 a1 a2.toNat))=true) (hg:(((allP a0 nR aR n_a1 a1)&&(Nat.ble (n_a1*bytesOf PZ 82) 140737488355328&&decide (0≤a2∧a2≤1000000000))))=true):ansV PZ Zbz 18446744073709551616 Tryz.f52 [([4000000000,15],[7])] [.r a0 105 [(2,0)],.l 1,.i .i64 (a2)] [.sl (.came bR) nR aR 142,.sl (.came b_a1) n_a1 a1 82]=some (.t [.x,.v (.nilIface)],.newS (some 0) n_a1 (gvJ (gtA a0 aR a1) n_a1 a1 a2.toNat) 82,true):=by
 have hn:=h_a1.2.2
 rw [Q7,Q7] at hg
 obtain ⟨hall,hby,hr⟩:=hg
 have h0:=of_decide_eq_true hr
 obtain ⟨m,rfl⟩:=Int.eq_ofNat_of_zero_le (show 0≤a2 by omega)
 have h02:i64.max=9223372036854775807:=rfl
 rw [Q9] at hc0
 refine (Zj8 18446744073709551616 a0 (m:Int) bR nR aR b_a1 n_a1 a1).trans ?_
 have eA:(#[]:Array Value)++a1=a1:=Array.empty_append
 rw [jA,hby,Q1,eA]
 have hB:∀ j,Uas a0 aR (gvJ (gtA a0 aR a1) n_a1 a1 j) n_a1=Ua2 (gtA a0 aR a1) (gvJ (gtA a0 aR a1) n_a1 a1 j) n_a1:=fun j=>by unfold Uas;rw [gtA_gv]
 have hstep:∀ j,j<m→¬ Ua2 (gtA a0 aR a1) (gvJ (gtA a0 aR a1) n_a1 a1 j) n_a1<0→Zal PZ a0 (m:Int) bR nR aR b_a1 n_a1 a1 ((j:Int),gvJ (gtA a0 aR a1) n_a1 a1 j)=some (.more (((j+1:Nat):Int),gvJ (gtA a0 aR a1) n_a1 a1 (j+1))):=fun j hj hz=>by
  have h1:decide ((j:Int)<(m:Int))=true:=Q3 (by omega)
  have h3:i64.wrap ((j:Int)+1)=((j+1:Nat):Int):=by rw [IntWalk.i64_in _ (by omega)];omega
  have hin:=Zog (gtA a0 aR a1) (gvJ (gtA a0 aR a1) n_a1 a1 j) n_a1
  have ha:=Yp1 (gt:=(gtA a0 aR a1)) (n:=n_a1) hall j
  rw [gvJ]
  unfold incA
  simp only [Zal,jA,Int.zero_add,hB,h1,h3,ha,Q4 hz,dec2 (show 0≤Ua2 (gtA a0 aR a1) (gvJ (gtA a0 aR a1) n_a1 a1 j) n_a1 by omega) hin.2,Q1,Q2]
 have hok:=gv_ok hc0
 have hit:Uaa (Zal PZ a0 (m:Int) bR nR aR b_a1 n_a1 a1) 18446744073709551616 ((0:Int),a1)=some (.inl ((m:Int),gvJ (gtA a0 aR a1) n_a1 a1 m)):=Zcc (g:=Zal PZ a0 (m:Int) bR nR aR b_a1 n_a1 a1) (fun j=>((j:Int),gvJ (gtA a0 aR a1) n_a1 a1 j)) (m:=m) (x:=.inl ((m:Int),gvJ (gtA a0 aR a1) n_a1 a1 m)) (N:=18446744073709551616) (fun j hj=>hstep j hj (hok j hj)) (by
  have h1:decide ((m:Int)<(m:Int))=false:=Q4 (by omega)
  simp only [Zal,h1,Q2]) (by omega)
 rw [hit,Q9]
 show Zcx PZ 18446744073709551616 a0 (m:Int) bR nR aR b_a1 n_a1 a1 (m:Int) (gvJ (gtA a0 aR a1) n_a1 a1 m)=_
 unfold Zcx
 rw [jA]
def Zbt:SCon:=fun args h=>match args,h with
 | [.r a0 105 [(2,0)],.l 1,.i .i64 a2],[.sl (.came bR) nR aR 142,.sl (.came b_a1) n_a1 a1 82]=>.two ((gvOk (gtA a0 aR a1) n_a1 a1 a2.toNat)) (.one (some (.t [.x,.v (.nilIface)],.newS (some 0) n_a1 (gvJ (gtA a0 aR a1) n_a1 a1 a2.toNat) 82,((allP a0 nR aR n_a1 a1)&&(Nat.ble (n_a1*bytesOf PZ 82) 140737488355328&&decide (0≤a2∧a2≤1000000000)))))) (.one (some (.t [.x,.v (.iface 117 (.int .i64 (6:Int)))],.newS (some 0) 0 (#[]:Array Value) 82,((allP a0 nR aR n_a1 a1)&&(Nat.ble (n_a1*bytesOf PZ 82) 140737488355328&&decide (0≤a2∧a2≤1000000000))))))
 | _,_=>.one none
theorem Zfd:EntX PZ 52:=Zag (fn:=Tryz.f52) (by kernel_rfl) (by kernel_rfl) (by kernel_rfl)
theorem Zj5:Uab mn PZ 52 (fun args h=>Uac (Zbt args h)):=by
 intro ρ h w args vals r e hn hr hA hH
 dsimp only at hr
 unfold Zbt at hr
 split at hr
 ·rename_i a0 a2 bR nR aR b_a1 n_a1 a1
  simp only [Uac] at hr
  cases hc0:((gvOk (gtA a0 aR a1) n_a1 a1 a2.toNat))
  ·rw [hc0] at hr
   simp only [Uac,Q1,Q2] at hr
   obtain ⟨rfl,rfl,hg2⟩:=BQi hr
   exact (Uab.nil (Zaf (N:=18446744073709551616) (by kernel_rfl) (mkΓw_sX (Zlq Zkh) Zi2 mkΓx_nilX) (fn:=Tryz.f52) (by kernel_rfl) (by kernel_rfl) [([4000000000,15],[7])]) 0 82) ρ _ w _ vals _ _ hn (congrArg (nilN 0 82) (Zn7 a0 a2 bR nR aR b_a1 n_a1 a1 (hA.wtr 0 rfl) (hA.rng 2 rfl) (hH.slw 0 rfl) (hH.slw 1 rfl) hc0 hg2)) hA hH
  ·rw [hc0] at hr
   simp only [Uac,Q1,Q2] at hr
   obtain ⟨rfl,rfl,hg2⟩:=BQi hr
   exact ((Zaf (N:=18446744073709551616) (by kernel_rfl) (mkΓw_sX (Zlq Zkh) Zi2 mkΓx_nilX) (fn:=Tryz.f52) (by kernel_rfl) (by kernel_rfl) [([4000000000,15],[7])])) ρ _ w _ vals _ _ hn ((Zn6 a0 a2 bR nR aR b_a1 n_a1 a1 (hA.wtr 0 rfl) (hA.rng 2 rfl) (hH.slw 0 rfl) (hH.slw 1 rfl) hc0 hg2)) hA hH
 ·simp only [Uac] at hr
  cases hr
def Zfx:Con:=fun args h=>match args,h with
 | [.r a0 105 [(2,0)],.l 1,.i .i64 a2],[.sl (.came bR) nR aR 142,.sl (.came b_a1) n_a1 a1 82]=>some (.t [.x,.v (.nilIface)],.newS (some 0) n_a1 (gvJ (gtA a0 aR a1) n_a1 a1 a2.toNat) 82,((gvOk (gtA a0 aR a1) n_a1 a1 a2.toNat)&&(((allP a0 nR aR n_a1 a1)&&(Nat.ble (n_a1*bytesOf PZ 82) 140737488355328&&decide (0≤a2∧a2≤1000000000))))))
 | _,_=>none
theorem Zj4:Uab mn PZ 52 Zfx:=Uab.of Zj5 (by
 intro ρ h w args vals r e hA hH hr
 unfold Zfx at hr
 split at hr
 ·rename_i a0 a2 bR nR aR b_a1 n_a1 a1
  obtain ⟨rfl,rfl,hg2⟩:=BQi hr
  simp only [Q7,Bool.not_eq_true'] at hg2
  obtain ⟨q0,q1⟩:=hg2
  show Uac (Zbt _ _)=_
  unfold Zbt
  simp only [Uac,q0,q1,Q1,Q2,Bool.and_self]
 ·cases hr)
def Zfy:Con:=fun args h=>match args,h with
 | [.r a0 105 [(2,0)],.l 1,.i .i64 a2],[.sl (.came bR) nR aR 142,.sl (.came b_a1) n_a1 a1 82]=>some (.t [.x,.v (.iface 117 (.int .i64 (6:Int)))],.newS (some 0) 0 (#[]:Array Value) 82,((!((gvOk (gtA a0 aR a1) n_a1 a1 a2.toNat)))&&(((allP a0 nR aR n_a1 a1)&&(Nat.ble (n_a1*bytesOf PZ 82) 140737488355328&&decide (0≤a2∧a2≤1000000000))))))
 | _,_=>none
theorem Zpk:Uab mn PZ 52 Zfy:=Uab.of Zj5 (by
 intro ρ h w args vals r e hA hH hr
 unfold Zfy at hr
 split at hr
 ·rename_i a0 a2 bR nR aR b_a1 n_a1 a1
  obtain ⟨rfl,rfl,hg2⟩:=BQi hr
  simp only [Q7,Bool.not_eq_true'] at hg2
  obtain ⟨q0,q1⟩:=hg2
  show Uac (Zbt _ _)=_
  unfold Zbt
  simp only [Uac,q0,q1,Q1,Q2,Bool.and_self]
 ·cases hr)
end
end Go.Proofs.YtohnggmlmglhmaaGreatDoor
