/- What a plan spreads and reaches: both sides. -/
import Derived.Test.YtflnjkpejbohjaaGreatDoorProg
import Derived.Test.YtflnjkpejbohjaaGreatDoorCpB
namespace Go.Proofs.YtflnjkpejbohjaaGreatDoor
open Go.ChangeShapes Go.WideShapes Go.ChangeAt Go.RowKit Ve Vc
open Tryz renaming prog → PZ
open IntKind (i64)
set_option linter.unusedVariables false
set_option linter.unusedSimpArgs false
set_option maxRecDepth 100000
noncomputable section
variable {F:Vc.Fd}
def Zbr:Cons:=(mkΓ [(50,con Zkn),(51,con Zd5)])
def Zco (a0:Array Value) (bR:Option (Option Addr)) (nR:Nat) (aR:Array Value):St:=(⟨.a (.r a0 71 [(365,0)]) :: .a (.w 1) :: .a (.w 2) :: .a (.w 8) :: .a (.u) :: .a (.p 1 (0) 69) :: .a (.p 1 (0) 2) :: .a (.i .i64 (num a0 0)) :: .a (.i .i8 (IntKind.i8.wrap (num a0 0))) :: .a (.g ((zc PZ 60).setIfInBounds 0 (.int .i8 (IntKind.i8.wrap (num a0 0)))) 60) :: .a (.p 1 (0) 69) :: .a (.p 1 (1) 2) :: .a (.i .i64 (num a0 1)) :: .a (.i .i64 (0:Int))::us 11 ([]),[.sl (.came bR) nR aR 95,.one (.r a0 71 [(365,0)]) 71,.row (zc PZ 60) 60,.no,.no,.no,.no,.no,.row ((zc PZ 60).setIfInBounds 0 (.int .i8 (IntKind.i8.wrap (num a0 0)))) 60,.no],[8]⟩:St)
def Zdt:Int×Array Value→LS
 | (y0_13,r0_8)=>([.a (.i .i64 (y0_13))],[.row r0_8 60])
def Zgx:Int×Array Value→Exit×LS
 | t=>((.exit 0),Zdt t)
def Za6 (P : Program) (a0 : Array Value) (bR : Option (Option Addr)) (nR : Nat) (aR : Array Value) : Int × Array Value → Option (Stp (Int × Array Value) (Int × Array Value))
 | (y0_13, r0_8) => bif decide (y0_13 < (num a0 1)) then (bif ((decide (0 ≤ y0_13) && decide (y0_13 ≤ 14)) && Uc0 nR aR) then (bif (goG (a0.extract 2 (2 + 363)) (Uby y0_13 nR aR r0_8)) then (some (.more ((i64.wrap (y0_13 + (1 : Int))), (Ubf PZ (a0.extract 2 (2 + 363)) (Uby y0_13 nR aR r0_8)))))
    else (none))
   else (none))
  else (some (.done (y0_13, r0_8)))
theorem Zpz (N:Nat) (a0:Array Value) (bR:Option (Option Addr)) (nR:Nat) (aR:Array Value):∀ t:Int×Array Value,Uah PZ Zbr N (cAt (codeOf Tryz.f28) [1,1,0,1,0,0]) (pAt (Uaa (codeOf Tryz.f28) [([13],[8])]).1 [1,1,0,1,0]) [13] [8] (Zco a0 bR nR aR) (Zdt t)=mapS Zdt Zgx (Za6 PZ a0 bR nR aR t):=by
 rintro ⟨y0_13,r0_8⟩
 refine Eq.trans (b:=(bif decide (y0_13<(num a0 1)) then (bif ((decide (0≤y0_13)&&decide (y0_13≤14))&&Uc0 nR aR) then (bif (goG (a0.extract 2 (2+363)) (Uby y0_13 nR aR r0_8)) then (some (.more ([.a (.i .i64 (i64.wrap (y0_13+(1:Int))))],[.row (Ubf PZ (a0.extract 2 (2+363)) (Uby y0_13 nR aR r0_8)) 60])))
    else (none))
   else (none))
  else (some (.done ((.exit 0),([.a (.i .i64 (y0_13))],[.row r0_8 60])))))) (by kernel_rfl) ?_
 simp only [Za6,Zax,Za0,Zay,Zaz,Zdt,Zgx]
def Zd7 (P:Program) (N:Nat) (a0:Array Value) (bR:Option (Option Addr)) (nR:Nat) (aR:Array Value) (z0_13:Int) (q0_8:Array Value):Option (SV×Eff×Bool):=some (.a (.g q0_8 60),.none,true)
theorem Zl7 (N:Nat) (a0:Array Value) (bR:Option (Option Addr)) (nR:Nat) (aR:Array Value) (z0_13:Int) (q0_8:Array Value):(Uac 0 (kSeq (veC PZ Zbr N (cAt (codeOf Tryz.f28) [1,1,1]) (pAt (Uaa (codeOf Tryz.f28) [([13],[8])]).1 [1,1,1]) (SV×Eff×Bool)) (finK PZ [.sl (.came bR) nR aR 95] [.cell 2 60]))) (.exit 0) (left (writes (cAt (codeOf Tryz.f28) [1,1,0,1,0,0])) [13] [8] (Zco a0 bR nR aR) ([.a (.i .i64 (z0_13))],[.row q0_8 60]))=Zd7 PZ N a0 bR nR aR z0_13 q0_8:=by
 refine Eq.trans (b:=(some (.a (.g q0_8 60),.none,true))) (by kernel_rfl) ?_
 rfl
theorem Zqb (N:Nat) (a0:Array Value) (bR:Option (Option Addr)) (nR:Nat) (aR:Array Value):Uaj (Uab (Uah PZ Zbr N (cAt (codeOf Tryz.f28) [1,1,0,1,0,0]) (pAt (Uaa (codeOf Tryz.f28) [([13],[8])]).1 [1,1,0,1,0]) [13] [8] (Zco a0 bR nR aR)) N ([.a (.i .i64 (0:Int))],[.row ((zc PZ 60).setIfInBounds 0 (.int .i8 (IntKind.i8.wrap (num a0 0)))) 60])) (fun e s=>(Uac 0 (kSeq (veC PZ Zbr N (cAt (codeOf Tryz.f28) [1,1,1]) (pAt (Uaa (codeOf Tryz.f28) [([13],[8])]).1 [1,1,1]) (SV×Eff×Bool)) (finK PZ [.sl (.came bR) nR aR 95] [.cell 2 60]))) e (left (writes (cAt (codeOf Tryz.f28) [1,1,0,1,0,0])) [13] [8] (Zco a0 bR nR aR) s))=Uak (Uab (Za6 PZ a0 bR nR aR) N ((0:Int),((zc PZ 60).setIfInBounds 0 (.int .i8 (IntKind.i8.wrap (num a0 0)))))) (fun x=>Zd7 PZ N a0 bR nR aR x.1 x.2):=by
 refine Zbk Zdt Zgx _ _ (Zpz N a0 bR nR aR) N ((0:Int),((zc PZ 60).setIfInBounds 0 (.int .i8 (IntKind.i8.wrap (num a0 0))))) _ _ ?_
 intro x;exact Zl7 N a0 bR nR aR x.1 x.2
theorem Zpa (N:Nat) (a0:Array Value) (bR:Option (Option Addr)) (nR:Nat) (aR:Array Value):ansV PZ Zbr N Tryz.f28 [([13],[8])] [.r a0 71 [(365,0)]] [.sl (.came bR) nR aR 95]=(Uak (Uab (Za6 PZ a0 bR nR aR) N ((0:Int),((zc PZ 60).setIfInBounds 0 (.int .i8 (IntKind.i8.wrap (num a0 0)))))) (fun x=>Zd7 PZ N a0 bR nR aR x.1 x.2)):=by
 refine Eq.trans (b:=(Uaj (Uab (Uah PZ Zbr N (cAt (codeOf Tryz.f28) [1,1,0,1,0,0]) (pAt (Uaa (codeOf Tryz.f28) [([13],[8])]).1 [1,1,0,1,0]) [13] [8] (Zco a0 bR nR aR)) N ([.a (.i .i64 (0:Int))],[.row ((zc PZ 60).setIfInBounds 0 (.int .i8 (IntKind.i8.wrap (num a0 0)))) 60])) (fun e s=>(Uac 0 (kSeq (veC PZ Zbr N (cAt (codeOf Tryz.f28) [1,1,1]) (pAt (Uaa (codeOf Tryz.f28) [([13],[8])]).1 [1,1,1]) (SV×Eff×Bool)) (finK PZ [.sl (.came bR) nR aR 95] [.cell 2 60]))) e (left (writes (cAt (codeOf Tryz.f28) [1,1,0,1,0,0])) [13] [8] (Zco a0 bR nR aR) s)))) (by kernel_rfl) ?_
 simp only [Zqb N a0 bR nR aR]
theorem voy_sea {V:Array Value} (h:WT PZ 71 V):WT PZ 41 (V.extract 2 (2+363)):=by
 have h1:=h.sub (T:=41) (o:=2) (Zk8 rfl (by kernel_rfl)) (Nat.lt_of_lt_of_eq (by decide:0<363) (by kernel_rfl))
 rw [show (zc PZ 41).size=363 by kernel_rfl] at h1
 exact h1
theorem Yje:(lay PZ 95).length=3:=by kernel_rfl
theorem Zn6 (a0:Array Value) (bR:Option (Option Addr)) (nR:Nat) (aR:Array Value) (h_a0:WT PZ 71 a0) (h_a0x365:aR.size=nR*(lay PZ 95).length∧(∀ k,k<nR→WT PZ 95 (aR.extract (k*(lay PZ 95).length) (k*(lay PZ 95).length+(lay PZ 95).length)))∧nR≤9223372036854775807) (hg:((okS (a0.extract 2 (2+363))&&spB (a0.extract 2 (2+363)) (num a0 0) (num a0 1) nR aR))=true):ansV PZ Zbr 1000 Tryz.f28 [([13],[8])] [.r a0 71 [(365,0)]] [.sl (.came bR) nR aR 95]=some (.a (.g (Uae PZ (a0.extract 2 (2+363)) (IntKind.i8.wrap (num a0 0)) nR aR (num a0 1).toNat) 60),.none,true):=by
 have hn:=h_a0x365.2.2
 have hS:=voy_sea h_a0
 rw [Bool.and_eq_true] at hg
 obtain ⟨hok,hg⟩:=hg
 unfold spB at hg
 simp only [Bool.and_eq_true] at hg
 obtain ⟨g0,g1,g2⟩:=hg
 have r0:=Zl9 g0
 have r1:=Zl9 g1
 have hc:=Ybp hS (fun k hk=>by have:=h_a0x365.2.1 k hk;rw [Yje] at this;exact this) g2
 have hcb:=cells_of hc
 have e8:IntKind.i8.wrap (num a0 0)=num a0 0:=IntWalk.i8_in _ (by omega)
 obtain ⟨m,hm⟩:=Int.eq_ofNat_of_zero_le (show 0≤num a0 1 by omega)
 refine (Zpa 1000 a0 bR nR aR).trans ?_
 rw [hm,Int.toNat_natCast]
 have hq:∀ q,Uab (Za6 PZ a0 bR nR aR) 1000 ((0:Int),((zc PZ 60).setIfInBounds 0 (.int .i8 (IntKind.i8.wrap (num a0 0)))))=some ((m:Int),q)→Uak (Uab (Za6 PZ a0 bR nR aR) 1000 ((0:Int),((zc PZ 60).setIfInBounds 0 (.int .i8 (IntKind.i8.wrap (num a0 0)))))) (fun x=>Zd7 PZ 1000 a0 bR nR aR x.1 x.2)=some (.a (.g q 60),.none,true):=fun q e=>by rw [e];rfl
 refine hq _ ?_
 exact Ze3 (g:=Za6 PZ a0 bR nR aR) (fun j=>((j:Int),Uae PZ (a0.extract 2 (2+363)) (IntKind.i8.wrap (num a0 0)) nR aR j)) (m:=m) (x:=((m:Int),Uae PZ (a0.extract 2 (2+363)) (IntKind.i8.wrap (num a0 0)) nR aR m)) (N:=1000) (fun j hj=>by
  have h1:decide ((j:Int)<(m:Int))=true:=decide_eq_true (by omega)
  have h3:i64.wrap ((j:Int)+1)=((j+1:Nat):Int):=by rw [w64 (by omega)];omega
  have h4:(decide (0≤(j:Int))&&decide ((j:Int)≤14))=true:=by rw [decide_eq_true (show 0≤(j:Int) by omega),decide_eq_true (show (j:Int)≤14 by omega)];rfl
  have hG:=Zk9 (S:=(a0.extract 2 (2+363))) (A:=aR) (n:=nR) hS hok (show 0≤IntKind.i8.wrap (num a0 0)∧IntKind.i8.wrap (num a0 0)≤1 by rw [e8];omega) hc j (by omega)
  have hgo:=(Yh7 hok (by rw [e8];omega) (by omega) (Yad (h:=(j:Int)) hG hc)).1
  simp only [Za6,hm,h1,h3,h4,hcb,hgo,Bool.and_self,cond_true]
  rfl) (by
  have h1:decide ((m:Int)<(m:Int))=false:=decide_eq_false (by omega)
  simp only [Za6,hm,h1,cond_false]) (by omega)
def Zgi:Con:=fun args h=>match args,h with
 | [.r a0 71 [(365,0)]],[.sl (.came bR) nR aR 95]=>some (.a (.g (Uae PZ (a0.extract 2 (2+363)) (IntKind.i8.wrap (num a0 0)) nR aR (num a0 1).toNat) 60),.none,(okS (a0.extract 2 (2+363))&&spB (a0.extract 2 (2+363)) (num a0 0) (num a0 1) nR aR))
 | _,_=>none
theorem Zm1:EntX PZ 28:=Zaf (fn:=Tryz.f28) (by kernel_rfl) (by kernel_rfl) (by kernel_rfl)
theorem Zpq:Uad (md F) PZ 28 Zgi:=(Zah (N:=1000) (by kernel_rfl) (mkΓ_consX (Zad Ya3) Zt0 (mkΓ_consX (Zad Zlp) Zj4 mkΓ_nilX)) (fn:=Tryz.f28) (by kernel_rfl) (by kernel_rfl) [([13],[8])]).of (by
 intro ρ h w args vals r e hA hH hr
 unfold Zgi at hr
 split at hr
 ·rename_i a0 bR nR aR
  obtain ⟨rfl,hg⟩:=Prod.mk.inj (Option.some.inj hr)
  obtain ⟨rfl,hg2⟩:=Prod.mk.inj hg
  exact Zn6 a0 bR nR aR (hA.wtr 0 rfl) (hH.slw 0 rfl) hg2
 ·cases hr)
def Zas:Cons:=(mkΓ [(41,con Zfh),(42,con Zkm)])
def Zeh (a0 a1:Array Value) (bQ:Option (Option Addr)) (nQ:Nat) (aQ:Array Value) (y0_6:Int) (r0_9:Array Value):St:=(⟨.a (.w 0) :: .a (.w 1) :: .a (.u) :: .a (.u) :: .a (.w 3) :: .a (.w 9) :: .a (.i .i64 (y0_6)) :: .a (.i .i64 (0:Int)) :: .a (.x) :: .a (.w 1) :: .a (.w 1) :: .a (.p 1 (0) 22) :: .a (.i .i8 (num a1 0)) :: .a (.g ((zc PZ 60).setIfInBounds 0 (.int .i8 (num a1 0))) 60) :: .a (.i .i64 (y0_6)) :: .a (.w 1) :: .a (.w 1) :: .a (.p 1 (1) 22) :: .a (.i .i8 (num a1 1)) :: .a (.i .i64 (i64.wrap (num a1 1))) :: .a (.b (decide (y0_6<(i64.wrap (num a1 1)))))::xs 46 (.a (.u)::[]),[.row a0 41,.one (.r a1 45 [(2,2)]) 45,.sl (.came bQ) nQ aQ 95,.row (zc PZ 60) 60,.no,.no,.no,.no,.no,.row r0_9 60,.no],[9]⟩:St)
def Zfl:Int×Array Value→LS
 | (y1_7,r1_9)=>([.a (.i .i64 (y1_7))],[.row r1_9 60])
def Zjr:Int×Array Value→Exit×LS
 | t=>((.exit 2),Zfl t)
def Zb6 (P : Program) (a0 a1 : Array Value) (bQ : Option (Option Addr)) (nQ : Nat) (aQ : Array Value) (y0_6 : Int) (r0_9 : Array Value) : Int × Array Value → Option (Stp (Int × Array Value) (Int × Array Value))
 | (y1_7, r1_9) => bif decide (y1_7 < (nQ : Int)) then (bif (decide (0 ≤ y1_7) && decide (y1_7 < (nQ : Int))) then (bif ((i64.wrap (num (aQ.extract ((y1_7).toNat * 3) (((y1_7).toNat * 3) + 3)) 1)) == y0_6) then (bif (decide (0 ≤ (num (aQ.extract ((y1_7).toNat * 3) (((y1_7).toNat * 3) + 3)) 0)) && decide ((num (aQ.extract ((y1_7).toNat * 3) (((y1_7).toNat * 3) + 3)) 0) < 36)) then (bif (decide (0 ≤ y0_6) && decide (y0_6 ≤ 14)) then (bif (decide (0 ≤ (num (aQ.extract ((y1_7).toNat * 3) (((y1_7).toNat * 3) + 3)) 0)) && decide ((num (aQ.extract ((y1_7).toNat * 3) (((y1_7).toNat * 3) + 3)) 0) < 36)) then (some (.more ((i64.wrap (y1_7 + (1 : Int))), ((r1_9.setIfInBounds (3 + ((num (aQ.extract ((y1_7).toNat * 3) (((y1_7).toNat * 3) + 3)) 0).toNat * 1)) (.int .i64 (i64.wrap ((num r1_9 (3 + ((num (aQ.extract ((y1_7).toNat * 3) (((y1_7).toNat * 3) + 3)) 0).toNat * 1))) + (i64.wrap ((i64.wrap (num (aQ.extract ((y1_7).toNat * 3) (((y1_7).toNat * 3) + 3)) 2)) * (12 ^ y0_6.toNat))))))).setIfInBounds 2 (.int .i64 (i64.wrap ((num (r1_9.setIfInBounds (3 + ((num (aQ.extract ((y1_7).toNat * 3) (((y1_7).toNat * 3) + 3)) 0).toNat * 1)) (.int .i64 (i64.wrap ((num r1_9 (3 + ((num (aQ.extract ((y1_7).toNat * 3) (((y1_7).toNat * 3) + 3)) 0).toNat * 1))) + (i64.wrap ((i64.wrap (num (aQ.extract ((y1_7).toNat * 3) (((y1_7).toNat * 3) + 3)) 2)) * (12 ^ y0_6.toNat))))))) 2) + (i64.wrap (num (aQ.extract ((y1_7).toNat * 3) (((y1_7).toNat * 3) + 3)) 2)))))))))
       else (none))
      else (none))
     else (none))
    else (some (.more ((i64.wrap (y1_7 + (1 : Int))), r1_9))))
   else (none))
  else (some (.done (y1_7, r1_9)))
theorem Zxh (N:Nat) (a0 a1:Array Value) (bQ:Option (Option Addr)) (nQ:Nat) (aQ:Array Value) (y0_6:Int) (r0_9:Array Value):∀ t:Int×Array Value,Uah PZ Zas N (cAt (codeOf Tryz.f19) [1,1,0,1,0,0,1,0,0,0,1,0,0]) (pAt (Uaa (codeOf Tryz.f19) [([6],[9]),([7],[9])]).1 [1,1,0,1,0,1,0,0,1,0]) [7] [9] (Zeh a0 a1 bQ nQ aQ y0_6 r0_9) (Zfl t)=mapS Zfl Zjr (Zb6 PZ a0 a1 bQ nQ aQ y0_6 r0_9 t):=by
 rintro ⟨y1_7,r1_9⟩
 refine Eq.trans (b:=(bif decide (y1_7<(nQ:Int)) then (bif (decide (0≤y1_7)&&decide (y1_7<(nQ:Int))) then (bif ((i64.wrap (num (aQ.extract ((y1_7).toNat*3) (((y1_7).toNat*3)+3)) 1))==y0_6) then (bif (decide (0≤(num (aQ.extract ((y1_7).toNat*3) (((y1_7).toNat*3)+3)) 0))&&decide ((num (aQ.extract ((y1_7).toNat*3) (((y1_7).toNat*3)+3)) 0)<36)) then (bif (decide (0≤y0_6)&&decide (y0_6≤14)) then (bif (decide (0≤(num (aQ.extract ((y1_7).toNat*3) (((y1_7).toNat*3)+3)) 0))&&decide ((num (aQ.extract ((y1_7).toNat*3) (((y1_7).toNat*3)+3)) 0)<36)) then (some (.more ([.a (.i .i64 (i64.wrap (y1_7+(1:Int))))],[.row ((r1_9.setIfInBounds (3+((num (aQ.extract ((y1_7).toNat*3) (((y1_7).toNat*3)+3)) 0).toNat*1)) (.int .i64 (i64.wrap ((num r1_9 (3+((num (aQ.extract ((y1_7).toNat*3) (((y1_7).toNat*3)+3)) 0).toNat*1)))+(i64.wrap ((i64.wrap (num (aQ.extract ((y1_7).toNat*3) (((y1_7).toNat*3)+3)) 2))*(12^y0_6.toNat))))))).setIfInBounds 2 (.int .i64 (i64.wrap ((num (r1_9.setIfInBounds (3+((num (aQ.extract ((y1_7).toNat*3) (((y1_7).toNat*3)+3)) 0).toNat*1)) (.int .i64 (i64.wrap ((num r1_9 (3+((num (aQ.extract ((y1_7).toNat*3) (((y1_7).toNat*3)+3)) 0).toNat*1)))+(i64.wrap ((i64.wrap (num (aQ.extract ((y1_7).toNat*3) (((y1_7).toNat*3)+3)) 2))*(12^y0_6.toNat))))))) 2)+(i64.wrap (num (aQ.extract ((y1_7).toNat*3) (((y1_7).toNat*3)+3)) 2)))))) 60])))
       else (none))
      else (none))
     else (none))
    else (some (.more ([.a (.i .i64 (i64.wrap (y1_7+(1:Int))))],[.row r1_9 60]))))
   else (none))
  else (some (.done ((.exit 2),([.a (.i .i64 (y1_7))],[.row r1_9 60])))))) (by kernel_rfl) ?_
 simp only [Zb6,Zax,Za0,Zay,Zaz,Zfl,Zjr]
def Zeg (a0 a1:Array Value) (bQ:Option (Option Addr)) (nQ:Nat) (aQ:Array Value):St:=(⟨.a (.w 0) :: .a (.w 1) :: .a (.u) :: .a (.u) :: .a (.w 3) :: .a (.w 9) :: .a (.i .i64 (0:Int)) :: .a (.u) :: .a (.u) :: .a (.w 1) :: .a (.w 1) :: .a (.p 1 (0) 22) :: .a (.i .i8 (num a1 0)) :: .a (.g ((zc PZ 60).setIfInBounds 0 (.int .i8 (num a1 0))) 60)::us 54 ([]),[.row a0 41,.one (.r a1 45 [(2,2)]) 45,.sl (.came bQ) nQ aQ 95,.row (zc PZ 60) 60,.no,.no,.no,.no,.no,.row ((zc PZ 60).setIfInBounds 0 (.int .i8 (num a1 0))) 60,.no],[9]⟩:St)
def Zb5:Int×Array Value→LS
 | (y0_6,r0_9)=>([.a (.i .i64 (y0_6))],[.row r0_9 60])
def Zdg:Int×Array Value→Exit×LS
 | t=>((.exit 0),Zb5 t)
def Zcm (P:Program) (N:Nat) (a0 a1:Array Value) (bQ:Option (Option Addr)) (nQ:Nat) (aQ:Array Value) (y0_6:Int) (r0_9:Array Value) (z1_7:Int) (q1_9:Array Value):Option (Stp (Int×Array Value) (Int×Array Value)):=bif (okS a0&&(decide (0≤tdS q1_9)&&decide (tdS q1_9<2))) then (some (.more ((i64.wrap (y0_6+(1:Int))),(Ubf PZ a0 q1_9))))
  else (none)
theorem Zo2 (N:Nat) (a0 a1:Array Value) (bQ:Option (Option Addr)) (nQ:Nat) (aQ:Array Value) (y0_6:Int) (r0_9:Array Value) (z1_7:Int) (q1_9:Array Value):(Uac 2 (kSeq (veC PZ Zas N (cAt (codeOf Tryz.f19) [1,1,0,1,0,0,1,0,0,1]) (pAt (Uaa (codeOf Tryz.f19) [([6],[9]),([7],[9])]).1 [1,1,0,1,0,1,0,1]) (Stp LS (Exit×LS))) (Uac 1 (kSeq (veC PZ Zas N (cAt (codeOf Tryz.f19) [1,1,0,1,0,0,1,1]) (pAt (Uaa (codeOf Tryz.f19) [([6],[9]),([7],[9])]).1 [1,1,0,1,0,1,1]) (Stp LS (Exit×LS))) (Ubz 11 [6] [9]))))) (.exit 2) (left (writes (cAt (codeOf Tryz.f19) [1,1,0,1,0,0,1,0,0,0,1,0,0])) [7] [9] (Zeh a0 a1 bQ nQ aQ y0_6 r0_9) ([.a (.i .i64 (z1_7))],[.row q1_9 60]))=mapS Zb5 Zdg (Zcm PZ N a0 a1 bQ nQ aQ y0_6 r0_9 z1_7 q1_9):=by
 refine Eq.trans (b:=(bif (okS a0&&(decide (0≤tdS q1_9)&&decide (tdS q1_9<2))) then (some (.more ([.a (.i .i64 (i64.wrap (y0_6+(1:Int))))],[.row (Ubf PZ a0 q1_9) 60])))
  else (none))) (by kernel_rfl) ?_
 simp only [Zcm,Zax,Za0,Zay,Zaz,Zb5,Zdg]
theorem Zxp (N:Nat) (a0 a1:Array Value) (bQ:Option (Option Addr)) (nQ:Nat) (aQ:Array Value) (y0_6:Int) (r0_9:Array Value):Uaj (Uab (Uah PZ Zas N (cAt (codeOf Tryz.f19) [1,1,0,1,0,0,1,0,0,0,1,0,0]) (pAt (Uaa (codeOf Tryz.f19) [([6],[9]),([7],[9])]).1 [1,1,0,1,0,1,0,0,1,0]) [7] [9] (Zeh a0 a1 bQ nQ aQ y0_6 r0_9)) N ([.a (.i .i64 (0:Int))],[.row r0_9 60])) (fun e s=>(Uac 2 (kSeq (veC PZ Zas N (cAt (codeOf Tryz.f19) [1,1,0,1,0,0,1,0,0,1]) (pAt (Uaa (codeOf Tryz.f19) [([6],[9]),([7],[9])]).1 [1,1,0,1,0,1,0,1]) (Stp LS (Exit×LS))) (Uac 1 (kSeq (veC PZ Zas N (cAt (codeOf Tryz.f19) [1,1,0,1,0,0,1,1]) (pAt (Uaa (codeOf Tryz.f19) [([6],[9]),([7],[9])]).1 [1,1,0,1,0,1,1]) (Stp LS (Exit×LS))) (Ubz 11 [6] [9]))))) e (left (writes (cAt (codeOf Tryz.f19) [1,1,0,1,0,0,1,0,0,0,1,0,0])) [7] [9] (Zeh a0 a1 bQ nQ aQ y0_6 r0_9) s))=mapS Zb5 Zdg (Uak (Uab (Zb6 PZ a0 a1 bQ nQ aQ y0_6 r0_9) N ((0:Int),r0_9)) (fun x=>Zcm PZ N a0 a1 bQ nQ aQ y0_6 r0_9 x.1 x.2)):=by
 have h:=Zbk (α:=Stp LS (Exit×LS)) Zfl Zjr _ _ (Zxh N a0 a1 bQ nQ aQ y0_6 r0_9) N ((0:Int),r0_9)
 rw [Zwb Zb5 Zdg]
 refine h _ _ ?_
 intro x;exact Zo2 N a0 a1 bQ nQ aQ y0_6 r0_9 x.1 x.2
def Zbq (P:Program) (N:Nat) (a0 a1:Array Value) (bQ:Option (Option Addr)) (nQ:Nat) (aQ:Array Value):Int×Array Value→Option (Stp (Int×Array Value) (Int×Array Value))
 | (y0_6,r0_9)=>bif decide (y0_6<(i64.wrap (num a1 1))) then (Uak (Uab (Zb6 P a0 a1 bQ nQ aQ y0_6 r0_9) N ((0:Int),r0_9)) (fun x=>Zcm P N a0 a1 bQ nQ aQ y0_6 r0_9 x.1 x.2))
  else (some (.done (y0_6,r0_9)))
theorem Zxb (N:Nat) (a0 a1:Array Value) (bQ:Option (Option Addr)) (nQ:Nat) (aQ:Array Value):∀ t:Int×Array Value,Uah PZ Zas N (cAt (codeOf Tryz.f19) [1,1,0,1,0,0]) (pAt (Uaa (codeOf Tryz.f19) [([6],[9]),([7],[9])]).1 [1,1,0,1,0]) [6] [9] (Zeg a0 a1 bQ nQ aQ) (Zb5 t)=mapS Zb5 Zdg (Zbq PZ N a0 a1 bQ nQ aQ t):=by
 rintro ⟨y0_6,r0_9⟩
 refine Eq.trans (b:=(bif decide (y0_6<(i64.wrap (num a1 1))) then (Uaj (Uab (Uah PZ Zas N (cAt (codeOf Tryz.f19) [1,1,0,1,0,0,1,0,0,0,1,0,0]) (pAt (Uaa (codeOf Tryz.f19) [([6],[9]),([7],[9])]).1 [1,1,0,1,0,1,0,0,1,0]) [7] [9] (Zeh a0 a1 bQ nQ aQ y0_6 r0_9)) N ([.a (.i .i64 (0:Int))],[.row r0_9 60])) (fun e s=>(Uac 2 (kSeq (veC PZ Zas N (cAt (codeOf Tryz.f19) [1,1,0,1,0,0,1,0,0,1]) (pAt (Uaa (codeOf Tryz.f19) [([6],[9]),([7],[9])]).1 [1,1,0,1,0,1,0,1]) (Stp LS (Exit×LS))) (Uac 1 (kSeq (veC PZ Zas N (cAt (codeOf Tryz.f19) [1,1,0,1,0,0,1,1]) (pAt (Uaa (codeOf Tryz.f19) [([6],[9]),([7],[9])]).1 [1,1,0,1,0,1,1]) (Stp LS (Exit×LS))) (Ubz 11 [6] [9]))))) e (left (writes (cAt (codeOf Tryz.f19) [1,1,0,1,0,0,1,0,0,0,1,0,0])) [7] [9] (Zeh a0 a1 bQ nQ aQ y0_6 r0_9) s)))
  else (some (.done ((.exit 0),([.a (.i .i64 (y0_6))],[.row r0_9 60])))))) (by kernel_rfl) ?_
 simp only [Zxp N a0 a1 bQ nQ aQ y0_6 r0_9,Zbq,Zax,Za0,Zay,Zaz,Zb5,Zdg]
def Zfy (P:Program) (N:Nat) (a0 a1:Array Value) (bQ:Option (Option Addr)) (nQ:Nat) (aQ:Array Value) (z0_6:Int) (q0_9:Array Value):Option (SV×Eff×Bool):=some (.a (.g q0_9 60),.none,true)
theorem Zo6 (N:Nat) (a0 a1:Array Value) (bQ:Option (Option Addr)) (nQ:Nat) (aQ:Array Value) (z0_6:Int) (q0_9:Array Value):(Uac 0 (kSeq (veC PZ Zas N (cAt (codeOf Tryz.f19) [1,1,1]) (pAt (Uaa (codeOf Tryz.f19) [([6],[9]),([7],[9])]).1 [1,1,1]) (SV×Eff×Bool)) (finK PZ [.row a0 41,.one (.r a1 45 [(2,2)]) 45,.sl (.came bQ) nQ aQ 95] [.cell 4 60]))) (.exit 0) (left (writes (cAt (codeOf Tryz.f19) [1,1,0,1,0,0])) [6] [9] (Zeg a0 a1 bQ nQ aQ) ([.a (.i .i64 (z0_6))],[.row q0_9 60]))=Zfy PZ N a0 a1 bQ nQ aQ z0_6 q0_9:=by
 refine Eq.trans (b:=(some (.a (.g q0_9 60),.none,true))) (by kernel_rfl) ?_
 rfl
theorem Zwc (N:Nat) (a0 a1:Array Value) (bQ:Option (Option Addr)) (nQ:Nat) (aQ:Array Value):Uaj (Uab (Uah PZ Zas N (cAt (codeOf Tryz.f19) [1,1,0,1,0,0]) (pAt (Uaa (codeOf Tryz.f19) [([6],[9]),([7],[9])]).1 [1,1,0,1,0]) [6] [9] (Zeg a0 a1 bQ nQ aQ)) N ([.a (.i .i64 (0:Int))],[.row ((zc PZ 60).setIfInBounds 0 (.int .i8 (num a1 0))) 60])) (fun e s=>(Uac 0 (kSeq (veC PZ Zas N (cAt (codeOf Tryz.f19) [1,1,1]) (pAt (Uaa (codeOf Tryz.f19) [([6],[9]),([7],[9])]).1 [1,1,1]) (SV×Eff×Bool)) (finK PZ [.row a0 41,.one (.r a1 45 [(2,2)]) 45,.sl (.came bQ) nQ aQ 95] [.cell 4 60]))) e (left (writes (cAt (codeOf Tryz.f19) [1,1,0,1,0,0])) [6] [9] (Zeg a0 a1 bQ nQ aQ) s))=Uak (Uab (Zbq PZ N a0 a1 bQ nQ aQ) N ((0:Int),((zc PZ 60).setIfInBounds 0 (.int .i8 (num a1 0))))) (fun x=>Zfy PZ N a0 a1 bQ nQ aQ x.1 x.2):=by
 refine Zbk Zb5 Zdg _ _ (Zxb N a0 a1 bQ nQ aQ) N ((0:Int),((zc PZ 60).setIfInBounds 0 (.int .i8 (num a1 0)))) _ _ ?_
 intro x;exact Zo6 N a0 a1 bQ nQ aQ x.1 x.2
theorem Ztt (N:Nat) (a0 a1:Array Value) (bQ:Option (Option Addr)) (nQ:Nat) (aQ:Array Value):ansV PZ Zas N Tryz.f19 [([6],[9]),([7],[9])] [.w 0,.w 1] [.row a0 41,.one (.r a1 45 [(2,2)]) 45,.sl (.came bQ) nQ aQ 95]=(Uak (Uab (Zbq PZ N a0 a1 bQ nQ aQ) N ((0:Int),((zc PZ 60).setIfInBounds 0 (.int .i8 (num a1 0))))) (fun x=>Zfy PZ N a0 a1 bQ nQ aQ x.1 x.2)):=by
 refine Eq.trans (b:=(Uaj (Uab (Uah PZ Zas N (cAt (codeOf Tryz.f19) [1,1,0,1,0,0]) (pAt (Uaa (codeOf Tryz.f19) [([6],[9]),([7],[9])]).1 [1,1,0,1,0]) [6] [9] (Zeg a0 a1 bQ nQ aQ)) N ([.a (.i .i64 (0:Int))],[.row ((zc PZ 60).setIfInBounds 0 (.int .i8 (num a1 0))) 60])) (fun e s=>(Uac 0 (kSeq (veC PZ Zas N (cAt (codeOf Tryz.f19) [1,1,1]) (pAt (Uaa (codeOf Tryz.f19) [([6],[9]),([7],[9])]).1 [1,1,1]) (SV×Eff×Bool)) (finK PZ [.row a0 41,.one (.r a1 45 [(2,2)]) 45,.sl (.came bQ) nQ aQ 95] [.cell 4 60]))) e (left (writes (cAt (codeOf Tryz.f19) [1,1,0,1,0,0])) [6] [9] (Zeg a0 a1 bQ nQ aQ) s)))) (by kernel_rfl) ?_
 simp only [Zwc N a0 a1 bQ nQ aQ]
theorem Ztd (a0 a1:Array Value) (bQ:Option (Option Addr)) (nQ:Nat) (aQ:Array Value) (h_a0:WT PZ 41 a0) (h_a1:WT PZ 45 a1) (h_a1x2:aQ.size=nQ*(lay PZ 95).length∧(∀ k,k<nQ→WT PZ 95 (aQ.extract (k*(lay PZ 95).length) (k*(lay PZ 95).length+(lay PZ 95).length)))∧nQ≤9223372036854775807) (hg:((okS a0&&Uar a0 a1 nQ aQ))=true):ansV PZ Zas 18446744073709551616 Tryz.f19 [([6],[9]),([7],[9])] [.w 0,.w 1] [.row a0 41,.one (.r a1 45 [(2,2)]) 45,.sl (.came bQ) nQ aQ 95]=some (.a (.g (Uae PZ a0 (num a1 0) nQ aQ (num a1 1).toNat) 60),.none,true):=by
 have hn:=h_a1x2.2.2
 rw [Bool.and_eq_true] at hg
 obtain ⟨hok,hg⟩:=hg
 obtain ⟨-,b0⟩:=h_a1.int (o:=0) (k:=.i8) (by kernel_rfl)
 obtain ⟨-,b1⟩:=h_a1.int (o:=1) (k:=.i8) (by kernel_rfl)
 have m8:IntKind.i8.min = -128∧IntKind.i8.max=127:=⟨rfl,rfl⟩
 have e0:i64.wrap (num a1 0)=num a1 0:=IntWalk.i64_in _ (by omega)
 have e1:i64.wrap (num a1 1)=num a1 1:=IntWalk.i64_in _ (by omega)
 unfold Uar at hg
 rw [e0,e1] at hg
 simp only [Bool.and_eq_true] at hg
 obtain ⟨g0,g1,-,g2,-⟩:=hg
 have r0:=Zl9 g0
 have r1:=Zl9 g1
 have hc:=Ybp h_a0 (fun k hk=>by have:=h_a1x2.2.1 k hk;rw [Yje] at this;exact this) g2
 obtain ⟨m,hm⟩:=Int.eq_ofNat_of_zero_le (show 0≤num a1 1 by omega)
 have em:i64.wrap (m:Int)=(m:Int):=by rw [← hm];exact e1
 refine (Ztt 18446744073709551616 a0 a1 bQ nQ aQ).trans ?_
 rw [hm,Int.toNat_natCast]
 have hq:∀ q,Uab (Zbq PZ 18446744073709551616 a0 a1 bQ nQ aQ) 18446744073709551616 ((0:Int),((zc PZ 60).setIfInBounds 0 (.int .i8 (num a1 0))))=some ((m:Int),q)→Uak (Uab (Zbq PZ 18446744073709551616 a0 a1 bQ nQ aQ) 18446744073709551616 ((0:Int),((zc PZ 60).setIfInBounds 0 (.int .i8 (num a1 0))))) (fun x=>Zfy PZ 18446744073709551616 a0 a1 bQ nQ aQ x.1 x.2)=some (.a (.g q 60),.none,true):=fun q e=>by rw [e];rfl
 refine hq _ ?_
 exact Ze3 (g:=Zbq PZ 18446744073709551616 a0 a1 bQ nQ aQ) (fun j=>((j:Int),Uae PZ a0 (num a1 0) nQ aQ j)) (m:=m) (x:=((m:Int),Uae PZ a0 (num a1 0) nQ aQ m)) (N:=18446744073709551616) (fun j hj=>by
  have h1:decide ((j:Int)<(m:Int))=true:=decide_eq_true (by omega)
  have h3:i64.wrap ((j:Int)+1)=((j+1:Nat):Int):=by rw [w64 (by omega)];omega
  have h4:(decide (0≤(j:Int))&&decide ((j:Int)≤14))=true:=by rw [decide_eq_true (show 0≤(j:Int) by omega),decide_eq_true (show (j:Int)≤14 by omega)];rfl
  have hG:=Zk9 (S:=a0) (A:=aQ) (n:=nQ) h_a0 hok (show 0≤num a1 0∧num a1 0≤1 by omega) hc j (by omega)
  have hgo:=(Yh7 hok (show 0≤num a1 0∧num a1 0≤1 by omega) (by omega) (Yad (h:=(j:Int)) hG hc)).2
  have hi:∀ X,Uab (Zb6 PZ a0 a1 bQ nQ aQ (j:Int) X) 18446744073709551616 ((0:Int),X)=some ((nQ:Int),Uby (j:Int) nQ aQ X):=fun X=>Zjn (g:=Zb6 PZ a0 a1 bQ nQ aQ (j:Int) X) (fun r k=>((k:Int),r)) (putR (j:Int) aQ) (m:=nQ) (t:=X) (x:=((nQ:Int),Uby (j:Int) nQ aQ X)) (N:=18446744073709551616) (fun k s hk _=>by
   have h1:decide ((k:Int)<(nQ:Int))=true:=decide_eq_true (by omega)
   have h0:decide (0≤(k:Int))=true:=decide_eq_true (by omega)
   have h3:i64.wrap ((k:Int)+1)=((k+1:Nat):Int):=by rw [IntWalk.i64_in _ (by omega)];omega
   have c0:=hc k hk
   have c0:=dec2 c0.1 (show num (aQ.extract (k*3) (k*3+3)) 0<36 by omega)
   unfold putR
   rw [← Ym3]
   cases he:(i64.wrap (num (aQ.extract (k*3) (k*3+3)) 1)==(j:Int))<;>simp only [Zb6,h1,h0,h3,he,c0,h4,Bool.and_self,Int.toNat_natCast,cond_true,cond_false]) (by
   have h1:decide ((nQ:Int)<(nQ:Int))=false:=decide_eq_false (by omega)
   simp only [Zb6,h1,cond_false]
   rfl) (by omega)
  have hX:=hi (Uae PZ a0 (num a1 0) nQ aQ j)
  have t1:(okS a0&&(decide (0≤tdS (Uby (j:Int) nQ aQ (Uae PZ a0 (num a1 0) nQ aQ j)))&&decide (tdS (Uby (j:Int) nQ aQ (Uae PZ a0 (num a1 0) nQ aQ j))<2)))=true:=by rw [hok,dec2 hgo.1 hgo.2];rfl
  have e2:Uae PZ a0 (num a1 0) nQ aQ (j+1)=Ubf PZ a0 (Uby (j:Int) nQ aQ (Uae PZ a0 (num a1 0) nQ aQ j)):=rfl
  rw [e2]
  generalize Uae PZ a0 (num a1 0) nQ aQ j=X at hX t1⊢
  generalize Uby (j:Int) nQ aQ X=Y at hX t1⊢
  have hk:Zcm PZ 18446744073709551616 a0 a1 bQ nQ aQ (j:Int) X (nQ:Int) Y=some (.more (((j+1:Nat):Int),Ubf PZ a0 Y)):=by
   unfold Zcm
   rw [t1,cond_true,h3]
  have h1':Zbq PZ 18446744073709551616 a0 a1 bQ nQ aQ ((j:Int),X)=Uak (Uab (Zb6 PZ a0 a1 bQ nQ aQ (j:Int) X) 18446744073709551616 ((0:Int),X)) (fun x=>Zcm PZ 18446744073709551616 a0 a1 bQ nQ aQ (j:Int) X x.1 x.2):=by
   simp only [Zbq,hm,em,h1,cond_true]
  rw [h1',hX]
  exact hk) (by
  have h1:decide ((m:Int)<(m:Int))=false:=decide_eq_false (by omega)
  simp only [Zbq,hm,em,h1,cond_false]) (by omega)
def Ziu:Con:=fun args h=>match args,h with
 | [.w 0,.w 1],[.row a0 41,.one (.r a1 45 [(2,2)]) 45,.sl (.came bQ) nQ aQ 95]=>some (.a (.g (Uae PZ a0 (num a1 0) nQ aQ (num a1 1).toNat) 60),.none,(okS a0&&Uar a0 a1 nQ aQ))
 | _,_=>none
theorem Zry:EntX PZ 19:=Zaf (fn:=Tryz.f19) (by kernel_rfl) (by kernel_rfl) (by kernel_rfl)
theorem Zwo:Uad (md F) PZ 19 Ziu:=(Zah (N:=18446744073709551616) (by kernel_rfl) (mkΓ_consX (Zad Zor) Zli (mkΓ_consX (Zad Yam) Zv7 mkΓ_nilX)) (fn:=Tryz.f19) (by kernel_rfl) (by kernel_rfl) [([6],[9]),([7],[9])]).of (by
 intro ρ h w args vals r e hA hH hr
 unfold Ziu at hr
 split at hr
 ·rename_i a0 a1 bQ nQ aQ
  obtain ⟨rfl,hg⟩:=Prod.mk.inj (Option.some.inj hr)
  obtain ⟨rfl,hg2⟩:=Prod.mk.inj hg
  exact Ztd a0 a1 bQ nQ aQ (hH.wt 0 rfl) (hH.wtr 1 rfl) (hH.slw 2 rfl) hg2
 ·cases hr)
def Zgm:Cons:=(mkΓ [(38,con Zmn),(39,con Zms),(40,con Zhd)])
theorem Zxj (N:Nat) (a2:Int) (a0 a1:Array Value) (bQ:Option (Option Addr)) (nQ:Nat) (aQ:Array Value):ansV PZ Zgm N Tryz.f18 [] [.w 0,.w 1,.i .u64 (a2)] [.row a0 41,.one (.r a1 45 [(2,2)]) 45,.sl (.came bQ) nQ aQ 95]=(bif (!((okS a0))) then (some (.a (.i .i64 (1:Int)),.none,true))
  else (bif (!((Uar a0 a1 nQ aQ))) then (some (.a (.i .i64 (1:Int)),.none,true))
   else (bif ((IntKind.u64.wrap (BitVec.ofInt IntKind.u64.bits a2 &&& ~~~(BitVec.ofInt IntKind.u64.bits (Uat (num a0 0) (num a0 1) 36))).toNat) != (0:Int)) then (some (.a (.i .i64 (2:Int)),.none,true))
    else (some (.a (.i .i64 (0:Int)),.none,true))))):=by kernel_rfl
def Zh1 (a2:Int) (a0 a1:Array Value) (bQ:Option (Option Addr)) (nQ:Nat) (aQ:Array Value):Int:=(bif (!((okS a0))) then (1:Int) else (bif (!((Uar a0 a1 nQ aQ))) then (1:Int) else (bif ((IntKind.u64.wrap (BitVec.ofInt IntKind.u64.bits a2 &&& ~~~(BitVec.ofInt IntKind.u64.bits (Uat (num a0 0) (num a0 1) 36))).toNat) != (0:Int)) then (2:Int) else (0:Int))))
theorem Ziy (a2:Int) (a0 a1:Array Value) (bQ:Option (Option Addr)) (nQ:Nat) (aQ:Array Value) (h_a2:IntKind.u64.min≤a2∧a2≤IntKind.u64.max) (h_a0:WT PZ 41 a0) (h_a1:WT PZ 45 a1) (h_a1x2:aQ.size=nQ*(lay PZ 95).length∧(∀ k,k<nQ→WT PZ 95 (aQ.extract (k*(lay PZ 95).length) (k*(lay PZ 95).length+(lay PZ 95).length)))∧nQ≤9223372036854775807) (hg:(true)=true):ansV PZ Zgm 1000 Tryz.f18 [] [.w 0,.w 1,.i .u64 (a2)] [.row a0 41,.one (.r a1 45 [(2,2)]) 45,.sl (.came bQ) nQ aQ 95]=some (.a (.i .i64 (Zh1 a2 a0 a1 bQ nQ aQ)),.none,true):=by
 refine (Zxj 1000 a2 a0 a1 bQ nQ aQ).trans ?_
 unfold Zh1
 revert hg
 generalize ((!((okS a0))))=b2
 intro hg
 cases b2
 ·skip
  revert hg
  generalize ((!((Uar a0 a1 nQ aQ))))=b4
  intro hg
  cases b4
  ·skip
   revert hg
   generalize (((IntKind.u64.wrap (BitVec.ofInt IntKind.u64.bits a2 &&& ~~~(BitVec.ofInt IntKind.u64.bits (Uat (num a0 0) (num a0 1) 36))).toNat) != (0:Int)))=b6
   intro hg
   cases b6
   ·skip
    first | (simp only [cond_true,cond_false,Bool.and_true,Bool.true_and,Bool.and_false,Bool.false_and];done) | rfl | exact (nomatch (hg:false=true))
   ·skip
    first | (simp only [cond_true,cond_false,Bool.and_true,Bool.true_and,Bool.and_false,Bool.false_and];done) | rfl | exact (nomatch (hg:false=true))
  ·skip
   first | (simp only [cond_true,cond_false,Bool.and_true,Bool.true_and,Bool.and_false,Bool.false_and];done) | rfl | exact (nomatch (hg:false=true))
 ·skip
  first | (simp only [cond_true,cond_false,Bool.and_true,Bool.true_and,Bool.and_false,Bool.false_and];done) | rfl | exact (nomatch (hg:false=true))
end
end Go.Proofs.YtflnjkpejbohjaaGreatDoor
