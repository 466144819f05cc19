/- What a plan spreads and reaches: both sides. -/
import Derived.Test.YtflnjkpejbohjaaGreatDoorProg
import Derived.Test.YtflnjkpejbohjaaGreatDoorCpB
namespace Go.Proofs.YtflnjkpejbohjaaGreatDoor
open Go.ChangeShapes Go.WideShapes Go.ChangeAt Go.RowKit Ve Vc
open IntKind (i64)
set_option linter.unusedVariables false
set_option linter.unusedSimpArgs false
set_option maxRecDepth 100000
noncomputable section
variable {F:Vc.Fd}
def Zbo:Cons:=(mkΓ [(50,con Zjx),(51,con Zd4)])
def Zcm (a0:Array Value) (b_a0x365:Option (Option Addr)) (n_a0x365:Nat) (a0x365:Array Value):St:=(⟨.a (.r a0 71 [(365,0)]) :: .a (.w 1) :: .a (.w 2) :: .a (.w 8) :: .a (.u) :: .a (.p 1 (0) 69) :: .a (.p 1 (0) 2) :: .a (.i .i64 (num a0 0)) :: .a (.i .i8 (IntKind.i8.wrap (num a0 0))) :: .a (.g ((zc Tryz.prog 60).setIfInBounds 0 (.int .i8 (IntKind.i8.wrap (num a0 0)))) 60) :: .a (.p 1 (0) 69) :: .a (.p 1 (1) 2) :: .a (.i .i64 (num a0 1)) :: .a (.i .i64 (0:Int))::us 11 ([]),[.sl (.came b_a0x365) n_a0x365 a0x365 95,.one (.r a0 71 [(365,0)]) 71,.row (zc Tryz.prog 60) 60,.no,.no,.no,.no,.no,.row ((zc Tryz.prog 60).setIfInBounds 0 (.int .i8 (IntKind.i8.wrap (num a0 0)))) 60,.no],[8]⟩:St)
def Zdp:Int×Array Value→LS
 | (y0_13,r0_8)=>([.a (.i .i64 (y0_13))],[.row r0_8 60])
def Zgm:Int×Array Value→Exit×LS
 | t=>((.exit 0),Zdp t)
def Za5 (P : Program) (a0 : Array Value) (b_a0x365 : Option (Option Addr)) (n_a0x365 : Nat) (a0x365 : Array Value) : Int × Array Value → Option (Stp (Int × Array Value) (Int × Array Value))
 | (y0_13, r0_8) => bif decide (y0_13 < (num a0 1)) then (bif ((decide (0 ≤ y0_13) && decide (y0_13 ≤ 14)) && cellsB n_a0x365 a0x365) then (bif (goG (a0.extract 2 (2 + 363)) (withV y0_13 n_a0x365 a0x365 r0_8)) then (some (.more ((i64.wrap (y0_13 + (1 : Int))), (hourV Tryz.prog (a0.extract 2 (2 + 363)) (withV y0_13 n_a0x365 a0x365 r0_8)))))
    else (none))
   else (none))
  else (some (.done (y0_13, r0_8)))
theorem Zp6 (N:Nat) (a0:Array Value) (b_a0x365:Option (Option Addr)) (n_a0x365:Nat) (a0x365:Array Value):∀ t:Int×Array Value,stepV Tryz.prog Zbo N (cAt (codeOf Tryz.f28) [1,1,0,1,0,0]) (pAt (mkPlan (codeOf Tryz.f28) [([13],[8])]).1 [1,1,0,1,0]) [13] [8] (Zcm a0 b_a0x365 n_a0x365 a0x365) (Zdp t)=mapS Zdp Zgm (Za5 Tryz.prog a0 b_a0x365 n_a0x365 a0x365 t):=by
 rintro ⟨y0_13,r0_8⟩
 refine Eq.trans (b:=(bif decide (y0_13<(num a0 1)) then (bif ((decide (0≤y0_13)&&decide (y0_13≤14))&&cellsB n_a0x365 a0x365) then (bif (goG (a0.extract 2 (2+363)) (withV y0_13 n_a0x365 a0x365 r0_8)) then (some (.more ([.a (.i .i64 (i64.wrap (y0_13+(1:Int))))],[.row (hourV Tryz.prog (a0.extract 2 (2+363)) (withV y0_13 n_a0x365 a0x365 r0_8)) 60])))
    else (none))
   else (none))
  else (some (.done ((.exit 0),([.a (.i .i64 (y0_13))],[.row r0_8 60])))))) (by kernel_rfl) ?_
 simp only [Za5,Zay,Zaz,Zax,Zaw,Zdp,Zgm]
def Zd2 (P:Program) (N:Nat) (a0:Array Value) (b_a0x365:Option (Option Addr)) (n_a0x365:Nat) (a0x365:Array Value) (z0_13:Int) (q0_8:Array Value):Option (SV×Eff×Bool):=some (.a (.g q0_8 60),.none,true)
theorem Zlx (N:Nat) (a0:Array Value) (b_a0x365:Option (Option Addr)) (n_a0x365:Nat) (a0x365:Array Value) (z0_13:Int) (q0_8:Array Value):(kBlock 0 (kSeq (veC Tryz.prog Zbo N (cAt (codeOf Tryz.f28) [1,1,1]) (pAt (mkPlan (codeOf Tryz.f28) [([13],[8])]).1 [1,1,1]) (SV×Eff×Bool)) (finK Tryz.prog [.sl (.came b_a0x365) n_a0x365 a0x365 95] [.cell 2 60]))) (.exit 0) (left (writes (cAt (codeOf Tryz.f28) [1,1,0,1,0,0])) [13] [8] (Zcm a0 b_a0x365 n_a0x365 a0x365) ([.a (.i .i64 (z0_13))],[.row q0_8 60]))=Zd2 Tryz.prog N a0 b_a0x365 n_a0x365 a0x365 z0_13 q0_8:=by
 refine Eq.trans (b:=(some (.a (.g q0_8 60),.none,true))) (by kernel_rfl) ?_
 rfl
theorem Zpq (N:Nat) (a0:Array Value) (b_a0x365:Option (Option Addr)) (n_a0x365:Nat) (a0x365:Array Value):bindX (iterO (stepV Tryz.prog Zbo N (cAt (codeOf Tryz.f28) [1,1,0,1,0,0]) (pAt (mkPlan (codeOf Tryz.f28) [([13],[8])]).1 [1,1,0,1,0]) [13] [8] (Zcm a0 b_a0x365 n_a0x365 a0x365)) N ([.a (.i .i64 (0:Int))],[.row ((zc Tryz.prog 60).setIfInBounds 0 (.int .i8 (IntKind.i8.wrap (num a0 0)))) 60])) (fun e s=>(kBlock 0 (kSeq (veC Tryz.prog Zbo N (cAt (codeOf Tryz.f28) [1,1,1]) (pAt (mkPlan (codeOf Tryz.f28) [([13],[8])]).1 [1,1,1]) (SV×Eff×Bool)) (finK Tryz.prog [.sl (.came b_a0x365) n_a0x365 a0x365 95] [.cell 2 60]))) e (left (writes (cAt (codeOf Tryz.f28) [1,1,0,1,0,0])) [13] [8] (Zcm a0 b_a0x365 n_a0x365 a0x365) s))=nodeX (iterO (Za5 Tryz.prog a0 b_a0x365 n_a0x365 a0x365) N ((0:Int),((zc Tryz.prog 60).setIfInBounds 0 (.int .i8 (IntKind.i8.wrap (num a0 0)))))) (fun x=>Zd2 Tryz.prog N a0 b_a0x365 n_a0x365 a0x365 x.1 x.2):=by
 refine Zbc Zdp Zgm _ _ (Zp6 N a0 b_a0x365 n_a0x365 a0x365) N ((0:Int),((zc Tryz.prog 60).setIfInBounds 0 (.int .i8 (IntKind.i8.wrap (num a0 0))))) _ _ ?_
 intro x;exact Zlx N a0 b_a0x365 n_a0x365 a0x365 x.1 x.2
theorem Zon (N:Nat) (a0:Array Value) (b_a0x365:Option (Option Addr)) (n_a0x365:Nat) (a0x365:Array Value):ansV Tryz.prog Zbo N Tryz.f28 [([13],[8])] [.r a0 71 [(365,0)]] [.sl (.came b_a0x365) n_a0x365 a0x365 95]=(nodeX (iterO (Za5 Tryz.prog a0 b_a0x365 n_a0x365 a0x365) N ((0:Int),((zc Tryz.prog 60).setIfInBounds 0 (.int .i8 (IntKind.i8.wrap (num a0 0)))))) (fun x=>Zd2 Tryz.prog N a0 b_a0x365 n_a0x365 a0x365 x.1 x.2)):=by
 refine Eq.trans (b:=(bindX (iterO (stepV Tryz.prog Zbo N (cAt (codeOf Tryz.f28) [1,1,0,1,0,0]) (pAt (mkPlan (codeOf Tryz.f28) [([13],[8])]).1 [1,1,0,1,0]) [13] [8] (Zcm a0 b_a0x365 n_a0x365 a0x365)) N ([.a (.i .i64 (0:Int))],[.row ((zc Tryz.prog 60).setIfInBounds 0 (.int .i8 (IntKind.i8.wrap (num a0 0)))) 60])) (fun e s=>(kBlock 0 (kSeq (veC Tryz.prog Zbo N (cAt (codeOf Tryz.f28) [1,1,1]) (pAt (mkPlan (codeOf Tryz.f28) [([13],[8])]).1 [1,1,1]) (SV×Eff×Bool)) (finK Tryz.prog [.sl (.came b_a0x365) n_a0x365 a0x365 95] [.cell 2 60]))) e (left (writes (cAt (codeOf Tryz.f28) [1,1,0,1,0,0])) [13] [8] (Zcm a0 b_a0x365 n_a0x365 a0x365) s)))) (by kernel_rfl) ?_
 simp only [Zpq N a0 b_a0x365 n_a0x365 a0x365]
theorem voy_sea {V:Array Value} (h:WT Tryz.prog 71 V):WT Tryz.prog 41 (V.extract 2 (2+363)):=by
 have h1:=h.sub (T:=41) (o:=2) (Zku rfl (by kernel_rfl)) (Nat.lt_of_lt_of_eq (by decide:0<363) (by kernel_rfl))
 rw [show (zc Tryz.prog 41).size=363 by kernel_rfl] at h1
 exact h1
theorem Yh4:(lay Tryz.prog 95).length=3:=by kernel_rfl
theorem Znm (a0:Array Value) (b_a0x365:Option (Option Addr)) (n_a0x365:Nat) (a0x365:Array Value) (h_a0:WT Tryz.prog 71 a0) (h_a0x365:a0x365.size=n_a0x365*(lay Tryz.prog 95).length∧(∀ k,k<n_a0x365→WT Tryz.prog 95 (a0x365.extract (k*(lay Tryz.prog 95).length) (k*(lay Tryz.prog 95).length+(lay Tryz.prog 95).length)))∧n_a0x365≤9223372036854775807) (hg:((okS (a0.extract 2 (2+363))&&spB (a0.extract 2 (2+363)) (num a0 0) (num a0 1) n_a0x365 a0x365))=true):ansV Tryz.prog Zbo 1000 Tryz.f28 [([13],[8])] [.r a0 71 [(365,0)]] [.sl (.came b_a0x365) n_a0x365 a0x365 95]=some (.a (.g (spreadV Tryz.prog (a0.extract 2 (2+363)) (IntKind.i8.wrap (num a0 0)) n_a0x365 a0x365 (num a0 1).toNat) 60),.none,true):=by
 have hn:=h_a0x365.2.2
 have hS:=voy_sea h_a0
 rw [Bool.and_eq_true] at hg
 obtain ⟨hok,hg⟩:=hg
 unfold spB at hg
 simp only [Bool.and_eq_true] at hg
 obtain ⟨g0,g1,g2⟩:=hg
 have r0:=Zl6 g0
 have r1:=Zl6 g1
 have hc:=Ya2 hS (fun k hk=>by have:=h_a0x365.2.1 k hk;rw [Yh4] at this;exact this) g2
 have hcb:=cells_of hc
 have e8:IntKind.i8.wrap (num a0 0)=num a0 0:=IntWalk.i8_in _ (by omega)
 obtain ⟨m,hm⟩:=Int.eq_ofNat_of_zero_le (show 0≤num a0 1 by omega)
 refine (Zon 1000 a0 b_a0x365 n_a0x365 a0x365).trans ?_
 rw [hm,Int.toNat_natCast]
 have hq:∀ q,iterO (Za5 Tryz.prog a0 b_a0x365 n_a0x365 a0x365) 1000 ((0:Int),((zc Tryz.prog 60).setIfInBounds 0 (.int .i8 (IntKind.i8.wrap (num a0 0)))))=some ((m:Int),q)→nodeX (iterO (Za5 Tryz.prog a0 b_a0x365 n_a0x365 a0x365) 1000 ((0:Int),((zc Tryz.prog 60).setIfInBounds 0 (.int .i8 (IntKind.i8.wrap (num a0 0)))))) (fun x=>Zd2 Tryz.prog 1000 a0 b_a0x365 n_a0x365 a0x365 x.1 x.2)=some (.a (.g q 60),.none,true):=fun q e=>by rw [e];rfl
 refine hq _ ?_
 exact Zei (g:=Za5 Tryz.prog a0 b_a0x365 n_a0x365 a0x365) (fun j=>((j:Int),spreadV Tryz.prog (a0.extract 2 (2+363)) (IntKind.i8.wrap (num a0 0)) n_a0x365 a0x365 j)) (m:=m) (x:=((m:Int),spreadV Tryz.prog (a0.extract 2 (2+363)) (IntKind.i8.wrap (num a0 0)) n_a0x365 a0x365 m)) (N:=1000) (fun j hj=>by
  have h1:decide ((j:Int)<(m:Int))=true:=decide_eq_true (by omega)
  have h3:i64.wrap ((j:Int)+1)=((j+1:Nat):Int):=by rw [w64 (by omega)];omega
  have h4:(decide (0≤(j:Int))&&decide ((j:Int)≤14))=true:=by rw [decide_eq_true (show 0≤(j:Int) by omega),decide_eq_true (show (j:Int)≤14 by omega)];rfl
  have hG:=Zkw (S:=(a0.extract 2 (2+363))) (A:=a0x365) (n:=n_a0x365) hS hok (show 0≤IntKind.i8.wrap (num a0 0)∧IntKind.i8.wrap (num a0 0)≤1 by rw [e8];omega) hc j (by omega)
  have hgo:=(Yhh hok (by rw [e8];omega) (by omega) (Ya4 (h:=(j:Int)) hG hc)).1
  simp only [Za5,hm,h1,h3,h4,hcb,hgo,Bool.and_self,cond_true]
  rfl) (by
  have h1:decide ((m:Int)<(m:Int))=false:=decide_eq_false (by omega)
  simp only [Za5,hm,h1,cond_false]) (by omega)
def Zga:Con:=fun args h=>match args,h with
 | [.r a0 71 [(365,0)]],[.sl (.came b_a0x365) n_a0x365 a0x365 95]=>some (.a (.g (spreadV Tryz.prog (a0.extract 2 (2+363)) (IntKind.i8.wrap (num a0 0)) n_a0x365 a0x365 (num a0 1).toNat) 60),.none,(okS (a0.extract 2 (2+363))&&spB (a0.extract 2 (2+363)) (num a0 0) (num a0 1) n_a0x365 a0x365))
 | _,_=>none
theorem Zms:EntX Tryz.prog 28:=Zaf (fn:=Tryz.f28) (by kernel_rfl) (by kernel_rfl) (by kernel_rfl)
theorem Zpj:ConOkX (md F) Tryz.prog 28 Zga:=(Zag (N:=1000) (by kernel_rfl) (mkΓ_consX (Zad Zzv) Zuk (mkΓ_consX (Zad Zk0) Zjj mkΓ_nilX)) (fn:=Tryz.f28) (by kernel_rfl) (by kernel_rfl) [([13],[8])]).of (by
 intro ρ h w args vals r e hA hH hr
 unfold Zga at hr
 split at hr
 ·rename_i a0 b_a0x365 n_a0x365 a0x365
  obtain ⟨rfl,hg⟩:=Prod.mk.inj (Option.some.inj hr)
  obtain ⟨rfl,hg2⟩:=Prod.mk.inj hg
  exact Znm a0 b_a0x365 n_a0x365 a0x365 (hA.wtr 0 rfl) (hH.slw 0 rfl) hg2
 ·cases hr)
def Zao:Cons:=(mkΓ [(41,con Zfe),(42,con Zkf)])
def Zea (a0 a1:Array Value) (b_a1x2:Option (Option Addr)) (n_a1x2:Nat) (a1x2:Array Value) (y0_6:Int) (r0_9:Array Value):St:=(⟨.a (.w 0) :: .a (.w 1) :: .a (.u) :: .a (.u) :: .a (.w 3) :: .a (.w 9) :: .a (.i .i64 (y0_6)) :: .a (.i .i64 (0:Int)) :: .a (.x) :: .a (.w 1) :: .a (.w 1) :: .a (.p 1 (0) 22) :: .a (.i .i8 (num a1 0)) :: .a (.g ((zc Tryz.prog 60).setIfInBounds 0 (.int .i8 (num a1 0))) 60) :: .a (.i .i64 (y0_6)) :: .a (.w 1) :: .a (.w 1) :: .a (.p 1 (1) 22) :: .a (.i .i8 (num a1 1)) :: .a (.i .i64 (i64.wrap (num a1 1))) :: .a (.b (decide (y0_6<(i64.wrap (num a1 1)))))::xs 46 (.a (.u)::[]),[.row a0 41,.one (.r a1 45 [(2,2)]) 45,.sl (.came b_a1x2) n_a1x2 a1x2 95,.row (zc Tryz.prog 60) 60,.no,.no,.no,.no,.no,.row r0_9 60,.no],[9]⟩:St)
def Ze7:Int×Array Value→LS
 | (y1_7,r1_9)=>([.a (.i .i64 (y1_7))],[.row r1_9 60])
def Zi6:Int×Array Value→Exit×LS
 | t=>((.exit 2),Ze7 t)
def Zby (P : Program) (a0 a1 : Array Value) (b_a1x2 : Option (Option Addr)) (n_a1x2 : Nat) (a1x2 : Array Value) (y0_6 : Int) (r0_9 : Array Value) : Int × Array Value → Option (Stp (Int × Array Value) (Int × Array Value))
 | (y1_7, r1_9) => bif decide (y1_7 < (n_a1x2 : Int)) then (bif (decide (0 ≤ y1_7) && decide (y1_7 < (n_a1x2 : Int))) then (bif ((i64.wrap (num (a1x2.extract ((y1_7).toNat * 3) (((y1_7).toNat * 3) + 3)) 1)) == y0_6) then (bif (decide (0 ≤ (num (a1x2.extract ((y1_7).toNat * 3) (((y1_7).toNat * 3) + 3)) 0)) && decide ((num (a1x2.extract ((y1_7).toNat * 3) (((y1_7).toNat * 3) + 3)) 0) < 36)) then (bif (decide (0 ≤ y0_6) && decide (y0_6 ≤ 14)) then (bif (decide (0 ≤ (num (a1x2.extract ((y1_7).toNat * 3) (((y1_7).toNat * 3) + 3)) 0)) && decide ((num (a1x2.extract ((y1_7).toNat * 3) (((y1_7).toNat * 3) + 3)) 0) < 36)) then (some (.more ((i64.wrap (y1_7 + (1 : Int))), ((r1_9.setIfInBounds (3 + ((num (a1x2.extract ((y1_7).toNat * 3) (((y1_7).toNat * 3) + 3)) 0).toNat * 1)) (.int .i64 (i64.wrap ((num r1_9 (3 + ((num (a1x2.extract ((y1_7).toNat * 3) (((y1_7).toNat * 3) + 3)) 0).toNat * 1))) + (i64.wrap ((i64.wrap (num (a1x2.extract ((y1_7).toNat * 3) (((y1_7).toNat * 3) + 3)) 2)) * (12 ^ y0_6.toNat))))))).setIfInBounds 2 (.int .i64 (i64.wrap ((num (r1_9.setIfInBounds (3 + ((num (a1x2.extract ((y1_7).toNat * 3) (((y1_7).toNat * 3) + 3)) 0).toNat * 1)) (.int .i64 (i64.wrap ((num r1_9 (3 + ((num (a1x2.extract ((y1_7).toNat * 3) (((y1_7).toNat * 3) + 3)) 0).toNat * 1))) + (i64.wrap ((i64.wrap (num (a1x2.extract ((y1_7).toNat * 3) (((y1_7).toNat * 3) + 3)) 2)) * (12 ^ y0_6.toNat))))))) 2) + (i64.wrap (num (a1x2.extract ((y1_7).toNat * 3) (((y1_7).toNat * 3) + 3)) 2)))))))))
       else (none))
      else (none))
     else (none))
    else (some (.more ((i64.wrap (y1_7 + (1 : Int))), r1_9))))
   else (none))
  else (some (.done (y1_7, r1_9)))
theorem Zwe (N:Nat) (a0 a1:Array Value) (b_a1x2:Option (Option Addr)) (n_a1x2:Nat) (a1x2:Array Value) (y0_6:Int) (r0_9:Array Value):∀ t:Int×Array Value,stepV Tryz.prog Zao N (cAt (codeOf Tryz.f19) [1,1,0,1,0,0,1,0,0,0,1,0,0]) (pAt (mkPlan (codeOf Tryz.f19) [([6],[9]),([7],[9])]).1 [1,1,0,1,0,1,0,0,1,0]) [7] [9] (Zea a0 a1 b_a1x2 n_a1x2 a1x2 y0_6 r0_9) (Ze7 t)=mapS Ze7 Zi6 (Zby Tryz.prog a0 a1 b_a1x2 n_a1x2 a1x2 y0_6 r0_9 t):=by
 rintro ⟨y1_7,r1_9⟩
 refine Eq.trans (b:=(bif decide (y1_7<(n_a1x2:Int)) then (bif (decide (0≤y1_7)&&decide (y1_7<(n_a1x2:Int))) then (bif ((i64.wrap (num (a1x2.extract ((y1_7).toNat*3) (((y1_7).toNat*3)+3)) 1))==y0_6) then (bif (decide (0≤(num (a1x2.extract ((y1_7).toNat*3) (((y1_7).toNat*3)+3)) 0))&&decide ((num (a1x2.extract ((y1_7).toNat*3) (((y1_7).toNat*3)+3)) 0)<36)) then (bif (decide (0≤y0_6)&&decide (y0_6≤14)) then (bif (decide (0≤(num (a1x2.extract ((y1_7).toNat*3) (((y1_7).toNat*3)+3)) 0))&&decide ((num (a1x2.extract ((y1_7).toNat*3) (((y1_7).toNat*3)+3)) 0)<36)) then (some (.more ([.a (.i .i64 (i64.wrap (y1_7+(1:Int))))],[.row ((r1_9.setIfInBounds (3+((num (a1x2.extract ((y1_7).toNat*3) (((y1_7).toNat*3)+3)) 0).toNat*1)) (.int .i64 (i64.wrap ((num r1_9 (3+((num (a1x2.extract ((y1_7).toNat*3) (((y1_7).toNat*3)+3)) 0).toNat*1)))+(i64.wrap ((i64.wrap (num (a1x2.extract ((y1_7).toNat*3) (((y1_7).toNat*3)+3)) 2))*(12^y0_6.toNat))))))).setIfInBounds 2 (.int .i64 (i64.wrap ((num (r1_9.setIfInBounds (3+((num (a1x2.extract ((y1_7).toNat*3) (((y1_7).toNat*3)+3)) 0).toNat*1)) (.int .i64 (i64.wrap ((num r1_9 (3+((num (a1x2.extract ((y1_7).toNat*3) (((y1_7).toNat*3)+3)) 0).toNat*1)))+(i64.wrap ((i64.wrap (num (a1x2.extract ((y1_7).toNat*3) (((y1_7).toNat*3)+3)) 2))*(12^y0_6.toNat))))))) 2)+(i64.wrap (num (a1x2.extract ((y1_7).toNat*3) (((y1_7).toNat*3)+3)) 2)))))) 60])))
       else (none))
      else (none))
     else (none))
    else (some (.more ([.a (.i .i64 (i64.wrap (y1_7+(1:Int))))],[.row r1_9 60]))))
   else (none))
  else (some (.done ((.exit 2),([.a (.i .i64 (y1_7))],[.row r1_9 60])))))) (by kernel_rfl) ?_
 simp only [Zby,Zay,Zaz,Zax,Zaw,Ze7,Zi6]
def Zd8 (a0 a1:Array Value) (b_a1x2:Option (Option Addr)) (n_a1x2:Nat) (a1x2:Array Value):St:=(⟨.a (.w 0) :: .a (.w 1) :: .a (.u) :: .a (.u) :: .a (.w 3) :: .a (.w 9) :: .a (.i .i64 (0:Int)) :: .a (.u) :: .a (.u) :: .a (.w 1) :: .a (.w 1) :: .a (.p 1 (0) 22) :: .a (.i .i8 (num a1 0)) :: .a (.g ((zc Tryz.prog 60).setIfInBounds 0 (.int .i8 (num a1 0))) 60)::us 54 ([]),[.row a0 41,.one (.r a1 45 [(2,2)]) 45,.sl (.came b_a1x2) n_a1x2 a1x2 95,.row (zc Tryz.prog 60) 60,.no,.no,.no,.no,.no,.row ((zc Tryz.prog 60).setIfInBounds 0 (.int .i8 (num a1 0))) 60,.no],[9]⟩:St)
def Zbx:Int×Array Value→LS
 | (y0_6,r0_9)=>([.a (.i .i64 (y0_6))],[.row r0_9 60])
def Zdc:Int×Array Value→Exit×LS
 | t=>((.exit 0),Zbx t)
def Zcj (P:Program) (N:Nat) (a0 a1:Array Value) (b_a1x2:Option (Option Addr)) (n_a1x2:Nat) (a1x2:Array Value) (y0_6:Int) (r0_9:Array Value) (z1_7:Int) (q1_9:Array Value):Option (Stp (Int×Array Value) (Int×Array Value)):=bif (okS a0&&(decide (0≤tdS q1_9)&&decide (tdS q1_9<2))) then (some (.more ((i64.wrap (y0_6+(1:Int))),(hourV Tryz.prog a0 q1_9))))
  else (none)
theorem Zop (N:Nat) (a0 a1:Array Value) (b_a1x2:Option (Option Addr)) (n_a1x2:Nat) (a1x2:Array Value) (y0_6:Int) (r0_9:Array Value) (z1_7:Int) (q1_9:Array Value):(kBlock 2 (kSeq (veC Tryz.prog Zao N (cAt (codeOf Tryz.f19) [1,1,0,1,0,0,1,0,0,1]) (pAt (mkPlan (codeOf Tryz.f19) [([6],[9]),([7],[9])]).1 [1,1,0,1,0,1,0,1]) (Stp LS (Exit×LS))) (kBlock 1 (kSeq (veC Tryz.prog Zao N (cAt (codeOf Tryz.f19) [1,1,0,1,0,0,1,1]) (pAt (mkPlan (codeOf Tryz.f19) [([6],[9]),([7],[9])]).1 [1,1,0,1,0,1,1]) (Stp LS (Exit×LS))) (kBody 11 [6] [9]))))) (.exit 2) (left (writes (cAt (codeOf Tryz.f19) [1,1,0,1,0,0,1,0,0,0,1,0,0])) [7] [9] (Zea a0 a1 b_a1x2 n_a1x2 a1x2 y0_6 r0_9) ([.a (.i .i64 (z1_7))],[.row q1_9 60]))=mapS Zbx Zdc (Zcj Tryz.prog N a0 a1 b_a1x2 n_a1x2 a1x2 y0_6 r0_9 z1_7 q1_9):=by
 refine Eq.trans (b:=(bif (okS a0&&(decide (0≤tdS q1_9)&&decide (tdS q1_9<2))) then (some (.more ([.a (.i .i64 (i64.wrap (y0_6+(1:Int))))],[.row (hourV Tryz.prog a0 q1_9) 60])))
  else (none))) (by kernel_rfl) ?_
 simp only [Zcj,Zay,Zaz,Zax,Zaw,Zbx,Zdc]
theorem Zvr (N:Nat) (a0 a1:Array Value) (b_a1x2:Option (Option Addr)) (n_a1x2:Nat) (a1x2:Array Value) (y0_6:Int) (r0_9:Array Value):bindX (iterO (stepV Tryz.prog Zao N (cAt (codeOf Tryz.f19) [1,1,0,1,0,0,1,0,0,0,1,0,0]) (pAt (mkPlan (codeOf Tryz.f19) [([6],[9]),([7],[9])]).1 [1,1,0,1,0,1,0,0,1,0]) [7] [9] (Zea a0 a1 b_a1x2 n_a1x2 a1x2 y0_6 r0_9)) N ([.a (.i .i64 (0:Int))],[.row r0_9 60])) (fun e s=>(kBlock 2 (kSeq (veC Tryz.prog Zao N (cAt (codeOf Tryz.f19) [1,1,0,1,0,0,1,0,0,1]) (pAt (mkPlan (codeOf Tryz.f19) [([6],[9]),([7],[9])]).1 [1,1,0,1,0,1,0,1]) (Stp LS (Exit×LS))) (kBlock 1 (kSeq (veC Tryz.prog Zao N (cAt (codeOf Tryz.f19) [1,1,0,1,0,0,1,1]) (pAt (mkPlan (codeOf Tryz.f19) [([6],[9]),([7],[9])]).1 [1,1,0,1,0,1,1]) (Stp LS (Exit×LS))) (kBody 11 [6] [9]))))) e (left (writes (cAt (codeOf Tryz.f19) [1,1,0,1,0,0,1,0,0,0,1,0,0])) [7] [9] (Zea a0 a1 b_a1x2 n_a1x2 a1x2 y0_6 r0_9) s))=mapS Zbx Zdc (nodeX (iterO (Zby Tryz.prog a0 a1 b_a1x2 n_a1x2 a1x2 y0_6 r0_9) N ((0:Int),r0_9)) (fun x=>Zcj Tryz.prog N a0 a1 b_a1x2 n_a1x2 a1x2 y0_6 r0_9 x.1 x.2)):=by
 have h:=Zbc (α:=Stp LS (Exit×LS)) Ze7 Zi6 _ _ (Zwe N a0 a1 b_a1x2 n_a1x2 a1x2 y0_6 r0_9) N ((0:Int),r0_9)
 rw [Zwx Zbx Zdc]
 refine h _ _ ?_
 intro x;exact Zop N a0 a1 b_a1x2 n_a1x2 a1x2 y0_6 r0_9 x.1 x.2
def Zbm (P:Program) (N:Nat) (a0 a1:Array Value) (b_a1x2:Option (Option Addr)) (n_a1x2:Nat) (a1x2:Array Value):Int×Array Value→Option (Stp (Int×Array Value) (Int×Array Value))
 | (y0_6,r0_9)=>bif decide (y0_6<(i64.wrap (num a1 1))) then (nodeX (iterO (Zby P a0 a1 b_a1x2 n_a1x2 a1x2 y0_6 r0_9) N ((0:Int),r0_9)) (fun x=>Zcj P N a0 a1 b_a1x2 n_a1x2 a1x2 y0_6 r0_9 x.1 x.2))
  else (some (.done (y0_6,r0_9)))
theorem Zwb (N:Nat) (a0 a1:Array Value) (b_a1x2:Option (Option Addr)) (n_a1x2:Nat) (a1x2:Array Value):∀ t:Int×Array Value,stepV Tryz.prog Zao N (cAt (codeOf Tryz.f19) [1,1,0,1,0,0]) (pAt (mkPlan (codeOf Tryz.f19) [([6],[9]),([7],[9])]).1 [1,1,0,1,0]) [6] [9] (Zd8 a0 a1 b_a1x2 n_a1x2 a1x2) (Zbx t)=mapS Zbx Zdc (Zbm Tryz.prog N a0 a1 b_a1x2 n_a1x2 a1x2 t):=by
 rintro ⟨y0_6,r0_9⟩
 refine Eq.trans (b:=(bif decide (y0_6<(i64.wrap (num a1 1))) then (bindX (iterO (stepV Tryz.prog Zao N (cAt (codeOf Tryz.f19) [1,1,0,1,0,0,1,0,0,0,1,0,0]) (pAt (mkPlan (codeOf Tryz.f19) [([6],[9]),([7],[9])]).1 [1,1,0,1,0,1,0,0,1,0]) [7] [9] (Zea a0 a1 b_a1x2 n_a1x2 a1x2 y0_6 r0_9)) N ([.a (.i .i64 (0:Int))],[.row r0_9 60])) (fun e s=>(kBlock 2 (kSeq (veC Tryz.prog Zao N (cAt (codeOf Tryz.f19) [1,1,0,1,0,0,1,0,0,1]) (pAt (mkPlan (codeOf Tryz.f19) [([6],[9]),([7],[9])]).1 [1,1,0,1,0,1,0,1]) (Stp LS (Exit×LS))) (kBlock 1 (kSeq (veC Tryz.prog Zao N (cAt (codeOf Tryz.f19) [1,1,0,1,0,0,1,1]) (pAt (mkPlan (codeOf Tryz.f19) [([6],[9]),([7],[9])]).1 [1,1,0,1,0,1,1]) (Stp LS (Exit×LS))) (kBody 11 [6] [9]))))) e (left (writes (cAt (codeOf Tryz.f19) [1,1,0,1,0,0,1,0,0,0,1,0,0])) [7] [9] (Zea a0 a1 b_a1x2 n_a1x2 a1x2 y0_6 r0_9) s)))
  else (some (.done ((.exit 0),([.a (.i .i64 (y0_6))],[.row r0_9 60])))))) (by kernel_rfl) ?_
 simp only [Zvr N a0 a1 b_a1x2 n_a1x2 a1x2 y0_6 r0_9,Zbm,Zay,Zaz,Zax,Zaw,Zbx,Zdc]
def Zfh (P:Program) (N:Nat) (a0 a1:Array Value) (b_a1x2:Option (Option Addr)) (n_a1x2:Nat) (a1x2:Array Value) (z0_6:Int) (q0_9:Array Value):Option (SV×Eff×Bool):=some (.a (.g q0_9 60),.none,true)
theorem Zof (N:Nat) (a0 a1:Array Value) (b_a1x2:Option (Option Addr)) (n_a1x2:Nat) (a1x2:Array Value) (z0_6:Int) (q0_9:Array Value):(kBlock 0 (kSeq (veC Tryz.prog Zao N (cAt (codeOf Tryz.f19) [1,1,1]) (pAt (mkPlan (codeOf Tryz.f19) [([6],[9]),([7],[9])]).1 [1,1,1]) (SV×Eff×Bool)) (finK Tryz.prog [.row a0 41,.one (.r a1 45 [(2,2)]) 45,.sl (.came b_a1x2) n_a1x2 a1x2 95] [.cell 4 60]))) (.exit 0) (left (writes (cAt (codeOf Tryz.f19) [1,1,0,1,0,0])) [6] [9] (Zd8 a0 a1 b_a1x2 n_a1x2 a1x2) ([.a (.i .i64 (z0_6))],[.row q0_9 60]))=Zfh Tryz.prog N a0 a1 b_a1x2 n_a1x2 a1x2 z0_6 q0_9:=by
 refine Eq.trans (b:=(some (.a (.g q0_9 60),.none,true))) (by kernel_rfl) ?_
 rfl
theorem Zwj (N:Nat) (a0 a1:Array Value) (b_a1x2:Option (Option Addr)) (n_a1x2:Nat) (a1x2:Array Value):bindX (iterO (stepV Tryz.prog Zao N (cAt (codeOf Tryz.f19) [1,1,0,1,0,0]) (pAt (mkPlan (codeOf Tryz.f19) [([6],[9]),([7],[9])]).1 [1,1,0,1,0]) [6] [9] (Zd8 a0 a1 b_a1x2 n_a1x2 a1x2)) N ([.a (.i .i64 (0:Int))],[.row ((zc Tryz.prog 60).setIfInBounds 0 (.int .i8 (num a1 0))) 60])) (fun e s=>(kBlock 0 (kSeq (veC Tryz.prog Zao N (cAt (codeOf Tryz.f19) [1,1,1]) (pAt (mkPlan (codeOf Tryz.f19) [([6],[9]),([7],[9])]).1 [1,1,1]) (SV×Eff×Bool)) (finK Tryz.prog [.row a0 41,.one (.r a1 45 [(2,2)]) 45,.sl (.came b_a1x2) n_a1x2 a1x2 95] [.cell 4 60]))) e (left (writes (cAt (codeOf Tryz.f19) [1,1,0,1,0,0])) [6] [9] (Zd8 a0 a1 b_a1x2 n_a1x2 a1x2) s))=nodeX (iterO (Zbm Tryz.prog N a0 a1 b_a1x2 n_a1x2 a1x2) N ((0:Int),((zc Tryz.prog 60).setIfInBounds 0 (.int .i8 (num a1 0))))) (fun x=>Zfh Tryz.prog N a0 a1 b_a1x2 n_a1x2 a1x2 x.1 x.2):=by
 refine Zbc Zbx Zdc _ _ (Zwb N a0 a1 b_a1x2 n_a1x2 a1x2) N ((0:Int),((zc Tryz.prog 60).setIfInBounds 0 (.int .i8 (num a1 0)))) _ _ ?_
 intro x;exact Zof N a0 a1 b_a1x2 n_a1x2 a1x2 x.1 x.2
theorem Zt4 (N:Nat) (a0 a1:Array Value) (b_a1x2:Option (Option Addr)) (n_a1x2:Nat) (a1x2:Array Value):ansV Tryz.prog Zao N Tryz.f19 [([6],[9]),([7],[9])] [.w 0,.w 1] [.row a0 41,.one (.r a1 45 [(2,2)]) 45,.sl (.came b_a1x2) n_a1x2 a1x2 95]=(nodeX (iterO (Zbm Tryz.prog N a0 a1 b_a1x2 n_a1x2 a1x2) N ((0:Int),((zc Tryz.prog 60).setIfInBounds 0 (.int .i8 (num a1 0))))) (fun x=>Zfh Tryz.prog N a0 a1 b_a1x2 n_a1x2 a1x2 x.1 x.2)):=by
 refine Eq.trans (b:=(bindX (iterO (stepV Tryz.prog Zao N (cAt (codeOf Tryz.f19) [1,1,0,1,0,0]) (pAt (mkPlan (codeOf Tryz.f19) [([6],[9]),([7],[9])]).1 [1,1,0,1,0]) [6] [9] (Zd8 a0 a1 b_a1x2 n_a1x2 a1x2)) N ([.a (.i .i64 (0:Int))],[.row ((zc Tryz.prog 60).setIfInBounds 0 (.int .i8 (num a1 0))) 60])) (fun e s=>(kBlock 0 (kSeq (veC Tryz.prog Zao N (cAt (codeOf Tryz.f19) [1,1,1]) (pAt (mkPlan (codeOf Tryz.f19) [([6],[9]),([7],[9])]).1 [1,1,1]) (SV×Eff×Bool)) (finK Tryz.prog [.row a0 41,.one (.r a1 45 [(2,2)]) 45,.sl (.came b_a1x2) n_a1x2 a1x2 95] [.cell 4 60]))) e (left (writes (cAt (codeOf Tryz.f19) [1,1,0,1,0,0])) [6] [9] (Zd8 a0 a1 b_a1x2 n_a1x2 a1x2) s)))) (by kernel_rfl) ?_
 simp only [Zwj N a0 a1 b_a1x2 n_a1x2 a1x2]
theorem Zsi (a0 a1:Array Value) (b_a1x2:Option (Option Addr)) (n_a1x2:Nat) (a1x2:Array Value) (h_a0:WT Tryz.prog 41 a0) (h_a1:WT Tryz.prog 45 a1) (h_a1x2:a1x2.size=n_a1x2*(lay Tryz.prog 95).length∧(∀ k,k<n_a1x2→WT Tryz.prog 95 (a1x2.extract (k*(lay Tryz.prog 95).length) (k*(lay Tryz.prog 95).length+(lay Tryz.prog 95).length)))∧n_a1x2≤9223372036854775807) (hg:((okS a0&&planB a0 a1 n_a1x2 a1x2))=true):ansV Tryz.prog Zao 18446744073709551616 Tryz.f19 [([6],[9]),([7],[9])] [.w 0,.w 1] [.row a0 41,.one (.r a1 45 [(2,2)]) 45,.sl (.came b_a1x2) n_a1x2 a1x2 95]=some (.a (.g (spreadV Tryz.prog a0 (num a1 0) n_a1x2 a1x2 (num a1 1).toNat) 60),.none,true):=by
 have hn:=h_a1x2.2.2
 rw [Bool.and_eq_true] at hg
 obtain ⟨hok,hg⟩:=hg
 obtain ⟨-,b0⟩:=h_a1.int (o:=0) (k:=.i8) (by kernel_rfl)
 obtain ⟨-,b1⟩:=h_a1.int (o:=1) (k:=.i8) (by kernel_rfl)
 have m8:IntKind.i8.min = -128∧IntKind.i8.max=127:=⟨rfl,rfl⟩
 have e0:i64.wrap (num a1 0)=num a1 0:=IntWalk.i64_in _ (by omega)
 have e1:i64.wrap (num a1 1)=num a1 1:=IntWalk.i64_in _ (by omega)
 unfold planB at hg
 rw [e0,e1] at hg
 simp only [Bool.and_eq_true] at hg
 obtain ⟨g0,g1,-,g2,-⟩:=hg
 have r0:=Zl6 g0
 have r1:=Zl6 g1
 have hc:=Ya2 h_a0 (fun k hk=>by have:=h_a1x2.2.1 k hk;rw [Yh4] at this;exact this) g2
 obtain ⟨m,hm⟩:=Int.eq_ofNat_of_zero_le (show 0≤num a1 1 by omega)
 have em:i64.wrap (m:Int)=(m:Int):=by rw [← hm];exact e1
 refine (Zt4 18446744073709551616 a0 a1 b_a1x2 n_a1x2 a1x2).trans ?_
 rw [hm,Int.toNat_natCast]
 have hq:∀ q,iterO (Zbm Tryz.prog 18446744073709551616 a0 a1 b_a1x2 n_a1x2 a1x2) 18446744073709551616 ((0:Int),((zc Tryz.prog 60).setIfInBounds 0 (.int .i8 (num a1 0))))=some ((m:Int),q)→nodeX (iterO (Zbm Tryz.prog 18446744073709551616 a0 a1 b_a1x2 n_a1x2 a1x2) 18446744073709551616 ((0:Int),((zc Tryz.prog 60).setIfInBounds 0 (.int .i8 (num a1 0))))) (fun x=>Zfh Tryz.prog 18446744073709551616 a0 a1 b_a1x2 n_a1x2 a1x2 x.1 x.2)=some (.a (.g q 60),.none,true):=fun q e=>by rw [e];rfl
 refine hq _ ?_
 exact Zei (g:=Zbm Tryz.prog 18446744073709551616 a0 a1 b_a1x2 n_a1x2 a1x2) (fun j=>((j:Int),spreadV Tryz.prog a0 (num a1 0) n_a1x2 a1x2 j)) (m:=m) (x:=((m:Int),spreadV Tryz.prog a0 (num a1 0) n_a1x2 a1x2 m)) (N:=18446744073709551616) (fun j hj=>by
  have h1:decide ((j:Int)<(m:Int))=true:=decide_eq_true (by omega)
  have h3:i64.wrap ((j:Int)+1)=((j+1:Nat):Int):=by rw [w64 (by omega)];omega
  have h4:(decide (0≤(j:Int))&&decide ((j:Int)≤14))=true:=by rw [decide_eq_true (show 0≤(j:Int) by omega),decide_eq_true (show (j:Int)≤14 by omega)];rfl
  have hG:=Zkw (S:=a0) (A:=a1x2) (n:=n_a1x2) h_a0 hok (show 0≤num a1 0∧num a1 0≤1 by omega) hc j (by omega)
  have hgo:=(Yhh hok (show 0≤num a1 0∧num a1 0≤1 by omega) (by omega) (Ya4 (h:=(j:Int)) hG hc)).2
  have hi:∀ X,iterO (Zby Tryz.prog a0 a1 b_a1x2 n_a1x2 a1x2 (j:Int) X) 18446744073709551616 ((0:Int),X)=some ((n_a1x2:Int),withV (j:Int) n_a1x2 a1x2 X):=fun X=>Zja (g:=Zby Tryz.prog a0 a1 b_a1x2 n_a1x2 a1x2 (j:Int) X) (fun r k=>((k:Int),r)) (putR (j:Int) a1x2) (m:=n_a1x2) (t:=X) (x:=((n_a1x2:Int),withV (j:Int) n_a1x2 a1x2 X)) (N:=18446744073709551616) (fun k s hk _=>by
   have h1:decide ((k:Int)<(n_a1x2:Int))=true:=decide_eq_true (by omega)
   have h0:decide (0≤(k:Int))=true:=decide_eq_true (by omega)
   have h3:i64.wrap ((k:Int)+1)=((k+1:Nat):Int):=by rw [IntWalk.i64_in _ (by omega)];omega
   have c0:=hc k hk
   have c0:=dec2 c0.1 (show num (a1x2.extract (k*3) (k*3+3)) 0<36 by omega)
   unfold putR
   rw [← Ymb]
   cases he:(i64.wrap (num (a1x2.extract (k*3) (k*3+3)) 1)==(j:Int))<;>simp only [Zby,h1,h0,h3,he,c0,h4,Bool.and_self,Int.toNat_natCast,cond_true,cond_false]) (by
   have h1:decide ((n_a1x2:Int)<(n_a1x2:Int))=false:=decide_eq_false (by omega)
   simp only [Zby,h1,cond_false]
   rfl) (by omega)
  have hX:=hi (spreadV Tryz.prog a0 (num a1 0) n_a1x2 a1x2 j)
  have t1:(okS a0&&(decide (0≤tdS (withV (j:Int) n_a1x2 a1x2 (spreadV Tryz.prog a0 (num a1 0) n_a1x2 a1x2 j)))&&decide (tdS (withV (j:Int) n_a1x2 a1x2 (spreadV Tryz.prog a0 (num a1 0) n_a1x2 a1x2 j))<2)))=true:=by rw [hok,dec2 hgo.1 hgo.2];rfl
  have e2:spreadV Tryz.prog a0 (num a1 0) n_a1x2 a1x2 (j+1)=hourV Tryz.prog a0 (withV (j:Int) n_a1x2 a1x2 (spreadV Tryz.prog a0 (num a1 0) n_a1x2 a1x2 j)):=rfl
  rw [e2]
  generalize spreadV Tryz.prog a0 (num a1 0) n_a1x2 a1x2 j=X at hX t1⊢
  generalize withV (j:Int) n_a1x2 a1x2 X=Y at hX t1⊢
  have hk:Zcj Tryz.prog 18446744073709551616 a0 a1 b_a1x2 n_a1x2 a1x2 (j:Int) X (n_a1x2:Int) Y=some (.more (((j+1:Nat):Int),hourV Tryz.prog a0 Y)):=by
   unfold Zcj
   rw [t1,cond_true,h3]
  have h1':Zbm Tryz.prog 18446744073709551616 a0 a1 b_a1x2 n_a1x2 a1x2 ((j:Int),X)=nodeX (iterO (Zby Tryz.prog a0 a1 b_a1x2 n_a1x2 a1x2 (j:Int) X) 18446744073709551616 ((0:Int),X)) (fun x=>Zcj Tryz.prog 18446744073709551616 a0 a1 b_a1x2 n_a1x2 a1x2 (j:Int) X x.1 x.2):=by
   simp only [Zbm,hm,em,h1,cond_true]
  rw [h1',hX]
  exact hk) (by
  have h1:decide ((m:Int)<(m:Int))=false:=decide_eq_false (by omega)
  simp only [Zbm,hm,em,h1,cond_false]) (by omega)
def Zim:Con:=fun args h=>match args,h with
 | [.w 0,.w 1],[.row a0 41,.one (.r a1 45 [(2,2)]) 45,.sl (.came b_a1x2) n_a1x2 a1x2 95]=>some (.a (.g (spreadV Tryz.prog a0 (num a1 0) n_a1x2 a1x2 (num a1 1).toNat) 60),.none,(okS a0&&planB a0 a1 n_a1x2 a1x2))
 | _,_=>none
theorem Zq5:EntX Tryz.prog 19:=Zaf (fn:=Tryz.f19) (by kernel_rfl) (by kernel_rfl) (by kernel_rfl)
theorem Zw1:ConOkX (md F) Tryz.prog 19 Zim:=(Zag (N:=18446744073709551616) (by kernel_rfl) (mkΓ_consX (Zad Zn4) Zk6 (mkΓ_consX (Zad Yba) Zuh mkΓ_nilX)) (fn:=Tryz.f19) (by kernel_rfl) (by kernel_rfl) [([6],[9]),([7],[9])]).of (by
 intro ρ h w args vals r e hA hH hr
 unfold Zim at hr
 split at hr
 ·rename_i a0 a1 b_a1x2 n_a1x2 a1x2
  obtain ⟨rfl,hg⟩:=Prod.mk.inj (Option.some.inj hr)
  obtain ⟨rfl,hg2⟩:=Prod.mk.inj hg
  exact Zsi a0 a1 b_a1x2 n_a1x2 a1x2 (hH.wt 0 rfl) (hH.wtr 1 rfl) (hH.slw 2 rfl) hg2
 ·cases hr)
def Zov:Cons:=(mkΓ [(38,con Zme),(39,con Zmg),(40,con Zg1)])
theorem Zw6 (N:Nat) (a2:Int) (a0 a1:Array Value) (b_a1x2:Option (Option Addr)) (n_a1x2:Nat) (a1x2:Array Value):ansV Tryz.prog Zov N Tryz.f18 [] [.w 0,.w 1,.i .u64 (a2)] [.row a0 41,.one (.r a1 45 [(2,2)]) 45,.sl (.came b_a1x2) n_a1x2 a1x2 95]=(bif (!((okS a0))) then (some (.a (.i .i64 (1:Int)),.none,true))
  else (bif (!((planB a0 a1 n_a1x2 a1x2))) then (some (.a (.i .i64 (1:Int)),.none,true))
   else (bif ((IntKind.u64.wrap (BitVec.ofInt IntKind.u64.bits a2 &&& ~~~(BitVec.ofInt IntKind.u64.bits (gridI (num a0 0) (num a0 1) 36))).toNat) != (0:Int)) then (some (.a (.i .i64 (2:Int)),.none,true))
    else (some (.a (.i .i64 (0:Int)),.none,true))))):=by kernel_rfl
def Zdw (a2:Int) (a0 a1:Array Value) (b_a1x2:Option (Option Addr)) (n_a1x2:Nat) (a1x2:Array Value):Int:=(bif (!((okS a0))) then (1:Int) else (bif (!((planB a0 a1 n_a1x2 a1x2))) then (1:Int) else (bif ((IntKind.u64.wrap (BitVec.ofInt IntKind.u64.bits a2 &&& ~~~(BitVec.ofInt IntKind.u64.bits (gridI (num a0 0) (num a0 1) 36))).toNat) != (0:Int)) then (2:Int) else (0:Int))))
theorem Zti (a2:Int) (a0 a1:Array Value) (b_a1x2:Option (Option Addr)) (n_a1x2:Nat) (a1x2:Array Value) (h_a2:IntKind.u64.min≤a2∧a2≤IntKind.u64.max) (h_a0:WT Tryz.prog 41 a0) (h_a1:WT Tryz.prog 45 a1) (h_a1x2:a1x2.size=n_a1x2*(lay Tryz.prog 95).length∧(∀ k,k<n_a1x2→WT Tryz.prog 95 (a1x2.extract (k*(lay Tryz.prog 95).length) (k*(lay Tryz.prog 95).length+(lay Tryz.prog 95).length)))∧n_a1x2≤9223372036854775807) (hg:(true)=true):ansV Tryz.prog Zov 1000 Tryz.f18 [] [.w 0,.w 1,.i .u64 (a2)] [.row a0 41,.one (.r a1 45 [(2,2)]) 45,.sl (.came b_a1x2) n_a1x2 a1x2 95]=some (.a (.i .i64 (Zdw a2 a0 a1 b_a1x2 n_a1x2 a1x2)),.none,true):=by
 refine (Zw6 1000 a2 a0 a1 b_a1x2 n_a1x2 a1x2).trans ?_
 unfold Zdw
 revert hg
 generalize ((!((okS a0))))=b2
 intro hg
 cases b2
 ·skip
  revert hg
  generalize ((!((planB a0 a1 n_a1x2 a1x2))))=b4
  intro hg
  cases b4
  ·skip
   revert hg
   generalize (((IntKind.u64.wrap (BitVec.ofInt IntKind.u64.bits a2 &&& ~~~(BitVec.ofInt IntKind.u64.bits (gridI (num a0 0) (num a0 1) 36))).toNat) != (0:Int)))=b6
   intro hg
   cases b6
   ·skip
    first | (simp only [cond_true,cond_false,Bool.and_true,Bool.true_and,Bool.and_false,Bool.false_and];done) | rfl | exact (nomatch (hg:false=true))
   ·skip
    first | (simp only [cond_true,cond_false,Bool.and_true,Bool.true_and,Bool.and_false,Bool.false_and];done) | rfl | exact (nomatch (hg:false=true))
  ·skip
   first | (simp only [cond_true,cond_false,Bool.and_true,Bool.true_and,Bool.and_false,Bool.false_and];done) | rfl | exact (nomatch (hg:false=true))
 ·skip
  first | (simp only [cond_true,cond_false,Bool.and_true,Bool.true_and,Bool.and_false,Bool.false_and];done) | rfl | exact (nomatch (hg:false=true))
def Ziz:Con:=fun args h=>match args,h with
 | [.w 0,.w 1,.i .u64 a2],[.row a0 41,.one (.r a1 45 [(2,2)]) 45,.sl (.came b_a1x2) n_a1x2 a1x2 95]=>some (.a (.i .i64 (Zdw a2 a0 a1 b_a1x2 n_a1x2 a1x2)),.none,true)
 | _,_=>none
theorem Zsd:EntX Tryz.prog 18:=Zaf (fn:=Tryz.f18) (by kernel_rfl) (by kernel_rfl) (by kernel_rfl)
theorem Zyg:ConOkX (md F) Tryz.prog 18 Ziz:=(Zag (N:=1000) (by kernel_rfl) (mkΓ_consX (Zad Yey) Zyx (mkΓ_consX (Zad Yd0) Zxz (mkΓ_consX (Zad Zn1) Zky mkΓ_nilX))) (fn:=Tryz.f18) (by kernel_rfl) (by kernel_rfl) []).of (by
 intro ρ h w args vals r e hA hH hr
 unfold Ziz at hr
 split at hr
 ·rename_i a2 a0 a1 b_a1x2 n_a1x2 a1x2
  obtain ⟨rfl,hg⟩:=Prod.mk.inj (Option.some.inj hr)
  obtain ⟨rfl,hg2⟩:=Prod.mk.inj hg
  exact Zti a2 a0 a1 b_a1x2 n_a1x2 a1x2 (hA.rng 2 rfl) (hH.wt 0 rfl) (hH.wtr 1 rfl) (hH.slw 2 rfl) hg2
 ·cases hr)
end
end Go.Proofs.YtflnjkpejbohjaaGreatDoor
