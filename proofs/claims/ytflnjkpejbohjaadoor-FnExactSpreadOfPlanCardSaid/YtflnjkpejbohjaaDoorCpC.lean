/- What a plan spreads and reaches: both sides. -/
import Derived.Test.YtflnjkpejbohjaaDoorProg
import Derived.Test.YtflnjkpejbohjaaDoorCpB
namespace Go.Proofs.YtflnjkpejbohjaaDoor
open Go.ChangeShapes Go.WideShapes Go.ChangeAt Go.RowKit Ve Vc
open Tryd (prog)
open IntKind (i64)
set_option linter.unusedVariables false
set_option linter.unusedSimpArgs false
set_option maxRecDepth 100000
noncomputable section
variable {F:Vc.Fd}
def Zbw:Cons:=(mkΓ [(50,con Zkw),(51,con Zea)])
def Zcs (a0:Array Value) (b_a0x365:Option (Option Addr)) (n_a0x365:Nat) (a0x365:Array Value):St:=(⟨.a (.r a0 69 [(365,0)]) :: .a (.w 1) :: .a (.w 2) :: .a (.w 8) :: .a (.u) :: .a (.p 1 (0) 67) :: .a (.p 1 (0) 2) :: .a (.i .i64 (num a0 0)) :: .a (.i .i8 (IntKind.i8.wrap (num a0 0))) :: .a (.g ((zc prog 35).setIfInBounds 0 (.int .i8 (IntKind.i8.wrap (num a0 0)))) 35) :: .a (.p 1 (0) 67) :: .a (.p 1 (1) 2) :: .a (.i .i64 (num a0 1)) :: .a (.i .i64 (0:Int))::us 11 ([]),[.sl (.came b_a0x365) n_a0x365 a0x365 97,.one (.r a0 69 [(365,0)]) 69,.row (zc prog 35) 35,.no,.no,.no,.no,.no,.row ((zc prog 35).setIfInBounds 0 (.int .i8 (IntKind.i8.wrap (num a0 0)))) 35,.no],[8]⟩:St)
def Zdu:Int×Array Value→LS
 | (y0_13,r0_8)=>([.a (.i .i64 (y0_13))],[.row r0_8 35])
def Zgz:Int×Array Value→Exit×LS
 | t=>((.exit 0),Zdu t)
def Za6 (P : Program) (a0 : Array Value) (b_a0x365 : Option (Option Addr)) (n_a0x365 : Nat) (a0x365 : Array Value) : Int × Array Value → Option (Stp (Int × Array Value) (Int × Array Value))
 | (y0_13, r0_8) => bif decide (y0_13 < (num a0 1)) then (bif ((decide (0 ≤ y0_13) && decide (y0_13 ≤ 14)) && cellsB n_a0x365 a0x365) then (bif (goG (a0.extract 2 (2 + 363)) (withV y0_13 n_a0x365 a0x365 r0_8)) then (some (.more ((i64.wrap (y0_13 + (1 : Int))), (hourV prog (a0.extract 2 (2 + 363)) (withV y0_13 n_a0x365 a0x365 r0_8)))))
    else (none))
   else (none))
  else (some (.done (y0_13, r0_8)))
theorem Zp9 (N:Nat) (a0:Array Value) (b_a0x365:Option (Option Addr)) (n_a0x365:Nat) (a0x365:Array Value):∀ t:Int×Array Value,stepV prog Zbw N (cAt (codeOf Tryd.f27) [1,1,0,1,0,0]) (pAt (mkPlan (codeOf Tryd.f27) [([13],[8])]).1 [1,1,0,1,0]) [13] [8] (Zcs a0 b_a0x365 n_a0x365 a0x365) (Zdu t)=mapS Zdu Zgz (Za6 prog a0 b_a0x365 n_a0x365 a0x365 t):=by
 rintro ⟨y0_13,r0_8⟩
 refine Eq.trans (b:=(bif decide (y0_13<(num a0 1)) then (bif ((decide (0≤y0_13)&&decide (y0_13≤14))&&cellsB n_a0x365 a0x365) then (bif (goG (a0.extract 2 (2+363)) (withV y0_13 n_a0x365 a0x365 r0_8)) then (some (.more ([.a (.i .i64 (i64.wrap (y0_13+(1:Int))))],[.row (hourV prog (a0.extract 2 (2+363)) (withV y0_13 n_a0x365 a0x365 r0_8)) 35])))
    else (none))
   else (none))
  else (some (.done ((.exit 0),([.a (.i .i64 (y0_13))],[.row r0_8 35])))))) (by kernel_rfl) ?_
 simp only [Za6,Za0,Zay,Za1,Zaz,Zdu,Zgz]
def Zd9 (P:Program) (N:Nat) (a0:Array Value) (b_a0x365:Option (Option Addr)) (n_a0x365:Nat) (a0x365:Array Value) (z0_13:Int) (q0_8:Array Value):Option (SV×Eff×Bool):=some (.a (.g q0_8 35),.none,true)
theorem Zmn (N:Nat) (a0:Array Value) (b_a0x365:Option (Option Addr)) (n_a0x365:Nat) (a0x365:Array Value) (z0_13:Int) (q0_8:Array Value):(kBlock 0 (kSeq (veC prog Zbw N (cAt (codeOf Tryd.f27) [1,1,1]) (pAt (mkPlan (codeOf Tryd.f27) [([13],[8])]).1 [1,1,1]) (SV×Eff×Bool)) (finK prog [.sl (.came b_a0x365) n_a0x365 a0x365 97] [.cell 2 35]))) (.exit 0) (left (writes (cAt (codeOf Tryd.f27) [1,1,0,1,0,0])) [13] [8] (Zcs a0 b_a0x365 n_a0x365 a0x365) ([.a (.i .i64 (z0_13))],[.row q0_8 35]))=Zd9 prog N a0 b_a0x365 n_a0x365 a0x365 z0_13 q0_8:=by
 refine Eq.trans (b:=(some (.a (.g q0_8 35),.none,true))) (by kernel_rfl) ?_
 rfl
theorem Zq0 (N:Nat) (a0:Array Value) (b_a0x365:Option (Option Addr)) (n_a0x365:Nat) (a0x365:Array Value):bindX (iterO (stepV prog Zbw N (cAt (codeOf Tryd.f27) [1,1,0,1,0,0]) (pAt (mkPlan (codeOf Tryd.f27) [([13],[8])]).1 [1,1,0,1,0]) [13] [8] (Zcs a0 b_a0x365 n_a0x365 a0x365)) N ([.a (.i .i64 (0:Int))],[.row ((zc prog 35).setIfInBounds 0 (.int .i8 (IntKind.i8.wrap (num a0 0)))) 35])) (fun e s=>(kBlock 0 (kSeq (veC prog Zbw N (cAt (codeOf Tryd.f27) [1,1,1]) (pAt (mkPlan (codeOf Tryd.f27) [([13],[8])]).1 [1,1,1]) (SV×Eff×Bool)) (finK prog [.sl (.came b_a0x365) n_a0x365 a0x365 97] [.cell 2 35]))) e (left (writes (cAt (codeOf Tryd.f27) [1,1,0,1,0,0])) [13] [8] (Zcs a0 b_a0x365 n_a0x365 a0x365) s))=nodeX (iterO (Za6 prog a0 b_a0x365 n_a0x365 a0x365) N ((0:Int),((zc prog 35).setIfInBounds 0 (.int .i8 (IntKind.i8.wrap (num a0 0)))))) (fun x=>Zd9 prog N a0 b_a0x365 n_a0x365 a0x365 x.1 x.2):=by
 refine Zbg Zdu Zgz _ _ (Zp9 N a0 b_a0x365 n_a0x365 a0x365) N ((0:Int),((zc prog 35).setIfInBounds 0 (.int .i8 (IntKind.i8.wrap (num a0 0))))) _ _ ?_
 intro x;exact Zmn N a0 b_a0x365 n_a0x365 a0x365 x.1 x.2
theorem Zpu (N:Nat) (a0:Array Value) (b_a0x365:Option (Option Addr)) (n_a0x365:Nat) (a0x365:Array Value):ansV prog Zbw N Tryd.f27 [([13],[8])] [.r a0 69 [(365,0)]] [.sl (.came b_a0x365) n_a0x365 a0x365 97]=(nodeX (iterO (Za6 prog a0 b_a0x365 n_a0x365 a0x365) N ((0:Int),((zc prog 35).setIfInBounds 0 (.int .i8 (IntKind.i8.wrap (num a0 0)))))) (fun x=>Zd9 prog N a0 b_a0x365 n_a0x365 a0x365 x.1 x.2)):=by
 refine Eq.trans (b:=(bindX (iterO (stepV prog Zbw N (cAt (codeOf Tryd.f27) [1,1,0,1,0,0]) (pAt (mkPlan (codeOf Tryd.f27) [([13],[8])]).1 [1,1,0,1,0]) [13] [8] (Zcs a0 b_a0x365 n_a0x365 a0x365)) N ([.a (.i .i64 (0:Int))],[.row ((zc prog 35).setIfInBounds 0 (.int .i8 (IntKind.i8.wrap (num a0 0)))) 35])) (fun e s=>(kBlock 0 (kSeq (veC prog Zbw N (cAt (codeOf Tryd.f27) [1,1,1]) (pAt (mkPlan (codeOf Tryd.f27) [([13],[8])]).1 [1,1,1]) (SV×Eff×Bool)) (finK prog [.sl (.came b_a0x365) n_a0x365 a0x365 97] [.cell 2 35]))) e (left (writes (cAt (codeOf Tryd.f27) [1,1,0,1,0,0])) [13] [8] (Zcs a0 b_a0x365 n_a0x365 a0x365) s)))) (by kernel_rfl) ?_
 simp only [Zq0 N a0 b_a0x365 n_a0x365 a0x365]
theorem voy_sea {V:Array Value} (h:WT prog 69 V):WT prog 42 (V.extract 2 (2+363)):=by
 have h1:=h.sub (T:=42) (o:=2) (Zll rfl (by kernel_rfl)) (Nat.lt_of_lt_of_eq (by decide:0<363) (by kernel_rfl))
 rw [show (zc prog 42).size=363 by kernel_rfl] at h1
 exact h1
theorem re_len:(lay prog 97).length=3:=by kernel_rfl
theorem Zn6 (a0:Array Value) (b_a0x365:Option (Option Addr)) (n_a0x365:Nat) (a0x365:Array Value) (h_a0:WT prog 69 a0) (h_a0x365:a0x365.size=n_a0x365*(lay prog 97).length∧(∀ k,k<n_a0x365→WT prog 97 (a0x365.extract (k*(lay prog 97).length) (k*(lay prog 97).length+(lay prog 97).length)))∧n_a0x365≤9223372036854775807) (hg:((okS (a0.extract 2 (2+363))&&spB (a0.extract 2 (2+363)) (num a0 0) (num a0 1) n_a0x365 a0x365))=true):ansV prog Zbw 1000 Tryd.f27 [([13],[8])] [.r a0 69 [(365,0)]] [.sl (.came b_a0x365) n_a0x365 a0x365 97]=some (.a (.g (spreadV prog (a0.extract 2 (2+363)) (IntKind.i8.wrap (num a0 0)) n_a0x365 a0x365 (num a0 1).toNat) 35),.none,true):=by
 have hn:=h_a0x365.2.2
 have hS:=voy_sea h_a0
 rw [Bool.and_eq_true] at hg
 obtain ⟨hok,hg⟩:=hg
 unfold spB at hg
 simp only [Bool.and_eq_true] at hg
 obtain ⟨g0,g1,g2⟩:=hg
 have r0:=Yad g0
 have r1:=Yad g1
 have hc:=Yg3 hS (fun k hk=>by have:=h_a0x365.2.1 k hk;rw [re_len] at this;exact this) g2
 have hcb:=cells_of hc
 have e8:IntKind.i8.wrap (num a0 0)=num a0 0:=IntWalk.i8_in _ (by omega)
 obtain ⟨m,hm⟩:=Int.eq_ofNat_of_zero_le (show 0≤num a0 1 by omega)
 refine (Zpu 1000 a0 b_a0x365 n_a0x365 a0x365).trans ?_
 rw [hm,Int.toNat_natCast]
 have hq:∀ q,iterO (Za6 prog a0 b_a0x365 n_a0x365 a0x365) 1000 ((0:Int),((zc prog 35).setIfInBounds 0 (.int .i8 (IntKind.i8.wrap (num a0 0)))))=some ((m:Int),q)→nodeX (iterO (Za6 prog a0 b_a0x365 n_a0x365 a0x365) 1000 ((0:Int),((zc prog 35).setIfInBounds 0 (.int .i8 (IntKind.i8.wrap (num a0 0)))))) (fun x=>Zd9 prog 1000 a0 b_a0x365 n_a0x365 a0x365 x.1 x.2)=some (.a (.g q 35),.none,true):=fun q e=>by rw [e];rfl
 refine hq _ ?_
 exact Zfd (g:=Za6 prog a0 b_a0x365 n_a0x365 a0x365) (fun j=>((j:Int),spreadV prog (a0.extract 2 (2+363)) (IntKind.i8.wrap (num a0 0)) n_a0x365 a0x365 j)) (m:=m) (x:=((m:Int),spreadV prog (a0.extract 2 (2+363)) (IntKind.i8.wrap (num a0 0)) n_a0x365 a0x365 m)) (N:=1000) (fun j hj=>by
  have h1:decide ((j:Int)<(m:Int))=true:=decide_eq_true (by omega)
  have h3:i64.wrap ((j:Int)+1)=((j+1:Nat):Int):=by rw [w64 (by omega)];omega
  have h4:(decide (0≤(j:Int))&&decide ((j:Int)≤14))=true:=by rw [decide_eq_true (show 0≤(j:Int) by omega),decide_eq_true (show (j:Int)≤14 by omega)];rfl
  have hG:=Ztl (S:=(a0.extract 2 (2+363))) (A:=a0x365) (n:=n_a0x365) hS hok (show 0≤IntKind.i8.wrap (num a0 0)∧IntKind.i8.wrap (num a0 0)≤1 by rw [e8];omega) hc j (by omega)
  have hgo:=(Yk7 hok (by rw [e8];omega) (by omega) (Ycj (h:=(j:Int)) hG hc)).1
  simp only [Za6,hm,h1,h3,h4,hcb,hgo,Bool.and_self,cond_true]
  rfl) (by
  have h1:decide ((m:Int)<(m:Int))=false:=decide_eq_false (by omega)
  simp only [Za6,hm,h1,cond_false]) (by omega)
def Zeo:Con:=fun args h=>match args,h with
 | [.r a0 69 [(365,0)]],[.sl (.came b_a0x365) n_a0x365 a0x365 97]=>some (.a (.g (spreadV prog (a0.extract 2 (2+363)) (IntKind.i8.wrap (num a0 0)) n_a0x365 a0x365 (num a0 1).toNat) 35),.none,(okS (a0.extract 2 (2+363))&&spB (a0.extract 2 (2+363)) (num a0 0) (num a0 1) n_a0x365 a0x365))
 | _,_=>none
theorem Ziu:EntX prog 27:=Zag (fn:=Tryd.f27) (by kernel_rfl) (by kernel_rfl) (by kernel_rfl)
theorem Zkd:ConOkX (md F) prog 27 Zeo:=(Zah (N:=1000) (by kernel_rfl) (mkΓ_consX (Zad Yco) Zvr (mkΓ_consX (Zad Zlz) Zkg mkΓ_nilX)) (fn:=Tryd.f27) (by kernel_rfl) (by kernel_rfl) [([13],[8])]).of (by
 intro ρ h w args vals r e hA hH hr
 unfold Zeo at hr
 split at hr
 ·rename_i a0 b_a0x365 n_a0x365 a0x365
  obtain ⟨rfl,hg⟩:=Prod.mk.inj (Option.some.inj hr)
  obtain ⟨rfl,hg2⟩:=Prod.mk.inj hg
  exact Zn6 a0 b_a0x365 n_a0x365 a0x365 (hA.wtr 0 rfl) (hH.slw 0 rfl) hg2
 ·cases hr)
def Zaq:Cons:=(mkΓ [(43,con Zj0),(44,con Zkn)])
def Zeg (a0 a1:Array Value) (b_a1x2:Option (Option Addr)) (n_a1x2:Nat) (a1x2:Array Value) (y0_6:Int) (r0_9:Array Value):St:=(⟨.a (.w 0) :: .a (.w 1) :: .a (.u) :: .a (.u) :: .a (.w 3) :: .a (.w 9) :: .a (.i .i64 (y0_6)) :: .a (.i .i64 (0:Int)) :: .a (.x) :: .a (.w 1) :: .a (.w 1) :: .a (.p 1 (0) 22) :: .a (.i .i8 (num a1 0)) :: .a (.g ((zc prog 35).setIfInBounds 0 (.int .i8 (num a1 0))) 35) :: .a (.i .i64 (y0_6)) :: .a (.w 1) :: .a (.w 1) :: .a (.p 1 (1) 22) :: .a (.i .i8 (num a1 1)) :: .a (.i .i64 (i64.wrap (num a1 1))) :: .a (.b (decide (y0_6<(i64.wrap (num a1 1)))))::xs 46 (.a (.u)::[]),[.row a0 42,.one (.r a1 46 [(2,2)]) 46,.sl (.came b_a1x2) n_a1x2 a1x2 97,.row (zc prog 35) 35,.no,.no,.no,.no,.no,.row r0_9 35,.no],[9]⟩:St)
def Zfm:Int×Array Value→LS
 | (y1_7,r1_9)=>([.a (.i .i64 (y1_7))],[.row r1_9 35])
def Zj1:Int×Array Value→Exit×LS
 | t=>((.exit 2),Zfm t)
def Zb8 (P : Program) (a0 a1 : Array Value) (b_a1x2 : Option (Option Addr)) (n_a1x2 : Nat) (a1x2 : Array Value) (y0_6 : Int) (r0_9 : Array Value) : Int × Array Value → Option (Stp (Int × Array Value) (Int × Array Value))
 | (y1_7, r1_9) => bif decide (y1_7 < (n_a1x2 : Int)) then (bif (decide (0 ≤ y1_7) && decide (y1_7 < (n_a1x2 : Int))) then (bif ((i64.wrap (num (a1x2.extract ((y1_7).toNat * 3) (((y1_7).toNat * 3) + 3)) 1)) == y0_6) then (bif (decide (0 ≤ (num (a1x2.extract ((y1_7).toNat * 3) (((y1_7).toNat * 3) + 3)) 0)) && decide ((num (a1x2.extract ((y1_7).toNat * 3) (((y1_7).toNat * 3) + 3)) 0) < 36)) then (bif (decide (0 ≤ y0_6) && decide (y0_6 ≤ 14)) then (bif (decide (0 ≤ (num (a1x2.extract ((y1_7).toNat * 3) (((y1_7).toNat * 3) + 3)) 0)) && decide ((num (a1x2.extract ((y1_7).toNat * 3) (((y1_7).toNat * 3) + 3)) 0) < 36)) then (some (.more ((i64.wrap (y1_7 + (1 : Int))), ((r1_9.setIfInBounds (3 + ((num (a1x2.extract ((y1_7).toNat * 3) (((y1_7).toNat * 3) + 3)) 0).toNat * 1)) (.int .i64 (i64.wrap ((num r1_9 (3 + ((num (a1x2.extract ((y1_7).toNat * 3) (((y1_7).toNat * 3) + 3)) 0).toNat * 1))) + (i64.wrap ((i64.wrap (num (a1x2.extract ((y1_7).toNat * 3) (((y1_7).toNat * 3) + 3)) 2)) * (12 ^ y0_6.toNat))))))).setIfInBounds 2 (.int .i64 (i64.wrap ((num (r1_9.setIfInBounds (3 + ((num (a1x2.extract ((y1_7).toNat * 3) (((y1_7).toNat * 3) + 3)) 0).toNat * 1)) (.int .i64 (i64.wrap ((num r1_9 (3 + ((num (a1x2.extract ((y1_7).toNat * 3) (((y1_7).toNat * 3) + 3)) 0).toNat * 1))) + (i64.wrap ((i64.wrap (num (a1x2.extract ((y1_7).toNat * 3) (((y1_7).toNat * 3) + 3)) 2)) * (12 ^ y0_6.toNat))))))) 2) + (i64.wrap (num (a1x2.extract ((y1_7).toNat * 3) (((y1_7).toNat * 3) + 3)) 2)))))))))
       else (none))
      else (none))
     else (none))
    else (some (.more ((i64.wrap (y1_7 + (1 : Int))), r1_9))))
   else (none))
  else (some (.done (y1_7, r1_9)))
theorem Zxz (N:Nat) (a0 a1:Array Value) (b_a1x2:Option (Option Addr)) (n_a1x2:Nat) (a1x2:Array Value) (y0_6:Int) (r0_9:Array Value):∀ t:Int×Array Value,stepV prog Zaq N (cAt (codeOf Tryd.f22) [1,1,0,1,0,0,1,0,0,0,1,0,0]) (pAt (mkPlan (codeOf Tryd.f22) [([6],[9]),([7],[9])]).1 [1,1,0,1,0,1,0,0,1,0]) [7] [9] (Zeg a0 a1 b_a1x2 n_a1x2 a1x2 y0_6 r0_9) (Zfm t)=mapS Zfm Zj1 (Zb8 prog a0 a1 b_a1x2 n_a1x2 a1x2 y0_6 r0_9 t):=by
 rintro ⟨y1_7,r1_9⟩
 refine Eq.trans (b:=(bif decide (y1_7<(n_a1x2:Int)) then (bif (decide (0≤y1_7)&&decide (y1_7<(n_a1x2:Int))) then (bif ((i64.wrap (num (a1x2.extract ((y1_7).toNat*3) (((y1_7).toNat*3)+3)) 1))==y0_6) then (bif (decide (0≤(num (a1x2.extract ((y1_7).toNat*3) (((y1_7).toNat*3)+3)) 0))&&decide ((num (a1x2.extract ((y1_7).toNat*3) (((y1_7).toNat*3)+3)) 0)<36)) then (bif (decide (0≤y0_6)&&decide (y0_6≤14)) then (bif (decide (0≤(num (a1x2.extract ((y1_7).toNat*3) (((y1_7).toNat*3)+3)) 0))&&decide ((num (a1x2.extract ((y1_7).toNat*3) (((y1_7).toNat*3)+3)) 0)<36)) then (some (.more ([.a (.i .i64 (i64.wrap (y1_7+(1:Int))))],[.row ((r1_9.setIfInBounds (3+((num (a1x2.extract ((y1_7).toNat*3) (((y1_7).toNat*3)+3)) 0).toNat*1)) (.int .i64 (i64.wrap ((num r1_9 (3+((num (a1x2.extract ((y1_7).toNat*3) (((y1_7).toNat*3)+3)) 0).toNat*1)))+(i64.wrap ((i64.wrap (num (a1x2.extract ((y1_7).toNat*3) (((y1_7).toNat*3)+3)) 2))*(12^y0_6.toNat))))))).setIfInBounds 2 (.int .i64 (i64.wrap ((num (r1_9.setIfInBounds (3+((num (a1x2.extract ((y1_7).toNat*3) (((y1_7).toNat*3)+3)) 0).toNat*1)) (.int .i64 (i64.wrap ((num r1_9 (3+((num (a1x2.extract ((y1_7).toNat*3) (((y1_7).toNat*3)+3)) 0).toNat*1)))+(i64.wrap ((i64.wrap (num (a1x2.extract ((y1_7).toNat*3) (((y1_7).toNat*3)+3)) 2))*(12^y0_6.toNat))))))) 2)+(i64.wrap (num (a1x2.extract ((y1_7).toNat*3) (((y1_7).toNat*3)+3)) 2)))))) 35])))
       else (none))
      else (none))
     else (none))
    else (some (.more ([.a (.i .i64 (i64.wrap (y1_7+(1:Int))))],[.row r1_9 35]))))
   else (none))
  else (some (.done ((.exit 2),([.a (.i .i64 (y1_7))],[.row r1_9 35])))))) (by kernel_rfl) ?_
 simp only [Zb8,Za0,Zay,Za1,Zaz,Zfm,Zj1]
def Zei (a0 a1:Array Value) (b_a1x2:Option (Option Addr)) (n_a1x2:Nat) (a1x2:Array Value):St:=(⟨.a (.w 0) :: .a (.w 1) :: .a (.u) :: .a (.u) :: .a (.w 3) :: .a (.w 9) :: .a (.i .i64 (0:Int)) :: .a (.u) :: .a (.u) :: .a (.w 1) :: .a (.w 1) :: .a (.p 1 (0) 22) :: .a (.i .i8 (num a1 0)) :: .a (.g ((zc prog 35).setIfInBounds 0 (.int .i8 (num a1 0))) 35)::us 54 ([]),[.row a0 42,.one (.r a1 46 [(2,2)]) 46,.sl (.came b_a1x2) n_a1x2 a1x2 97,.row (zc prog 35) 35,.no,.no,.no,.no,.no,.row ((zc prog 35).setIfInBounds 0 (.int .i8 (num a1 0))) 35,.no],[9]⟩:St)
def Zb7:Int×Array Value→LS
 | (y0_6,r0_9)=>([.a (.i .i64 (y0_6))],[.row r0_9 35])
def Zdm:Int×Array Value→Exit×LS
 | t=>((.exit 0),Zb7 t)
def Zcr (P:Program) (N:Nat) (a0 a1:Array Value) (b_a1x2:Option (Option Addr)) (n_a1x2:Nat) (a1x2:Array Value) (y0_6:Int) (r0_9:Array Value) (z1_7:Int) (q1_9:Array Value):Option (Stp (Int×Array Value) (Int×Array Value)):=bif (okS a0&&(decide (0≤tdS q1_9)&&decide (tdS q1_9<2))) then (some (.more ((i64.wrap (y0_6+(1:Int))),(hourV prog a0 q1_9))))
  else (none)
theorem Zpm (N:Nat) (a0 a1:Array Value) (b_a1x2:Option (Option Addr)) (n_a1x2:Nat) (a1x2:Array Value) (y0_6:Int) (r0_9:Array Value) (z1_7:Int) (q1_9:Array Value):(kBlock 2 (kSeq (veC prog Zaq N (cAt (codeOf Tryd.f22) [1,1,0,1,0,0,1,0,0,1]) (pAt (mkPlan (codeOf Tryd.f22) [([6],[9]),([7],[9])]).1 [1,1,0,1,0,1,0,1]) (Stp LS (Exit×LS))) (kBlock 1 (kSeq (veC prog Zaq N (cAt (codeOf Tryd.f22) [1,1,0,1,0,0,1,1]) (pAt (mkPlan (codeOf Tryd.f22) [([6],[9]),([7],[9])]).1 [1,1,0,1,0,1,1]) (Stp LS (Exit×LS))) (kBody 11 [6] [9]))))) (.exit 2) (left (writes (cAt (codeOf Tryd.f22) [1,1,0,1,0,0,1,0,0,0,1,0,0])) [7] [9] (Zeg a0 a1 b_a1x2 n_a1x2 a1x2 y0_6 r0_9) ([.a (.i .i64 (z1_7))],[.row q1_9 35]))=mapS Zb7 Zdm (Zcr prog N a0 a1 b_a1x2 n_a1x2 a1x2 y0_6 r0_9 z1_7 q1_9):=by
 refine Eq.trans (b:=(bif (okS a0&&(decide (0≤tdS q1_9)&&decide (tdS q1_9<2))) then (some (.more ([.a (.i .i64 (i64.wrap (y0_6+(1:Int))))],[.row (hourV prog a0 q1_9) 35])))
  else (none))) (by kernel_rfl) ?_
 simp only [Zcr,Za0,Zay,Za1,Zaz,Zb7,Zdm]
theorem Zx7 (N:Nat) (a0 a1:Array Value) (b_a1x2:Option (Option Addr)) (n_a1x2:Nat) (a1x2:Array Value) (y0_6:Int) (r0_9:Array Value):bindX (iterO (stepV prog Zaq N (cAt (codeOf Tryd.f22) [1,1,0,1,0,0,1,0,0,0,1,0,0]) (pAt (mkPlan (codeOf Tryd.f22) [([6],[9]),([7],[9])]).1 [1,1,0,1,0,1,0,0,1,0]) [7] [9] (Zeg a0 a1 b_a1x2 n_a1x2 a1x2 y0_6 r0_9)) N ([.a (.i .i64 (0:Int))],[.row r0_9 35])) (fun e s=>(kBlock 2 (kSeq (veC prog Zaq N (cAt (codeOf Tryd.f22) [1,1,0,1,0,0,1,0,0,1]) (pAt (mkPlan (codeOf Tryd.f22) [([6],[9]),([7],[9])]).1 [1,1,0,1,0,1,0,1]) (Stp LS (Exit×LS))) (kBlock 1 (kSeq (veC prog Zaq N (cAt (codeOf Tryd.f22) [1,1,0,1,0,0,1,1]) (pAt (mkPlan (codeOf Tryd.f22) [([6],[9]),([7],[9])]).1 [1,1,0,1,0,1,1]) (Stp LS (Exit×LS))) (kBody 11 [6] [9]))))) e (left (writes (cAt (codeOf Tryd.f22) [1,1,0,1,0,0,1,0,0,0,1,0,0])) [7] [9] (Zeg a0 a1 b_a1x2 n_a1x2 a1x2 y0_6 r0_9) s))=mapS Zb7 Zdm (nodeX (iterO (Zb8 prog a0 a1 b_a1x2 n_a1x2 a1x2 y0_6 r0_9) N ((0:Int),r0_9)) (fun x=>Zcr prog N a0 a1 b_a1x2 n_a1x2 a1x2 y0_6 r0_9 x.1 x.2)):=by
 have h:=Zbg (α:=Stp LS (Exit×LS)) Zfm Zj1 _ _ (Zxz N a0 a1 b_a1x2 n_a1x2 a1x2 y0_6 r0_9) N ((0:Int),r0_9)
 rw [Zx6 Zb7 Zdm]
 refine h _ _ ?_
 intro x;exact Zpm N a0 a1 b_a1x2 n_a1x2 a1x2 y0_6 r0_9 x.1 x.2
def Zbr (P:Program) (N:Nat) (a0 a1:Array Value) (b_a1x2:Option (Option Addr)) (n_a1x2:Nat) (a1x2:Array Value):Int×Array Value→Option (Stp (Int×Array Value) (Int×Array Value))
 | (y0_6,r0_9)=>bif decide (y0_6<(i64.wrap (num a1 1))) then (nodeX (iterO (Zb8 P a0 a1 b_a1x2 n_a1x2 a1x2 y0_6 r0_9) N ((0:Int),r0_9)) (fun x=>Zcr P N a0 a1 b_a1x2 n_a1x2 a1x2 y0_6 r0_9 x.1 x.2))
  else (some (.done (y0_6,r0_9)))
theorem Zxu (N:Nat) (a0 a1:Array Value) (b_a1x2:Option (Option Addr)) (n_a1x2:Nat) (a1x2:Array Value):∀ t:Int×Array Value,stepV prog Zaq N (cAt (codeOf Tryd.f22) [1,1,0,1,0,0]) (pAt (mkPlan (codeOf Tryd.f22) [([6],[9]),([7],[9])]).1 [1,1,0,1,0]) [6] [9] (Zei a0 a1 b_a1x2 n_a1x2 a1x2) (Zb7 t)=mapS Zb7 Zdm (Zbr prog N a0 a1 b_a1x2 n_a1x2 a1x2 t):=by
 rintro ⟨y0_6,r0_9⟩
 refine Eq.trans (b:=(bif decide (y0_6<(i64.wrap (num a1 1))) then (bindX (iterO (stepV prog Zaq N (cAt (codeOf Tryd.f22) [1,1,0,1,0,0,1,0,0,0,1,0,0]) (pAt (mkPlan (codeOf Tryd.f22) [([6],[9]),([7],[9])]).1 [1,1,0,1,0,1,0,0,1,0]) [7] [9] (Zeg a0 a1 b_a1x2 n_a1x2 a1x2 y0_6 r0_9)) N ([.a (.i .i64 (0:Int))],[.row r0_9 35])) (fun e s=>(kBlock 2 (kSeq (veC prog Zaq N (cAt (codeOf Tryd.f22) [1,1,0,1,0,0,1,0,0,1]) (pAt (mkPlan (codeOf Tryd.f22) [([6],[9]),([7],[9])]).1 [1,1,0,1,0,1,0,1]) (Stp LS (Exit×LS))) (kBlock 1 (kSeq (veC prog Zaq N (cAt (codeOf Tryd.f22) [1,1,0,1,0,0,1,1]) (pAt (mkPlan (codeOf Tryd.f22) [([6],[9]),([7],[9])]).1 [1,1,0,1,0,1,1]) (Stp LS (Exit×LS))) (kBody 11 [6] [9]))))) e (left (writes (cAt (codeOf Tryd.f22) [1,1,0,1,0,0,1,0,0,0,1,0,0])) [7] [9] (Zeg a0 a1 b_a1x2 n_a1x2 a1x2 y0_6 r0_9) s)))
  else (some (.done ((.exit 0),([.a (.i .i64 (y0_6))],[.row r0_9 35])))))) (by kernel_rfl) ?_
 simp only [Zx7 N a0 a1 b_a1x2 n_a1x2 a1x2 y0_6 r0_9,Zbr,Za0,Zay,Za1,Zaz,Zb7,Zdm]
def Zfu (P:Program) (N:Nat) (a0 a1:Array Value) (b_a1x2:Option (Option Addr)) (n_a1x2:Nat) (a1x2:Array Value) (z0_6:Int) (q0_9:Array Value):Option (SV×Eff×Bool):=some (.a (.g q0_9 35),.none,true)
theorem Zps (N:Nat) (a0 a1:Array Value) (b_a1x2:Option (Option Addr)) (n_a1x2:Nat) (a1x2:Array Value) (z0_6:Int) (q0_9:Array Value):(kBlock 0 (kSeq (veC prog Zaq N (cAt (codeOf Tryd.f22) [1,1,1]) (pAt (mkPlan (codeOf Tryd.f22) [([6],[9]),([7],[9])]).1 [1,1,1]) (SV×Eff×Bool)) (finK prog [.row a0 42,.one (.r a1 46 [(2,2)]) 46,.sl (.came b_a1x2) n_a1x2 a1x2 97] [.cell 4 35]))) (.exit 0) (left (writes (cAt (codeOf Tryd.f22) [1,1,0,1,0,0])) [6] [9] (Zei a0 a1 b_a1x2 n_a1x2 a1x2) ([.a (.i .i64 (z0_6))],[.row q0_9 35]))=Zfu prog N a0 a1 b_a1x2 n_a1x2 a1x2 z0_6 q0_9:=by
 refine Eq.trans (b:=(some (.a (.g q0_9 35),.none,true))) (by kernel_rfl) ?_
 rfl
theorem Zyj (N:Nat) (a0 a1:Array Value) (b_a1x2:Option (Option Addr)) (n_a1x2:Nat) (a1x2:Array Value):bindX (iterO (stepV prog Zaq N (cAt (codeOf Tryd.f22) [1,1,0,1,0,0]) (pAt (mkPlan (codeOf Tryd.f22) [([6],[9]),([7],[9])]).1 [1,1,0,1,0]) [6] [9] (Zei a0 a1 b_a1x2 n_a1x2 a1x2)) N ([.a (.i .i64 (0:Int))],[.row ((zc prog 35).setIfInBounds 0 (.int .i8 (num a1 0))) 35])) (fun e s=>(kBlock 0 (kSeq (veC prog Zaq N (cAt (codeOf Tryd.f22) [1,1,1]) (pAt (mkPlan (codeOf Tryd.f22) [([6],[9]),([7],[9])]).1 [1,1,1]) (SV×Eff×Bool)) (finK prog [.row a0 42,.one (.r a1 46 [(2,2)]) 46,.sl (.came b_a1x2) n_a1x2 a1x2 97] [.cell 4 35]))) e (left (writes (cAt (codeOf Tryd.f22) [1,1,0,1,0,0])) [6] [9] (Zei a0 a1 b_a1x2 n_a1x2 a1x2) s))=nodeX (iterO (Zbr prog N a0 a1 b_a1x2 n_a1x2 a1x2) N ((0:Int),((zc prog 35).setIfInBounds 0 (.int .i8 (num a1 0))))) (fun x=>Zfu prog N a0 a1 b_a1x2 n_a1x2 a1x2 x.1 x.2):=by
 refine Zbg Zb7 Zdm _ _ (Zxu N a0 a1 b_a1x2 n_a1x2 a1x2) N ((0:Int),((zc prog 35).setIfInBounds 0 (.int .i8 (num a1 0)))) _ _ ?_
 intro x;exact Zps N a0 a1 b_a1x2 n_a1x2 a1x2 x.1 x.2
theorem Zvy (N:Nat) (a0 a1:Array Value) (b_a1x2:Option (Option Addr)) (n_a1x2:Nat) (a1x2:Array Value):ansV prog Zaq N Tryd.f22 [([6],[9]),([7],[9])] [.w 0,.w 1] [.row a0 42,.one (.r a1 46 [(2,2)]) 46,.sl (.came b_a1x2) n_a1x2 a1x2 97]=(nodeX (iterO (Zbr prog N a0 a1 b_a1x2 n_a1x2 a1x2) N ((0:Int),((zc prog 35).setIfInBounds 0 (.int .i8 (num a1 0))))) (fun x=>Zfu prog N a0 a1 b_a1x2 n_a1x2 a1x2 x.1 x.2)):=by
 refine Eq.trans (b:=(bindX (iterO (stepV prog Zaq N (cAt (codeOf Tryd.f22) [1,1,0,1,0,0]) (pAt (mkPlan (codeOf Tryd.f22) [([6],[9]),([7],[9])]).1 [1,1,0,1,0]) [6] [9] (Zei a0 a1 b_a1x2 n_a1x2 a1x2)) N ([.a (.i .i64 (0:Int))],[.row ((zc prog 35).setIfInBounds 0 (.int .i8 (num a1 0))) 35])) (fun e s=>(kBlock 0 (kSeq (veC prog Zaq N (cAt (codeOf Tryd.f22) [1,1,1]) (pAt (mkPlan (codeOf Tryd.f22) [([6],[9]),([7],[9])]).1 [1,1,1]) (SV×Eff×Bool)) (finK prog [.row a0 42,.one (.r a1 46 [(2,2)]) 46,.sl (.came b_a1x2) n_a1x2 a1x2 97] [.cell 4 35]))) e (left (writes (cAt (codeOf Tryd.f22) [1,1,0,1,0,0])) [6] [9] (Zei a0 a1 b_a1x2 n_a1x2 a1x2) s)))) (by kernel_rfl) ?_
 simp only [Zyj N a0 a1 b_a1x2 n_a1x2 a1x2]
theorem Ztm (a0 a1:Array Value) (b_a1x2:Option (Option Addr)) (n_a1x2:Nat) (a1x2:Array Value) (h_a0:WT prog 42 a0) (h_a1:WT prog 46 a1) (h_a1x2:a1x2.size=n_a1x2*(lay prog 97).length∧(∀ k,k<n_a1x2→WT prog 97 (a1x2.extract (k*(lay prog 97).length) (k*(lay prog 97).length+(lay prog 97).length)))∧n_a1x2≤9223372036854775807) (hg:((okS a0&&planB a0 a1 n_a1x2 a1x2))=true):ansV prog Zaq 18446744073709551616 Tryd.f22 [([6],[9]),([7],[9])] [.w 0,.w 1] [.row a0 42,.one (.r a1 46 [(2,2)]) 46,.sl (.came b_a1x2) n_a1x2 a1x2 97]=some (.a (.g (spreadV prog a0 (num a1 0) n_a1x2 a1x2 (num a1 1).toNat) 35),.none,true):=by
 have hn:=h_a1x2.2.2
 rw [Bool.and_eq_true] at hg
 obtain ⟨hok,hg⟩:=hg
 obtain ⟨-,b0⟩:=h_a1.int (o:=0) (k:=.i8) (by kernel_rfl)
 obtain ⟨-,b1⟩:=h_a1.int (o:=1) (k:=.i8) (by kernel_rfl)
 have m8:IntKind.i8.min = -128∧IntKind.i8.max=127:=⟨rfl,rfl⟩
 have e0:i64.wrap (num a1 0)=num a1 0:=IntWalk.i64_in _ (by omega)
 have e1:i64.wrap (num a1 1)=num a1 1:=IntWalk.i64_in _ (by omega)
 unfold planB at hg
 rw [e0,e1] at hg
 simp only [Bool.and_eq_true] at hg
 obtain ⟨g0,g1,-,g2,-⟩:=hg
 have r0:=Yad g0
 have r1:=Yad g1
 have hc:=Yg3 h_a0 (fun k hk=>by have:=h_a1x2.2.1 k hk;rw [re_len] at this;exact this) g2
 obtain ⟨m,hm⟩:=Int.eq_ofNat_of_zero_le (show 0≤num a1 1 by omega)
 have em:i64.wrap (m:Int)=(m:Int):=by rw [← hm];exact e1
 refine (Zvy 18446744073709551616 a0 a1 b_a1x2 n_a1x2 a1x2).trans ?_
 rw [hm,Int.toNat_natCast]
 have hq:∀ q,iterO (Zbr prog 18446744073709551616 a0 a1 b_a1x2 n_a1x2 a1x2) 18446744073709551616 ((0:Int),((zc prog 35).setIfInBounds 0 (.int .i8 (num a1 0))))=some ((m:Int),q)→nodeX (iterO (Zbr prog 18446744073709551616 a0 a1 b_a1x2 n_a1x2 a1x2) 18446744073709551616 ((0:Int),((zc prog 35).setIfInBounds 0 (.int .i8 (num a1 0))))) (fun x=>Zfu prog 18446744073709551616 a0 a1 b_a1x2 n_a1x2 a1x2 x.1 x.2)=some (.a (.g q 35),.none,true):=fun q e=>by rw [e];rfl
 refine hq _ ?_
 exact Zfd (g:=Zbr prog 18446744073709551616 a0 a1 b_a1x2 n_a1x2 a1x2) (fun j=>((j:Int),spreadV prog a0 (num a1 0) n_a1x2 a1x2 j)) (m:=m) (x:=((m:Int),spreadV prog a0 (num a1 0) n_a1x2 a1x2 m)) (N:=18446744073709551616) (fun j hj=>by
  have h1:decide ((j:Int)<(m:Int))=true:=decide_eq_true (by omega)
  have h3:i64.wrap ((j:Int)+1)=((j+1:Nat):Int):=by rw [w64 (by omega)];omega
  have h4:(decide (0≤(j:Int))&&decide ((j:Int)≤14))=true:=by rw [decide_eq_true (show 0≤(j:Int) by omega),decide_eq_true (show (j:Int)≤14 by omega)];rfl
  have hG:=Ztl (S:=a0) (A:=a1x2) (n:=n_a1x2) h_a0 hok (show 0≤num a1 0∧num a1 0≤1 by omega) hc j (by omega)
  have hgo:=(Yk7 hok (show 0≤num a1 0∧num a1 0≤1 by omega) (by omega) (Ycj (h:=(j:Int)) hG hc)).2
  have hi:∀ X,iterO (Zb8 prog a0 a1 b_a1x2 n_a1x2 a1x2 (j:Int) X) 18446744073709551616 ((0:Int),X)=some ((n_a1x2:Int),withV (j:Int) n_a1x2 a1x2 X):=fun X=>Zhf (g:=Zb8 prog a0 a1 b_a1x2 n_a1x2 a1x2 (j:Int) X) (fun r k=>((k:Int),r)) (putR (j:Int) a1x2) (m:=n_a1x2) (t:=X) (x:=((n_a1x2:Int),withV (j:Int) n_a1x2 a1x2 X)) (N:=18446744073709551616) (fun k s hk _=>by
   have h1:decide ((k:Int)<(n_a1x2:Int))=true:=decide_eq_true (by omega)
   have h0:decide (0≤(k:Int))=true:=decide_eq_true (by omega)
   have h3:i64.wrap ((k:Int)+1)=((k+1:Nat):Int):=by rw [IntWalk.i64_in _ (by omega)];omega
   have c0:=hc k hk
   have c0:=dec2 c0.1 (show num (a1x2.extract (k*3) (k*3+3)) 0<36 by omega)
   unfold putR
   rw [← Ylh]
   cases he:(i64.wrap (num (a1x2.extract (k*3) (k*3+3)) 1)==(j:Int))<;>simp only [Zb8,h1,h0,h3,he,c0,h4,Bool.and_self,Int.toNat_natCast,cond_true,cond_false]) (by
   have h1:decide ((n_a1x2:Int)<(n_a1x2:Int))=false:=decide_eq_false (by omega)
   simp only [Zb8,h1,cond_false]
   rfl) (by omega)
  have hX:=hi (spreadV prog a0 (num a1 0) n_a1x2 a1x2 j)
  have t1:(okS a0&&(decide (0≤tdS (withV (j:Int) n_a1x2 a1x2 (spreadV prog a0 (num a1 0) n_a1x2 a1x2 j)))&&decide (tdS (withV (j:Int) n_a1x2 a1x2 (spreadV prog a0 (num a1 0) n_a1x2 a1x2 j))<2)))=true:=by rw [hok,dec2 hgo.1 hgo.2];rfl
  have e2:spreadV prog a0 (num a1 0) n_a1x2 a1x2 (j+1)=hourV prog a0 (withV (j:Int) n_a1x2 a1x2 (spreadV prog a0 (num a1 0) n_a1x2 a1x2 j)):=rfl
  rw [e2]
  generalize spreadV prog a0 (num a1 0) n_a1x2 a1x2 j=X at hX t1⊢
  generalize withV (j:Int) n_a1x2 a1x2 X=Y at hX t1⊢
  have hk:Zcr prog 18446744073709551616 a0 a1 b_a1x2 n_a1x2 a1x2 (j:Int) X (n_a1x2:Int) Y=some (.more (((j+1:Nat):Int),hourV prog a0 Y)):=by
   unfold Zcr
   rw [t1,cond_true,h3]
  have h1':Zbr prog 18446744073709551616 a0 a1 b_a1x2 n_a1x2 a1x2 ((j:Int),X)=nodeX (iterO (Zb8 prog a0 a1 b_a1x2 n_a1x2 a1x2 (j:Int) X) 18446744073709551616 ((0:Int),X)) (fun x=>Zcr prog 18446744073709551616 a0 a1 b_a1x2 n_a1x2 a1x2 (j:Int) X x.1 x.2):=by
   simp only [Zbr,hm,em,h1,cond_true]
  rw [h1',hX]
  exact hk) (by
  have h1:decide ((m:Int)<(m:Int))=false:=decide_eq_false (by omega)
  simp only [Zbr,hm,em,h1,cond_false]) (by omega)
def Za5:Con:=fun args h=>match args,h with
 | [.w 0,.w 1],[.row a0 42,.one (.r a1 46 [(2,2)]) 46,.sl (.came b_a1x2) n_a1x2 a1x2 97]=>some (.a (.g (spreadV prog a0 (num a1 0) n_a1x2 a1x2 (num a1 1).toNat) 35),.none,(okS a0&&planB a0 a1 n_a1x2 a1x2))
 | _,_=>none
theorem Zk8:EntX prog 22:=Zag (fn:=Tryd.f22) (by kernel_rfl) (by kernel_rfl) (by kernel_rfl)
theorem Zn0:ConOkX (md F) prog 22 Za5:=(Zah (N:=18446744073709551616) (by kernel_rfl) (mkΓ_consX (Zad Zy7) Ztx (mkΓ_consX (Zad Ybi) Zv4 mkΓ_nilX)) (fn:=Tryd.f22) (by kernel_rfl) (by kernel_rfl) [([6],[9]),([7],[9])]).of (by
 intro ρ h w args vals r e hA hH hr
 unfold Za5 at hr
 split at hr
 ·rename_i a0 a1 b_a1x2 n_a1x2 a1x2
  obtain ⟨rfl,hg⟩:=Prod.mk.inj (Option.some.inj hr)
  obtain ⟨rfl,hg2⟩:=Prod.mk.inj hg
  exact Ztm a0 a1 b_a1x2 n_a1x2 a1x2 (hH.wt 0 rfl) (hH.wtr 1 rfl) (hH.slw 2 rfl) hg2
 ·cases hr)
def Zqh:Cons:=(mkΓ [(40,con Zmz),(41,con Znc),(42,con Zhh)])
theorem Zx4 (N:Nat) (a2:Int) (a0 a1:Array Value) (b_a1x2:Option (Option Addr)) (n_a1x2:Nat) (a1x2:Array Value):ansV prog Zqh N Tryd.f21 [] [.w 0,.w 1,.i .u64 (a2)] [.row a0 42,.one (.r a1 46 [(2,2)]) 46,.sl (.came b_a1x2) n_a1x2 a1x2 97]=(bif (!((okS a0))) then (some (.a (.i .i64 (1:Int)),.none,true))
  else (bif (!((planB a0 a1 n_a1x2 a1x2))) then (some (.a (.i .i64 (1:Int)),.none,true))
   else (bif ((IntKind.u64.wrap (BitVec.ofInt IntKind.u64.bits a2 &&& ~~~(BitVec.ofInt IntKind.u64.bits (gridI (num a0 0) (num a0 1) 36))).toNat) != (0:Int)) then (some (.a (.i .i64 (2:Int)),.none,true))
    else (some (.a (.i .i64 (0:Int)),.none,true))))):=by kernel_rfl
def Zbn (a2:Int) (a0 a1:Array Value) (b_a1x2:Option (Option Addr)) (n_a1x2:Nat) (a1x2:Array Value):Int:=(bif (!((okS a0))) then (1:Int) else (bif (!((planB a0 a1 n_a1x2 a1x2))) then (1:Int) else (bif ((IntKind.u64.wrap (BitVec.ofInt IntKind.u64.bits a2 &&& ~~~(BitVec.ofInt IntKind.u64.bits (gridI (num a0 0) (num a0 1) 36))).toNat) != (0:Int)) then (2:Int) else (0:Int))))
theorem Zwb (a2:Int) (a0 a1:Array Value) (b_a1x2:Option (Option Addr)) (n_a1x2:Nat) (a1x2:Array Value) (h_a2:IntKind.u64.min≤a2∧a2≤IntKind.u64.max) (h_a0:WT prog 42 a0) (h_a1:WT prog 46 a1) (h_a1x2:a1x2.size=n_a1x2*(lay prog 97).length∧(∀ k,k<n_a1x2→WT prog 97 (a1x2.extract (k*(lay prog 97).length) (k*(lay prog 97).length+(lay prog 97).length)))∧n_a1x2≤9223372036854775807) (hg:(true)=true):ansV prog Zqh 1000 Tryd.f21 [] [.w 0,.w 1,.i .u64 (a2)] [.row a0 42,.one (.r a1 46 [(2,2)]) 46,.sl (.came b_a1x2) n_a1x2 a1x2 97]=some (.a (.i .i64 (Zbn a2 a0 a1 b_a1x2 n_a1x2 a1x2)),.none,true):=by
 refine (Zx4 1000 a2 a0 a1 b_a1x2 n_a1x2 a1x2).trans ?_
 unfold Zbn
 revert hg
 generalize ((!((okS a0))))=b2
 intro hg
 cases b2
 ·skip
  revert hg
  generalize ((!((planB a0 a1 n_a1x2 a1x2))))=b4
  intro hg
  cases b4
  ·skip
   revert hg
   generalize (((IntKind.u64.wrap (BitVec.ofInt IntKind.u64.bits a2 &&& ~~~(BitVec.ofInt IntKind.u64.bits (gridI (num a0 0) (num a0 1) 36))).toNat) != (0:Int)))=b6
   intro hg
   cases b6
   ·skip
    first | (simp only [cond_true,cond_false,Bool.and_true,Bool.true_and,Bool.and_false,Bool.false_and];done) | rfl | exact (nomatch (hg:false=true))
   ·skip
    first | (simp only [cond_true,cond_false,Bool.and_true,Bool.true_and,Bool.and_false,Bool.false_and];done) | rfl | exact (nomatch (hg:false=true))
  ·skip
   first | (simp only [cond_true,cond_false,Bool.and_true,Bool.true_and,Bool.and_false,Bool.false_and];done) | rfl | exact (nomatch (hg:false=true))
 ·skip
  first | (simp only [cond_true,cond_false,Bool.and_true,Bool.true_and,Bool.and_false,Bool.false_and];done) | rfl | exact (nomatch (hg:false=true))
def Zft:Con:=fun args h=>match args,h with
 | [.w 0,.w 1,.i .u64 a2],[.row a0 42,.one (.r a1 46 [(2,2)]) 46,.sl (.came b_a1x2) n_a1x2 a1x2 97]=>some (.a (.i .i64 (Zbn a2 a0 a1 b_a1x2 n_a1x2 a1x2)),.none,true)
 | _,_=>none
theorem Zia:EntX prog 21:=Zag (fn:=Tryd.f21) (by kernel_rfl) (by kernel_rfl) (by kernel_rfl)
theorem Zk1:ConOkX (md F) prog 21 Zft:=(Zah (N:=1000) (by kernel_rfl) (mkΓ_consX (Zad Yex) Zy9 (mkΓ_consX (Zad Ye1) Zzr (mkΓ_consX (Zad Zo5) Zl9 mkΓ_nilX))) (fn:=Tryd.f21) (by kernel_rfl) (by kernel_rfl) []).of (by
 intro ρ h w args vals r e hA hH hr
 unfold Zft at hr
 split at hr
 ·rename_i a2 a0 a1 b_a1x2 n_a1x2 a1x2
  obtain ⟨rfl,hg⟩:=Prod.mk.inj (Option.some.inj hr)
  obtain ⟨rfl,hg2⟩:=Prod.mk.inj hg
  exact Zwb a2 a0 a1 b_a1x2 n_a1x2 a1x2 (hA.rng 2 rfl) (hH.wt 0 rfl) (hH.wtr 1 rfl) (hH.slw 2 rfl) hg2
 ·cases hr)
def fbF (C:Array Value) (acc:Int) (k:Nat):Int:=bif decide (num C (k*1) > (0:Int)) then IntKind.u64.wrap (BitVec.ofInt IntKind.u64.bits acc ||| BitVec.ofInt IntKind.u64.bits (Zbz (k:Int))).toNat else acc
def Zdz (a0:Array Value):St:=(⟨.a (.g a0 33) :: .a (.w 0) :: .a (.i .u64 (0:Int)) :: .a (.i .u64 (0:Int)) :: .a (.u) :: .a (.u) :: .a (.g a0 33) :: .a (.i .i64 (0:Int))::us 11 ([]),[.row a0 33,.no],[]⟩:St)
def Ze6:Int×Int→LS
 | (y0_3,y0_7)=>([.a (.i .u64 (y0_3)),.a (.i .i64 (y0_7))],[])
def Zi2:Int×Int→Exit×LS
 | t=>((.exit 0),Ze6 t)
def Zb0 (P : Program) (a0 : Array Value) : Int × Int → Option (Stp (Int × Int) (Int × Int))
 | (y0_3, y0_7) => bif decide (y0_7 < (36 : Int)) then (bif (decide (0 ≤ y0_7) && decide (y0_7 < 36)) then (bif decide ((num a0 ((y0_7).toNat * 1)) > (0 : Int)) then (bif decide (0 ≤ y0_7) then (some (.more ((IntKind.u64.wrap (BitVec.ofInt IntKind.u64.bits y0_3 ||| BitVec.ofInt IntKind.u64.bits (Zbz y0_7)).toNat), (i64.wrap (y0_7 + (1 : Int))))))
     else (none))
    else (some (.more (y0_3, (i64.wrap (y0_7 + (1 : Int)))))))
   else (none))
  else (some (.done (y0_3, y0_7)))
theorem Zwa (N:Nat) (a0:Array Value):∀ t:Int×Int,stepV prog (mkΓ [(85,con Zbu)]) N (cAt (codeOf Tryd.f54) [1,1,0,1,0,0]) (pAt (mkPlan (codeOf Tryd.f54) [([3,7],[])]).1 [1,1,0,1,0]) [3,7] [] (Zdz a0) (Ze6 t)=mapS Ze6 Zi2 (Zb0 prog a0 t):=by
 rintro ⟨y0_3,y0_7⟩
 refine Eq.trans (b:=(bif decide (y0_7<(36:Int)) then (bif (decide (0≤y0_7)&&decide (y0_7<36)) then (bif decide ((num a0 ((y0_7).toNat*1)) > (0:Int)) then (bif decide (0≤y0_7) then (some (.more ([.a (.i .u64 (IntKind.u64.wrap (BitVec.ofInt IntKind.u64.bits y0_3 ||| BitVec.ofInt IntKind.u64.bits (Zbz y0_7)).toNat)),.a (.i .i64 (i64.wrap (y0_7+(1:Int))))],[])))
     else (none))
    else (some (.more ([.a (.i .u64 (y0_3)),.a (.i .i64 (i64.wrap (y0_7+(1:Int))))],[]))))
   else (none))
  else (some (.done ((.exit 0),([.a (.i .u64 (y0_3)),.a (.i .i64 (y0_7))],[])))))) (by kernel_rfl) ?_
 simp only [Zb0,Za0,Zay,Za1,Zaz,Ze6,Zi2]
def Zff (P:Program) (N:Nat) (a0:Array Value) (z0_3:Int) (z0_7:Int):Option (SV×Eff×Bool):=some (.a (.i .u64 (z0_3)),.none,true)
theorem Zov (N:Nat) (a0:Array Value) (z0_3:Int) (z0_7:Int):(kBlock 0 (kSeq (veC prog (mkΓ [(85,con Zbu)]) N (cAt (codeOf Tryd.f54) [1,1,1]) (pAt (mkPlan (codeOf Tryd.f54) [([3,7],[])]).1 [1,1,1]) (SV×Eff×Bool)) (finK prog [] [.tmp 2]))) (.exit 0) (left (writes (cAt (codeOf Tryd.f54) [1,1,0,1,0,0])) [3,7] [] (Zdz a0) ([.a (.i .u64 (z0_3)),.a (.i .i64 (z0_7))],[]))=Zff prog N a0 z0_3 z0_7:=by
 refine Eq.trans (b:=(some (.a (.i .u64 (z0_3)),.none,true))) (by kernel_rfl) ?_
 rfl
theorem Zu8 (N:Nat) (a0:Array Value):bindX (iterO (stepV prog (mkΓ [(85,con Zbu)]) N (cAt (codeOf Tryd.f54) [1,1,0,1,0,0]) (pAt (mkPlan (codeOf Tryd.f54) [([3,7],[])]).1 [1,1,0,1,0]) [3,7] [] (Zdz a0)) N ([.a (.i .u64 (0:Int)),.a (.i .i64 (0:Int))],[])) (fun e s=>(kBlock 0 (kSeq (veC prog (mkΓ [(85,con Zbu)]) N (cAt (codeOf Tryd.f54) [1,1,1]) (pAt (mkPlan (codeOf Tryd.f54) [([3,7],[])]).1 [1,1,1]) (SV×Eff×Bool)) (finK prog [] [.tmp 2]))) e (left (writes (cAt (codeOf Tryd.f54) [1,1,0,1,0,0])) [3,7] [] (Zdz a0) s))=nodeX (iterO (Zb0 prog a0) N ((0:Int),(0:Int))) (fun x=>Zff prog N a0 x.1 x.2):=by
 refine Zbg Ze6 Zi2 _ _ (Zwa N a0) N ((0:Int),(0:Int)) _ _ ?_
 intro x;exact Zov N a0 x.1 x.2
theorem Zta (N:Nat) (a0:Array Value):ansV prog (mkΓ [(85,con Zbu)]) N Tryd.f54 [([3,7],[])] [.g a0 33] []=(nodeX (iterO (Zb0 prog a0) N ((0:Int),(0:Int))) (fun x=>Zff prog N a0 x.1 x.2)):=by
 refine Eq.trans (b:=(bindX (iterO (stepV prog (mkΓ [(85,con Zbu)]) N (cAt (codeOf Tryd.f54) [1,1,0,1,0,0]) (pAt (mkPlan (codeOf Tryd.f54) [([3,7],[])]).1 [1,1,0,1,0]) [3,7] [] (Zdz a0)) N ([.a (.i .u64 (0:Int)),.a (.i .i64 (0:Int))],[])) (fun e s=>(kBlock 0 (kSeq (veC prog (mkΓ [(85,con Zbu)]) N (cAt (codeOf Tryd.f54) [1,1,1]) (pAt (mkPlan (codeOf Tryd.f54) [([3,7],[])]).1 [1,1,1]) (SV×Eff×Bool)) (finK prog [] [.tmp 2]))) e (left (writes (cAt (codeOf Tryd.f54) [1,1,0,1,0,0])) [3,7] [] (Zdz a0) s)))) (by kernel_rfl) ?_
 simp only [Zu8 N a0]
theorem Zsi (a0:Array Value) (h_a0:WT prog 33 a0) (hg:(true)=true):ansV prog (mkΓ [(85,con Zbu)]) 1000 Tryd.f54 [([3,7],[])] [.g a0 33] []=some (.a (.i .u64 (folds (fbF a0) 0 36)),.none,true):=by
 refine (Zta 1000 a0).trans ?_
 have hq:∀ q:Int,iterO (Zb0 prog a0) 1000 ((0:Int),(0:Int))=some (q,(36:Int))→nodeX (iterO (Zb0 prog a0) 1000 ((0:Int),(0:Int))) (fun x=>Zff prog 1000 a0 x.1 x.2)=some (.a (.i .u64 q),.none,true):=fun q e=>by rw [e];rfl
 refine hq _ ?_
 exact Zhf (g:=Zb0 prog a0) (fun (acc:Int) k=>(acc,(k:Int))) (fbF a0) (m:=36) (t:=(0:Int)) (x:=(folds (fbF a0) 0 36,(36:Int))) (N:=1000) (fun k s hk _=>by
  have h1:decide ((k:Int)<36)=true:=decide_eq_true (by omega)
  have h0:decide (0≤(k:Int))=true:=decide_eq_true (by omega)
  have h3:i64.wrap ((k:Int)+1)=((k+1:Nat):Int):=by rw [w64 (by omega)];omega
  unfold fbF
  cases hp:decide (num a0 (k*1) > (0:Int))<;>simp only [Zb0,h1,h0,h3,hp,Int.toNat_natCast,Bool.and_self,cond_true,cond_false]) (by
  have h1:decide (((36:Nat):Int)<36)=false:=by decide
  generalize folds (fbF a0) 0 36=q
  simp only [Zb0,h1,cond_false]
  rfl) (by omega)
def Zh8:Con:=fun args h=>match args,h with
 | [.g a0 33],[]=>some (.a (.i .u64 (folds (fbF a0) 0 36)),.none,true)
 | _,_=>none
theorem Zp8:EntX prog 54:=Zag (fn:=Tryd.f54) (by kernel_rfl) (by kernel_rfl) (by kernel_rfl)
theorem Zux:ConOkX (md F) prog 54 Zh8:=(Zah (N:=1000) (by kernel_rfl) (mkΓ_consX (Zad Zoc) Zk6 mkΓ_nilX) (fn:=Tryd.f54) (by kernel_rfl) (by kernel_rfl) [([3,7],[])]).of (by
 intro ρ h w args vals r e hA hH hr
 unfold Zh8 at hr
 split at hr
 ·rename_i a0
  obtain ⟨rfl,hg⟩:=Prod.mk.inj (Option.some.inj hr)
  obtain ⟨rfl,hg2⟩:=Prod.mk.inj hg
  exact Zsi a0 (hA.wt 0 rfl) hg2
 ·cases hr)
def Zkc:Cons:=(mkΓ [(27,con Zeo),(54,con Zh8)])
theorem Zoa (N:Nat) (a0:Array Value) (a1:Int) (b_a0x365:Option (Option Addr)) (n_a0x365:Nat) (a0x365:Array Value):ansV prog Zkc N Tryd.f32 [] [.r a0 69 [(365,0)],.i .u64 (a1)] [.sl (.came b_a0x365) n_a0x365 a0x365 97]=(bif (okS (a0.extract 2 (2+363))&&spB (a0.extract 2 (2+363)) (num a0 0) (num a0 1) n_a0x365 a0x365) then (some (.a (.i .u64 (IntKind.u64.wrap (BitVec.ofInt IntKind.u64.bits a1 &&& BitVec.ofInt IntKind.u64.bits (folds (fbF ((spreadV prog (a0.extract 2 (2+363)) (IntKind.i8.wrap (num a0 0)) n_a0x365 a0x365 (num a0 1).toNat).extract 3 (3+36))) 0 36)).toNat)),.none,true))
  else (none)):=by kernel_rfl
def Zbb (P:Program) (a0:Array Value) (a1:Int) (b_a0x365:Option (Option Addr)) (n_a0x365:Nat) (a0x365:Array Value):Int:=(IntKind.u64.wrap (BitVec.ofInt IntKind.u64.bits a1 &&& BitVec.ofInt IntKind.u64.bits (folds (fbF ((spreadV P (a0.extract 2 (2+363)) (IntKind.i8.wrap (num a0 0)) n_a0x365 a0x365 (num a0 1).toNat).extract 3 (3+36))) 0 36)).toNat)
def Zas (a0:Array Value) (a1:Int) (b_a0x365:Option (Option Addr)) (n_a0x365:Nat) (a0x365:Array Value):Bool:=(okS (a0.extract 2 (2+363))&&spB (a0.extract 2 (2+363)) (num a0 0) (num a0 1) n_a0x365 a0x365)
theorem Zng (a0:Array Value) (a1:Int) (b_a0x365:Option (Option Addr)) (n_a0x365:Nat) (a0x365:Array Value) (h_a0:WT prog 69 a0) (h_a1:IntKind.u64.min≤a1∧a1≤IntKind.u64.max) (h_a0x365:a0x365.size=n_a0x365*(lay prog 97).length∧(∀ k,k<n_a0x365→WT prog 97 (a0x365.extract (k*(lay prog 97).length) (k*(lay prog 97).length+(lay prog 97).length)))∧n_a0x365≤9223372036854775807) (hg:((Zas a0 a1 b_a0x365 n_a0x365 a0x365))=true):ansV prog Zkc 1000 Tryd.f32 [] [.r a0 69 [(365,0)],.i .u64 (a1)] [.sl (.came b_a0x365) n_a0x365 a0x365 97]=some (.a (.i .u64 (Zbb prog a0 a1 b_a0x365 n_a0x365 a0x365)),.none,true):=by
 refine (Zoa 1000 a0 a1 b_a0x365 n_a0x365 a0x365).trans ?_
 unfold Zas at hg
 unfold Zbb
 revert hg
 generalize ((okS (a0.extract 2 (2+363))&&spB (a0.extract 2 (2+363)) (num a0 0) (num a0 1) n_a0x365 a0x365))=b2
 intro hg
 cases b2
 ·skip
  first | exact (nomatch (hg:false=true)) | (simp only [cond_true,cond_false,Bool.and_true,Bool.true_and,Bool.and_false,Bool.false_and];done) | rfl
 ·skip
  first | (simp only [cond_true,cond_false,Bool.and_true,Bool.true_and,Bool.and_false,Bool.false_and];done) | rfl | exact (nomatch (hg:false=true))
def Zd8:Con:=fun args h=>match args,h with
 | [.r a0 69 [(365,0)],.i .u64 a1],[.sl (.came b_a0x365) n_a0x365 a0x365 97]=>some (.a (.i .u64 (Zbb prog a0 a1 b_a0x365 n_a0x365 a0x365)),.none,(Zas a0 a1 b_a0x365 n_a0x365 a0x365))
 | _,_=>none
theorem Zhx:EntX prog 32:=Zag (fn:=Tryd.f32) (by kernel_rfl) (by kernel_rfl) (by kernel_rfl)
theorem Zjp:ConOkX (md F) prog 32 Zd8:=(Zah (N:=1000) (by kernel_rfl) (mkΓ_consX (Zad Zkd) Ziu (mkΓ_consX (Zad Zux) Zp8 mkΓ_nilX)) (fn:=Tryd.f32) (by kernel_rfl) (by kernel_rfl) []).of (by
 intro ρ h w args vals r e hA hH hr
 unfold Zd8 at hr
 split at hr
 ·rename_i a0 a1 b_a0x365 n_a0x365 a0x365
  obtain ⟨rfl,hg⟩:=Prod.mk.inj (Option.some.inj hr)
  obtain ⟨rfl,hg2⟩:=Prod.mk.inj hg
  exact Zng a0 a1 b_a0x365 n_a0x365 a0x365 (hA.wtr 0 rfl) (hA.rng 1 rfl) (hH.slw 0 rfl) hg2
 ·cases hr)
def Zk9:Cons:=(mkΓ [(32,con Zd8)])
theorem Zpl (N:Nat) (a0:Array Value) (a1:Int) (b_a0x365:Option (Option Addr)) (n_a0x365:Nat) (a0x365:Array Value):ansV prog Zk9 N Tryd.f33 [] [.r a0 69 [(365,0)],.i .u64 (a1)] [.sl (.came b_a0x365) n_a0x365 a0x365 97]=(bif (Zas a0 a1 b_a0x365 n_a0x365 a0x365) then (some (.a (.b (((Zbb prog a0 a1 b_a0x365 n_a0x365 a0x365)==a1))),.none,true))
  else (none)):=by kernel_rfl
def Zdt (P:Program) (a0:Array Value) (a1:Int) (b_a0x365:Option (Option Addr)) (n_a0x365:Nat) (a0x365:Array Value):Bool:=((Zbb P a0 a1 b_a0x365 n_a0x365 a0x365)==a1)
theorem Zol (a0:Array Value) (a1:Int) (b_a0x365:Option (Option Addr)) (n_a0x365:Nat) (a0x365:Array Value) (h_a0:WT prog 69 a0) (h_a1:IntKind.u64.min≤a1∧a1≤IntKind.u64.max) (h_a0x365:a0x365.size=n_a0x365*(lay prog 97).length∧(∀ k,k<n_a0x365→WT prog 97 (a0x365.extract (k*(lay prog 97).length) (k*(lay prog 97).length+(lay prog 97).length)))∧n_a0x365≤9223372036854775807) (hg:((Zas a0 a1 b_a0x365 n_a0x365 a0x365))=true):ansV prog Zk9 1000 Tryd.f33 [] [.r a0 69 [(365,0)],.i .u64 (a1)] [.sl (.came b_a0x365) n_a0x365 a0x365 97]=some (.a (.b ((Zdt prog a0 a1 b_a0x365 n_a0x365 a0x365))),.none,true):=by
 refine (Zpl 1000 a0 a1 b_a0x365 n_a0x365 a0x365).trans ?_
 unfold Zdt
 revert hg
 generalize ((Zas a0 a1 b_a0x365 n_a0x365 a0x365))=b2
 intro hg
 cases b2
 ·skip
  first | exact (nomatch (hg:false=true)) | (simp only [cond_true,cond_false,Bool.and_true,Bool.true_and,Bool.and_false,Bool.false_and];done) | rfl
 ·skip
  first | (simp only [cond_true,cond_false,Bool.and_true,Bool.true_and,Bool.and_false,Bool.false_and];done) | rfl | exact (nomatch (hg:false=true))
def Zgm:Con:=fun args h=>match args,h with
 | [.r a0 69 [(365,0)],.i .u64 a1],[.sl (.came b_a0x365) n_a0x365 a0x365 97]=>some (.a (.b ((Zdt prog a0 a1 b_a0x365 n_a0x365 a0x365))),.none,(Zas a0 a1 b_a0x365 n_a0x365 a0x365))
 | _,_=>none
theorem Znr:EntX prog 33:=Zag (fn:=Tryd.f33) (by kernel_rfl) (by kernel_rfl) (by kernel_rfl)
theorem Zrd:ConOkX (md F) prog 33 Zgm:=(Zah (N:=1000) (by kernel_rfl) (mkΓ_consX (Zad Zjp) Zhx mkΓ_nilX) (fn:=Tryd.f33) (by kernel_rfl) (by kernel_rfl) []).of (by
 intro ρ h w args vals r e hA hH hr
 unfold Zgm at hr
 split at hr
 ·rename_i a0 a1 b_a0x365 n_a0x365 a0x365
  obtain ⟨rfl,hg⟩:=Prod.mk.inj (Option.some.inj hr)
  obtain ⟨rfl,hg2⟩:=Prod.mk.inj hg
  exact Zol a0 a1 b_a0x365 n_a0x365 a0x365 (hA.wtr 0 rfl) (hA.rng 1 rfl) (hH.slw 0 rfl) hg2
 ·cases hr)
end
end Go.Proofs.YtflnjkpejbohjaaDoor
