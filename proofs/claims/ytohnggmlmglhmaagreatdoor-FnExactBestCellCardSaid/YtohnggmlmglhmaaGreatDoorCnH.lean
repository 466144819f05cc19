/- BestCell, both sides. -/
import Derived.Test.YtohnggmlmglhmaaGreatDoorProg
import Derived.Test.YtohnggmlmglhmaaGreatDoorCnG
namespace Go.Proofs.YtohnggmlmglhmaaGreatDoor
open Go.ChangeShapes Go.WideShapes Go.ChangeAt Go.RowKit Ve Vc
open Tryz renaming prog → PZ
open IntKind (i64)
set_option linter.unusedVariables false
set_option linter.unusedSimpArgs false
set_option maxRecDepth 100000
noncomputable section
variable {mn:Md}
theorem Yop {S:Array Value} (hS:WT PZ 41 S) {k:Nat} (hk:k<36):bitI (Zaj S) k=Zac (k:Int) S:=by
 rw [(Ydg hS hk).2]
 show bitI (Ua8 (Uau (num S 0) (num S 1) 36) (num S 2)) k=_
 rw [Zs4 _ _ (by omega),Zxr _ _ 36 (by omega),Q3 hk,Bool.true_and]
theorem Yii {S:Array Value} (hS:WT PZ 41 S):Zaj S<68719476736:=by
 refine low_of (Zh7 .u64 _) fun j hj=> ?_
 show bitI (Ua8 (Uau (num S 0) (num S 1) 36) (num S 2)) j=false
 by_cases h:j<64
 ·rw [Zs4 _ _ h,Zxr _ _ 36 (by omega),Q4 (show ¬ j<36 by omega)];rfl
 ·exact Yl4 (by omega) _
def Ubd (P:Program) (S p:Array Value) (c:Int) (n:Nat):(Int×Int)×Int:=clM (worS P S p c) (Zaj S) (num p 1).toNat n
def Ucv (P:Program) (S p:Array Value) (n:Nat) (A:Array Value) (c:Int):Bool:=(okS S&&Ua7 S p n A)&&(Zaf S c && !(decide ((Ubd P S p c 36).2<(0:Int))))
def codC (P:Program) (S p:Array Value) (n:Nat) (A:Array Value) (c:Int):Int:=bif (okS S&&Ua7 S p n A) then (bif Zaf S c then (bif decide ((Ubd P S p c 36).2<(0:Int)) then 6 else 0) else 2) else 1
def celC (P:Program) (S p:Array Value) (n:Nat) (A:Array Value) (c:Int):Int:=bif Ucv P S p n A c then (Ubd P S p c 36).1.1 else 0
def houC (P:Program) (S p:Array Value) (n:Nat) (A:Array Value) (c:Int):Int:=bif Ucv P S p n A c then (Ubd P S p c 36).1.2 else 0
def shaC (P:Program) (S p:Array Value) (n:Nat) (A:Array Value) (c:Int):Array Value:=bif Ucv P S p n A c then Ud5 (Ubd P S p c 36).2 (12^(num p 1).toNat) else #[.int .i64 (0:Int),.int .i64 (0:Int)]
def Zea:Cons:=(mkΓ [(23,con Zko),(26,con Zle),(27,con Zkv),(28,con Zh2),(38,con Zf3)])
def Ze9 (a0 a1:Array Value) (a2:Int) (bQ:Option (Option Addr)) (nQ:Nat) (aQ:Array Value):St:=(⟨.a (.g a0 41) :: .a (.r a1 45 [(2,0)]) :: .a (.i .u64 (a2)) :: .a (.w 1) :: .a (.w 2) :: .a (.u) :: .a (.i .i64 (0:Int)) :: .a (.i .i64 (0:Int)) :: .a (.w 5) :: .a (.i .i64 (0:Int)) :: .a (.i .i64 (Zbd a2 a0 a1 bQ nQ aQ)) :: .a (.i .i64 (0:Int)) :: .a (.i .i64 (0:Int)) :: .a (.i .i64 (-1:Int)) :: .a (.i .i64 (0:Int)) :: .a (.u) :: .a (.u) :: .a (.i .u64 (a2)) :: .a (.i .i64 (Zbd a2 a0 a1 bQ nQ aQ)) :: .a (.i .i64 (Zbd a2 a0 a1 bQ nQ aQ)) :: .a (.b (((Zbd a2 a0 a1 bQ nQ aQ) != (0:Int))))::us 32 ([]),[.sl (.came bQ) nQ aQ 82,.row a0 41,.one (.r a1 45 [(2,0)]) 45,.no,.no,.row #[.int .i64 (0:Int),.int .i64 (0:Int)] 34,.no],[]⟩:St)
def Zgo:Int×Int×Int×Int→LS
 | (y0_11,y0_12,y0_13,y0_14)=>([.a (.i .i64 (y0_11)),.a (.i .i64 (y0_12)),.a (.i .i64 (y0_13)),.a (.i .i64 (y0_14))],[])
def Zlc:Int×Int×Int×Int→Exit×LS
 | t=>((.exit 0),Zgo t)
def Zdn (P : Program) (a0 a1 : Array Value) (a2 : Int) (bQ : Option (Option Addr)) (nQ : Nat) (aQ : Array Value) : Int × Int × Int × Int → Option (Stp (Int × Int × Int × Int) (Int × Int × Int × Int))
 | (y0_11, y0_12, y0_13, y0_14) => bif decide (y0_14 < (36 : Int)) then (bif (Zay y0_14 a0) then (bif (!((Zac y0_14 a0))) then (some (.more (y0_11, y0_12, y0_13, (i64.wrap (y0_14 + (1 : Int))))))
    else (bif (Uc6 a0 a1 y0_14 a2) then (bif decide ((hrM (worH PZ a0 a1 y0_14 a2) (num a1 1).toNat).2 > y0_13) then (some (.more (y0_14, (hrM (worH PZ a0 a1 y0_14 a2) (num a1 1).toNat).1, (hrM (worH PZ a0 a1 y0_14 a2) (num a1 1).toNat).2, (i64.wrap (y0_14 + (1 : Int))))))
      else (some (.more (y0_11, y0_12, y0_13, (i64.wrap (y0_14 + (1 : Int)))))))
     else (none)))
   else (none))
  else (some (.done (y0_11, y0_12, y0_13, y0_14)))
theorem Ybm (N:Nat) (a0 a1:Array Value) (a2:Int) (bQ:Option (Option Addr)) (nQ:Nat) (aQ:Array Value):∀ t:Int×Int×Int×Int,Uai PZ Zea N (cAt (codeOf Tryz.f14) [1,1,1,1,1,0,1,0,0]) (pAt (Uaa (codeOf Tryz.f14) [([11,12,13,14],[])]).1 [1,1,1,1,1,0,1,0]) [11,12,13,14] [] (Ze9 a0 a1 a2 bQ nQ aQ) (Zgo t)=mapS Zgo Zlc (Zdn PZ a0 a1 a2 bQ nQ aQ t):=by
 rintro ⟨y0_11,y0_12,y0_13,y0_14⟩
 refine Eq.trans (b:=(bif decide (y0_14<(36:Int)) then (bif (Zay y0_14 a0) then (bif (!((Zac y0_14 a0))) then (some (.more ([.a (.i .i64 (y0_11)),.a (.i .i64 (y0_12)),.a (.i .i64 (y0_13)),.a (.i .i64 (i64.wrap (y0_14+(1:Int))))],[])))
    else (bif (Uc6 a0 a1 y0_14 a2) then (bif decide ((hrM (worH PZ a0 a1 y0_14 a2) (num a1 1).toNat).2 > y0_13) then (some (.more ([.a (.i .i64 (y0_14)),.a (.i .i64 (hrM (worH PZ a0 a1 y0_14 a2) (num a1 1).toNat).1),.a (.i .i64 (hrM (worH PZ a0 a1 y0_14 a2) (num a1 1).toNat).2),.a (.i .i64 (i64.wrap (y0_14+(1:Int))))],[])))
      else (some (.more ([.a (.i .i64 (y0_11)),.a (.i .i64 (y0_12)),.a (.i .i64 (y0_13)),.a (.i .i64 (i64.wrap (y0_14+(1:Int))))],[]))))
     else (none)))
   else (none))
  else (some (.done ((.exit 0),([.a (.i .i64 (y0_11)),.a (.i .i64 (y0_12)),.a (.i .i64 (y0_13)),.a (.i .i64 (y0_14))],[])))))) (by kernel_rfl) ?_
 simp only [Zdn,Za3,Za4,Za5,Za2,Zgo,Zlc]
def Zfe (P:Program) (N:Nat) (a0 a1:Array Value) (a2:Int) (bQ:Option (Option Addr)) (nQ:Nat) (aQ:Array Value) (z0_11:Int) (z0_12:Int) (z0_13:Int) (z0_14:Int):Option (SV×Eff×Bool):=bif decide (z0_13<(0:Int)) then (some (.t [.i .i64 (0:Int),.i .i64 (0:Int),.g #[.int .i64 (0:Int),.int .i64 (0:Int)] 34,.i .i64 (6:Int)],.none,true))
  else (bif (decide (0≤(i64.wrap (num a1 1)))&&decide ((i64.wrap (num a1 1))≤14)) then (bif (Zem z0_13 (12^(i64.wrap (num a1 1)).toNat)) then (some (.t [.i .i64 (z0_11),.i .i64 (z0_12),.g #[.int .i64 (i64.wrap ((z0_13).tdiv (gcdW z0_13 (12^(i64.wrap (num a1 1)).toNat)))),.int .i64 (i64.wrap ((((12:Int)^(i64.wrap (num a1 1)).toNat)).tdiv (gcdW z0_13 (12^(i64.wrap (num a1 1)).toNat))))] 34,.i .i64 (0:Int)],.none,true))
    else (none))
   else (none))
theorem Zr8 (N:Nat) (a0 a1:Array Value) (a2:Int) (bQ:Option (Option Addr)) (nQ:Nat) (aQ:Array Value) (z0_11:Int) (z0_12:Int) (z0_13:Int) (z0_14:Int):(Uab 0 (kSeq (veC PZ Zea N (cAt (codeOf Tryz.f14) [1,1,1,1,1,1]) (pAt (Uaa (codeOf Tryz.f14) [([11,12,13,14],[])]).1 [1,1,1,1,1,1]) (SV×Eff×Bool)) (finK PZ [.sl (.came bQ) nQ aQ 82] [.tmp 6,.tmp 7,.cell 8 34,.tmp 9]))) (.exit 0) (left (writes (cAt (codeOf Tryz.f14) [1,1,1,1,1,0,1,0,0])) [11,12,13,14] [] (Ze9 a0 a1 a2 bQ nQ aQ) ([.a (.i .i64 (z0_11)),.a (.i .i64 (z0_12)),.a (.i .i64 (z0_13)),.a (.i .i64 (z0_14))],[]))=Zfe PZ N a0 a1 a2 bQ nQ aQ z0_11 z0_12 z0_13 z0_14:=by
 refine Eq.trans (b:=(bif decide (z0_13<(0:Int)) then (some (.t [.i .i64 (0:Int),.i .i64 (0:Int),.g #[.int .i64 (0:Int),.int .i64 (0:Int)] 34,.i .i64 (6:Int)],.none,true))
  else (bif (decide (0≤(i64.wrap (num a1 1)))&&decide ((i64.wrap (num a1 1))≤14)) then (bif (Zem z0_13 (12^(i64.wrap (num a1 1)).toNat)) then (some (.t [.i .i64 (z0_11),.i .i64 (z0_12),.g #[.int .i64 (i64.wrap ((z0_13).tdiv (gcdW z0_13 (12^(i64.wrap (num a1 1)).toNat)))),.int .i64 (i64.wrap ((((12:Int)^(i64.wrap (num a1 1)).toNat)).tdiv (gcdW z0_13 (12^(i64.wrap (num a1 1)).toNat))))] 34,.i .i64 (0:Int)],.none,true))
    else (none))
   else (none)))) (by kernel_rfl) ?_
 rfl
theorem Yap (N:Nat) (a0 a1:Array Value) (a2:Int) (bQ:Option (Option Addr)) (nQ:Nat) (aQ:Array Value):Uag (Uac (Uai PZ Zea N (cAt (codeOf Tryz.f14) [1,1,1,1,1,0,1,0,0]) (pAt (Uaa (codeOf Tryz.f14) [([11,12,13,14],[])]).1 [1,1,1,1,1,0,1,0]) [11,12,13,14] [] (Ze9 a0 a1 a2 bQ nQ aQ)) N ([.a (.i .i64 (0:Int)),.a (.i .i64 (0:Int)),.a (.i .i64 (-1:Int)),.a (.i .i64 (0:Int))],[])) (fun e s=>(Uab 0 (kSeq (veC PZ Zea N (cAt (codeOf Tryz.f14) [1,1,1,1,1,1]) (pAt (Uaa (codeOf Tryz.f14) [([11,12,13,14],[])]).1 [1,1,1,1,1,1]) (SV×Eff×Bool)) (finK PZ [.sl (.came bQ) nQ aQ 82] [.tmp 6,.tmp 7,.cell 8 34,.tmp 9]))) e (left (writes (cAt (codeOf Tryz.f14) [1,1,1,1,1,0,1,0,0])) [11,12,13,14] [] (Ze9 a0 a1 a2 bQ nQ aQ) s))=Ual (Uac (Zdn PZ a0 a1 a2 bQ nQ aQ) N ((0:Int),(0:Int),(-1:Int),(0:Int))) (fun x=>Zfe PZ N a0 a1 a2 bQ nQ aQ x.1 x.2.1 x.2.2.1 x.2.2.2):=by
 refine Zbg Zgo Zlc _ _ (Ybm N a0 a1 a2 bQ nQ aQ) N ((0:Int),(0:Int),(-1:Int),(0:Int)) _ _ ?_
 intro x;exact Zr8 N a0 a1 a2 bQ nQ aQ x.1 x.2.1 x.2.2.1 x.2.2.2
theorem Zza (N:Nat) (a0 a1:Array Value) (a2:Int) (bQ:Option (Option Addr)) (nQ:Nat) (aQ:Array Value):ansV PZ Zea N Tryz.f14 [([11,12,13,14],[])] [.g a0 41,.r a1 45 [(2,0)],.i .u64 (a2)] [.sl (.came bQ) nQ aQ 82]=(bif ((Zbd a2 a0 a1 bQ nQ aQ) != (0:Int)) then (some (.t [.i .i64 (0:Int),.i .i64 (0:Int),.g #[.int .i64 (0:Int),.int .i64 (0:Int)] 34,.i .i64 (Zbd a2 a0 a1 bQ nQ aQ)],.none,true))
  else (Ual (Uac (Zdn PZ a0 a1 a2 bQ nQ aQ) N ((0:Int),(0:Int),(-1:Int),(0:Int))) (fun x=>Zfe PZ N a0 a1 a2 bQ nQ aQ x.1 x.2.1 x.2.2.1 x.2.2.2))):=by
 refine Eq.trans (b:=(bif ((Zbd a2 a0 a1 bQ nQ aQ) != (0:Int)) then (some (.t [.i .i64 (0:Int),.i .i64 (0:Int),.g #[.int .i64 (0:Int),.int .i64 (0:Int)] 34,.i .i64 (Zbd a2 a0 a1 bQ nQ aQ)],.none,true))
  else (Uag (Uac (Uai PZ Zea N (cAt (codeOf Tryz.f14) [1,1,1,1,1,0,1,0,0]) (pAt (Uaa (codeOf Tryz.f14) [([11,12,13,14],[])]).1 [1,1,1,1,1,0,1,0]) [11,12,13,14] [] (Ze9 a0 a1 a2 bQ nQ aQ)) N ([.a (.i .i64 (0:Int)),.a (.i .i64 (0:Int)),.a (.i .i64 (-1:Int)),.a (.i .i64 (0:Int))],[])) (fun e s=>(Uab 0 (kSeq (veC PZ Zea N (cAt (codeOf Tryz.f14) [1,1,1,1,1,1]) (pAt (Uaa (codeOf Tryz.f14) [([11,12,13,14],[])]).1 [1,1,1,1,1,1]) (SV×Eff×Bool)) (finK PZ [.sl (.came bQ) nQ aQ 82] [.tmp 6,.tmp 7,.cell 8 34,.tmp 9]))) e (left (writes (cAt (codeOf Tryz.f14) [1,1,1,1,1,0,1,0,0])) [11,12,13,14] [] (Ze9 a0 a1 a2 bQ nQ aQ) s))))) (by kernel_rfl) ?_
 simp only [Yap N a0 a1 a2 bQ nQ aQ]
theorem Zxt (a0 a1:Array Value) (a2:Int) (bQ:Option (Option Addr)) (nQ:Nat) (aQ:Array Value) (h_a0:WT PZ 41 a0) (h_a1:WT PZ 45 a1) (h_a2:IntKind.u64.min≤a2∧a2≤IntKind.u64.max) (h_a1x2:aQ.size=nQ*(lay PZ 82).length∧(∀ k,k<nQ→WT PZ 82 (aQ.extract (k*(lay PZ 82).length) (k*(lay PZ 82).length+(lay PZ 82).length)))∧nQ≤9223372036854775807) (hg:(true)=true):ansV PZ Zea 1000 Tryz.f14 [([11,12,13,14],[])] [.g a0 41,.r a1 45 [(2,0)],.i .u64 (a2)] [.sl (.came bQ) nQ aQ 82]=some (.t [.i .i64 (celC PZ a0 a1 nQ aQ a2),.i .i64 (houC PZ a0 a1 nQ aQ a2),.g (shaC PZ a0 a1 nQ aQ a2) 34,.i .i64 (codC PZ a0 a1 nQ aQ a2)],.none,true):=by
 refine (Zza 1000 a0 a1 a2 bQ nQ aQ).trans ?_
 rw [ask_eq]
 cases hP:(okS a0&&Ua7 a0 a1 nQ aQ) with
 | false=>
  have ha:askC a0 a1 nQ aQ a2=1:=by unfold askC;rw [hP];rfl
  unfold celC houC shaC Ucv codC
  simp only [ha,hP,show ((1:Int)==0)=false from rfl,show ((2:Int)==0)=false from rfl,show ((4:Int)==0)=false from rfl,show ((0:Int)==0)=true from rfl,show ((1:Int) != 0)=true from rfl,show ((2:Int) != 0)=true from rfl,show ((0:Int) != 0)=false from rfl,BQ9,Q1,Q2]
 | true=>
  cases hC:Zaf a0 a2 with
  | false=>
   have ha:askC a0 a1 nQ aQ a2=2:=by unfold askC;rw [hP,hC];rfl
   unfold celC houC shaC Ucv codC
   simp only [ha,hP,hC,show ((1:Int)==0)=false from rfl,show ((2:Int)==0)=false from rfl,show ((4:Int)==0)=false from rfl,show ((0:Int)==0)=true from rfl,show ((1:Int) != 0)=true from rfl,show ((2:Int) != 0)=true from rfl,show ((0:Int) != 0)=false from rfl,BQ9,Q1,Q2]
  | true=>
   have ha:askC a0 a1 nQ aQ a2=0:=by unfold askC;rw [hP,hC];rfl
   have hP2:=hP
   rw [Q7] at hP2
   obtain ⟨h0,h1⟩:=Zq9 h_a1 hP2.2
   have hit:Uac (Zdn PZ a0 a1 a2 bQ nQ aQ) 1000 ((0:Int),(0:Int),(-1:Int),(0:Int))=some ((Ubd PZ a0 a1 a2 36).1.1,(Ubd PZ a0 a1 a2 36).1.2,(Ubd PZ a0 a1 a2 36).2,(36:Int)):=Zdr (g:=Zdn PZ a0 a1 a2 bQ nQ aQ) (fun k=>((Ubd PZ a0 a1 a2 k).1.1,(Ubd PZ a0 a1 a2 k).1.2,(Ubd PZ a0 a1 a2 k).2,(k:Int))) (m:=36) (x:=((Ubd PZ a0 a1 a2 36).1.1,(Ubd PZ a0 a1 a2 36).1.2,(Ubd PZ a0 a1 a2 36).2,(36:Int))) (N:=1000) (fun k hk=>by
    have g1:decide ((k:Int)<36)=true:=Q3 (by omega)
    have g3:i64.wrap ((k:Int)+1)=((k+1:Nat):Int):=by rw [IntWalk.i64_in _ (by omega)];omega
    have hho:=(Yn8 h_a0 h_a1 hP2.1 hP2.2 hC (k:=(k:Int)) (by omega)).1
    have eW:(fun t=>worS PZ a0 a1 a2 (k,t))=worH PZ a0 a1 (k:Int) a2:=rfl
    have e1:Ubd PZ a0 a1 a2 (k+1)=bif Zac (k:Int) a0 then (bif decide ((Ubd PZ a0 a1 a2 k).2<(hrM (worH PZ a0 a1 (k:Int) a2) (num a1 1).toNat).2) then (((k:Int),(hrM (worH PZ a0 a1 (k:Int) a2) (num a1 1).toNat).1),(hrM (worH PZ a0 a1 (k:Int) a2) (num a1 1).toNat).2) else Ubd PZ a0 a1 a2 k) else Ubd PZ a0 a1 a2 k:=by
     unfold Ubd
     rw [clM,Yop h_a0 hk,eW]
    rw [e1]
    simp only [Zdn,g1,g3,(Ydg h_a0 hk).1,hho,gt_iff_lt,Q1]
    cases Zac (k:Int) a0 with
    | false=>rfl
    | true=>
     cases decide ((Ubd PZ a0 a1 a2 k).2<(hrM (worH PZ a0 a1 (k:Int) a2) (num a1 1).toNat).2)<;>rfl) (by
    have g1:decide (((36:Nat):Int)<36)=false:=by decide
    simp only [Zdn,g1,Q2]
    rfl) (by omega)
   rw [hit,ha]
   show Zfe PZ 1000 a0 a1 a2 bQ nQ aQ (Ubd PZ a0 a1 a2 36).1.1 (Ubd PZ a0 a1 a2 36).1.2 (Ubd PZ a0 a1 a2 36).2 36=_
   unfold Zfe
   unfold celC houC shaC Ucv codC
   cases hN:decide ((Ubd PZ a0 a1 a2 36).2<(0:Int)) with
   | true=>simp only [hP,hC,BQ9,Q1,Q2]
   | false=>
    have hsg:=(Zx1 (p:=(Ubd PZ a0 a1 a2 36).2) (w:=12^(num a1 1).toNat) (by have:=of_decide_eq_false hN;omega) (Int.pow_pos (by omega))).2.2
    simp only [hP,hC,hsg,(Zwo h_a1).2,dec2le (show 0≤num a1 1 by omega) (show num a1 1≤14 by omega),BQ9,Q1,Q2]
    rfl
def Zkt:Con:=fun args h=>match args,h with
 | [.g a0 41,.r a1 45 [(2,0)],.i .u64 a2],[.sl (.came bQ) nQ aQ 82]=>some (.t [.i .i64 (celC PZ a0 a1 nQ aQ a2),.i .i64 (houC PZ a0 a1 nQ aQ a2),.g (shaC PZ a0 a1 nQ aQ a2) 34,.i .i64 (codC PZ a0 a1 nQ aQ a2)],.none,true)
 | _,_=>none
theorem Zvu:EntX PZ 14:=Zag (fn:=Tryz.f14) (by kernel_rfl) (by kernel_rfl) (by kernel_rfl)
theorem Ybe:Uad mn PZ 14 Zkt:=(Zai (N:=1000) (by kernel_rfl) (mkΓ_consX (Zad Ybk) Zvh (mkΓ_consX (Zad Yc3) Zww (mkΓ_consX (Zad Yay) Zui (mkΓ_consX (Zad Zp8) Zmo (mkΓ_consX (Zad Zk3) Zhv mkΓ_nilX))))) (fn:=Tryz.f14) (by kernel_rfl) (by kernel_rfl) [([11,12,13,14],[])]).of (by
 intro ρ h w args vals r e hA hH hr
 unfold Zkt at hr
 split at hr
 ·rename_i a0 a1 a2 bQ nQ aQ
  obtain ⟨rfl,rfl,hg2⟩:=BQi hr
  exact Zxt a0 a1 a2 bQ nQ aQ (hA.wt 0 rfl) (hA.wtr 1 rfl) (hA.rng 2 rfl) (hH.slw 0 rfl) hg2
 ·cases hr)
def Zox:Cons:=(mkΓw [(31,conS Zfq)] [(32,conG Zkz),(35,conG Zgk),(39,con Zg7)] [] [])
theorem Zvt (N:Nat) (a0 a1:Array Value) (a2:Int) (g_et:Addr) (g_tb:Addr) (bQ:Option (Option Addr)) (nQ:Nat) (aQ:Array Value):ansV PZ Zox N Tryz.f15 [] [.g a0 41,.r a1 45 [(2,2)],.i .u64 (a2)] [.gl 0 184 g_et 3000075,.gl 1 0 g_tb 1000000000,.sl (.came bQ) nQ aQ 82]=(bif (okS a0&&Ua7 a0 a1 nQ aQ) then (bif (Zaf a0 a2) then (bif (Zcf a0) then (bif (decide ((clM (worQ PZ (voyV PZ a0 a1) a2) (Zaj a0) (num (voyV PZ a0 a1) 1).toNat 36).2<(0:Int))&&((prsG (voyV PZ a0 a1) a2&&(Uce (voyV PZ a0 a1) a2&&decide ((Zaj a0)<68719476736))))) then (some (.t [.i .i64 (i64.wrap (num #[.int .i8 (0:Int),.int .i8 (0:Int),.int .i16 (0:Int)] 0)),.i .i64 (i64.wrap (num #[.int .i8 (0:Int),.int .i8 (0:Int),.int .i16 (0:Int)] 1)),.g #[.int .i64 (0:Int),.int .i64 (0:Int)] 34,.i .i64 (6:Int)],.none,true))
     else (none))
    else (none))
   else (some (.t [.i .i64 (0:Int),.i .i64 (0:Int),.g #[.int .i64 (0:Int),.int .i64 (0:Int)] 34,.i .i64 (2:Int)],.none,true)))
  else (some (.t [.i .i64 (0:Int),.i .i64 (0:Int),.g #[.int .i64 (0:Int),.int .i64 (0:Int)] 34,.i .i64 (1:Int)],.none,true))):=by kernel_rfl
def Zod:Cons:=(mkΓw [(31,conS Zfq)] [(32,conG Zkz),(35,conG Zf7),(39,con Zg7)] [] [])
theorem Zuw (N:Nat) (a0 a1:Array Value) (a2:Int) (g_et:Addr) (g_tb:Addr) (bQ:Option (Option Addr)) (nQ:Nat) (aQ:Array Value):ansV PZ Zod N Tryz.f15 [] [.g a0 41,.r a1 45 [(2,2)],.i .u64 (a2)] [.gl 0 184 g_et 3000075,.gl 1 0 g_tb 1000000000,.sl (.came bQ) nQ aQ 82]=(bif (okS a0&&Ua7 a0 a1 nQ aQ) then (bif (Zaf a0 a2) then (bif (Zcf a0) then (bif ((!(decide ((clM (worQ PZ (voyV PZ a0 a1) a2) (Zaj a0) (num (voyV PZ a0 a1) 1).toNat 36).2<(0:Int))))&&((prsG (voyV PZ a0 a1) a2&&(Uce (voyV PZ a0 a1) a2&&decide ((Zaj a0)<68719476736))))) then (some (.t [.i .i64 (i64.wrap (num (relM PZ (voyV PZ a0 a1) (Zaj a0) a2) 0)),.i .i64 (i64.wrap (num (relM PZ (voyV PZ a0 a1) (Zaj a0) a2) 1)),.g (shaM PZ (voyV PZ a0 a1) (Zaj a0) a2) 34,.i .i64 (0:Int)],.none,true))
     else (none))
    else (none))
   else (some (.t [.i .i64 (0:Int),.i .i64 (0:Int),.g #[.int .i64 (0:Int),.int .i64 (0:Int)] 34,.i .i64 (2:Int)],.none,true)))
  else (some (.t [.i .i64 (0:Int),.i .i64 (0:Int),.g #[.int .i64 (0:Int),.int .i64 (0:Int)] 34,.i .i64 (1:Int)],.none,true))):=by kernel_rfl
theorem Zvc (a0 a1:Array Value) (a2:Int) (g_et:Addr) (g_tb:Addr) (bQ:Option (Option Addr)) (nQ:Nat) (aQ:Array Value) (h_a0:WT PZ 41 a0) (h_a1:WT PZ 45 a1) (h_a2:IntKind.u64.min≤a2∧a2≤IntKind.u64.max) (h_a1x2:aQ.size=nQ*(lay PZ 82).length∧(∀ k,k<nQ→WT PZ 82 (aQ.extract (k*(lay PZ 82).length) (k*(lay PZ 82).length+(lay PZ 82).length)))∧nQ≤9223372036854775807) (hc0:(decide ((clM (worQ PZ (voyV PZ a0 a1) a2) (Zaj a0) (num (voyV PZ a0 a1) 1).toNat 36).2<(0:Int)))=false) (hg:(true)=true):ansV PZ Zod 1000 Tryz.f15 [] [.g a0 41,.r a1 45 [(2,2)],.i .u64 (a2)] [.gl 0 184 g_et 3000075,.gl 1 0 g_tb 1000000000,.sl (.came bQ) nQ aQ 82]=some (.t [.i .i64 (celC PZ a0 a1 nQ aQ a2),.i .i64 (houC PZ a0 a1 nQ aQ a2),.g (shaC PZ a0 a1 nQ aQ a2) 34,.i .i64 (codC PZ a0 a1 nQ aQ a2)],.none,true):=by
 refine (Zuw 1000 a0 a1 a2 g_et g_tb bQ nQ aQ).trans ?_
 cases hP:(okS a0&&Ua7 a0 a1 nQ aQ) with
 | false=>
  unfold celC houC shaC Ucv codC
  simp only [hP,BQ9,Q1,Q2]
 | true=>
  cases hC:Zaf a0 a2 with
  | false=>
   unfold celC houC shaC Ucv codC
   simp only [hP,hC,BQ9,Q1,Q2]
  | true=>
   have hP2:=hP
   rw [Q7] at hP2
   obtain ⟨h0,h1⟩:=Zq9 h_a1 hP2.2
   obtain ⟨e1,e2,e3⟩:=Zs1 h_a0 h_a1
   obtain ⟨hvo,hpg⟩:=Yl7 h_a0 h_a1 hP2.1 hP2.2 h_a2 hC
   have hV:=Ypb h_a0 h_a1
   have hw:Zcf a0=true:=by unfold Zcf;exact Ybz hP2.1
   have hwl:decide (Zaj a0<68719476736)=true:=Q3 (Yii h_a0)
   obtain ⟨-,hbest⟩:=Ygy (Zud hV) (Yc6 hV) hvo (Zaj a0)
   rcases hbest with ⟨hn,-⟩ | ⟨q,i,-,-,-,hq1,hq2,-,hcl,hq0⟩
   ·exact absurd hn (of_decide_eq_false hc0)
   have hB:(Ubd PZ a0 a1 a2 36)=(((q.1:Int),(q.2:Int)),worQ PZ (voyV PZ a0 a1) a2 q):=by
    unfold Ubd
    rw [← Ymn h_a0 h_a1 a2,← e3]
    exact hcl
   have hsh:=sha_eq (Zud hV) (Yc6 hV) hvo hq1 hq2 hcl
   have hrel:num (relM PZ (voyV PZ a0 a1) (Zaj a0) a2) 0=(q.1:Int)∧num (relM PZ (voyV PZ a0 a1) (Zaj a0) a2) 1=(q.2:Int):=by
    unfold relM
    rw [hcl]
    have h:=Yb1 q hq1 (by omega)
    exact ⟨h.1,h.2.1⟩
   have w1:i64.wrap (q.1:Int)=(q.1:Int):=IntWalk.i64_in _ (by omega)
   have w2:i64.wrap (q.2:Int)=(q.2:Int):=IntWalk.i64_in _ (by omega)
   have hN:decide ((Ubd PZ a0 a1 a2 36).2<(0:Int))=false:=Q4 (by rw [hB];dsimp only;omega)
   rw [e3] at hsh
   unfold celC houC shaC Ucv codC
   simp only [hP,hC,hN,hc0,hw,hvo,hpg,hwl,BQ9,Q1,Q2]
   rw [hB]
   simp only [hrel.1,hrel.2,w1,w2,hsh]
theorem Zve (a0 a1:Array Value) (a2:Int) (g_et:Addr) (g_tb:Addr) (bQ:Option (Option Addr)) (nQ:Nat) (aQ:Array Value) (h_a0:WT PZ 41 a0) (h_a1:WT PZ 45 a1) (h_a2:IntKind.u64.min≤a2∧a2≤IntKind.u64.max) (h_a1x2:aQ.size=nQ*(lay PZ 82).length∧(∀ k,k<nQ→WT PZ 82 (aQ.extract (k*(lay PZ 82).length) (k*(lay PZ 82).length+(lay PZ 82).length)))∧nQ≤9223372036854775807) (hc0:(decide ((clM (worQ PZ (voyV PZ a0 a1) a2) (Zaj a0) (num (voyV PZ a0 a1) 1).toNat 36).2<(0:Int)))=true) (hg:(true)=true):ansV PZ Zox 1000 Tryz.f15 [] [.g a0 41,.r a1 45 [(2,2)],.i .u64 (a2)] [.gl 0 184 g_et 3000075,.gl 1 0 g_tb 1000000000,.sl (.came bQ) nQ aQ 82]=some (.t [.i .i64 (celC PZ a0 a1 nQ aQ a2),.i .i64 (houC PZ a0 a1 nQ aQ a2),.g (shaC PZ a0 a1 nQ aQ a2) 34,.i .i64 (codC PZ a0 a1 nQ aQ a2)],.none,true):=by
 refine (Zvt 1000 a0 a1 a2 g_et g_tb bQ nQ aQ).trans ?_
 cases hP:(okS a0&&Ua7 a0 a1 nQ aQ) with
 | false=>
  unfold celC houC shaC Ucv codC
  simp only [hP,BQ9,Q1,Q2]
 | true=>
  cases hC:Zaf a0 a2 with
  | false=>
   unfold celC houC shaC Ucv codC
   simp only [hP,hC,BQ9,Q1,Q2]
  | true=>
   have hP2:=hP
   rw [Q7] at hP2
   obtain ⟨h0,h1⟩:=Zq9 h_a1 hP2.2
   obtain ⟨e1,e2,e3⟩:=Zs1 h_a0 h_a1
   obtain ⟨hvo,hpg⟩:=Yl7 h_a0 h_a1 hP2.1 hP2.2 h_a2 hC
   have hV:=Ypb h_a0 h_a1
   have hw:Zcf a0=true:=by unfold Zcf;exact Ybz hP2.1
   have hwl:decide (Zaj a0<68719476736)=true:=Q3 (Yii h_a0)
   have hc1:decide ((Ubd PZ a0 a1 a2 36).2<(0:Int))=true:=by
    unfold Ubd
    rw [← Ymn h_a0 h_a1 a2,← e3]
    exact hc0
   unfold celC houC shaC Ucv codC
   simp only [hP,hC,hc0,hc1,hw,hvo,hpg,hwl,BQ9,Q1,Q2]
   rfl
def Zg8:SCon:=fun args h=>match args,h with
 | [.g a0 41,.r a1 45 [(2,2)],.i .u64 a2],[.gl 0 184 g_et 3000075,.gl 1 0 g_tb 1000000000,.sl (.came bQ) nQ aQ 82]=>.two (decide ((clM (worQ PZ (voyV PZ a0 a1) a2) (Zaj a0) (num (voyV PZ a0 a1) 1).toNat 36).2<(0:Int))) (.one (some (.t [.i .i64 (celC PZ a0 a1 nQ aQ a2),.i .i64 (houC PZ a0 a1 nQ aQ a2),.g (shaC PZ a0 a1 nQ aQ a2) 34,.i .i64 (codC PZ a0 a1 nQ aQ a2)],.none,true))) (.one (some (.t [.i .i64 (celC PZ a0 a1 nQ aQ a2),.i .i64 (houC PZ a0 a1 nQ aQ a2),.g (shaC PZ a0 a1 nQ aQ a2) 34,.i .i64 (codC PZ a0 a1 nQ aQ a2)],.none,true)))
 | _,_=>.one none
theorem Zuz:EntX PZ 15:=Zag (fn:=Tryz.f15) (by kernel_rfl) (by kernel_rfl) (by kernel_rfl)
theorem Zzq:Uad mn PZ 15 (fun args h=>Uah (Zg8 args h)):=by
 intro ρ h w args vals r e hn hr hA hH
 dsimp only at hr
 unfold Zg8 at hr
 split at hr
 ·rename_i a0 a1 a2 g_et g_tb bQ nQ aQ
  simp only [Uah] at hr
  cases hc0:(decide ((clM (worQ PZ (voyV PZ a0 a1) a2) (Zaj a0) (num (voyV PZ a0 a1) 1).toNat 36).2<(0:Int)))
  ·rw [hc0] at hr
   simp only [Uah,Q1,Q2] at hr
   obtain ⟨rfl,rfl,hg2⟩:=BQi hr
   exact ((Zai (N:=1000) (by kernel_rfl) (mkΓw_sX (Zpi Zmf) Zk8 (mkΓw_cX (Zl3 Zqb) Zm4 (mkΓw_cX (Zl3 Zql) Zjg (mkΓw_cX (Zad Zos) Zlw mkΓx_nilX)))) (fn:=Tryz.f15) (by kernel_rfl) (by kernel_rfl) [])) ρ _ w _ vals _ _ hn ((Zvc a0 a1 a2 g_et g_tb bQ nQ aQ (hA.wt 0 rfl) (hA.wtr 1 rfl) (hA.rng 2 rfl) (hH.slw 2 rfl) hc0 hg2)) hA hH
  ·rw [hc0] at hr
   simp only [Uah,Q1,Q2] at hr
   obtain ⟨rfl,rfl,hg2⟩:=BQi hr
   exact ((Zai (N:=1000) (by kernel_rfl) (mkΓw_sX (Zpi Zmf) Zk8 (mkΓw_cX (Zl3 Zqb) Zm4 (mkΓw_cX (Zl3 Zqw) Zjg (mkΓw_cX (Zad Zos) Zlw mkΓx_nilX)))) (fn:=Tryz.f15) (by kernel_rfl) (by kernel_rfl) [])) ρ _ w _ vals _ _ hn ((Zve a0 a1 a2 g_et g_tb bQ nQ aQ (hA.wt 0 rfl) (hA.wtr 1 rfl) (hA.rng 2 rfl) (hH.slw 2 rfl) hc0 hg2)) hA hH
 ·simp only [Uah] at hr
  cases hr
def Zkp:Con:=fun args h=>match args,h with
 | [.g a0 41,.r a1 45 [(2,2)],.i .u64 a2],[.gl 0 184 g_et 3000075,.gl 1 0 g_tb 1000000000,.sl (.came bQ) nQ aQ 82]=>some (.t [.i .i64 (celC PZ a0 a1 nQ aQ a2),.i .i64 (houC PZ a0 a1 nQ aQ a2),.g (shaC PZ a0 a1 nQ aQ a2) 34,.i .i64 (codC PZ a0 a1 nQ aQ a2)],.none,true)
 | _,_=>none
theorem Ya4:Uad mn PZ 15 Zkp:=Uad.of Zzq (by
 intro ρ h w args vals r e hA hH hr
 unfold Zkp at hr
 split at hr
 ·rename_i a0 a1 a2 g_et g_tb bQ nQ aQ
  obtain ⟨rfl,rfl,hg2⟩:=BQi hr
  show Uah (Zg8 _ _)=_
  unfold Zg8
  simp only [Uah]
  cases (decide ((clM (worQ PZ (voyV PZ a0 a1) a2) (Zaj a0) (num (voyV PZ a0 a1) 1).toNat 36).2<(0:Int)))<;>simp only [Q1,Q2]
 ·cases hr)
end
end Go.Proofs.YtohnggmlmglhmaaGreatDoor
