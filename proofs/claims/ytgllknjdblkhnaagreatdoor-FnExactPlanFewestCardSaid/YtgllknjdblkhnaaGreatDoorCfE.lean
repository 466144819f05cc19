/- The first choice of the fewest: the spec. -/
import Derived.Test.YtgllknjdblkhnaaGreatDoorProg
import Derived.Test.YtgllknjdblkhnaaGreatDoorCfD
set_option linter.unusedVariables false
set_option linter.unusedSimpArgs false
open _root_.List renaming range->jA
namespace Go.Proofs.YtgllknjdblkhnaaGreatDoor
open Tryz (f21)
open Go.ChangeShapes Go.WideShapes Go.ChangeAt Go.RowKit Ve Vc
open Tryz renaming prog -> PZ
open IntKind (i64)
set_option maxRecDepth 100000
noncomputable section
open Pop
variable {mn:Md}
def Zam:Cons:=(mkΓ [(39,con Zii),(40,con Zmp)])
def Ze5(a1 a2 a3:Int)(a0:Array Value):St:=(⟨.a (.w 0)::.a (.i .i64 a1)::.a (.i .i64 a2)::.a (.i .u64 a3)::us 4 (.a (.i .u64 0)::.a (.i .i64 0)::.a (.l 5)::.a (.l 6)::.a (.i .i64 0)::us 8 (.a (.l 1)::.a (.l 3)::us 75 ([]))),[.row a0 38,.sp,.no,.sp,.no,.sl .own 0 (#[]:Array Value) 2,.sl .own 0 (#[]:Array Value) 23],[3,1]⟩:St)
def Zgp:Int×Nat×Array Value×Nat×Array Value->LS
 |(y0_12,m0_10,y0_10,m0_11,y0_11)=>([.a (.i .i64 y0_12),.a (.l 5),.a (.l 6)],[.sl .own m0_10 y0_10 2,.sl .own m0_11 y0_11 23])
def Zlr:Int×Nat×Array Value×Nat×Array Value->Exit×LS
 |t=>((.exit 0),Zgp t)
def Zcr(P:Program)(a1 a2 a3:Int)(a0:Array Value):Int×Nat×Array Value×Nat×Array Value->Option (Stp (Int×Nat×Array Value×Nat×Array Value) (Int×Nat×Array Value×Nat×Array Value))
 |(y0_12,m0_10,y0_10,m0_11,y0_11)=>bif decide (y0_12<(36:Int)) then (bif (Zbg y0_12 a0) then (bif (Zae y0_12 a0) then (bif (Nat.ble ((m0_10+1)*bytesOf PZ 2) 140737488355328) then (bif (Zfk y0_12 a1 a2 a3 a0) then (bif (Nat.ble ((m0_11+1)*bytesOf PZ 23) 140737488355328) then (some (.more ((i64.wrap (y0_12+(1:Int))),(m0_10+1),(y0_10++(#[.int .i64 y0_12]:Array Value)),(m0_11+1),(y0_11++(#[.int .u64 (Zbk PZ y0_12 a1 a2 a3 a0)]:Array Value))))) else (none)) else (none)) else (none)) else (some (.more ((i64.wrap (y0_12+(1:Int))),m0_10,y0_10,m0_11,y0_11)))) else (none)) else (some (.done (y0_12,m0_10,y0_10,m0_11,y0_11)))
noncomputable abbrev cKCfE21:=codeOf f21
theorem Zz6(N:Nat)(a1 a2 a3:Int)(a0:Array Value):∀t:Int×Nat×Array Value×Nat×Array Value,Ugo PZ Zam N (cAt cKCfE21 [1,1,1,0,1,0,0]) (pAt (Uaa cKCfE21 [([5000000000,12],[1000010,2,1000011,23]),([14,15,16],[]),([17,18,19,20],[])]).1 [1,1,1,0,1,0]) [12] [] [(10,2),(11,23)] 5 (Ze5 a1 a2 a3 a0) (Zgp t)=mapS Zgp Zlr (Zcr PZ a1 a2 a3 a0 t):=by
 rintro⟨y0_12,m0_10,y0_10,m0_11,y0_11⟩
 conv=>rhs;simp only[Zcr,Zax,Zay,Zaw,Zaz,Zgp,Zlr]
 kernel_rfl
def Ze8(a1 a2 a3:Int)(a0:Array Value)(z0_12:Int)(p0_10:Nat)(z0_10:Array Value)(p0_11:Nat)(z0_11:Array Value)(y1_14:Int)(y1_15:Int)(y1_16:Int):St:=(⟨.a (.w 0)::.a (.i .i64 a1)::.a (.i .i64 a2)::.a (.i .u64 a3)::us 4 (.a (.i .u64 0)::.a (.i .i64 0)::.a (.l 5)::.a (.l 6)::.a (.i .i64 z0_12)::.a (.i .i64 (p0_10:Int))::.a (.i .u64 y1_14)::.a (.i .i64 y1_15)::.a (.i .i64 y1_16)::.a (.i .u64 0)::.a (.i .u64 0)::.a (.i .i64 0)::.a (.i .i64 0)::.a (.l 1)::.a (.l 3)::xs 20 (.a (.l 5)::.a (.i .i64 (p0_10:Int))::.a (.i .i64 (p0_10:Int))::.a (.b (decide ((p0_10:Int) > (12:Int))))::.a (.i .i64 y1_16)::.a (.i .i64 (p0_10:Int))::.a (.i .u64 (IntKind.u64.wrap (p0_10:Int)))::.a (.i .i64 (i64.wrap ((1:Int)*2^(min ((IntKind.u64.wrap (p0_10:Int))).toNat i64.bits))))::.a (.b (decide (y1_16<(i64.wrap ((1:Int)*2^(min ((IntKind.u64.wrap (p0_10:Int))).toNat i64.bits))))))::xs 43 (us 3 ([])))),[.row a0 38,.sp,.no,.sp,.no,.sl .own p0_10 z0_10 2,.sl .own p0_11 z0_11 23],[]⟩:St)
def Zd8:Int×Int×Int×Int->LS
 |(y2_17,y2_18,y2_19,y2_20)=>([.a (.i .u64 y2_17),.a (.i .u64 y2_18),.a (.i .i64 y2_19),.a (.i .i64 y2_20)],[])
def Zgt:Int×Int×Int×Int->Exit×LS
 |t=>((.exit 4),Zd8 t)
def Zct(P:Program)(a1 a2 a3:Int)(a0:Array Value)(z0_12:Int)(p0_10:Nat)(z0_10:Array Value)(p0_11:Nat)(z0_11:Array Value)(y1_14:Int)(y1_15:Int)(y1_16:Int):Int×Int×Int×Int->Option (Stp (Int×Int×Int×Int) (Int×Int×Int×Int))
 |(y2_17,y2_18,y2_19,y2_20)=>bif decide (y2_20<(p0_10:Int)) then (bif decide (0<=(IntKind.u64.wrap y2_20)) then (bif (((((y1_16).fdiv (2^(min ((IntKind.u64.wrap y2_20)).toNat i64.bits)))).tmod (2:Int))==(1:Int)) then (bif (decide (0<=y2_20)&&decide (y2_20<(p0_11:Int))) then (bif (decide (0<=y2_20)&&decide (y2_20<(p0_10:Int))) then (bif decide (0<=(IntKind.u64.wrap (num z0_10 ((y2_20).toNat*1)))) then (some (.more ((IntKind.u64.wrap (BitVec.ofInt IntKind.u64.bits y2_17 ||| BitVec.ofInt IntKind.u64.bits (num z0_11 ((y2_20).toNat*1))).toNat),(IntKind.u64.wrap (BitVec.ofInt IntKind.u64.bits y2_18 ||| BitVec.ofInt IntKind.u64.bits (IntKind.u64.wrap ((1:Int)*2^(min ((IntKind.u64.wrap (num z0_10 ((y2_20).toNat*1)))).toNat IntKind.u64.bits)))).toNat),(i64.wrap (y2_19+(1:Int))),(i64.wrap (y2_20+(1:Int)))))) else (none)) else (none)) else (none)) else (some (.more (y2_17,y2_18,y2_19,(i64.wrap (y2_20+(1:Int))))))) else (none)) else (some (.done (y2_17,y2_18,y2_19,y2_20)))
theorem Zlq(N:Nat)(a1 a2 a3:Int)(a0:Array Value)(z0_12:Int)(p0_10:Nat)(z0_10:Array Value)(p0_11:Nat)(z0_11:Array Value)(y1_14:Int)(y1_15:Int)(y1_16:Int):∀t:Int×Int×Int×Int,Ual PZ Zam N (cAt cKCfE21 [1,1,1,1,1,1,1,1,0,1,0,0,1,0,0,1,1,1,0,1,0,0]) (pAt (Uaa cKCfE21 [([5000000000,12],[1000010,2,1000011,23]),([14,15,16],[]),([17,18,19,20],[])]).1 [1,1,1,1,1,1,1,1,0,1,0,1,0,1,1,1,0,1,0]) [17,18,19,20] [] (Ze8 a1 a2 a3 a0 z0_12 p0_10 z0_10 p0_11 z0_11 y1_14 y1_15 y1_16) (Zd8 t)=mapS Zd8 Zgt (Zct PZ a1 a2 a3 a0 z0_12 p0_10 z0_10 p0_11 z0_11 y1_14 y1_15 y1_16 t):=by
 rintro⟨y2_17,y2_18,y2_19,y2_20⟩
 conv=>rhs;simp only[Zct,Zax,Zay,Zaw,Zaz,Zd8,Zgt]
 kernel_rfl
def Zfa(a1 a2 a3:Int)(a0:Array Value)(z0_12:Int)(p0_10:Nat)(z0_10:Array Value)(p0_11:Nat)(z0_11:Array Value):St:=(⟨.a (.w 0)::.a (.i .i64 a1)::.a (.i .i64 a2)::.a (.i .u64 a3)::us 4 (.a (.i .u64 0)::.a (.i .i64 0)::.a (.l 5)::.a (.l 6)::.a (.i .i64 z0_12)::.a (.i .i64 (p0_10:Int))::.a (.i .u64 0)::.a (.i .i64 (-1:Int))::.a (.i .i64 0)::us 4 (.a (.l 1)::.a (.l 3)::xs 20 (.a (.l 5)::.a (.i .i64 (p0_10:Int))::.a (.i .i64 (p0_10:Int))::.a (.b (decide ((p0_10:Int) > (12:Int))))::us 51 ([])))),[.row a0 38,.sp,.no,.sp,.no,.sl .own p0_10 z0_10 2,.sl .own p0_11 z0_11 23],[5,6,3,1]⟩:St)
def Zcm:Int×Int×Int->LS
 |(y1_14,y1_15,y1_16)=>([.a (.i .u64 y1_14),.a (.i .i64 y1_15),.a (.i .i64 y1_16)],[])
def Zd6:Int×Int×Int->Exit×LS
 |t=>((.exit 2),Zcm t)
def Zcj(P:Program)(N:Nat)(a1 a2 a3:Int)(a0:Array Value)(z0_12:Int)(p0_10:Nat)(z0_10:Array Value)(p0_11:Nat)(z0_11:Array Value)(y1_14:Int)(y1_15:Int)(y1_16:Int)(z2_17:Int)(z2_18:Int)(z2_19:Int)(z2_20:Int):Option (Stp (Int×Int×Int) (Int×Int×Int)):=bif (z2_17==a3) then (bif decide (y1_15<(0:Int)) then (some (.more (z2_18,z2_19,(i64.wrap (y1_16+(1:Int)))))) else (bif decide (z2_19<y1_15) then (some (.more (z2_18,z2_19,(i64.wrap (y1_16+(1:Int)))))) else (some (.more (y1_14,y1_15,(i64.wrap (y1_16+(1:Int)))))))) else (some (.more (y1_14,y1_15,(i64.wrap (y1_16+(1:Int))))))
theorem Zq8(N:Nat)(a1 a2 a3:Int)(a0:Array Value)(z0_12:Int)(p0_10:Nat)(z0_10:Array Value)(p0_11:Nat)(z0_11:Array Value)(y1_14:Int)(y1_15:Int)(y1_16:Int)(z2_17:Int)(z2_18:Int)(z2_19:Int)(z2_20:Int):(Uad 4 (kSeq (veC PZ Zam N (cAt cKCfE21 [1,1,1,1,1,1,1,1,0,1,0,0,1,0,0,1,1,1,1]) (pAt (Uaa cKCfE21 [([5000000000,12],[1000010,2,1000011,23]),([14,15,16],[]),([17,18,19,20],[])]).1 [1,1,1,1,1,1,1,1,0,1,0,1,0,1,1,1,1]) (Stp LS (Exit×LS))) (Uad 3 (kSeq (veC PZ Zam N (cAt cKCfE21 [1,1,1,1,1,1,1,1,0,1,0,0,1,1]) (pAt (Uaa cKCfE21 [([5000000000,12],[1000010,2,1000011,23]),([14,15,16],[]),([17,18,19,20],[])]).1 [1,1,1,1,1,1,1,1,0,1,0,1,1]) (Stp LS (Exit×LS))) (Uc6 7 [14,15,16] []))))) (.exit 4) (left (writes (cAt cKCfE21 [1,1,1,1,1,1,1,1,0,1,0,0,1,0,0,1,1,1,0,1,0,0])) [17,18,19,20] [] (Ze8 a1 a2 a3 a0 z0_12 p0_10 z0_10 p0_11 z0_11 y1_14 y1_15 y1_16) ([.a (.i .u64 z2_17),.a (.i .u64 z2_18),.a (.i .i64 z2_19),.a (.i .i64 z2_20)],[]))=mapS Zcm Zd6 (Zcj PZ N a1 a2 a3 a0 z0_12 p0_10 z0_10 p0_11 z0_11 y1_14 y1_15 y1_16 z2_17 z2_18 z2_19 z2_20):=by
 conv=>rhs;simp only[Zcj,Zax,Zay,Zaw,Zaz,Zcm,Zd6]
 kernel_rfl
theorem Zzd(N:Nat)(a1 a2 a3:Int)(a0:Array Value)(z0_12:Int)(p0_10:Nat)(z0_10:Array Value)(p0_11:Nat)(z0_11:Array Value)(y1_14:Int)(y1_15:Int)(y1_16:Int):Uah (Uab (Ual PZ Zam N (cAt cKCfE21 [1,1,1,1,1,1,1,1,0,1,0,0,1,0,0,1,1,1,0,1,0,0]) (pAt (Uaa cKCfE21 [([5000000000,12],[1000010,2,1000011,23]),([14,15,16],[]),([17,18,19,20],[])]).1 [1,1,1,1,1,1,1,1,0,1,0,1,0,1,1,1,0,1,0]) [17,18,19,20] [] (Ze8 a1 a2 a3 a0 z0_12 p0_10 z0_10 p0_11 z0_11 y1_14 y1_15 y1_16)) N ([.a (.i .u64 0),.a (.i .u64 0),.a (.i .i64 0),.a (.i .i64 0)],[])) (λe s=>(Uad 4 (kSeq (veC PZ Zam N (cAt cKCfE21 [1,1,1,1,1,1,1,1,0,1,0,0,1,0,0,1,1,1,1]) (pAt (Uaa cKCfE21 [([5000000000,12],[1000010,2,1000011,23]),([14,15,16],[]),([17,18,19,20],[])]).1 [1,1,1,1,1,1,1,1,0,1,0,1,0,1,1,1,1]) (Stp LS (Exit×LS))) (Uad 3 (kSeq (veC PZ Zam N (cAt cKCfE21 [1,1,1,1,1,1,1,1,0,1,0,0,1,1]) (pAt (Uaa cKCfE21 [([5000000000,12],[1000010,2,1000011,23]),([14,15,16],[]),([17,18,19,20],[])]).1 [1,1,1,1,1,1,1,1,0,1,0,1,1]) (Stp LS (Exit×LS))) (Uc6 7 [14,15,16] []))))) e (left (writes (cAt cKCfE21 [1,1,1,1,1,1,1,1,0,1,0,0,1,0,0,1,1,1,0,1,0,0])) [17,18,19,20] [] (Ze8 a1 a2 a3 a0 z0_12 p0_10 z0_10 p0_11 z0_11 y1_14 y1_15 y1_16) s))=mapS Zcm Zd6 (Uao (Uab (Zct PZ a1 a2 a3 a0 z0_12 p0_10 z0_10 p0_11 z0_11 y1_14 y1_15 y1_16) N ((0:Int),(0:Int),(0:Int),(0:Int))) (λx=>Zcj PZ N a1 a2 a3 a0 z0_12 p0_10 z0_10 p0_11 z0_11 y1_14 y1_15 y1_16 x.1 x.2.1 x.2.2.1 x.2.2.2)):=by
 rw[Zpq Zcm Zd6]
 first
 |(have h:=Za2 (α:=Stp LS (Exit×LS)) Zd8 Zgt _ _ (Zlq N a1 a2 a3 a0 z0_12 p0_10 z0_10 p0_11 z0_11 y1_14 y1_15 y1_16) N ((0:Int),(0:Int),(0:Int),(0:Int));refine h _ _ ?_)
 |(have h:=Za2 (α:=Stp BS (Exit×BS)) Zd8 Zgt _ _ (Zlq N a1 a2 a3 a0 z0_12 p0_10 z0_10 p0_11 z0_11 y1_14 y1_15 y1_16) N ((0:Int),(0:Int),(0:Int),(0:Int));refine h _ _ ?_)
 |(have h:=Za2 (α:=Stp LS ((Exit×LS)⊕(SV×Eff×Bool))) Zd8 Zgt _ _ (Zlq N a1 a2 a3 a0 z0_12 p0_10 z0_10 p0_11 z0_11 y1_14 y1_15 y1_16) N ((0:Int),(0:Int),(0:Int),(0:Int));refine h _ _ ?_)
 intro x;exact Zq8 N a1 a2 a3 a0 z0_12 p0_10 z0_10 p0_11 z0_11 y1_14 y1_15 y1_16 x.1 x.2.1 x.2.2.1 x.2.2.2
def Zco(P:Program)(N:Nat)(a1 a2 a3:Int)(a0:Array Value)(z0_12:Int)(p0_10:Nat)(z0_10:Array Value)(p0_11:Nat)(z0_11:Array Value):Int×Int×Int->Option (Stp (Int×Int×Int) (Int×Int×Int))
 |(y1_14,y1_15,y1_16)=>bif decide (0<=(IntKind.u64.wrap (p0_10:Int))) then (bif decide (y1_16<(i64.wrap ((1:Int)*2^(min ((IntKind.u64.wrap (p0_10:Int))).toNat i64.bits)))) then (Uao (Uab (Zct P a1 a2 a3 a0 z0_12 p0_10 z0_10 p0_11 z0_11 y1_14 y1_15 y1_16) N ((0:Int),(0:Int),(0:Int),(0:Int))) (λx=>Zcj P N a1 a2 a3 a0 z0_12 p0_10 z0_10 p0_11 z0_11 y1_14 y1_15 y1_16 x.1 x.2.1 x.2.2.1 x.2.2.2)) else (some (.done (y1_14,y1_15,y1_16)))) else (none)
theorem Zzw(N:Nat)(a1 a2 a3:Int)(a0:Array Value)(z0_12:Int)(p0_10:Nat)(z0_10:Array Value)(p0_11:Nat)(z0_11:Array Value):∀t:Int×Int×Int,Ual PZ Zam N (cAt cKCfE21 [1,1,1,1,1,1,1,1,0,1,0,0]) (pAt (Uaa cKCfE21 [([5000000000,12],[1000010,2,1000011,23]),([14,15,16],[]),([17,18,19,20],[])]).1 [1,1,1,1,1,1,1,1,0,1,0]) [14,15,16] [] (Zfa a1 a2 a3 a0 z0_12 p0_10 z0_10 p0_11 z0_11) (Zcm t)=mapS Zcm Zd6 (Zco PZ N a1 a2 a3 a0 z0_12 p0_10 z0_10 p0_11 z0_11 t):=by
 rintro⟨y1_14,y1_15,y1_16⟩
 conv=>rhs;simp only[<- Zzd N a1 a2 a3 a0 z0_12 p0_10 z0_10 p0_11 z0_11 y1_14 y1_15 y1_16,Zco,Zax,Zay,Zaw,Zaz,Zcm,Zd6]
 kernel_rfl
def Zfh(P:Program)(N:Nat)(a1 a2 a3:Int)(a0:Array Value)(z0_12:Int)(p0_10:Nat)(z0_10:Array Value)(p0_11:Nat)(z0_11:Array Value)(z1_14:Int)(z1_15:Int)(z1_16:Int):Option (SV×Eff×Bool):=bif decide (z1_15<(0:Int)) then (some (.t [.i .u64 0,.i .i64 6],.none,true)) else (some (.t [.i .u64 z1_14,.i .i64 0],.none,true))
theorem Zq4(N:Nat)(a1 a2 a3:Int)(a0:Array Value)(z0_12:Int)(p0_10:Nat)(z0_10:Array Value)(p0_11:Nat)(z0_11:Array Value)(z1_14:Int)(z1_15:Int)(z1_16:Int):(Uad 2 (kSeq (veC PZ Zam N (cAt cKCfE21 [1,1,1,1,1,1,1,1,1]) (pAt (Uaa cKCfE21 [([5000000000,12],[1000010,2,1000011,23]),([14,15,16],[]),([17,18,19,20],[])]).1 [1,1,1,1,1,1,1,1,1]) (SV×Eff×Bool)) (finK PZ [.row a0 38] [.tmp 8,.tmp 9]))) (.exit 2) (left (writes (cAt cKCfE21 [1,1,1,1,1,1,1,1,0,1,0,0])) [14,15,16] [] (Zfa a1 a2 a3 a0 z0_12 p0_10 z0_10 p0_11 z0_11) ([.a (.i .u64 z1_14),.a (.i .i64 z1_15),.a (.i .i64 z1_16)],[]))=Zfh PZ N a1 a2 a3 a0 z0_12 p0_10 z0_10 p0_11 z0_11 z1_14 z1_15 z1_16:=by kernel_rfl
theorem Zzr(N:Nat)(a1 a2 a3:Int)(a0:Array Value)(z0_12:Int)(p0_10:Nat)(z0_10:Array Value)(p0_11:Nat)(z0_11:Array Value):Uah (Uab (Ual PZ Zam N (cAt cKCfE21 [1,1,1,1,1,1,1,1,0,1,0,0]) (pAt (Uaa cKCfE21 [([5000000000,12],[1000010,2,1000011,23]),([14,15,16],[]),([17,18,19,20],[])]).1 [1,1,1,1,1,1,1,1,0,1,0]) [14,15,16] [] (Zfa a1 a2 a3 a0 z0_12 p0_10 z0_10 p0_11 z0_11)) N ([.a (.i .u64 0),.a (.i .i64 (-1:Int)),.a (.i .i64 0)],[])) (λe s=>(Uad 2 (kSeq (veC PZ Zam N (cAt cKCfE21 [1,1,1,1,1,1,1,1,1]) (pAt (Uaa cKCfE21 [([5000000000,12],[1000010,2,1000011,23]),([14,15,16],[]),([17,18,19,20],[])]).1 [1,1,1,1,1,1,1,1,1]) (SV×Eff×Bool)) (finK PZ [.row a0 38] [.tmp 8,.tmp 9]))) e (left (writes (cAt cKCfE21 [1,1,1,1,1,1,1,1,0,1,0,0])) [14,15,16] [] (Zfa a1 a2 a3 a0 z0_12 p0_10 z0_10 p0_11 z0_11) s))=Uao (Uab (Zco PZ N a1 a2 a3 a0 z0_12 p0_10 z0_10 p0_11 z0_11) N ((0:Int),(-1:Int),(0:Int))) (λx=>Zfh PZ N a1 a2 a3 a0 z0_12 p0_10 z0_10 p0_11 z0_11 x.1 x.2.1 x.2.2):=by refine Za2 Zcm Zd6 _ _ (Zzw N a1 a2 a3 a0 z0_12 p0_10 z0_10 p0_11 z0_11) N ((0:Int),(-1:Int),(0:Int)) _ _ ?_;intro x;exact Zq4 N a1 a2 a3 a0 z0_12 p0_10 z0_10 p0_11 z0_11 x.1 x.2.1 x.2.2
def Zd1(P:Program)(N:Nat)(a1 a2 a3:Int)(a0:Array Value)(z0_12:Int)(p0_10:Nat)(z0_10:Array Value)(p0_11:Nat)(z0_11:Array Value):Option (SV×Eff×Bool):=bif decide ((p0_10:Int) > (12:Int)) then (some (.t [.i .u64 0,.i .i64 7],.none,true)) else (Uao (Uab (Zco P N a1 a2 a3 a0 z0_12 p0_10 z0_10 p0_11 z0_11) N ((0:Int),(-1:Int),(0:Int))) (λx=>Zfh P N a1 a2 a3 a0 z0_12 p0_10 z0_10 p0_11 z0_11 x.1 x.2.1 x.2.2))
theorem Zri(N:Nat)(a1 a2 a3:Int)(a0:Array Value)(z0_12:Int)(p0_10:Nat)(z0_10:Array Value)(p0_11:Nat)(z0_11:Array Value):(Uad 0 (kSeq (veC PZ Zam N (cAt cKCfE21 [1,1,1,1]) (pAt (Uaa cKCfE21 [([5000000000,12],[1000010,2,1000011,23]),([14,15,16],[]),([17,18,19,20],[])]).1 [1,1,1,1]) (SV×Eff×Bool)) (finK PZ [.row a0 38] [.tmp 8,.tmp 9]))) (.exit 0) (left (writes (cAt cKCfE21 [1,1,1,0,1,0,0])) [12,10,11] [5,6] (Ze5 a1 a2 a3 a0) ([.a (.i .i64 z0_12),.a (.l 5),.a (.l 6)],[.sl .own p0_10 z0_10 2,.sl .own p0_11 z0_11 23]))=Zd1 PZ N a1 a2 a3 a0 z0_12 p0_10 z0_10 p0_11 z0_11:=by
 conv=>rhs;simp only[<- Zzr N a1 a2 a3 a0 z0_12 p0_10 z0_10 p0_11 z0_11,Zd1]
 kernel_rfl
theorem Yas(N:Nat)(a1 a2 a3:Int)(a0:Array Value):Uah (Uab (Ugo PZ Zam N (cAt cKCfE21 [1,1,1,0,1,0,0]) (pAt (Uaa cKCfE21 [([5000000000,12],[1000010,2,1000011,23]),([14,15,16],[]),([17,18,19,20],[])]).1 [1,1,1,0,1,0]) [12] [] [(10,2),(11,23)] 5 (Ze5 a1 a2 a3 a0)) N ([.a (.i .i64 0),.a (.l 5),.a (.l 6)],[.sl .own 0 (#[]:Array Value) 2,.sl .own 0 (#[]:Array Value) 23])) (λe s=>(Uad 0 (kSeq (veC PZ Zam N (cAt cKCfE21 [1,1,1,1]) (pAt (Uaa cKCfE21 [([5000000000,12],[1000010,2,1000011,23]),([14,15,16],[]),([17,18,19,20],[])]).1 [1,1,1,1]) (SV×Eff×Bool)) (finK PZ [.row a0 38] [.tmp 8,.tmp 9]))) e (left (writes (cAt cKCfE21 [1,1,1,0,1,0,0])) [12,10,11] [5,6] (Ze5 a1 a2 a3 a0) s))=Uao (Uab (Zcr PZ a1 a2 a3 a0) N ((0:Int),0,(#[]:Array Value),0,(#[]:Array Value))) (λx=>Zd1 PZ N a1 a2 a3 a0 x.1 x.2.1 x.2.2.1 x.2.2.2.1 x.2.2.2.2):=by refine Za2 Zgp Zlr _ _ (Zz6 N a1 a2 a3 a0) N ((0:Int),0,(#[]:Array Value),0,(#[]:Array Value)) _ _ ?_;intro x;exact Zri N a1 a2 a3 a0 x.1 x.2.1 x.2.2.1 x.2.2.2.1 x.2.2.2.2
theorem Zx3(N:Nat)(a1 a2 a3:Int)(a0:Array Value):ansV PZ Zam N f21 [([5000000000,12],[1000010,2,1000011,23]),([14,15,16],[]),([17,18,19,20],[])] [.w 0,.i .i64 a1,.i .i64 a2,.i .u64 a3] [.row a0 38]=(Uao (Uab (Zcr PZ a1 a2 a3 a0) N ((0:Int),0,(#[]:Array Value),0,(#[]:Array Value))) (λx=>Zd1 PZ N a1 a2 a3 a0 x.1 x.2.1 x.2.2.1 x.2.2.2.1 x.2.2.2.2)):=by
 conv=>rhs;simp only[<- Yas N a1 a2 a3 a0]
 kernel_rfl
def lfC(P:Program)(S:Array Value)(b h c:Int):Int:=bif decide ((nW S:Int) > (12:Int)) then 7 else bif (scF P S b h c).isSome then 0 else 6
def lfV(P:Program)(S:Array Value)(b h c:Int):Int:=bif decide ((nW S:Int) > (12:Int)) then 0 else fwV P S b h c
def scI(P:Program)(S:Array Value)(b h c:Int)(k:Nat):Int×Int×Int:=match Ub4 (λk=>(folds (sgF (watA S 36) (reaA P S b h c 36) k) (0,0,0) (nW S)).1==c) (λk=>cntQ k.testBit (nW S)) k with|none=>((0:Int),(-1:Int),(k:Int))|some b=>(setI (cN S) b,(cntQ b.testBit (nW S):Int),(k:Int))
theorem wl_succ(S:Array Value)(k:Nat):(jA (k+1)).filter (wt S)=if wt S k then (jA k).filter (wt S)++[k] else (jA k).filter (wt S):=by rw[List.range_succ,List.filter_append];cases h:wt S k<;>simp[h]
theorem Zv4(a1 a2 a3:Int)(a0:Array Value)(h_a1:i64.min<=a1/\a1<=i64.max)(h_a2:i64.min<=a2/\a2<=i64.max)(h_a3:IntKind.u64.min<=a3/\a3<=IntKind.u64.max)(h_a0:WT PZ 38 a0)(hg:((((okS a0&&(decide (0<=a1)&&decide (a1<=1)))&&(decide (1<=a2)&&decide (a2<=8)))&&Zac a0 a3))=true):ansV PZ Zam 1000000 f21 [([5000000000,12],[1000010,2,1000011,23]),([14,15,16],[]),([17,18,19,20],[])] [.w 0,.i .i64 a1,.i .i64 a2,.i .u64 a3] [.row a0 38]=some (.t [.i .u64 (lfV PZ a0 a1 a2 a3),.i .i64 (lfC PZ a0 a1 a2 a3)],.none,true):=by
 simp only[Q7,decide_eq_true_eq]at hg;obtain⟨⟨⟨hok,hb0,hb1⟩,hh1,hh8⟩,hcs⟩:=hg;have hU:U64 a3:=h_a3;have hby:bytesOf PZ 2<=1000:=Nat.le_of_ble_eq_true (by kernel_rfl);have hby2:bytesOf PZ 23<=1000:=Nat.le_of_ble_eq_true (by kernel_rfl);refine(Zx3 1000000 a1 a2 a3 a0).trans ?_;have hl1:Uab (Zcr PZ a1 a2 a3 a0) 1000000 ((0:Int),0,(#[]:Array Value),0,(#[]:Array Value))=some ((36:Int),nW a0,(watA a0 36),nW a0,(reaA PZ a0 a1 a2 a3 36)):=by
  have h:=Ze0 (g:=Zcr PZ a1 a2 a3 a0) (λk=>((k:Int),((jA k).filter (wt a0)).length,watA a0 k,((jA k).filter (wt a0)).length,reaA PZ a0 a1 a2 a3 k)) (m:=36) (x:=((36:Int),nW a0,(watA a0 36),nW a0,(reaA PZ a0 a1 a2 a3 36))) (λk hk=>by
   have h1:decide ((k:Int)<36)=true:=Q3 (by omega);have h3:i64.wrap ((k:Int)+1)=((k+1:Nat):Int):=by rw[w64 (by omega)];omega
   have hlen:((jA k).filter (wt a0)).length<=36:=by have:=Zyp (wt a0) k;rw[Zlf];omega
   have h4:Nat.ble ((((jA k).filter (wt a0)).length+1)*bytesOf PZ 2) 140737488355328=true:=Nat.ble_eq_true_of_le (Nat.le_trans (Nat.mul_le_mul (show _<=37 by omega) hby) (by decide));have h5:Nat.ble ((((jA k).filter (wt a0)).length+1)*bytesOf PZ 23) 140737488355328=true:=Nat.ble_eq_true_of_le (Nat.le_trans (Nat.mul_le_mul (show _<=37 by omega) hby2) (by decide));have hs:=wl_succ a0 k;cases hw:wt a0 k with
   |false=>have hw':Zae (k:Int) a0=false:=hw;rw[hw,if_neg (by simp)]at hs;unfold watA reaA;rw[hs];simp only[Zcr,h1,h3,(Zuy h_a0 hk).1,hw',Q1,Q2]
   |true=>have hw':Zae (k:Int) a0=true:=hw;rw[hw,if_pos rfl]at hs;have hfg:=from_gd (c:=a3) hok ⟨hb0,hb1⟩ (show 0<=(k:Int)/\(k:Int)<=35 by omega) ⟨hh1,hh8⟩ hw';unfold watA reaA;rw[hs,List.length_append,List.map_append,List.map_append];simp only[Zcr,h1,h3,h4,h5,hfg,(Zuy h_a0 hk).1,hw',Q1];simp) (by
   have h1:decide (((36:Nat):Int)<36)=false:=by decide
   simp only[Zcr,h1,Q2];rw[Zlf];rfl) (N:=1000000) (by omega)
  exact h
 rw[hl1]
 show Zd1 PZ 1000000 a1 a2 a3 a0 (36:Int) (nW a0) (watA a0 36) (nW a0) (reaA PZ a0 a1 a2 a3 36)=_
 unfold Zd1 lfV lfC;cases hn:decide ((nW a0:Int) > (12:Int)) with
 |true=>simp only[Q1]
 | false=>
  have hn:=of_decide_eq_false hn;have hn12:nW a0<=12:=by omega
  simp only[Q2];have hu:IntKind.u64.wrap (nW a0:Int)=(nW a0:Int):=Ugk (by omega);have hpw:(2:Nat)^nW a0<=4096:=by
   have h1:2^nW a0<=2^12:=Nat.pow_le_pow_right (by omega) hn12;have h2:(2:Nat)^12=4096:=by decide
   omega
  have htop:i64.wrap ((1:Int)*2^(min ((IntKind.u64.wrap (nW a0:Int))).toNat i64.bits))=((2^nW a0:Nat):Int):=by
   rw[hu,Q9,Int.one_mul,show min (nW a0) i64.bits=nW a0 from Nat.min_eq_left (by show nW a0<=64;omega)];have h1:(2:Int)^nW a0=((2^nW a0:Nat):Int):=by norm_cast
   rw[h1];generalize (2:Nat)^nW a0=q at hpw|-
   exact IntWalk.i64_in _ (by omega)
  have hwn:∀t,t<nW a0->0<=num (watA a0 36) t/\num (watA a0 36) t<=35:=λt ht=>by
   obtain⟨i,h1,h2,h3⟩:=Zzo ht;rw[<- h3,show num (watA a0 36) (cntQ (wt a0) i)=(i:Int) from Yba (f:=λk=>(k:Int)) (Zsa h1 h2)];omega
  have hin:∀(b q:Int) (k:Nat),k<4096->Uab (Zct PZ a1 a2 a3 a0 (36:Int) (nW a0) (watA a0 36) (nW a0) (reaA PZ a0 a1 a2 a3 36) b q (k:Int)) 1000000 ((0:Int),(0:Int),(0:Int),(0:Int))=some ((folds (sgF (watA a0 36) (reaA PZ a0 a1 a2 a3 36) k) (0,0,0) (nW a0)).1,(folds (sgF (watA a0 36) (reaA PZ a0 a1 a2 a3 36) k) (0,0,0) (nW a0)).2.1,(folds (sgF (watA a0 36) (reaA PZ a0 a1 a2 a3 36) k) (0,0,0) (nW a0)).2.2,(nW a0:Int)):=λb q k hk=>
   Zkf (g:=Zct PZ a1 a2 a3 a0 (36:Int) (nW a0) (watA a0 36) (nW a0) (reaA PZ a0 a1 a2 a3 36) b q (k:Int)) (λ(s:Int×Int×Int) t=>(s.1,s.2.1,s.2.2,(t:Int))) (sgF (watA a0 36) (reaA PZ a0 a1 a2 a3 36) k) (m:=nW a0) (t:=(0,0,0)) (x:=((folds (sgF (watA a0 36) (reaA PZ a0 a1 a2 a3 36) k) (0,0,0) (nW a0)).1,(folds (sgF (watA a0 36) (reaA PZ a0 a1 a2 a3 36) k) (0,0,0) (nW a0)).2.1,(folds (sgF (watA a0 36) (reaA PZ a0 a1 a2 a3 36) k) (0,0,0) (nW a0)).2.2,(nW a0:Int))) (λt s ht hs=>by
    have h1:decide ((t:Int)<(nW a0:Int))=true:=Q3 (by omega);have h2:decide (0<=IntKind.u64.wrap (t:Int))=true:=Q3 (Zhx .u64 _).1;have h3:i64.wrap ((t:Int)+1)=((t+1:Nat):Int):=by rw[w64 (by omega)];omega
    have h4:decide (0<=(t:Int))=true:=Q3 (by omega);have hwt:=hwn t ht;have h5:IntKind.u64.wrap (num (watA a0 36) t)=num (watA a0 36) t:=Ugk hwt;have h6:decide (0<=num (watA a0 36) t)=true:=Q3 hwt.1;have hbit:((((k:Int)).fdiv (2^(min (IntKind.u64.wrap (t:Int)).toNat i64.bits))).tmod 2==1)=k.testBit t:=by
     rw[Ugk (show 0<=(t:Int)/\(t:Int)<=35 by omega),Q9];have hku:U64 (k:Int):=by unfold U64;omega
     exact(Yku hku (show t<64 by omega)).trans (by rw[Zd3 hku,Q9])
    have hs3:s.2.2=(cntQ k.testBit t:Int):=by rw[hs];exact(Ymo (R:=(reaA PZ a0 a1 a2 a3 36)) (k:=k) (n:=nW a0) (λt ht=>by have:=hwn t ht;omega) t (by omega)).2.2.2.2
    have hs4:=Zyp k.testBit t;have h7:i64.wrap (s.2.2+1)=s.2.2+1:=IntWalk.i64_in _ (by omega);unfold sgF;cases hb:k.testBit t with
    |false=>simp only[Zct,h1,h2,h3,hbit,hb,Q1,Q2]
    |true=>simp only[Zct,h1,h2,h3,h4,hbit,hb,Q9,Nat.mul_one,h5,h6,h7,Bool.and_self,Q1];rfl) (by
    have h1:decide ((nW a0:Int)<(nW a0:Int))=false:=Q4 (by omega);simp only[Zct,h1,Q2]) (by omega)
  have hl2:Uab (Zco PZ 1000000 a1 a2 a3 a0 (36:Int) (nW a0) (watA a0 36) (nW a0) (reaA PZ a0 a1 a2 a3 36)) 1000000 ((0:Int),(-1:Int),(0:Int))=some (scI PZ a0 a1 a2 a3 (2^nW a0)):=
   Ze0 (g:=Zco PZ 1000000 a1 a2 a3 a0 (36:Int) (nW a0) (watA a0 36) (nW a0) (reaA PZ a0 a1 a2 a3 36)) (λk=>scI PZ a0 a1 a2 a3 k) (m:=2^nW a0) (x:=scI PZ a0 a1 a2 a3 (2^nW a0)) (λk hk=>by
    have h1:decide (0<=IntKind.u64.wrap (nW a0:Int))=true:=Q3 (Zhx .u64 _).1;have h2:decide ((k:Int)<((2^nW a0:Nat):Int))=true:=Q3 (by omega);have h3:i64.wrap ((k:Int)+1)=((k+1:Nat):Int):=by rw[IntWalk.i64_in _ (by omega)];omega
    obtain⟨o1,o2⟩:=own_is h_a0 (R:=(reaA PZ a0 a1 a2 a3 36)) k;unfold scI;rw[Ub4];cases hs:Ub4 (λk=>(folds (sgF (watA a0 36) (reaA PZ a0 a1 a2 a3 36) k) (0,0,0) (nW a0)).1==a3) (λk=>cntQ k.testBit (nW a0)) k with
    |none=>
     simp only[Zco,h1,htop,h2,Q1,hin 0 (-1) k (by omega)]
     show Zcj PZ 1000000 a1 a2 a3 a0 (36:Int) (nW a0) (watA a0 36) (nW a0) (reaA PZ a0 a1 a2 a3 36) 0 (-1) (k:Int) (folds (sgF (watA a0 36) (reaA PZ a0 a1 a2 a3 36) k) (0,0,0) (nW a0)).1 (folds (sgF (watA a0 36) (reaA PZ a0 a1 a2 a3 36) k) (0,0,0) (nW a0)).2.1 (folds (sgF (watA a0 36) (reaA PZ a0 a1 a2 a3 36) k) (0,0,0) (nW a0)).2.2 (nW a0:Int)=_
     unfold Zcj;rw[o1,o2,h3];cases ((folds (sgF (watA a0 36) (reaA PZ a0 a1 a2 a3 36) k) (0,0,0) (nW a0)).1==a3)<;>rfl
    | some b=>
     simp only[Zco,h1,htop,h2,Q1,hin (setI (cN a0) b) (cntQ b.testBit (nW a0):Int) k (by omega)]
     show Zcj PZ 1000000 a1 a2 a3 a0 (36:Int) (nW a0) (watA a0 36) (nW a0) (reaA PZ a0 a1 a2 a3 36) (setI (cN a0) b) (cntQ b.testBit (nW a0):Int) (k:Int) (folds (sgF (watA a0 36) (reaA PZ a0 a1 a2 a3 36) k) (0,0,0) (nW a0)).1 (folds (sgF (watA a0 36) (reaA PZ a0 a1 a2 a3 36) k) (0,0,0) (nW a0)).2.1 (folds (sgF (watA a0 36) (reaA PZ a0 a1 a2 a3 36) k) (0,0,0) (nW a0)).2.2 (nW a0:Int)=_
     unfold Zcj;rw[o1,o2,h3,Q4 (show ¬(cntQ b.testBit (nW a0):Int)<0 by omega)];cases ((folds (sgF (watA a0 36) (reaA PZ a0 a1 a2 a3 36) k) (0,0,0) (nW a0)).1==a3) with
     |false=>simp only[Q2,Bool.false_and]
     |true=>have hd:decide ((cntQ k.testBit (nW a0):Int)<(cntQ b.testBit (nW a0):Int))=decide (cntQ k.testBit (nW a0)<cntQ b.testBit (nW a0)):=decide_eq_decide.2 (by omega);rw[hd];cases decide (cntQ k.testBit (nW a0)<cntQ b.testBit (nW a0))<;>rfl) (by
    have h1:decide (0<=IntKind.u64.wrap (nW a0:Int))=true:=Q3 (Zhx .u64 _).1;have h2:decide (((2^nW a0:Nat):Int)<((2^nW a0:Nat):Int))=false:=Q4 (by omega);unfold scI;cases Ub4 (λk=>(folds (sgF (watA a0 36) (reaA PZ a0 a1 a2 a3 36) k) (0,0,0) (nW a0)).1==a3) (λk=>cntQ k.testBit (nW a0)) (2^nW a0)<;>simp only[Zco,h1,htop,h2,Q1,Q2]) (by omega)
  rw[hl2];unfold scI fwV
  show Uao (some (match scF PZ a0 a1 a2 a3 with|none=>_|some b=>_)) _=_
  cases hs:scF PZ a0 a1 a2 a3 with
  |none=>rfl
  |some b=>
   show Zfh PZ 1000000 a1 a2 a3 a0 (36:Int) (nW a0) (watA a0 36) (nW a0) (reaA PZ a0 a1 a2 a3 36) (setI (cN a0) b) (cntQ b.testBit (nW a0):Int) ((2^nW a0:Nat):Int)=_
   unfold Zfh;rw[Q4 (show ¬(cntQ b.testBit (nW a0):Int)<0 by omega)];rfl
def Zkq:Con:=λargs h=>match args,h with|[.w 0,.i .i64 a1,.i .i64 a2,.i .u64 a3],[.row a0 38]=>some (.t [.i .u64 (lfV PZ a0 a1 a2 a3),.i .i64 (lfC PZ a0 a1 a2 a3)],.none,(((okS a0&&(decide (0<=a1)&&decide (a1<=1)))&&(decide (1<=a2)&&decide (a2<=8)))&&Zac a0 a3))|_,_=>none
theorem Zt8:EntX PZ 21:=Zak (fn:=f21)
theorem Zzi:Uac mn PZ 21 Zkq:=(ansY (N:=1000000) (mKc (Zag Zo0) Zl2 (mKc (Zag Ydr) Zy4 mKn)) f21 [([5000000000,12],[1000010,2,1000011,23]),([14,15,16],[]),([17,18,19,20],[])]).of (by
 intro ρ h w args vals r e hA hH hr;unfold Zkq at hr;split at hr
 ·rename_i a1 a2 a3 a0;obtain⟨rfl,rfl,hg2⟩:=BQi hr;exact Zv4 a1 a2 a3 a0 (hA.rng 1 rfl) (hA.rng 2 rfl) (hA.rng 3 rfl) (hH.wt 0 rfl) hg2
 ·cases hr)
end
end Go.Proofs.YtgllknjdblkhnaaGreatDoor
