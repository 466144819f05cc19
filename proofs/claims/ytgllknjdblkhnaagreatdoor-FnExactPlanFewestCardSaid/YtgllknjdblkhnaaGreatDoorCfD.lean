/- The first choice of the fewest: the program. -/
import Derived.Test.YtgllknjdblkhnaaGreatDoorProg
import Derived.Test.YtgllknjdblkhnaaGreatDoorCfC
set_option linter.unusedVariables false
set_option linter.unusedSimpArgs false
open _root_.List renaming range->jA,filter_append->jB,range_succ->jC
open _root_.Nat renaming ble_eq_true_of_le->jD
namespace Go.Proofs.YtgllknjdblkhnaaGreatDoor
open Tryz (f14)
open Go.ChangeShapes Go.WideShapes Go.ChangeAt Go.RowKit Ve Vc
open Tryz renaming prog -> PZ
set_option maxRecDepth 100000
noncomputable section
open Pop
variable {mn:Md}
def Zaj:Cons:=(mkΓx [(27,con Zh2),(28,con Zea),(30,conG Zhc),(31,con Zcl),(33,con Zlw)] [(29,Zjm),(32,Zlm)] [(49,Zfs),(53,Zhh)])
def Zbu(a0:Array Value)(a1:Int)(g_et:Addr)(g_tb:Addr):St:=(⟨.a (.r a0 53 [])::.a (.i .u64 a1)::.a (.w 2)::.a (.u)::.a (.w 3)::.a (.w 4)::.a (.i .u64 (Zab (a0.extract 2 (2+363))))::.a (.w 5)::.a (.u)::.a (.u)::.a (.p 2 (2) 38)::.a (.g (a0.extract 2 (2+363)) 38)::.a (.i .u64 (Zab (a0.extract 2 (2+363))))::.a (.i .u64 (Zab (a0.extract 2 (2+363))))::.a (.i .i64 (cntQ ((Zab (a0.extract 2 (2+363))).toNat).testBit 64:Int))::.a (.b (decide ((cntQ ((Zab (a0.extract 2 (2+363))).toNat).testBit 64:Int) > (12:Int))))::.a (.u)::.a (.i .u64 a1)::.a (.c 49 [9])::us 16 ([]),[.gl 0 124 g_et 3000055,.gl 1 0 g_tb 1000000000,.one (.r a0 53 []) 53,.row #[.int .u64 0] 23,.row #[.nilIface] 55,.one (.l 14) 77,.no,.no,.no,.row #[.int .u64 a1] 23,.no,.no,.no,.no,.sl .own 0 (#[]:Array Value) 23],[5]⟩:St)
def Zfy:Nat×Array Value->BS
 |(m0_b,y0_b)=>([.sl .own m0_b y0_b 23]:BS)
def Zh9:Empty->Exit×BS:=λx=>nomatch x
def Zbb(P:Program)(a0:Array Value)(a1:Int)(g_et:Addr)(g_tb:Addr)(x0:Int):Nat×Array Value->Option (Stp (Nat×Array Value) Empty)
 |(m0_b,y0_b)=>bif decide (0<=x0) then (bif (((okS (a0.extract 2 (2+363))&&(decide (0<=(num a0 0))&&decide ((num a0 0)<2)))&&(decide (0<=(num a0 1))&&decide ((num a0 1)<=14)))&&decide ((Za6 x0)<68719476736)) then (bif (Nat.ble ((m0_b+1)*bytesOf PZ 23) 140737488355328) then (some (.more ((m0_b+1),(y0_b++(#[.int .u64 (srcV PZ (a0.extract 2 (2+363)) (num a0 0) (num a0 1) (Za6 x0))]:Array Value))))) else (none)) else (none)) else (none)
noncomputable abbrev cKCfD14:=codeOf f14
theorem Zs4(N:Nat)(a0:Array Value)(a1:Int)(g_et:Addr)(g_tb:Addr)(x0:Int):∀t:Nat×Array Value,Ud6 PZ Zaj N (cAt cKCfD14 [1,1,1,1,0,1,0,0]) (pAt (Uaa cKCfD14 [([],[2000005,23]),([6000000000],[4,3])]).1 [1,1,1,1,0,1,0]) 14 [] 5 23 [19] [(8,19)] (Zbu a0 a1 g_et g_tb) [.i .i64 x0] (Zfy t)=mapS Zfy Zh9 (Zbb PZ a0 a1 g_et g_tb x0 t):=by
 rintro⟨m0_b,y0_b⟩
 conv=>rhs;simp only[Zbb,Zax,Zay,Zaw,Zaz,Zfy,Zh9]
 kernel_rfl
def Zc9(a0:Array Value)(a1:Int)(g_et:Addr)(g_tb:Addr)(p0_b:Nat)(z0_b:Array Value):St:=(⟨.a (.r a0 53 [])::.a (.i .u64 a1)::.a (.w 2)::.a (.u)::.a (.w 3)::.a (.w 4)::.a (.i .u64 (Zab (a0.extract 2 (2+363))))::.a (.w 5)::.a (.u)::.a (.u)::.a (.p 2 (2) 38)::.a (.g (a0.extract 2 (2+363)) 38)::.a (.i .u64 (Zab (a0.extract 2 (2+363))))::.a (.i .u64 (Zab (a0.extract 2 (2+363))))::.a (.i .i64 (cntQ ((Zab (a0.extract 2 (2+363))).toNat).testBit 64:Int))::.a (.b (decide ((cntQ ((Zab (a0.extract 2 (2+363))).toNat).testBit 64:Int) > (12:Int))))::.a (.u)::.a (.i .u64 a1)::.a (.c 49 [9])::us 8 (.a (.i .u64 (Zab (a0.extract 2 (2+363))))::.a (.c 53 [18])::us 6 ([])),[.gl 0 124 g_et 3000055,.gl 1 0 g_tb 1000000000,.one (.r a0 53 []) 53,.row #[.int .u64 0] 23,.row #[.nilIface] 55,.one (.l 14) 77,.no,.no,.no,.row #[.int .u64 a1] 23,.no,.no,.no,.no,.sl .own p0_b z0_b 23,.no,.no,.no,.row #[.int .u64 (Zab (a0.extract 2 (2+363)))] 23,.no,.no,.no,.no],[14,5]⟩:St)
def Zhv(a0:Array Value)(a1:Int)(g_et:Addr)(g_tb:Addr)(p0_b:Nat)(z0_b:Array Value):St:=(⟨.a (.r a0 53 [])::.a (.i .u64 a1)::.a (.w 2)::.a (.u)::.a (.w 3)::.a (.w 4)::.a (.i .u64 (Zab (a0.extract 2 (2+363))))::.a (.w 5)::.a (.u)::.a (.u)::.a (.p 2 (2) 38)::.a (.g (a0.extract 2 (2+363)) 38)::.a (.i .u64 (Zab (a0.extract 2 (2+363))))::.a (.i .u64 (Zab (a0.extract 2 (2+363))))::.a (.i .i64 (cntQ ((Zab (a0.extract 2 (2+363))).toNat).testBit 64:Int))::.a (.b (decide ((cntQ ((Zab (a0.extract 2 (2+363))).toNat).testBit 64:Int) > (12:Int))))::.a (.u)::.a (.i .u64 a1)::.a (.c 49 [9])::us 8 (.a (.i .u64 (Zab (a0.extract 2 (2+363))))::.a (.c 53 [18])::us 6 ([])),[.gl 0 124 g_et 3000055,.gl 1 0 g_tb 1000000000,.one (.r a0 53 []) 53,.row #[.int .u64 0] 23,.row #[.nilIface] 55,.one (.l 14) 77,.no,.no,.no,.row #[.int .u64 a1] 23,.no,.no,.no,.no,.sl .lent p0_b z0_b 23,.no,.no,.no,.row #[.int .u64 (Zab (a0.extract 2 (2+363)))] 23,.no,.no,.no,.no],[14,5]⟩:St)
def Zed:Array Value×Int->BS
 |(r1_4,r1_3)=>([.row r1_4 55,.row #[.int .u64 r1_3] 23]:BS)
def Zh7:Array Value×Int->Exit×BS
 |t=>(.ret,Zed t)
def Zba(P:Program)(a0:Array Value)(a1:Int)(g_et:Addr)(g_tb:Addr)(p0_b:Nat)(z0_b:Array Value)(x1:Int):Array Value×Int->Option (Stp (Array Value×Int) (Array Value×Int))
 |(r1_4,r1_3)=>bif (Nat.ble p0_b 2000000) then (bif (Zbr x1 none p0_b z0_b) then (some (.done ((#[.nilIface]:Array Value),x1))) else (some (.more (r1_4,r1_3)))) else (none)
theorem Zrs(N:Nat)(a0:Array Value)(a1:Int)(g_et:Addr)(g_tb:Addr)(p0_b:Nat)(z0_b:Array Value)(x1:Int):∀t:Array Value×Int,Uc7 PZ Zaj N (cAt cKCfD14 [1,1,1,1,1,0,1,0,0]) (pAt (Uaa cKCfD14 [([],[2000005,23]),([6000000000],[4,3])]).1 [1,1,1,1,1,0,1,0]) 23 [4,3] [29] [(9,29)] (Zhv a0 a1 g_et g_tb p0_b z0_b) [.i .u64 x1] (Zed t)=mapS Zed Zh7 (Zba PZ a0 a1 g_et g_tb p0_b z0_b x1 t):=by
 rintro⟨r1_4,r1_3⟩
 conv=>rhs;simp only[Zba,Zax,Zay,Zaw,Zaz,Zed,Zh7]
 kernel_rfl
def Zg3(P:Program)(N:Nat)(a0:Array Value)(a1:Int)(g_et:Addr)(g_tb:Addr)(p0_b:Nat)(z0_b:Array Value)(q1_4:Array Value)(q1_3:Int):Option (SV×Eff×Bool):=some (.t [.i .u64 0,.v (.iface 70 (.int .i64 6))],.none,true)
theorem Zn7(N:Nat)(a0:Array Value)(a1:Int)(g_et:Addr)(g_tb:Addr)(p0_b:Nat)(z0_b:Array Value)(q1_4:Array Value)(q1_3:Int):(Uad 2 (kSeq (veC PZ Zaj N (cAt cKCfD14 [1,1,1,1,1,1]) (pAt (Uaa cKCfD14 [([],[2000005,23]),([6000000000],[4,3])]).1 [1,1,1,1,1,1]) (SV×Eff×Bool)) (finK PZ [.gl 0 124 g_et 3000055,.gl 1 0 g_tb 1000000000] [.cell 4 23,.cell 5 55]))) .normal (Uas [4,3] (Zc9 a0 a1 g_et g_tb p0_b z0_b) ([.row q1_4 55,.row #[.int .u64 q1_3] 23]:BS))=Zg3 PZ N a0 a1 g_et g_tb p0_b z0_b q1_4 q1_3:=by kernel_rfl
def Zg7(P:Program)(N:Nat)(a0:Array Value)(a1:Int)(g_et:Addr)(g_tb:Addr)(p0_b:Nat)(z0_b:Array Value)(q1_4:Array Value)(q1_3:Int):Option (SV×Eff×Bool):=some (.t [.i .u64 q1_3,.v ((cel q1_4 0))],.none,true)
theorem Zn6(N:Nat)(a0:Array Value)(a1:Int)(g_et:Addr)(g_tb:Addr)(p0_b:Nat)(z0_b:Array Value)(q1_4:Array Value)(q1_3:Int):(Uad 2 (kSeq (veC PZ Zaj N (cAt cKCfD14 [1,1,1,1,1,1]) (pAt (Uaa cKCfD14 [([],[2000005,23]),([6000000000],[4,3])]).1 [1,1,1,1,1,1]) (SV×Eff×Bool)) (finK PZ [.gl 0 124 g_et 3000055,.gl 1 0 g_tb 1000000000] [.cell 4 23,.cell 5 55]))) .ret (Uas [4,3] (Zc9 a0 a1 g_et g_tb p0_b z0_b) ([.row q1_4 55,.row #[.int .u64 q1_3] 23]:BS))=Zg7 PZ N a0 a1 g_et g_tb p0_b z0_b q1_4 q1_3:=by kernel_rfl
theorem Zsp(N:Nat)(a0:Array Value)(a1:Int)(g_et:Addr)(g_tb:Addr)(p0_b:Nat)(z0_b:Array Value):Ubv (Uam (λ(x1:Int) (hb:BS)=>Uc7 PZ Zaj N (cAt cKCfD14 [1,1,1,1,1,0,1,0,0]) (pAt (Uaa cKCfD14 [([],[2000005,23]),([6000000000],[4,3])]).1 [1,1,1,1,1,0,1,0]) 23 [4,3] [29] [(9,29)] (Zhv a0 a1 g_et g_tb p0_b z0_b) [.i .u64 x1] hb) (choL ((Zab (a0.extract 2 (2+363)))).toNat) ([.row (#[.nilIface]:Array Value) 55,.row #[.int .u64 0] 23]:BS)) (λhb=>(Uad 2 (kSeq (veC PZ Zaj N (cAt cKCfD14 [1,1,1,1,1,1]) (pAt (Uaa cKCfD14 [([],[2000005,23]),([6000000000],[4,3])]).1 [1,1,1,1,1,1]) (SV×Eff×Bool)) (finK PZ [.gl 0 124 g_et 3000055,.gl 1 0 g_tb 1000000000] [.cell 4 23,.cell 5 55]))) .normal (Uas [4,3] (Zc9 a0 a1 g_et g_tb p0_b z0_b) hb)) (λe hb=>(Uad 2 (kSeq (veC PZ Zaj N (cAt cKCfD14 [1,1,1,1,1,1]) (pAt (Uaa cKCfD14 [([],[2000005,23]),([6000000000],[4,3])]).1 [1,1,1,1,1,1]) (SV×Eff×Bool)) (finK PZ [.gl 0 124 g_et 3000055,.gl 1 0 g_tb 1000000000] [.cell 4 23,.cell 5 55]))) e (Uas [4,3] (Zc9 a0 a1 g_et g_tb p0_b z0_b) hb))=Ucw (Uam (Zba PZ a0 a1 g_et g_tb p0_b z0_b) (choL ((Zab (a0.extract 2 (2+363)))).toNat) ((#[.nilIface]:Array Value),(0:Int))) (λx=>Zg3 PZ N a0 a1 g_et g_tb p0_b z0_b x.1 x.2) (λx=>Zg7 PZ N a0 a1 g_et g_tb p0_b z0_b x.1 x.2):=by
 refine Zpp Zed Zh7 _ _ (λy t=>Zrs N a0 a1 g_et g_tb p0_b z0_b y t) _ ((#[.nilIface]:Array Value),(0:Int)) _ _ _ _ ?_ ?_
 ·intro x;exact Zn7 N a0 a1 g_et g_tb p0_b z0_b x.1 x.2
 ·skip
  intro x;exact Zn6 N a0 a1 g_et g_tb p0_b z0_b x.1 x.2
def Zbl(P:Program)(N:Nat)(a0:Array Value)(a1:Int)(g_et:Addr)(g_tb:Addr)(p0_b:Nat)(z0_b:Array Value):Option (SV×Eff×Bool):=Ucw (Uam (Zba P a0 a1 g_et g_tb p0_b z0_b) (choL ((Zab (a0.extract 2 (2+363)))).toNat) ((#[.nilIface]:Array Value),(0:Int))) (λx=>Zg3 P N a0 a1 g_et g_tb p0_b z0_b x.1 x.2) (λx=>Zg7 P N a0 a1 g_et g_tb p0_b z0_b x.1 x.2)
theorem Zn4(N:Nat)(a0:Array Value)(a1:Int)(g_et:Addr)(g_tb:Addr)(p0_b:Nat)(z0_b:Array Value):(Uad 0 (kSeq (veC PZ Zaj N (cAt cKCfD14 [1,1,1,1,1]) (pAt (Uaa cKCfD14 [([],[2000005,23]),([6000000000],[4,3])]).1 [1,1,1,1,1]) (SV×Eff×Bool)) (finK PZ [.gl 0 124 g_et 3000055,.gl 1 0 g_tb 1000000000] [.cell 4 23,.cell 5 55]))) .normal (Uas [14] (Zbu a0 a1 g_et g_tb) ([.sl .own p0_b z0_b 23]:BS))=Zbl PZ N a0 a1 g_et g_tb p0_b z0_b:=by
 conv=>rhs;simp only[<- Zsp N a0 a1 g_et g_tb p0_b z0_b,Zbl]
 kernel_rfl
theorem Zsv(N:Nat)(a0:Array Value)(a1:Int)(g_et:Addr)(g_tb:Addr):Ubv (Uam (λ(x0:Int) (hb:BS)=>Ud6 PZ Zaj N (cAt cKCfD14 [1,1,1,1,0,1,0,0]) (pAt (Uaa cKCfD14 [([],[2000005,23]),([6000000000],[4,3])]).1 [1,1,1,1,0,1,0]) 14 [] 5 23 [19] [(8,19)] (Zbu a0 a1 g_et g_tb) [.i .i64 x0] hb) (Uba (a1).toNat) ([.sl .own 0 (#[]:Array Value) 23]:BS)) (λhb=>(Uad 0 (kSeq (veC PZ Zaj N (cAt cKCfD14 [1,1,1,1,1]) (pAt (Uaa cKCfD14 [([],[2000005,23]),([6000000000],[4,3])]).1 [1,1,1,1,1]) (SV×Eff×Bool)) (finK PZ [.gl 0 124 g_et 3000055,.gl 1 0 g_tb 1000000000] [.cell 4 23,.cell 5 55]))) .normal (Uas [14] (Zbu a0 a1 g_et g_tb) hb)) (λe hb=>(Uad 0 (kSeq (veC PZ Zaj N (cAt cKCfD14 [1,1,1,1,1]) (pAt (Uaa cKCfD14 [([],[2000005,23]),([6000000000],[4,3])]).1 [1,1,1,1,1]) (SV×Eff×Bool)) (finK PZ [.gl 0 124 g_et 3000055,.gl 1 0 g_tb 1000000000] [.cell 4 23,.cell 5 55]))) e (Uas [14] (Zbu a0 a1 g_et g_tb) hb))=Ucw (Uam (Zbb PZ a0 a1 g_et g_tb) (Uba (a1).toNat) (0,(#[]:Array Value))) (λx=>Zbl PZ N a0 a1 g_et g_tb x.1 x.2) (λx:Empty=>nomatch x):=by
 refine Zpp Zfy Zh9 _ _ (λy t=>Zs4 N a0 a1 g_et g_tb y t) _ (0,(#[]:Array Value)) _ _ _ _ ?_ ?_
 ·intro x;exact Zn4 N a0 a1 g_et g_tb x.1 x.2
 ·intro x;exact nomatch x
theorem Zhw(N:Nat)(a0:Array Value)(a1:Int)(g_et:Addr)(g_tb:Addr):ansV PZ Zaj N f14 [([],[2000005,23]),([6000000000],[4,3])] [.r a0 53 [],.i .u64 a1] [.gl 0 124 g_et 3000055,.gl 1 0 g_tb 1000000000]=(bif (Za5 (a0.extract 2 (2+363))) then (bif decide ((cntQ ((Zab (a0.extract 2 (2+363))).toNat).testBit 64:Int) > (12:Int)) then (some (.t [.i .u64 0,.v (.iface 70 (.int .i64 7))],.none,true)) else (Ucw (Uam (Zbb PZ a0 a1 g_et g_tb) (Uba (a1).toNat) (0,(#[]:Array Value))) (λx=>Zbl PZ N a0 a1 g_et g_tb x.1 x.2) (λx:Empty=>nomatch x))) else (none)):=by
 conv=>rhs;simp only[<- Zsv N a0 a1 g_et g_tb]
 kernel_rfl
def scF(P:Program)(S:Array Value)(b h c:Int):Option Nat:=Ub4 (λk=>(folds (sgF (watA S 36) (reaA P S b h c 36) k) (0,0,0) (nW S)).1==c) (λk=>cntQ k.testBit (nW S)) (2^nW S)
def fwV(P:Program)(S:Array Value)(b h c:Int):Int:=match scF P S b h c with|some k=>setI (cN S) k|none=>0
theorem Zwl{E T X:Type}{g:E->T->Option (Stp T X)}{t:T}(q:E->Bool)(x:E->X)(h0:∀y,q y=false->g y t=some (.more t))(h1:∀y,q y=true->g y t=some (.done (x y))):∀l:List E,Uam g l t=match l.find? q with|some y=>some (.done (x y))|none=>some (.more t)
 |[]=>rfl
 |y::l=>by
  rw[Uam,List.find?_cons];cases hq:q y with|true=>rw[h1 y hq]|false=>rw[h0 y hq];exact Zwl q x h0 h1 l
theorem Yho{V:Array Value}(h:WT PZ 53 V):WT PZ 38 (V.extract 2 (2+363)):=by have h1:=h.sub (T:=38) (o:=2) (Zpn rfl (by kernel_rfl)) (Nat.lt_of_lt_of_eq (by decide:0<363) (by kernel_rfl));rw[show (zc PZ 38).size=363 by kernel_rfl]at h1;exact h1
theorem Zvl{T X:Type}{g:Int->T->Option (Stp T X)}(F:Nat->T){c:Int}(hU:U64 c)(hh:∀j,36<=j->bitI c j=false)(hg:∀k,k<36->bitI c k=true->g (k:Int) (F k)=some (.more (F (k+1))))(hs:∀k,k<36->bitI c k=false->F (k+1)=F k):
  Uam g (Uba c.toNat) (F 0)=some (.more (F 36)):=by
 have key:∀n,n<=36->Uam g (((jA n).filter λk=>c.toNat.testBit k).map λ(k:Nat)=>(k:Int)) (F 0)=some (.more (F n)):=by
  intro n
  induction n with
  |zero=>intro _;rfl
  | succ n ih=>
   intro hn;rw[jC,jB,List.map_append,Zjk,ih (by omega)];dsimp only;cases hb:bitI c n with
   |false=>
    have hb':c.toNat.testBit n=false:=by rw[<- Zd3 hU];exact hb
    rw[show (List.filter (λk=>c.toNat.testBit k) [n])=[] by simp[hb'],hs n (by omega) hb];rfl
   |true=>
    have hb':c.toNat.testBit n=true:=by rw[<- Zd3 hU];exact hb
    rw[show (List.filter (λk=>c.toNat.testBit k) [n])=[n] by simp[hb']];simp only[List.map_cons,List.map_nil,Uam,hg n (by omega) hb]
 have e:Uba c.toNat=((jA 36).filter λk=>c.toNat.testBit k).map λ(k:Nat)=>(k:Int):=by
  unfold Uba;rw[show (64:Nat)=36+28 from rfl,List.range_add,jB];have:List.filter (λk=>c.toNat.testBit k) (List.map (λx=>36+x) (jA 28))=[]:=by rw[List.filter_eq_nil_iff];intro k hk;obtain⟨i,_,rfl⟩:=List.mem_map.1 hk;rw[<- Zd3 hU,hh _ (by omega)];simp
  rw[this,List.append_nil]
 rw[e];exact key 36 (Nat.le_refl _)
theorem Zpw(a0:Array Value)(a1:Int)(g_et:Addr)(g_tb:Addr)(h_a0:WT PZ 53 a0)(h_a1:IntKind.u64.min<=a1/\a1<=IntKind.u64.max)(hc0:(decide ((nW (a0.extract 2 (2+363)):Int) > (12:Int)))=false)(hc1:((scF PZ (a0.extract 2 (2+363)) (num a0 0) (num a0 1) a1).isSome)=false)(hg:((((okS (a0.extract 2 (2+363))&&(decide (0<=(num a0 0))&&decide ((num a0 0)<2)))&&(decide (1<=(num a0 1))&&decide ((num a0 1)<=8)))&&Zac (a0.extract 2 (2+363)) a1))=true):ansV PZ Zaj 1000 f14 [([],[2000005,23]),([6000000000],[4,3])] [.r a0 53 [],.i .u64 a1] [.gl 0 124 g_et 3000055,.gl 1 0 g_tb 1000000000]=some (.t [.i .u64 0,.v (.iface 70 (.int .i64 6))],.none,true):=by
 have hq:=hg;simp only[Q7,decide_eq_true_eq]at hq;obtain⟨⟨⟨hok,hb0,hb1⟩,hh1,hh8⟩,hcs⟩:=hq;have hU:U64 a1:=h_a1;have hlo:=Zw6 hcs;have hw:Za5 (a0.extract 2 (2+363))=true:=by unfold Za5;exact Ztg hok
 have hSW:WT PZ 38 (a0.extract 2 (2+363)):=Yho h_a0;refine(Zhw 1000 a0 a1 g_et g_tb).trans ?_;rw[hw,Q1,show (cntQ ((Zab (a0.extract 2 (2+363))).toNat).testBit 64:Int)=(nW (a0.extract 2 (2+363)):Int) from congrArg Int.ofNat (Yjg hSW),hc0];rw[Q2];have hby:bytesOf PZ 23<=1000:=Nat.le_of_ble_eq_true (by kernel_rfl);have hf0:Uam (Zbb PZ a0 a1 g_et g_tb) (Uba a1.toNat) (0,(#[]:Array Value))=some (.more (((jA 36).filter (bitI a1)).length,(srcA PZ (a0.extract 2 (2+363)) (num a0 0) (num a0 1) a1 36))):=Zvl (X:=Empty) (g:=Zbb PZ a0 a1 g_et g_tb) (λk=>(((jA k).filter (bitI a1)).length,srcA PZ (a0.extract 2 (2+363)) (num a0 0) (num a0 1) a1 k)) hU hlo (λk hk hb=>by
  have h0:decide (0<=(k:Int))=true:=Q3 (by omega);have h1:decide (Za6 (k:Int)<68719476736)=true:=Q3 (by
   rw[Zn0,Yh0 (by omega)];have h3:2^k<=2^35:=Nat.pow_le_pow_right (by omega) (by omega);have h4:(2:Nat)^35=34359738368:=by decide
   generalize (2:Nat)^k=q at h3|-
   omega)
  have h2:Nat.ble ((((jA k).filter (bitI a1)).length+1)*bytesOf PZ 23) 140737488355328=true:=jD (Nat.le_trans (Nat.mul_le_mul (show _<=37 by have:=Zyp (bitI a1) k;rw[Zlf];omega) hby) (by decide));have h5:decide (0<=num a0 0)=true:=Q3 hb0;have h6:decide (num a0 0<2)=true:=Q3 hb1;have h7:decide (0<=num a0 1)=true:=Q3 (by omega);have h8:decide (num a0 1<=14)=true:=Q3 (by omega);simp only[Zbb,h0,h1,h2,h5,h6,h7,h8,hok,Bool.and_self,Q1];rw[Zn0];have e:(jA (k+1)).filter (bitI a1)=(jA k).filter (bitI a1)++[k]:=by rw[jC,jB];simp[hb]
  unfold srcA;rw[e,List.length_append,List.map_append];simp) (λk hk hb=>by
  have e:(jA (k+1)).filter (bitI a1)=(jA k).filter (bitI a1):=by rw[jC,jB];simp[hb]
  unfold srcA;rw[e])
 rw[hf0];have hlt:Nat.ble ((jA 36).filter (bitI a1)).length 2000000=true:=jD (by have:=Zyp (bitI a1) 36;rw[Zlf];omega);have hf1:=Zwl (g:=Zba PZ a0 a1 g_et g_tb ((jA 36).filter (bitI a1)).length (srcA PZ (a0.extract 2 (2+363)) (num a0 0) (num a0 1) a1 36)) (t:=((#[.nilIface]:Array Value),(0:Int))) (λx=>Zbr x none ((jA 36).filter (bitI a1)).length (srcA PZ (a0.extract 2 (2+363)) (num a0 0) (num a0 1) a1 36)) (λx=>((#[.nilIface]:Array Value),x)) (λy hy=>by simp only[Zba,hlt,hy,Q1,Q2]) (λy hy=>by simp only[Zba,hlt,hy,Q1]) (choL (Zab (a0.extract 2 (2+363))).toNat);have hfs:(choL (Zab (a0.extract 2 (2+363))).toNat).find? (λx=>Zbr x none ((jA 36).filter (bitI a1)).length (srcA PZ (a0.extract 2 (2+363)) (num a0 0) (num a0 1) a1 36))=(scF PZ (a0.extract 2 (2+363)) (num a0 0) (num a0 1) a1).map (setI (cN (a0.extract 2 (2+363)))):=by refine(Ym1 (Ugi (a0.extract 2 (2+363))) _).trans ?_;rw[Yjg hSW];congr 1;exact Ztr λk _=>⟨Yi0 hSW hok hU ⟨hb0,by omega⟩ ⟨hh1,hh8⟩ hcs k,rfl⟩
 rw[hfs]at hf1
 show Zbl PZ 1000 a0 a1 g_et g_tb ((jA 36).filter (bitI a1)).length (srcA PZ (a0.extract 2 (2+363)) (num a0 0) (num a0 1) a1 36)=_
 unfold Zbl;rw[hf1];cases hs:(scF PZ (a0.extract 2 (2+363)) (num a0 0) (num a0 1) a1) with|none=>rfl|some k=>rw[hs]at hc1;cases hc1
theorem Zpk(a0:Array Value)(a1:Int)(g_et:Addr)(g_tb:Addr)(h_a0:WT PZ 53 a0)(h_a1:IntKind.u64.min<=a1/\a1<=IntKind.u64.max)(hc0:(decide ((nW (a0.extract 2 (2+363)):Int) > (12:Int)))=false)(hc1:((scF PZ (a0.extract 2 (2+363)) (num a0 0) (num a0 1) a1).isSome)=true)(hg:((((okS (a0.extract 2 (2+363))&&(decide (0<=(num a0 0))&&decide ((num a0 0)<2)))&&(decide (1<=(num a0 1))&&decide ((num a0 1)<=8)))&&Zac (a0.extract 2 (2+363)) a1))=true):ansV PZ Zaj 1000 f14 [([],[2000005,23]),([6000000000],[4,3])] [.r a0 53 [],.i .u64 a1] [.gl 0 124 g_et 3000055,.gl 1 0 g_tb 1000000000]=some (.t [.i .u64 (fwV PZ (a0.extract 2 (2+363)) (num a0 0) (num a0 1) a1),.v .nilIface],.none,true):=by
 have hq:=hg;simp only[Q7,decide_eq_true_eq]at hq;obtain⟨⟨⟨hok,hb0,hb1⟩,hh1,hh8⟩,hcs⟩:=hq;have hU:U64 a1:=h_a1;have hlo:=Zw6 hcs;have hw:Za5 (a0.extract 2 (2+363))=true:=by unfold Za5;exact Ztg hok
 have hSW:WT PZ 38 (a0.extract 2 (2+363)):=Yho h_a0;refine(Zhw 1000 a0 a1 g_et g_tb).trans ?_;rw[hw,Q1,show (cntQ ((Zab (a0.extract 2 (2+363))).toNat).testBit 64:Int)=(nW (a0.extract 2 (2+363)):Int) from congrArg Int.ofNat (Yjg hSW),hc0];rw[Q2];have hby:bytesOf PZ 23<=1000:=Nat.le_of_ble_eq_true (by kernel_rfl);have hf0:Uam (Zbb PZ a0 a1 g_et g_tb) (Uba a1.toNat) (0,(#[]:Array Value))=some (.more (((jA 36).filter (bitI a1)).length,(srcA PZ (a0.extract 2 (2+363)) (num a0 0) (num a0 1) a1 36))):=Zvl (X:=Empty) (g:=Zbb PZ a0 a1 g_et g_tb) (λk=>(((jA k).filter (bitI a1)).length,srcA PZ (a0.extract 2 (2+363)) (num a0 0) (num a0 1) a1 k)) hU hlo (λk hk hb=>by
  have h0:decide (0<=(k:Int))=true:=Q3 (by omega);have h1:decide (Za6 (k:Int)<68719476736)=true:=Q3 (by
   rw[Zn0,Yh0 (by omega)];have h3:2^k<=2^35:=Nat.pow_le_pow_right (by omega) (by omega);have h4:(2:Nat)^35=34359738368:=by decide
   generalize (2:Nat)^k=q at h3|-
   omega)
  have h2:Nat.ble ((((jA k).filter (bitI a1)).length+1)*bytesOf PZ 23) 140737488355328=true:=jD (Nat.le_trans (Nat.mul_le_mul (show _<=37 by have:=Zyp (bitI a1) k;rw[Zlf];omega) hby) (by decide));have h5:decide (0<=num a0 0)=true:=Q3 hb0;have h6:decide (num a0 0<2)=true:=Q3 hb1;have h7:decide (0<=num a0 1)=true:=Q3 (by omega);have h8:decide (num a0 1<=14)=true:=Q3 (by omega);simp only[Zbb,h0,h1,h2,h5,h6,h7,h8,hok,Bool.and_self,Q1];rw[Zn0];have e:(jA (k+1)).filter (bitI a1)=(jA k).filter (bitI a1)++[k]:=by rw[jC,jB];simp[hb]
  unfold srcA;rw[e,List.length_append,List.map_append];simp) (λk hk hb=>by
  have e:(jA (k+1)).filter (bitI a1)=(jA k).filter (bitI a1):=by rw[jC,jB];simp[hb]
  unfold srcA;rw[e])
 rw[hf0];have hlt:Nat.ble ((jA 36).filter (bitI a1)).length 2000000=true:=jD (by have:=Zyp (bitI a1) 36;rw[Zlf];omega);have hf1:=Zwl (g:=Zba PZ a0 a1 g_et g_tb ((jA 36).filter (bitI a1)).length (srcA PZ (a0.extract 2 (2+363)) (num a0 0) (num a0 1) a1 36)) (t:=((#[.nilIface]:Array Value),(0:Int))) (λx=>Zbr x none ((jA 36).filter (bitI a1)).length (srcA PZ (a0.extract 2 (2+363)) (num a0 0) (num a0 1) a1 36)) (λx=>((#[.nilIface]:Array Value),x)) (λy hy=>by simp only[Zba,hlt,hy,Q1,Q2]) (λy hy=>by simp only[Zba,hlt,hy,Q1]) (choL (Zab (a0.extract 2 (2+363))).toNat);have hfs:(choL (Zab (a0.extract 2 (2+363))).toNat).find? (λx=>Zbr x none ((jA 36).filter (bitI a1)).length (srcA PZ (a0.extract 2 (2+363)) (num a0 0) (num a0 1) a1 36))=(scF PZ (a0.extract 2 (2+363)) (num a0 0) (num a0 1) a1).map (setI (cN (a0.extract 2 (2+363)))):=by refine(Ym1 (Ugi (a0.extract 2 (2+363))) _).trans ?_;rw[Yjg hSW];congr 1;exact Ztr λk _=>⟨Yi0 hSW hok hU ⟨hb0,by omega⟩ ⟨hh1,hh8⟩ hcs k,rfl⟩
 rw[hfs]at hf1
 show Zbl PZ 1000 a0 a1 g_et g_tb ((jA 36).filter (bitI a1)).length (srcA PZ (a0.extract 2 (2+363)) (num a0 0) (num a0 1) a1 36)=_
 unfold Zbl;rw[hf1];unfold fwV;cases hs:(scF PZ (a0.extract 2 (2+363)) (num a0 0) (num a0 1) a1) with
 |none=>rw[hs]at hc1;cases hc1
 |some k=>rfl
theorem Zpz(a0:Array Value)(a1:Int)(g_et:Addr)(g_tb:Addr)(h_a0:WT PZ 53 a0)(h_a1:IntKind.u64.min<=a1/\a1<=IntKind.u64.max)(hc0:(decide ((nW (a0.extract 2 (2+363)):Int) > (12:Int)))=true)(hg:((((okS (a0.extract 2 (2+363))&&(decide (0<=(num a0 0))&&decide ((num a0 0)<2)))&&(decide (1<=(num a0 1))&&decide ((num a0 1)<=8)))&&Zac (a0.extract 2 (2+363)) a1))=true):ansV PZ Zaj 1000 f14 [([],[2000005,23]),([6000000000],[4,3])] [.r a0 53 [],.i .u64 a1] [.gl 0 124 g_et 3000055,.gl 1 0 g_tb 1000000000]=some (.t [.i .u64 0,.v (.iface 70 (.int .i64 7))],.none,true):=by
 have hq:=hg;simp only[Q7,decide_eq_true_eq]at hq;obtain⟨⟨⟨hok,hb0,hb1⟩,hh1,hh8⟩,hcs⟩:=hq;have hU:U64 a1:=h_a1;have hlo:=Zw6 hcs;have hw:Za5 (a0.extract 2 (2+363))=true:=by unfold Za5;exact Ztg hok
 have hSW:WT PZ 38 (a0.extract 2 (2+363)):=Yho h_a0;refine(Zhw 1000 a0 a1 g_et g_tb).trans ?_;rw[hw,Q1,show (cntQ ((Zab (a0.extract 2 (2+363))).toNat).testBit 64:Int)=(nW (a0.extract 2 (2+363)):Int) from congrArg Int.ofNat (Yjg hSW),hc0];rfl
def Zg4:SCon:=λargs h=>match args,h with|[.r a0 53 [],.i .u64 a1],[.gl 0 124 g_et 3000055,.gl 1 0 g_tb 1000000000]=>.two (decide ((nW (a0.extract 2 (2+363)):Int) > (12:Int))) (.one (some (.t [.i .u64 0,.v (.iface 70 (.int .i64 7))],.none,(((okS (a0.extract 2 (2+363))&&(decide (0<=(num a0 0))&&decide ((num a0 0)<2)))&&(decide (1<=(num a0 1))&&decide ((num a0 1)<=8)))&&Zac (a0.extract 2 (2+363)) a1)))) (.two ((scF PZ (a0.extract 2 (2+363)) (num a0 0) (num a0 1) a1).isSome) (.one (some (.t [.i .u64 (fwV PZ (a0.extract 2 (2+363)) (num a0 0) (num a0 1) a1),.v .nilIface],.none,(((okS (a0.extract 2 (2+363))&&(decide (0<=(num a0 0))&&decide ((num a0 0)<2)))&&(decide (1<=(num a0 1))&&decide ((num a0 1)<=8)))&&Zac (a0.extract 2 (2+363)) a1)))) (.one (some (.t [.i .u64 0,.v (.iface 70 (.int .i64 6))],.none,(((okS (a0.extract 2 (2+363))&&(decide (0<=(num a0 0))&&decide ((num a0 0)<2)))&&(decide (1<=(num a0 1))&&decide ((num a0 1)<=8)))&&Zac (a0.extract 2 (2+363)) a1)))))|_,_=>.one none
theorem Zkg:EntX PZ 14:=Zak (fn:=f14)
theorem Zlj:Uac mn PZ 14 (λargs h=>Uag (Zg4 args h)):=by
 intro ρ h w args vals r e hn hr hA hH;dsimp only at hr;unfold Zg4 at hr;split at hr
 ·rename_i a0 a1 g_et g_tb;simp only[Uag]at hr;cases hc0:(decide ((nW (a0.extract 2 (2+363)):Int) > (12:Int)))
  ·rw[hc0]at hr;simp only[Uag,Q1,Q2]at hr;cases hc1:((scF PZ (a0.extract 2 (2+363)) (num a0 0) (num a0 1) a1).isSome)
   ·rw[hc1]at hr;simp only[Uag,Q1,Q2]at hr;obtain⟨rfl,rfl,hg2⟩:=BQi hr;exact((ansY (N:=1000) (mKx (Zag Zit) Zge (mKx (Zag Zen) Zdp (mKx (Zmx Zhp) Zgd (mKx (Zag Ziu) Zfr (mKx (Zag Zme) Zj5 (mkΓx_nX Zig Zgn (mkΓx_nX Zkr Zi3 (mkΓx_iX Zgq Zfm (mkΓx_iX Zja Zhz mkΓx_nilX))))))))) f14 [([],[2000005,23]),([6000000000],[4,3])])) ρ _ w _ vals _ _ hn ((Zpw a0 a1 g_et g_tb (hA.wtr 0 rfl) (hA.rng 1 rfl) hc0 hc1 hg2)) hA hH
   ·rw[hc1]at hr;simp only[Uag,Q1,Q2]at hr;obtain⟨rfl,rfl,hg2⟩:=BQi hr;exact((ansY (N:=1000) (mKx (Zag Zit) Zge (mKx (Zag Zen) Zdp (mKx (Zmx Zhp) Zgd (mKx (Zag Ziu) Zfr (mKx (Zag Zme) Zj5 (mkΓx_nX Zig Zgn (mkΓx_nX Zkr Zi3 (mkΓx_iX Zgq Zfm (mkΓx_iX Zja Zhz mkΓx_nilX))))))))) f14 [([],[2000005,23]),([6000000000],[4,3])])) ρ _ w _ vals _ _ hn ((Zpk a0 a1 g_et g_tb (hA.wtr 0 rfl) (hA.rng 1 rfl) hc0 hc1 hg2)) hA hH
  ·rw[hc0]at hr;simp only[Uag,Q1,Q2]at hr;obtain⟨rfl,rfl,hg2⟩:=BQi hr;exact((ansY (N:=1000) (mKx (Zag Zit) Zge (mKx (Zag Zen) Zdp (mKx (Zmx Zhp) Zgd (mKx (Zag Ziu) Zfr (mKx (Zag Zme) Zj5 (mkΓx_nX Zig Zgn (mkΓx_nX Zkr Zi3 (mkΓx_iX Zgq Zfm (mkΓx_iX Zja Zhz mkΓx_nilX))))))))) f14 [([],[2000005,23]),([6000000000],[4,3])])) ρ _ w _ vals _ _ hn ((Zpz a0 a1 g_et g_tb (hA.wtr 0 rfl) (hA.rng 1 rfl) hc0 hg2)) hA hH
 ·simp only[Uag]at hr;cases hr
end
end Go.Proofs.YtgllknjdblkhnaaGreatDoor
