/- The first choice of the fewest: the program. -/
import Derived.Test.YtgllknjdblkhnaaDoorProg
import Derived.Test.YtgllknjdblkhnaaDoorCfC
set_option linter.unusedVariables false
set_option linter.unusedSimpArgs false
open _root_.List renaming range->jA,filter_append->jB,range_succ->jC
open _root_.Nat renaming ble_eq_true_of_le->jD
namespace Go.Proofs.YtgllknjdblkhnaaDoor
open Tryd (f20)
open Go.ChangeShapes Go.WideShapes Go.ChangeAt Go.RowKit Ve Vc
open Tryd (prog)
set_option maxRecDepth 100000
noncomputable section
open Pop
variable {mn:Md}
def Zah:Cons:=(mkΓx [(42,con Zg2),(43,con Zdz),(45,conG Zgl),(46,con Zcd),(48,con Zj4)] [(44,Zkm),(47,Zka)] [(67,Zgo),(71,Zgi)])
def Zbq(a0:Array Value)(a1:Int)(g_et:Addr)(g_tb:Addr):St:=(⟨.a (.r a0 58 [])::.a (.i .u64 a1)::.a (.w 2)::.a (.u)::.a (.w 3)::.a (.w 4)::.a (.i .u64 (Zab (a0.extract 2 (2+363))))::.a (.w 5)::.a (.u)::.a (.u)::.a (.p 2 (2) 35)::.a (.g (a0.extract 2 (2+363)) 35)::.a (.i .u64 (Zab (a0.extract 2 (2+363))))::.a (.i .u64 (Zab (a0.extract 2 (2+363))))::.a (.i .i64 (cntQ ((Zab (a0.extract 2 (2+363))).toNat).testBit 64:Int))::.a (.b (decide ((cntQ ((Zab (a0.extract 2 (2+363))).toNat).testBit 64:Int) > (12:Int))))::.a (.u)::.a (.i .u64 a1)::.a (.c 67 [9])::us 16 ([]),[.gl 0 146 g_et 3000060,.gl 1 0 g_tb 1000000000,.one (.r a0 58 []) 58,.row #[.int .u64 0] 23,.row #[.nilIface] 60,.one (.l 14) 85,.no,.no,.no,.row #[.int .u64 a1] 23,.no,.no,.no,.no,.sl .own 0 (#[]:Array Value) 23],[5]⟩:St)
def Zfj:Nat×Array Value->BS
 |(m0_b,y0_b)=>([.sl .own m0_b y0_b 23]:BS)
def Zhl:Empty->Exit×BS:=λx=>nomatch x
def Za4(P:Program)(a0:Array Value)(a1:Int)(g_et:Addr)(g_tb:Addr)(x0:Int):Nat×Array Value->Option (Stp (Nat×Array Value) Empty)
 |(m0_b,y0_b)=>bif decide (0<=x0) then (bif (((okS (a0.extract 2 (2+363))&&(decide (0<=(num a0 0))&&decide ((num a0 0)<2)))&&(decide (0<=(num a0 1))&&decide ((num a0 1)<=14)))&&decide ((Za0 x0)<68719476736)) then (bif (Nat.ble ((m0_b+1)*bytesOf prog 23) 140737488355328) then (some (.more ((m0_b+1),(y0_b++(#[.int .u64 (srcV prog (a0.extract 2 (2+363)) (num a0 0) (num a0 1) (Za0 x0))]:Array Value))))) else (none)) else (none)) else (none)
noncomputable abbrev cKCfD20:=codeOf f20
theorem Zp7(N:Nat)(a0:Array Value)(a1:Int)(g_et:Addr)(g_tb:Addr)(x0:Int):∀t:Nat×Array Value,Uf0 prog Zah N (cAt cKCfD20 [1,1,1,1,0,1,0,0]) (pAt (Uaa cKCfD20 [([],[2000005,23]),([6000000000],[4,3])]).1 [1,1,1,1,0,1,0]) 14 [] 5 23 [19] [(8,19)] (Zbq a0 a1 g_et g_tb) [.i .i64 x0] (Zfj t)=mapS Zfj Zhl (Za4 prog a0 a1 g_et g_tb x0 t):=by
 rintro⟨m0_b,y0_b⟩
 conv=>rhs;simp only[Za4,Za3,Za8,Za6,Za7,Zfj,Zhl]
 kernel_rfl
def Zc1(a0:Array Value)(a1:Int)(g_et:Addr)(g_tb:Addr)(p0_b:Nat)(z0_b:Array Value):St:=(⟨.a (.r a0 58 [])::.a (.i .u64 a1)::.a (.w 2)::.a (.u)::.a (.w 3)::.a (.w 4)::.a (.i .u64 (Zab (a0.extract 2 (2+363))))::.a (.w 5)::.a (.u)::.a (.u)::.a (.p 2 (2) 35)::.a (.g (a0.extract 2 (2+363)) 35)::.a (.i .u64 (Zab (a0.extract 2 (2+363))))::.a (.i .u64 (Zab (a0.extract 2 (2+363))))::.a (.i .i64 (cntQ ((Zab (a0.extract 2 (2+363))).toNat).testBit 64:Int))::.a (.b (decide ((cntQ ((Zab (a0.extract 2 (2+363))).toNat).testBit 64:Int) > (12:Int))))::.a (.u)::.a (.i .u64 a1)::.a (.c 67 [9])::us 8 (.a (.i .u64 (Zab (a0.extract 2 (2+363))))::.a (.c 71 [18])::us 6 ([])),[.gl 0 146 g_et 3000060,.gl 1 0 g_tb 1000000000,.one (.r a0 58 []) 58,.row #[.int .u64 0] 23,.row #[.nilIface] 60,.one (.l 14) 85,.no,.no,.no,.row #[.int .u64 a1] 23,.no,.no,.no,.no,.sl .own p0_b z0_b 23,.no,.no,.no,.row #[.int .u64 (Zab (a0.extract 2 (2+363)))] 23,.no,.no,.no,.no],[14,5]⟩:St)
def Zgw(a0:Array Value)(a1:Int)(g_et:Addr)(g_tb:Addr)(p0_b:Nat)(z0_b:Array Value):St:=(⟨.a (.r a0 58 [])::.a (.i .u64 a1)::.a (.w 2)::.a (.u)::.a (.w 3)::.a (.w 4)::.a (.i .u64 (Zab (a0.extract 2 (2+363))))::.a (.w 5)::.a (.u)::.a (.u)::.a (.p 2 (2) 35)::.a (.g (a0.extract 2 (2+363)) 35)::.a (.i .u64 (Zab (a0.extract 2 (2+363))))::.a (.i .u64 (Zab (a0.extract 2 (2+363))))::.a (.i .i64 (cntQ ((Zab (a0.extract 2 (2+363))).toNat).testBit 64:Int))::.a (.b (decide ((cntQ ((Zab (a0.extract 2 (2+363))).toNat).testBit 64:Int) > (12:Int))))::.a (.u)::.a (.i .u64 a1)::.a (.c 67 [9])::us 8 (.a (.i .u64 (Zab (a0.extract 2 (2+363))))::.a (.c 71 [18])::us 6 ([])),[.gl 0 146 g_et 3000060,.gl 1 0 g_tb 1000000000,.one (.r a0 58 []) 58,.row #[.int .u64 0] 23,.row #[.nilIface] 60,.one (.l 14) 85,.no,.no,.no,.row #[.int .u64 a1] 23,.no,.no,.no,.no,.sl .lent p0_b z0_b 23,.no,.no,.no,.row #[.int .u64 (Zab (a0.extract 2 (2+363)))] 23,.no,.no,.no,.no],[14,5]⟩:St)
def Zd0:Array Value×Int->BS
 |(r1_4,r1_3)=>([.row r1_4 60,.row #[.int .u64 r1_3] 23]:BS)
def Zhb:Array Value×Int->Exit×BS
 |t=>(.ret,Zd0 t)
def Za9(P:Program)(a0:Array Value)(a1:Int)(g_et:Addr)(g_tb:Addr)(p0_b:Nat)(z0_b:Array Value)(x1:Int):Array Value×Int->Option (Stp (Array Value×Int) (Array Value×Int))
 |(r1_4,r1_3)=>bif (Nat.ble p0_b 2000000) then (bif (Zbn x1 none p0_b z0_b) then (some (.done ((#[.nilIface]:Array Value),x1))) else (some (.more (r1_4,r1_3)))) else (none)
theorem Zqr(N:Nat)(a0:Array Value)(a1:Int)(g_et:Addr)(g_tb:Addr)(p0_b:Nat)(z0_b:Array Value)(x1:Int):∀t:Array Value×Int,Uc5 prog Zah N (cAt cKCfD20 [1,1,1,1,1,0,1,0,0]) (pAt (Uaa cKCfD20 [([],[2000005,23]),([6000000000],[4,3])]).1 [1,1,1,1,1,0,1,0]) 23 [4,3] [29] [(9,29)] (Zgw a0 a1 g_et g_tb p0_b z0_b) [.i .u64 x1] (Zd0 t)=mapS Zd0 Zhb (Za9 prog a0 a1 g_et g_tb p0_b z0_b x1 t):=by
 rintro⟨r1_4,r1_3⟩
 conv=>rhs;simp only[Za9,Za3,Za8,Za6,Za7,Zd0,Zhb]
 kernel_rfl
def Zf8(P:Program)(N:Nat)(a0:Array Value)(a1:Int)(g_et:Addr)(g_tb:Addr)(p0_b:Nat)(z0_b:Array Value)(q1_4:Array Value)(q1_3:Int):Option (SV×Eff×Bool):=some (.t [.i .u64 0,.v (.iface 91 (.int .i64 6))],.none,true)
theorem Zmc(N:Nat)(a0:Array Value)(a1:Int)(g_et:Addr)(g_tb:Addr)(p0_b:Nat)(z0_b:Array Value)(q1_4:Array Value)(q1_3:Int):(Uac 2 (kSeq (veC prog Zah N (cAt cKCfD20 [1,1,1,1,1,1]) (pAt (Uaa cKCfD20 [([],[2000005,23]),([6000000000],[4,3])]).1 [1,1,1,1,1,1]) (SV×Eff×Bool)) (finK prog [.gl 0 146 g_et 3000060,.gl 1 0 g_tb 1000000000] [.cell 4 23,.cell 5 60]))) .normal (Uau [4,3] (Zc1 a0 a1 g_et g_tb p0_b z0_b) ([.row q1_4 60,.row #[.int .u64 q1_3] 23]:BS))=Zf8 prog N a0 a1 g_et g_tb p0_b z0_b q1_4 q1_3:=by kernel_rfl
def Zgk(P:Program)(N:Nat)(a0:Array Value)(a1:Int)(g_et:Addr)(g_tb:Addr)(p0_b:Nat)(z0_b:Array Value)(q1_4:Array Value)(q1_3:Int):Option (SV×Eff×Bool):=some (.t [.i .u64 q1_3,.v ((cel q1_4 0))],.none,true)
theorem Zme(N:Nat)(a0:Array Value)(a1:Int)(g_et:Addr)(g_tb:Addr)(p0_b:Nat)(z0_b:Array Value)(q1_4:Array Value)(q1_3:Int):(Uac 2 (kSeq (veC prog Zah N (cAt cKCfD20 [1,1,1,1,1,1]) (pAt (Uaa cKCfD20 [([],[2000005,23]),([6000000000],[4,3])]).1 [1,1,1,1,1,1]) (SV×Eff×Bool)) (finK prog [.gl 0 146 g_et 3000060,.gl 1 0 g_tb 1000000000] [.cell 4 23,.cell 5 60]))) .ret (Uau [4,3] (Zc1 a0 a1 g_et g_tb p0_b z0_b) ([.row q1_4 60,.row #[.int .u64 q1_3] 23]:BS))=Zgk prog N a0 a1 g_et g_tb p0_b z0_b q1_4 q1_3:=by kernel_rfl
theorem Zpz(N:Nat)(a0:Array Value)(a1:Int)(g_et:Addr)(g_tb:Addr)(p0_b:Nat)(z0_b:Array Value):Ubz (Uam (λ(x1:Int) (hb:BS)=>Uc5 prog Zah N (cAt cKCfD20 [1,1,1,1,1,0,1,0,0]) (pAt (Uaa cKCfD20 [([],[2000005,23]),([6000000000],[4,3])]).1 [1,1,1,1,1,0,1,0]) 23 [4,3] [29] [(9,29)] (Zgw a0 a1 g_et g_tb p0_b z0_b) [.i .u64 x1] hb) (choL ((Zab (a0.extract 2 (2+363)))).toNat) ([.row (#[.nilIface]:Array Value) 60,.row #[.int .u64 0] 23]:BS)) (λhb=>(Uac 2 (kSeq (veC prog Zah N (cAt cKCfD20 [1,1,1,1,1,1]) (pAt (Uaa cKCfD20 [([],[2000005,23]),([6000000000],[4,3])]).1 [1,1,1,1,1,1]) (SV×Eff×Bool)) (finK prog [.gl 0 146 g_et 3000060,.gl 1 0 g_tb 1000000000] [.cell 4 23,.cell 5 60]))) .normal (Uau [4,3] (Zc1 a0 a1 g_et g_tb p0_b z0_b) hb)) (λe hb=>(Uac 2 (kSeq (veC prog Zah N (cAt cKCfD20 [1,1,1,1,1,1]) (pAt (Uaa cKCfD20 [([],[2000005,23]),([6000000000],[4,3])]).1 [1,1,1,1,1,1]) (SV×Eff×Bool)) (finK prog [.gl 0 146 g_et 3000060,.gl 1 0 g_tb 1000000000] [.cell 4 23,.cell 5 60]))) e (Uau [4,3] (Zc1 a0 a1 g_et g_tb p0_b z0_b) hb))=Udo (Uam (Za9 prog a0 a1 g_et g_tb p0_b z0_b) (choL ((Zab (a0.extract 2 (2+363)))).toNat) ((#[.nilIface]:Array Value),(0:Int))) (λx=>Zf8 prog N a0 a1 g_et g_tb p0_b z0_b x.1 x.2) (λx=>Zgk prog N a0 a1 g_et g_tb p0_b z0_b x.1 x.2):=by
 refine Zp0 Zd0 Zhb _ _ (λy t=>Zqr N a0 a1 g_et g_tb p0_b z0_b y t) _ ((#[.nilIface]:Array Value),(0:Int)) _ _ _ _ ?_ ?_
 ·intro x;exact Zmc N a0 a1 g_et g_tb p0_b z0_b x.1 x.2
 ·skip
  intro x;exact Zme N a0 a1 g_et g_tb p0_b z0_b x.1 x.2
def Zbj(P:Program)(N:Nat)(a0:Array Value)(a1:Int)(g_et:Addr)(g_tb:Addr)(p0_b:Nat)(z0_b:Array Value):Option (SV×Eff×Bool):=Udo (Uam (Za9 P a0 a1 g_et g_tb p0_b z0_b) (choL ((Zab (a0.extract 2 (2+363)))).toNat) ((#[.nilIface]:Array Value),(0:Int))) (λx=>Zf8 P N a0 a1 g_et g_tb p0_b z0_b x.1 x.2) (λx=>Zgk P N a0 a1 g_et g_tb p0_b z0_b x.1 x.2)
theorem Zmf(N:Nat)(a0:Array Value)(a1:Int)(g_et:Addr)(g_tb:Addr)(p0_b:Nat)(z0_b:Array Value):(Uac 0 (kSeq (veC prog Zah N (cAt cKCfD20 [1,1,1,1,1]) (pAt (Uaa cKCfD20 [([],[2000005,23]),([6000000000],[4,3])]).1 [1,1,1,1,1]) (SV×Eff×Bool)) (finK prog [.gl 0 146 g_et 3000060,.gl 1 0 g_tb 1000000000] [.cell 4 23,.cell 5 60]))) .normal (Uau [14] (Zbq a0 a1 g_et g_tb) ([.sl .own p0_b z0_b 23]:BS))=Zbj prog N a0 a1 g_et g_tb p0_b z0_b:=by
 conv=>rhs;simp only[<- Zpz N a0 a1 g_et g_tb p0_b z0_b,Zbj]
 kernel_rfl
theorem Zqp(N:Nat)(a0:Array Value)(a1:Int)(g_et:Addr)(g_tb:Addr):Ubz (Uam (λ(x0:Int) (hb:BS)=>Uf0 prog Zah N (cAt cKCfD20 [1,1,1,1,0,1,0,0]) (pAt (Uaa cKCfD20 [([],[2000005,23]),([6000000000],[4,3])]).1 [1,1,1,1,0,1,0]) 14 [] 5 23 [19] [(8,19)] (Zbq a0 a1 g_et g_tb) [.i .i64 x0] hb) (Ube (a1).toNat) ([.sl .own 0 (#[]:Array Value) 23]:BS)) (λhb=>(Uac 0 (kSeq (veC prog Zah N (cAt cKCfD20 [1,1,1,1,1]) (pAt (Uaa cKCfD20 [([],[2000005,23]),([6000000000],[4,3])]).1 [1,1,1,1,1]) (SV×Eff×Bool)) (finK prog [.gl 0 146 g_et 3000060,.gl 1 0 g_tb 1000000000] [.cell 4 23,.cell 5 60]))) .normal (Uau [14] (Zbq a0 a1 g_et g_tb) hb)) (λe hb=>(Uac 0 (kSeq (veC prog Zah N (cAt cKCfD20 [1,1,1,1,1]) (pAt (Uaa cKCfD20 [([],[2000005,23]),([6000000000],[4,3])]).1 [1,1,1,1,1]) (SV×Eff×Bool)) (finK prog [.gl 0 146 g_et 3000060,.gl 1 0 g_tb 1000000000] [.cell 4 23,.cell 5 60]))) e (Uau [14] (Zbq a0 a1 g_et g_tb) hb))=Udo (Uam (Za4 prog a0 a1 g_et g_tb) (Ube (a1).toNat) (0,(#[]:Array Value))) (λx=>Zbj prog N a0 a1 g_et g_tb x.1 x.2) (λx:Empty=>nomatch x):=by
 refine Zp0 Zfj Zhl _ _ (λy t=>Zp7 N a0 a1 g_et g_tb y t) _ (0,(#[]:Array Value)) _ _ _ _ ?_ ?_
 ·intro x;exact Zmf N a0 a1 g_et g_tb x.1 x.2
 ·intro x;exact nomatch x
theorem Zgt(N:Nat)(a0:Array Value)(a1:Int)(g_et:Addr)(g_tb:Addr):ansV prog Zah N f20 [([],[2000005,23]),([6000000000],[4,3])] [.r a0 58 [],.i .u64 a1] [.gl 0 146 g_et 3000060,.gl 1 0 g_tb 1000000000]=(bif (Zaz (a0.extract 2 (2+363))) then (bif decide ((cntQ ((Zab (a0.extract 2 (2+363))).toNat).testBit 64:Int) > (12:Int)) then (some (.t [.i .u64 0,.v (.iface 91 (.int .i64 7))],.none,true)) else (Udo (Uam (Za4 prog a0 a1 g_et g_tb) (Ube (a1).toNat) (0,(#[]:Array Value))) (λx=>Zbj prog N a0 a1 g_et g_tb x.1 x.2) (λx:Empty=>nomatch x))) else (none)):=by
 conv=>rhs;simp only[<- Zqp N a0 a1 g_et g_tb]
 kernel_rfl
def scF(P:Program)(S:Array Value)(b h c:Int):Option Nat:=Ub2 (λk=>(folds (sgF (watA S 36) (reaA P S b h c 36) k) (0,0,0) (nW S)).1==c) (λk=>cntQ k.testBit (nW S)) (2^nW S)
def fwV(P:Program)(S:Array Value)(b h c:Int):Int:=match scF P S b h c with|some k=>setI (cN S) k|none=>0
theorem Zs0{E T X:Type}{g:E->T->Option (Stp T X)}{t:T}(q:E->Bool)(x:E->X)(h0:∀y,q y=false->g y t=some (.more t))(h1:∀y,q y=true->g y t=some (.done (x y))):∀l:List E,Uam g l t=match l.find? q with|some y=>some (.done (x y))|none=>some (.more t)
 |[]=>rfl
 |y::l=>by
  rw[Uam,List.find?_cons];cases hq:q y with|true=>rw[h1 y hq]|false=>rw[h0 y hq];exact Zs0 q x h0 h1 l
theorem Ydg{V:Array Value}(h:WT prog 58 V):WT prog 35 (V.extract 2 (2+363)):=by have h1:=h.sub (T:=35) (o:=2) (Zny rfl (by kernel_rfl)) (Nat.lt_of_lt_of_eq (by decide:0<363) (by kernel_rfl));rw[show (zc prog 35).size=363 by kernel_rfl]at h1;exact h1
theorem Ybi{T X:Type}{g:Int->T->Option (Stp T X)}(F:Nat->T){c:Int}(hU:U64 c)(hh:∀j,36<=j->bitI c j=false)(hg:∀k,k<36->bitI c k=true->g (k:Int) (F k)=some (.more (F (k+1))))(hs:∀k,k<36->bitI c k=false->F (k+1)=F k):
  Uam g (Ube c.toNat) (F 0)=some (.more (F 36)):=by
 have key:∀n,n<=36->Uam g (((jA n).filter λk=>c.toNat.testBit k).map λ(k:Nat)=>(k:Int)) (F 0)=some (.more (F n)):=by
  intro n
  induction n with
  |zero=>intro _;rfl
  | succ n ih=>
   intro hn;rw[jC,jB,List.map_append,Zii,ih (by omega)];dsimp only;cases hb:bitI c n with
   |false=>
    have hb':c.toNat.testBit n=false:=by rw[<- Zef hU];exact hb
    rw[show (List.filter (λk=>c.toNat.testBit k) [n])=[] by simp[hb'],hs n (by omega) hb];rfl
   |true=>
    have hb':c.toNat.testBit n=true:=by rw[<- Zef hU];exact hb
    rw[show (List.filter (λk=>c.toNat.testBit k) [n])=[n] by simp[hb']];simp only[List.map_cons,List.map_nil,Uam,hg n (by omega) hb]
 have e:Ube c.toNat=((jA 36).filter λk=>c.toNat.testBit k).map λ(k:Nat)=>(k:Int):=by
  unfold Ube;rw[show (64:Nat)=36+28 from rfl,List.range_add,jB];have:List.filter (λk=>c.toNat.testBit k) (List.map (λx=>36+x) (jA 28))=[]:=by rw[List.filter_eq_nil_iff];intro k hk;obtain⟨i,_,rfl⟩:=List.mem_map.1 hk;rw[<- Zef hU,hh _ (by omega)];simp
  rw[this,List.append_nil]
 rw[e];exact key 36 (Nat.le_refl _)
theorem Znt(a0:Array Value)(a1:Int)(g_et:Addr)(g_tb:Addr)(h_a0:WT prog 58 a0)(h_a1:IntKind.u64.min<=a1/\a1<=IntKind.u64.max)(hc0:(decide ((nW (a0.extract 2 (2+363)):Int) > (12:Int)))=false)(hc1:((scF prog (a0.extract 2 (2+363)) (num a0 0) (num a0 1) a1).isSome)=false)(hg:((((okS (a0.extract 2 (2+363))&&(decide (0<=(num a0 0))&&decide ((num a0 0)<2)))&&(decide (1<=(num a0 1))&&decide ((num a0 1)<=8)))&&Zac (a0.extract 2 (2+363)) a1))=true):ansV prog Zah 1000 f20 [([],[2000005,23]),([6000000000],[4,3])] [.r a0 58 [],.i .u64 a1] [.gl 0 146 g_et 3000060,.gl 1 0 g_tb 1000000000]=some (.t [.i .u64 0,.v (.iface 91 (.int .i64 6))],.none,true):=by
 have hq:=hg;simp only[Q7,decide_eq_true_eq]at hq;obtain⟨⟨⟨hok,hb0,hb1⟩,hh1,hh8⟩,hcs⟩:=hq;have hU:U64 a1:=h_a1;have hlo:=Zt6 hcs;have hw:Zaz (a0.extract 2 (2+363))=true:=by unfold Zaz;exact Zrb hok
 have hSW:WT prog 35 (a0.extract 2 (2+363)):=Ydg h_a0;refine(Zgt 1000 a0 a1 g_et g_tb).trans ?_;rw[hw,Q1,show (cntQ ((Zab (a0.extract 2 (2+363))).toNat).testBit 64:Int)=(nW (a0.extract 2 (2+363)):Int) from congrArg Int.ofNat (Ye3 hSW),hc0];rw[Q2];have hby:bytesOf prog 23<=1000:=Nat.le_of_ble_eq_true (by kernel_rfl);have hf0:Uam (Za4 prog a0 a1 g_et g_tb) (Ube a1.toNat) (0,(#[]:Array Value))=some (.more (((jA 36).filter (bitI a1)).length,(srcA prog (a0.extract 2 (2+363)) (num a0 0) (num a0 1) a1 36))):=Ybi (X:=Empty) (g:=Za4 prog a0 a1 g_et g_tb) (λk=>(((jA k).filter (bitI a1)).length,srcA prog (a0.extract 2 (2+363)) (num a0 0) (num a0 1) a1 k)) hU hlo (λk hk hb=>by
  have h0:decide (0<=(k:Int))=true:=Q3 (by omega);have h1:decide (Za0 (k:Int)<68719476736)=true:=Q3 (by
   rw[Zl6,Yd1 (by omega)];have h3:2^k<=2^35:=Nat.pow_le_pow_right (by omega) (by omega);have h4:(2:Nat)^35=34359738368:=by decide
   generalize (2:Nat)^k=q at h3|-
   omega)
  have h2:Nat.ble ((((jA k).filter (bitI a1)).length+1)*bytesOf prog 23) 140737488355328=true:=jD (Nat.le_trans (Nat.mul_le_mul (show _<=37 by have:=Zud (bitI a1) k;rw[Zjv];omega) hby) (by decide));have h5:decide (0<=num a0 0)=true:=Q3 hb0;have h6:decide (num a0 0<2)=true:=Q3 hb1;have h7:decide (0<=num a0 1)=true:=Q3 (by omega);have h8:decide (num a0 1<=14)=true:=Q3 (by omega);simp only[Za4,h0,h1,h2,h5,h6,h7,h8,hok,Bool.and_self,Q1];rw[Zl6];have e:(jA (k+1)).filter (bitI a1)=(jA k).filter (bitI a1)++[k]:=by rw[jC,jB];simp[hb]
  unfold srcA;rw[e,List.length_append,List.map_append];simp) (λk hk hb=>by
  have e:(jA (k+1)).filter (bitI a1)=(jA k).filter (bitI a1):=by rw[jC,jB];simp[hb]
  unfold srcA;rw[e])
 rw[hf0];have hlt:Nat.ble ((jA 36).filter (bitI a1)).length 2000000=true:=jD (by have:=Zud (bitI a1) 36;rw[Zjv];omega);have hf1:=Zs0 (g:=Za9 prog a0 a1 g_et g_tb ((jA 36).filter (bitI a1)).length (srcA prog (a0.extract 2 (2+363)) (num a0 0) (num a0 1) a1 36)) (t:=((#[.nilIface]:Array Value),(0:Int))) (λx=>Zbn x none ((jA 36).filter (bitI a1)).length (srcA prog (a0.extract 2 (2+363)) (num a0 0) (num a0 1) a1 36)) (λx=>((#[.nilIface]:Array Value),x)) (λy hy=>by simp only[Za9,hlt,hy,Q1,Q2]) (λy hy=>by simp only[Za9,hlt,hy,Q1]) (choL (Zab (a0.extract 2 (2+363))).toNat);have hfs:(choL (Zab (a0.extract 2 (2+363))).toNat).find? (λx=>Zbn x none ((jA 36).filter (bitI a1)).length (srcA prog (a0.extract 2 (2+363)) (num a0 0) (num a0 1) a1 36))=(scF prog (a0.extract 2 (2+363)) (num a0 0) (num a0 1) a1).map (setI (cN (a0.extract 2 (2+363)))):=by refine(Yiv (Uf2 (a0.extract 2 (2+363))) _).trans ?_;rw[Ye3 hSW];congr 1;exact Zrc λk _=>⟨Ygi hSW hok hU ⟨hb0,by omega⟩ ⟨hh1,hh8⟩ hcs k,rfl⟩
 rw[hfs]at hf1
 show Zbj prog 1000 a0 a1 g_et g_tb ((jA 36).filter (bitI a1)).length (srcA prog (a0.extract 2 (2+363)) (num a0 0) (num a0 1) a1 36)=_
 unfold Zbj;rw[hf1];cases hs:(scF prog (a0.extract 2 (2+363)) (num a0 0) (num a0 1) a1) with|none=>rfl|some k=>rw[hs]at hc1;cases hc1
theorem Znk(a0:Array Value)(a1:Int)(g_et:Addr)(g_tb:Addr)(h_a0:WT prog 58 a0)(h_a1:IntKind.u64.min<=a1/\a1<=IntKind.u64.max)(hc0:(decide ((nW (a0.extract 2 (2+363)):Int) > (12:Int)))=false)(hc1:((scF prog (a0.extract 2 (2+363)) (num a0 0) (num a0 1) a1).isSome)=true)(hg:((((okS (a0.extract 2 (2+363))&&(decide (0<=(num a0 0))&&decide ((num a0 0)<2)))&&(decide (1<=(num a0 1))&&decide ((num a0 1)<=8)))&&Zac (a0.extract 2 (2+363)) a1))=true):ansV prog Zah 1000 f20 [([],[2000005,23]),([6000000000],[4,3])] [.r a0 58 [],.i .u64 a1] [.gl 0 146 g_et 3000060,.gl 1 0 g_tb 1000000000]=some (.t [.i .u64 (fwV prog (a0.extract 2 (2+363)) (num a0 0) (num a0 1) a1),.v .nilIface],.none,true):=by
 have hq:=hg;simp only[Q7,decide_eq_true_eq]at hq;obtain⟨⟨⟨hok,hb0,hb1⟩,hh1,hh8⟩,hcs⟩:=hq;have hU:U64 a1:=h_a1;have hlo:=Zt6 hcs;have hw:Zaz (a0.extract 2 (2+363))=true:=by unfold Zaz;exact Zrb hok
 have hSW:WT prog 35 (a0.extract 2 (2+363)):=Ydg h_a0;refine(Zgt 1000 a0 a1 g_et g_tb).trans ?_;rw[hw,Q1,show (cntQ ((Zab (a0.extract 2 (2+363))).toNat).testBit 64:Int)=(nW (a0.extract 2 (2+363)):Int) from congrArg Int.ofNat (Ye3 hSW),hc0];rw[Q2];have hby:bytesOf prog 23<=1000:=Nat.le_of_ble_eq_true (by kernel_rfl);have hf0:Uam (Za4 prog a0 a1 g_et g_tb) (Ube a1.toNat) (0,(#[]:Array Value))=some (.more (((jA 36).filter (bitI a1)).length,(srcA prog (a0.extract 2 (2+363)) (num a0 0) (num a0 1) a1 36))):=Ybi (X:=Empty) (g:=Za4 prog a0 a1 g_et g_tb) (λk=>(((jA k).filter (bitI a1)).length,srcA prog (a0.extract 2 (2+363)) (num a0 0) (num a0 1) a1 k)) hU hlo (λk hk hb=>by
  have h0:decide (0<=(k:Int))=true:=Q3 (by omega);have h1:decide (Za0 (k:Int)<68719476736)=true:=Q3 (by
   rw[Zl6,Yd1 (by omega)];have h3:2^k<=2^35:=Nat.pow_le_pow_right (by omega) (by omega);have h4:(2:Nat)^35=34359738368:=by decide
   generalize (2:Nat)^k=q at h3|-
   omega)
  have h2:Nat.ble ((((jA k).filter (bitI a1)).length+1)*bytesOf prog 23) 140737488355328=true:=jD (Nat.le_trans (Nat.mul_le_mul (show _<=37 by have:=Zud (bitI a1) k;rw[Zjv];omega) hby) (by decide));have h5:decide (0<=num a0 0)=true:=Q3 hb0;have h6:decide (num a0 0<2)=true:=Q3 hb1;have h7:decide (0<=num a0 1)=true:=Q3 (by omega);have h8:decide (num a0 1<=14)=true:=Q3 (by omega);simp only[Za4,h0,h1,h2,h5,h6,h7,h8,hok,Bool.and_self,Q1];rw[Zl6];have e:(jA (k+1)).filter (bitI a1)=(jA k).filter (bitI a1)++[k]:=by rw[jC,jB];simp[hb]
  unfold srcA;rw[e,List.length_append,List.map_append];simp) (λk hk hb=>by
  have e:(jA (k+1)).filter (bitI a1)=(jA k).filter (bitI a1):=by rw[jC,jB];simp[hb]
  unfold srcA;rw[e])
 rw[hf0];have hlt:Nat.ble ((jA 36).filter (bitI a1)).length 2000000=true:=jD (by have:=Zud (bitI a1) 36;rw[Zjv];omega);have hf1:=Zs0 (g:=Za9 prog a0 a1 g_et g_tb ((jA 36).filter (bitI a1)).length (srcA prog (a0.extract 2 (2+363)) (num a0 0) (num a0 1) a1 36)) (t:=((#[.nilIface]:Array Value),(0:Int))) (λx=>Zbn x none ((jA 36).filter (bitI a1)).length (srcA prog (a0.extract 2 (2+363)) (num a0 0) (num a0 1) a1 36)) (λx=>((#[.nilIface]:Array Value),x)) (λy hy=>by simp only[Za9,hlt,hy,Q1,Q2]) (λy hy=>by simp only[Za9,hlt,hy,Q1]) (choL (Zab (a0.extract 2 (2+363))).toNat);have hfs:(choL (Zab (a0.extract 2 (2+363))).toNat).find? (λx=>Zbn x none ((jA 36).filter (bitI a1)).length (srcA prog (a0.extract 2 (2+363)) (num a0 0) (num a0 1) a1 36))=(scF prog (a0.extract 2 (2+363)) (num a0 0) (num a0 1) a1).map (setI (cN (a0.extract 2 (2+363)))):=by refine(Yiv (Uf2 (a0.extract 2 (2+363))) _).trans ?_;rw[Ye3 hSW];congr 1;exact Zrc λk _=>⟨Ygi hSW hok hU ⟨hb0,by omega⟩ ⟨hh1,hh8⟩ hcs k,rfl⟩
 rw[hfs]at hf1
 show Zbj prog 1000 a0 a1 g_et g_tb ((jA 36).filter (bitI a1)).length (srcA prog (a0.extract 2 (2+363)) (num a0 0) (num a0 1) a1 36)=_
 unfold Zbj;rw[hf1];unfold fwV;cases hs:(scF prog (a0.extract 2 (2+363)) (num a0 0) (num a0 1) a1) with
 |none=>rw[hs]at hc1;cases hc1
 |some k=>rfl
theorem Zna(a0:Array Value)(a1:Int)(g_et:Addr)(g_tb:Addr)(h_a0:WT prog 58 a0)(h_a1:IntKind.u64.min<=a1/\a1<=IntKind.u64.max)(hc0:(decide ((nW (a0.extract 2 (2+363)):Int) > (12:Int)))=true)(hg:((((okS (a0.extract 2 (2+363))&&(decide (0<=(num a0 0))&&decide ((num a0 0)<2)))&&(decide (1<=(num a0 1))&&decide ((num a0 1)<=8)))&&Zac (a0.extract 2 (2+363)) a1))=true):ansV prog Zah 1000 f20 [([],[2000005,23]),([6000000000],[4,3])] [.r a0 58 [],.i .u64 a1] [.gl 0 146 g_et 3000060,.gl 1 0 g_tb 1000000000]=some (.t [.i .u64 0,.v (.iface 91 (.int .i64 7))],.none,true):=by
 have hq:=hg;simp only[Q7,decide_eq_true_eq]at hq;obtain⟨⟨⟨hok,hb0,hb1⟩,hh1,hh8⟩,hcs⟩:=hq;have hU:U64 a1:=h_a1;have hlo:=Zt6 hcs;have hw:Zaz (a0.extract 2 (2+363))=true:=by unfold Zaz;exact Zrb hok
 have hSW:WT prog 35 (a0.extract 2 (2+363)):=Ydg h_a0;refine(Zgt 1000 a0 a1 g_et g_tb).trans ?_;rw[hw,Q1,show (cntQ ((Zab (a0.extract 2 (2+363))).toNat).testBit 64:Int)=(nW (a0.extract 2 (2+363)):Int) from congrArg Int.ofNat (Ye3 hSW),hc0];rfl
def Zf9:SCon:=λargs h=>match args,h with|[.r a0 58 [],.i .u64 a1],[.gl 0 146 g_et 3000060,.gl 1 0 g_tb 1000000000]=>.two (decide ((nW (a0.extract 2 (2+363)):Int) > (12:Int))) (.one (some (.t [.i .u64 0,.v (.iface 91 (.int .i64 7))],.none,(((okS (a0.extract 2 (2+363))&&(decide (0<=(num a0 0))&&decide ((num a0 0)<2)))&&(decide (1<=(num a0 1))&&decide ((num a0 1)<=8)))&&Zac (a0.extract 2 (2+363)) a1)))) (.two ((scF prog (a0.extract 2 (2+363)) (num a0 0) (num a0 1) a1).isSome) (.one (some (.t [.i .u64 (fwV prog (a0.extract 2 (2+363)) (num a0 0) (num a0 1) a1),.v .nilIface],.none,(((okS (a0.extract 2 (2+363))&&(decide (0<=(num a0 0))&&decide ((num a0 0)<2)))&&(decide (1<=(num a0 1))&&decide ((num a0 1)<=8)))&&Zac (a0.extract 2 (2+363)) a1)))) (.one (some (.t [.i .u64 0,.v (.iface 91 (.int .i64 6))],.none,(((okS (a0.extract 2 (2+363))&&(decide (0<=(num a0 0))&&decide ((num a0 0)<2)))&&(decide (1<=(num a0 1))&&decide ((num a0 1)<=8)))&&Zac (a0.extract 2 (2+363)) a1)))))|_,_=>.one none
theorem Znc:EntX prog 20:=Zao (fn:=f20)
theorem Zo5:Uad mn prog 20 (λargs h=>Uax (Zf9 args h)):=by
 intro ρ h w args vals r e hn hr hA hH;dsimp only at hr;unfold Zf9 at hr;split at hr
 ·rename_i a0 a1 g_et g_tb;simp only[Uax]at hr;cases hc0:(decide ((nW (a0.extract 2 (2+363)):Int) > (12:Int)))
  ·rw[hc0]at hr;simp only[Uax,Q1,Q2]at hr;cases hc1:((scF prog (a0.extract 2 (2+363)) (num a0 0) (num a0 1) a1).isSome)
   ·rw[hc1]at hr;simp only[Uax,Q1,Q2]at hr;obtain⟨rfl,rfl,hg2⟩:=BQi hr;exact((ansY (N:=1000) (mKx (Zai Zhm) Zfr (mKx (Zai Zd5) Zdc (mKx (Zqz Zgz) Zfm (mKx (Zai Zht) Ze9 (mKx (Zai Zk4) Zi0 (mkΓx_nX Zjj Zhw (mkΓx_nX Zjz Zh0 (mkΓx_iX Zhp Zgj (mkΓx_iX Zh5 Zg0 mkΓx_nilX))))))))) f20 [([],[2000005,23]),([6000000000],[4,3])])) ρ _ w _ vals _ _ hn ((Znt a0 a1 g_et g_tb (hA.wtr 0 rfl) (hA.rng 1 rfl) hc0 hc1 hg2)) hA hH
   ·rw[hc1]at hr;simp only[Uax,Q1,Q2]at hr;obtain⟨rfl,rfl,hg2⟩:=BQi hr;exact((ansY (N:=1000) (mKx (Zai Zhm) Zfr (mKx (Zai Zd5) Zdc (mKx (Zqz Zgz) Zfm (mKx (Zai Zht) Ze9 (mKx (Zai Zk4) Zi0 (mkΓx_nX Zjj Zhw (mkΓx_nX Zjz Zh0 (mkΓx_iX Zhp Zgj (mkΓx_iX Zh5 Zg0 mkΓx_nilX))))))))) f20 [([],[2000005,23]),([6000000000],[4,3])])) ρ _ w _ vals _ _ hn ((Znk a0 a1 g_et g_tb (hA.wtr 0 rfl) (hA.rng 1 rfl) hc0 hc1 hg2)) hA hH
  ·rw[hc0]at hr;simp only[Uax,Q1,Q2]at hr;obtain⟨rfl,rfl,hg2⟩:=BQi hr;exact((ansY (N:=1000) (mKx (Zai Zhm) Zfr (mKx (Zai Zd5) Zdc (mKx (Zqz Zgz) Zfm (mKx (Zai Zht) Ze9 (mKx (Zai Zk4) Zi0 (mkΓx_nX Zjj Zhw (mkΓx_nX Zjz Zh0 (mkΓx_iX Zhp Zgj (mkΓx_iX Zh5 Zg0 mkΓx_nilX))))))))) f20 [([],[2000005,23]),([6000000000],[4,3])])) ρ _ w _ vals _ _ hn ((Zna a0 a1 g_et g_tb (hA.wtr 0 rfl) (hA.rng 1 rfl) hc0 hg2)) hA hH
 ·simp only[Uax]at hr;cases hr
end
end Go.Proofs.YtgllknjdblkhnaaDoor
