/- The spread of a plan, and what it reaches: both sides. -/
import Derived.Test.YtflnjkpejbohjaaDoorProg
import Derived.Test.YtflnjkpejbohjaaDoorCpC
namespace Go.Proofs.YtflnjkpejbohjaaDoor
open Go.ChangeShapes Go.WideShapes Go.ChangeAt Go.RowKit Ve Vc
open Tryd (prog)
open IntKind (i64)
set_option linter.unusedVariables false
set_option linter.unusedSimpArgs false
set_option maxRecDepth 100000
noncomputable section
variable {F:Vc.Fd}
theorem num_part (X:Array Value) {i:Nat} (hi:i<36):num (X.extract 3 (3+36)) i=num X (3+i):=by
 unfold num
 rw [Array.getElem?_extract]
 by_cases h:i<min (3+36) X.size - 3
 ·rw [if_pos h]
 ·rw [if_neg h,Array.getElem?_eq_none (show X.size≤3+i by omega)]
def askC (S p:Array Value) (n:Nat) (A:Array Value) (c:Int):Int:=bif (okS S&&planB S p n A) then (bif Zab S c then 0 else 2) else 1
theorem Ylv (S p:Array Value) (bb:Option (Option Addr)) (n:Nat) (A:Array Value) (c:Int):Zbn c S p bb n A=askC S p n A c:=by
 unfold Zbn askC Zab
 simp only [bne]
 cases okS S<;>cases planB S p n A<;>cases ((IntKind.u64.wrap (BitVec.ofInt IntKind.u64.bits c &&& ~~~(BitVec.ofInt IntKind.u64.bits (gridI (num S 0) (num S 1) 36))).toNat)==(0:Int))<;>rfl
theorem no_cells (S:Array Value):Zab S 0=true:=by
 unfold Zab
 generalize gridI (num S 0) (num S 1) 36=g
 have e:BitVec.ofInt IntKind.u64.bits 0 &&& ~~~(BitVec.ofInt IntKind.u64.bits g)=0:=by
  exact BitVec.zero_and
 rw [e]
 rfl
theorem voy_num {S p:Array Value} (hS:S.size=363):num ((spl (spl (zc prog 69) 0 (#[.int .i64 (i64.wrap (num p 0)),.int .i64 (i64.wrap (num p 1))]:Array Value).toList) 2 S.toList).setIfInBounds 365 (.slice none 0 0)) 0=i64.wrap (num p 0)∧num ((spl (spl (zc prog 69) 0 (#[.int .i64 (i64.wrap (num p 0)),.int .i64 (i64.wrap (num p 1))]:Array Value).toList) 2 S.toList).setIfInBounds 365 (.slice none 0 0)) 1=i64.wrap (num p 1):=by
 have h:=(Ybo (p:=p) hS).2
 generalize ((spl (spl (zc prog 69) 0 (#[.int .i64 (i64.wrap (num p 0)),.int .i64 (i64.wrap (num p 1))]:Array Value).toList) 2 S.toList).setIfInBounds 365 (.slice none 0 0))=V at h⊢
 have e:∀ i,i<2→num V i=num (V.extract 0 (0+2)) i:=fun i hi=>by
  have hz:(V.extract 0 (0+2)).size=2:=by rw [h];rfl
  rw [Array.size_extract] at hz
  unfold num
  rw [Array.getElem?_extract,if_pos (by omega),Nat.zero_add]
 exact ⟨(e 0 (by omega)).trans (by rw [h];rfl),(e 1 (by omega)).trans (by rw [h];rfl)⟩
def endV (P:Program) (S p:Array Value) (n:Nat) (A:Array Value):Array Value:=spreadV P S (num p 0) n A (num p 1).toNat
theorem Ylc {S p:Array Value} (hS:WT prog 42 S) (h0:IntKind.i8.min≤num p 0∧num p 0≤IntKind.i8.max) (h1:IntKind.i8.min≤num p 1∧num p 1≤IntKind.i8.max) {n:Nat} {A:Array Value} (hp:(okS S&&planB S p n A)=true) :
  (okS (((spl (spl (zc prog 69) 0 (#[.int .i64 (i64.wrap (num p 0)),.int .i64 (i64.wrap (num p 1))]:Array Value).toList) 2 S.toList).setIfInBounds 365 (.slice none 0 0)).extract 2 (2+363))&&spB (((spl (spl (zc prog 69) 0 (#[.int .i64 (i64.wrap (num p 0)),.int .i64 (i64.wrap (num p 1))]:Array Value).toList) 2 S.toList).setIfInBounds 365 (.slice none 0 0)).extract 2 (2+363)) (num ((spl (spl (zc prog 69) 0 (#[.int .i64 (i64.wrap (num p 0)),.int .i64 (i64.wrap (num p 1))]:Array Value).toList) 2 S.toList).setIfInBounds 365 (.slice none 0 0)) 0) (num ((spl (spl (zc prog 69) 0 (#[.int .i64 (i64.wrap (num p 0)),.int .i64 (i64.wrap (num p 1))]:Array Value).toList) 2 S.toList).setIfInBounds 365 (.slice none 0 0)) 1) n A)=true∧spreadV prog (((spl (spl (zc prog 69) 0 (#[.int .i64 (i64.wrap (num p 0)),.int .i64 (i64.wrap (num p 1))]:Array Value).toList) 2 S.toList).setIfInBounds 365 (.slice none 0 0)).extract 2 (2+363)) (IntKind.i8.wrap (num ((spl (spl (zc prog 69) 0 (#[.int .i64 (i64.wrap (num p 0)),.int .i64 (i64.wrap (num p 1))]:Array Value).toList) 2 S.toList).setIfInBounds 365 (.slice none 0 0)) 0)) n A (num ((spl (spl (zc prog 69) 0 (#[.int .i64 (i64.wrap (num p 0)),.int .i64 (i64.wrap (num p 1))]:Array Value).toList) 2 S.toList).setIfInBounds 365 (.slice none 0 0)) 1).toNat=endV prog S p n A:=by
 have hz:S.size=363:=by rw [hS.layLen];kernel_rfl
 have m8:IntKind.i8.min = -128∧IntKind.i8.max=127:=⟨rfl,rfl⟩
 obtain ⟨e0,e1⟩:=voy_num (p:=p) hz
 have e2:=(Ybo (p:=p) hz).1
 rw [e0,e1,e2]
 rw [Bool.and_eq_true] at hp
 obtain ⟨hok,hp⟩:=hp
 unfold planB at hp
 simp only [Bool.and_eq_true] at hp
 obtain ⟨g0,g1,-,g2,-⟩:=hp
 have w0:i64.wrap (num p 0)=num p 0:=IntWalk.i64_in _ (by omega)
 have w1:i64.wrap (num p 1)=num p 1:=IntWalk.i64_in _ (by omega)
 refine ⟨?_, ?_⟩
 ·unfold spB
  rw [hok,g0,g1,g2];rfl
 ·unfold endV
  rw [w0,w1,IntWalk.i8_in (num p 0) (by omega)]
def reaV (P:Program) (S p:Array Value) (n:Nat) (A:Array Value) (c:Int):Int:=IntKind.u64.wrap (BitVec.ofInt IntKind.u64.bits c &&& BitVec.ofInt IntKind.u64.bits (folds (fbF ((endV P S p n A).extract 3 (3+36))) 0 36)).toNat
theorem Yk9 {S p:Array Value} (hS:WT prog 42 S) (h0:IntKind.i8.min≤num p 0∧num p 0≤IntKind.i8.max) (h1:IntKind.i8.min≤num p 1∧num p 1≤IntKind.i8.max) (bb:Option (Option Addr)) {n:Nat} {A:Array Value} (c:Int) (hp:(okS S&&planB S p n A)=true) :
  Zas ((spl (spl (zc prog 69) 0 (#[.int .i64 (i64.wrap (num p 0)),.int .i64 (i64.wrap (num p 1))]:Array Value).toList) 2 S.toList).setIfInBounds 365 (.slice none 0 0)) c bb n A=true∧Zbb prog ((spl (spl (zc prog 69) 0 (#[.int .i64 (i64.wrap (num p 0)),.int .i64 (i64.wrap (num p 1))]:Array Value).toList) 2 S.toList).setIfInBounds 365 (.slice none 0 0)) c bb n A=reaV prog S p n A c:=by
 obtain ⟨q1,q2⟩:=Ylc hS h0 h1 hp
 unfold Zas Zbb reaV
 rw [q2]
 exact ⟨q1,rfl⟩
def Zdw (a2:Int) (a0 a1:Array Value) (b_a1x2:Option (Option Addr)) (n_a1x2:Nat) (a1x2:Array Value):St:=(⟨.a (.w 0) :: .a (.w 1) :: .a (.i .u64 (a2))::us 3 (.a (.i .u64 (0:Int)) :: .a (.w 6) :: .a (.i .u64 (0:Int)) :: .a (.i .i64 (0:Int)) :: .a (.w 0) :: .a (.w 1) :: .a (.g (spreadV prog a0 (num a1 0) n_a1x2 a1x2 (num a1 1).toNat) 35)::us 17 ([])),[.row a0 42,.one (.r a1 46 [(2,2)]) 46,.sl (.came b_a1x2) n_a1x2 a1x2 97,.no,.no,.no,.row (spreadV prog a0 (num a1 0) n_a1x2 a1x2 (num a1 1).toNat) 35,.no],[6]⟩:St)
def Zez:Int×Int→LS
 | (y0_8,y0_9)=>([.a (.i .u64 (y0_8)),.a (.i .i64 (y0_9))],[])
def Zjm:Int×Int→Exit×LS
 | t=>((.exit 0),Zez t)
def Zbj (P : Program) (a2 : Int) (a0 a1 : Array Value) (b_a1x2 : Option (Option Addr)) (n_a1x2 : Nat) (a1x2 : Array Value) : Int × Int → Option (Stp (Int × Int) (Int × Int))
 | (y0_8, y0_9) => bif decide (y0_9 < (36 : Int)) then (bif (decide (0 ≤ y0_9) && decide (y0_9 < 36)) then (bif decide ((num (spreadV prog a0 (num a1 0) n_a1x2 a1x2 (num a1 1).toNat) (3 + ((y0_9).toNat * 1))) > (0 : Int)) then (bif decide (0 ≤ (IntKind.u64.wrap y0_9)) then (some (.more ((IntKind.u64.wrap (BitVec.ofInt IntKind.u64.bits y0_8 ||| BitVec.ofInt IntKind.u64.bits (IntKind.u64.wrap ((1 : Int) * 2 ^ (min ((IntKind.u64.wrap y0_9)).toNat IntKind.u64.bits)))).toNat), (i64.wrap (y0_9 + (1 : Int))))))
     else (none))
    else (some (.more (y0_8, (i64.wrap (y0_9 + (1 : Int)))))))
   else (none))
  else (some (.done (y0_8, y0_9)))
theorem Zus (N:Nat) (a2:Int) (a0 a1:Array Value) (b_a1x2:Option (Option Addr)) (n_a1x2:Nat) (a1x2:Array Value):∀ t:Int×Int,stepV prog (mkΓ [(22,con Za5)]) N (cAt (codeOf Tryd.f30) [1,1,1,0,1,0,0]) (pAt (mkPlan (codeOf Tryd.f30) [([8,9],[])]).1 [1,1,1,0,1,0]) [8,9] [] (Zdw a2 a0 a1 b_a1x2 n_a1x2 a1x2) (Zez t)=mapS Zez Zjm (Zbj prog a2 a0 a1 b_a1x2 n_a1x2 a1x2 t):=by
 rintro ⟨y0_8,y0_9⟩
 refine Eq.trans (b:=(bif decide (y0_9<(36:Int)) then (bif (decide (0≤y0_9)&&decide (y0_9<36)) then (bif decide ((num (spreadV prog a0 (num a1 0) n_a1x2 a1x2 (num a1 1).toNat) (3+((y0_9).toNat*1))) > (0:Int)) then (bif decide (0≤(IntKind.u64.wrap y0_9)) then (some (.more ([.a (.i .u64 (IntKind.u64.wrap (BitVec.ofInt IntKind.u64.bits y0_8 ||| BitVec.ofInt IntKind.u64.bits (IntKind.u64.wrap ((1:Int)*2^(min ((IntKind.u64.wrap y0_9)).toNat IntKind.u64.bits)))).toNat)),.a (.i .i64 (i64.wrap (y0_9+(1:Int))))],[])))
     else (none))
    else (some (.more ([.a (.i .u64 (y0_8)),.a (.i .i64 (i64.wrap (y0_9+(1:Int))))],[]))))
   else (none))
  else (some (.done ((.exit 0),([.a (.i .u64 (y0_8)),.a (.i .i64 (y0_9))],[])))))) (by kernel_rfl) ?_
 simp only [Zbj,Za0,Zay,Za1,Zaz,Zez,Zjm]
def Zfe (P:Program) (N:Nat) (a2:Int) (a0 a1:Array Value) (b_a1x2:Option (Option Addr)) (n_a1x2:Nat) (a1x2:Array Value) (z0_8:Int) (z0_9:Int):Option (SV×Eff×Bool):=some (.a (.i .u64 (IntKind.u64.wrap (BitVec.ofInt IntKind.u64.bits z0_8 &&& BitVec.ofInt IntKind.u64.bits a2).toNat)),.none,true)
theorem Zow (N:Nat) (a2:Int) (a0 a1:Array Value) (b_a1x2:Option (Option Addr)) (n_a1x2:Nat) (a1x2:Array Value) (z0_8:Int) (z0_9:Int):(kBlock 0 (kSeq (veC prog (mkΓ [(22,con Za5)]) N (cAt (codeOf Tryd.f30) [1,1,1,1]) (pAt (mkPlan (codeOf Tryd.f30) [([8,9],[])]).1 [1,1,1,1]) (SV×Eff×Bool)) (finK prog [.row a0 42,.one (.r a1 46 [(2,2)]) 46,.sl (.came b_a1x2) n_a1x2 a1x2 97] [.tmp 6]))) (.exit 0) (left (writes (cAt (codeOf Tryd.f30) [1,1,1,0,1,0,0])) [8,9] [] (Zdw a2 a0 a1 b_a1x2 n_a1x2 a1x2) ([.a (.i .u64 (z0_8)),.a (.i .i64 (z0_9))],[]))=Zfe prog N a2 a0 a1 b_a1x2 n_a1x2 a1x2 z0_8 z0_9:=by
 refine Eq.trans (b:=(some (.a (.i .u64 (IntKind.u64.wrap (BitVec.ofInt IntKind.u64.bits z0_8 &&& BitVec.ofInt IntKind.u64.bits a2).toNat)),.none,true))) (by kernel_rfl) ?_
 rfl
theorem Zuz (N:Nat) (a2:Int) (a0 a1:Array Value) (b_a1x2:Option (Option Addr)) (n_a1x2:Nat) (a1x2:Array Value):bindX (iterO (stepV prog (mkΓ [(22,con Za5)]) N (cAt (codeOf Tryd.f30) [1,1,1,0,1,0,0]) (pAt (mkPlan (codeOf Tryd.f30) [([8,9],[])]).1 [1,1,1,0,1,0]) [8,9] [] (Zdw a2 a0 a1 b_a1x2 n_a1x2 a1x2)) N ([.a (.i .u64 (0:Int)),.a (.i .i64 (0:Int))],[])) (fun e s=>(kBlock 0 (kSeq (veC prog (mkΓ [(22,con Za5)]) N (cAt (codeOf Tryd.f30) [1,1,1,1]) (pAt (mkPlan (codeOf Tryd.f30) [([8,9],[])]).1 [1,1,1,1]) (SV×Eff×Bool)) (finK prog [.row a0 42,.one (.r a1 46 [(2,2)]) 46,.sl (.came b_a1x2) n_a1x2 a1x2 97] [.tmp 6]))) e (left (writes (cAt (codeOf Tryd.f30) [1,1,1,0,1,0,0])) [8,9] [] (Zdw a2 a0 a1 b_a1x2 n_a1x2 a1x2) s))=nodeX (iterO (Zbj prog a2 a0 a1 b_a1x2 n_a1x2 a1x2) N ((0:Int),(0:Int))) (fun x=>Zfe prog N a2 a0 a1 b_a1x2 n_a1x2 a1x2 x.1 x.2):=by
 refine Zbg Zez Zjm _ _ (Zus N a2 a0 a1 b_a1x2 n_a1x2 a1x2) N ((0:Int),(0:Int)) _ _ ?_
 intro x;exact Zow N a2 a0 a1 b_a1x2 n_a1x2 a1x2 x.1 x.2
theorem Ztf (N:Nat) (a2:Int) (a0 a1:Array Value) (b_a1x2:Option (Option Addr)) (n_a1x2:Nat) (a1x2:Array Value):ansV prog (mkΓ [(22,con Za5)]) N Tryd.f30 [([8,9],[])] [.w 0,.w 1,.i .u64 (a2)] [.row a0 42,.one (.r a1 46 [(2,2)]) 46,.sl (.came b_a1x2) n_a1x2 a1x2 97]=(bif (okS a0&&planB a0 a1 n_a1x2 a1x2) then (nodeX (iterO (Zbj prog a2 a0 a1 b_a1x2 n_a1x2 a1x2) N ((0:Int),(0:Int))) (fun x=>Zfe prog N a2 a0 a1 b_a1x2 n_a1x2 a1x2 x.1 x.2))
  else (none)):=by
 refine Eq.trans (b:=(bif (okS a0&&planB a0 a1 n_a1x2 a1x2) then (bindX (iterO (stepV prog (mkΓ [(22,con Za5)]) N (cAt (codeOf Tryd.f30) [1,1,1,0,1,0,0]) (pAt (mkPlan (codeOf Tryd.f30) [([8,9],[])]).1 [1,1,1,0,1,0]) [8,9] [] (Zdw a2 a0 a1 b_a1x2 n_a1x2 a1x2)) N ([.a (.i .u64 (0:Int)),.a (.i .i64 (0:Int))],[])) (fun e s=>(kBlock 0 (kSeq (veC prog (mkΓ [(22,con Za5)]) N (cAt (codeOf Tryd.f30) [1,1,1,1]) (pAt (mkPlan (codeOf Tryd.f30) [([8,9],[])]).1 [1,1,1,1]) (SV×Eff×Bool)) (finK prog [.row a0 42,.one (.r a1 46 [(2,2)]) 46,.sl (.came b_a1x2) n_a1x2 a1x2 97] [.tmp 6]))) e (left (writes (cAt (codeOf Tryd.f30) [1,1,1,0,1,0,0])) [8,9] [] (Zdw a2 a0 a1 b_a1x2 n_a1x2 a1x2) s)))
  else (none))) (by kernel_rfl) ?_
 simp only [Zuz N a2 a0 a1 b_a1x2 n_a1x2 a1x2]
theorem Zsc (a2:Int) (a0 a1:Array Value) (b_a1x2:Option (Option Addr)) (n_a1x2:Nat) (a1x2:Array Value) (h_a2:IntKind.u64.min≤a2∧a2≤IntKind.u64.max) (h_a0:WT prog 42 a0) (h_a1:WT prog 46 a1) (h_a1x2:a1x2.size=n_a1x2*(lay prog 97).length∧(∀ k,k<n_a1x2→WT prog 97 (a1x2.extract (k*(lay prog 97).length) (k*(lay prog 97).length+(lay prog 97).length)))∧n_a1x2≤9223372036854775807) (hg:((okS a0&&planB a0 a1 n_a1x2 a1x2))=true):ansV prog (mkΓ [(22,con Za5)]) 1000 Tryd.f30 [([8,9],[])] [.w 0,.w 1,.i .u64 (a2)] [.row a0 42,.one (.r a1 46 [(2,2)]) 46,.sl (.came b_a1x2) n_a1x2 a1x2 97]=some (.a (.i .u64 (reaV prog a0 a1 n_a1x2 a1x2 a2)),.none,true):=by
 refine (Ztf 1000 a2 a0 a1 b_a1x2 n_a1x2 a1x2).trans ?_
 rw [hg,cond_true]
 have hq:∀ q:Int,iterO (Zbj prog a2 a0 a1 b_a1x2 n_a1x2 a1x2) 1000 ((0:Int),(0:Int))=some (q,(36:Int))→nodeX (iterO (Zbj prog a2 a0 a1 b_a1x2 n_a1x2 a1x2) 1000 ((0:Int),(0:Int))) (fun x=>Zfe prog 1000 a2 a0 a1 b_a1x2 n_a1x2 a1x2 x.1 x.2)=some (.a (.i .u64 (IntKind.u64.wrap (BitVec.ofInt IntKind.u64.bits q &&& BitVec.ofInt IntKind.u64.bits a2).toNat)),.none,true):=fun q e=>by rw [e];rfl
 have e0:reaV prog a0 a1 n_a1x2 a1x2 a2=IntKind.u64.wrap (BitVec.ofInt IntKind.u64.bits (folds (fbF ((endV prog a0 a1 n_a1x2 a1x2).extract 3 (3+36))) 0 36) &&& BitVec.ofInt IntKind.u64.bits a2).toNat:=by unfold reaV;rw [BitVec.and_comm]
 rw [e0]
 refine hq _ ?_
 have hF:∀ (k:Nat) (s:Int),k<36→Zbj prog a2 a0 a1 b_a1x2 n_a1x2 a1x2 (s,(k:Int))=some (.more (fbF ((endV prog a0 a1 n_a1x2 a1x2).extract 3 (3+36)) s k,((k+1:Nat):Int))):=fun k s hk=>by
  have h1:decide ((k:Int)<36)=true:=decide_eq_true (by omega)
  have h0:decide (0≤(k:Int))=true:=decide_eq_true (by omega)
  have h3:i64.wrap ((k:Int)+1)=((k+1:Nat):Int):=by rw [w64 (by omega)];omega
  have h5:=num_part (endV prog a0 a1 n_a1x2 a1x2) (i:=k*1) (by omega)
  have h6:decide (0≤IntKind.u64.wrap (k:Int))=true:=decide_eq_true (Zhw .u64 _).1
  unfold fbF
  rw [bit_of (c:=(k:Int)) (by omega),h5]
  unfold endV
  simp only [Zbj,h1,h0,h3,h6,Int.toNat_natCast,Bool.and_self,cond_true]
  cases decide (num (spreadV prog a0 (num a1 0) n_a1x2 a1x2 (num a1 1).toNat) (3+k*1) > (0:Int))<;>simp only [cond_true,cond_false]
 generalize (endV prog a0 a1 n_a1x2 a1x2).extract 3 (3+36)=C at hF⊢
 exact Zhf (g:=Zbj prog a2 a0 a1 b_a1x2 n_a1x2 a1x2) (fun (acc:Int) k=>(acc,(k:Int))) (fbF C) (m:=36) (t:=(0:Int)) (x:=(folds (fbF C) 0 36,(36:Int))) (N:=1000) (fun k s hk _=>hF k s hk) (by
  have h1:decide (((36:Nat):Int)<36)=false:=by decide
  generalize folds (fbF C) 0 36=q
  simp only [Zbj,h1,cond_false]
  rfl) (by omega)
def Zf3:Con:=fun args h=>match args,h with
 | [.w 0,.w 1,.i .u64 a2],[.row a0 42,.one (.r a1 46 [(2,2)]) 46,.sl (.came b_a1x2) n_a1x2 a1x2 97]=>some (.a (.i .u64 (reaV prog a0 a1 n_a1x2 a1x2 a2)),.none,(okS a0&&planB a0 a1 n_a1x2 a1x2))
 | _,_=>none
theorem Zkf:EntX prog 30:=Zag (fn:=Tryd.f30) (by kernel_rfl) (by kernel_rfl) (by kernel_rfl)
theorem Zmq:ConOkX (md F) prog 30 Zf3:=(Zah (N:=1000) (by kernel_rfl) (mkΓ_consX (Zad Zn0) Zk8 mkΓ_nilX) (fn:=Tryd.f30) (by kernel_rfl) (by kernel_rfl) [([8,9],[])]).of (by
 intro ρ h w args vals r e hA hH hr
 unfold Zf3 at hr
 split at hr
 ·rename_i a2 a0 a1 b_a1x2 n_a1x2 a1x2
  obtain ⟨rfl,hg⟩:=Prod.mk.inj (Option.some.inj hr)
  obtain ⟨rfl,hg2⟩:=Prod.mk.inj hg
  exact Zsc a2 a0 a1 b_a1x2 n_a1x2 a1x2 (hA.rng 2 rfl) (hH.wt 0 rfl) (hH.wtr 1 rfl) (hH.slw 2 rfl) hg2
 ·cases hr)
def spoV (P:Program) (S p:Array Value) (n:Nat) (A:Array Value):Array Value:=bif (okS S&&planB S p n A) then (bif ((n:Int)==(0:Int)) then (zc P 35) else endV P S p n A) else (zc P 35)
def spoC (S p:Array Value) (n:Nat) (A:Array Value):Int:=bif (okS S&&planB S p n A) then (bif ((n:Int)==(0:Int)) then 6 else 0) else 1
def Zl6:Cons:=(mkΓw [(25,conS Zhc)] [(26,conG Zg8),(27,con Zeo)] [] [])
theorem Zq9 (N:Nat) (a0 a1:Array Value) (g_et:Addr) (b_a1x2:Option (Option Addr)) (n_a1x2:Nat) (a1x2:Array Value):ansV prog Zl6 N Tryd.f11 [] [.g a0 42,.r a1 46 [(2,1)]] [.gl 5 166 g_et 7000071,.sl (.came b_a1x2) n_a1x2 a1x2 97]=(bif (okS a0&&planB a0 a1 n_a1x2 a1x2) then (bif ((n_a1x2:Int)==(0:Int)) then (some (.t [.g (zc prog 35) 35,.i .i64 (6:Int)],.none,true))
   else (bif (okS (((spl (spl (zc prog 69) 0 (#[.int .i64 (i64.wrap (num a1 0)),.int .i64 (i64.wrap (num a1 1))]:Array Value).toList) 2 a0.toList).setIfInBounds 365 (.slice none 0 0)).extract 2 (2+363))&&spB (((spl (spl (zc prog 69) 0 (#[.int .i64 (i64.wrap (num a1 0)),.int .i64 (i64.wrap (num a1 1))]:Array Value).toList) 2 a0.toList).setIfInBounds 365 (.slice none 0 0)).extract 2 (2+363)) (num ((spl (spl (zc prog 69) 0 (#[.int .i64 (i64.wrap (num a1 0)),.int .i64 (i64.wrap (num a1 1))]:Array Value).toList) 2 a0.toList).setIfInBounds 365 (.slice none 0 0)) 0) (num ((spl (spl (zc prog 69) 0 (#[.int .i64 (i64.wrap (num a1 0)),.int .i64 (i64.wrap (num a1 1))]:Array Value).toList) 2 a0.toList).setIfInBounds 365 (.slice none 0 0)) 1) n_a1x2 a1x2) then (some (.t [.g (spreadV prog (((spl (spl (zc prog 69) 0 (#[.int .i64 (i64.wrap (num a1 0)),.int .i64 (i64.wrap (num a1 1))]:Array Value).toList) 2 a0.toList).setIfInBounds 365 (.slice none 0 0)).extract 2 (2+363)) (IntKind.i8.wrap (num ((spl (spl (zc prog 69) 0 (#[.int .i64 (i64.wrap (num a1 0)),.int .i64 (i64.wrap (num a1 1))]:Array Value).toList) 2 a0.toList).setIfInBounds 365 (.slice none 0 0)) 0)) n_a1x2 a1x2 (num ((spl (spl (zc prog 69) 0 (#[.int .i64 (i64.wrap (num a1 0)),.int .i64 (i64.wrap (num a1 1))]:Array Value).toList) 2 a0.toList).setIfInBounds 365 (.slice none 0 0)) 1).toNat) 35,.i .i64 (0:Int)],.none,true))
    else (none)))
  else (some (.t [.g (zc prog 35) 35,.i .i64 (1:Int)],.none,true))):=by kernel_rfl
theorem Zph (a0 a1:Array Value) (g_et:Addr) (b_a1x2:Option (Option Addr)) (n_a1x2:Nat) (a1x2:Array Value) (h_a0:WT prog 42 a0) (h_a1:WT prog 46 a1) (h_a1x2:a1x2.size=n_a1x2*(lay prog 97).length∧(∀ k,k<n_a1x2→WT prog 97 (a1x2.extract (k*(lay prog 97).length) (k*(lay prog 97).length+(lay prog 97).length)))∧n_a1x2≤9223372036854775807) (hg:(true)=true):ansV prog Zl6 1000 Tryd.f11 [] [.g a0 42,.r a1 46 [(2,1)]] [.gl 5 166 g_et 7000071,.sl (.came b_a1x2) n_a1x2 a1x2 97]=some (.t [.g (spoV prog a0 a1 n_a1x2 a1x2) 35,.i .i64 (spoC a0 a1 n_a1x2 a1x2)],.none,true):=by
 unfold spoV spoC
 refine (Zq9 1000 a0 a1 g_et b_a1x2 n_a1x2 a1x2).trans ?_
 obtain ⟨-,b0⟩:=h_a1.int (o:=0) (k:=.i8) (by kernel_rfl)
 obtain ⟨-,b1⟩:=h_a1.int (o:=1) (k:=.i8) (by kernel_rfl)
 cases hp:(okS a0&&planB a0 a1 n_a1x2 a1x2) with
 | false=>simp only [cond_true,cond_false]
 | true=>
  obtain ⟨q1,q2⟩:=Ylc h_a0 b0 b1 hp
  rw [q1,q2]
  cases ((n_a1x2:Int)==(0:Int))<;>simp only [cond_true,cond_false]
def Zgu:Con:=fun args h=>match args,h with
 | [.g a0 42,.r a1 46 [(2,1)]],[.gl 5 166 g_et 7000071,.sl (.came b_a1x2) n_a1x2 a1x2 97]=>some (.t [.g (spoV prog a0 a1 n_a1x2 a1x2) 35,.i .i64 (spoC a0 a1 n_a1x2 a1x2)],.none,true)
 | _,_=>none
theorem Zn8:EntX prog 11:=Zag (fn:=Tryd.f11) (by kernel_rfl) (by kernel_rfl) (by kernel_rfl)
theorem Zr5:ConOkX (md F) prog 11 Zgu:=(Zah (N:=1000) (by kernel_rfl) (mkΓw_sX (Zrq Zh4) Zgq (mkΓw_cX (Zrw Zkm) Zig (mkΓw_cX (Zad Zkd) Ziu mkΓx_nilX))) (fn:=Tryd.f11) (by kernel_rfl) (by kernel_rfl) []).of (by
 intro ρ h w args vals r e hA hH hr
 unfold Zgu at hr
 split at hr
 ·rename_i a0 a1 g_et b_a1x2 n_a1x2 a1x2
  obtain ⟨rfl,hg⟩:=Prod.mk.inj (Option.some.inj hr)
  obtain ⟨rfl,hg2⟩:=Prod.mk.inj hg
  exact Zph a0 a1 g_et b_a1x2 n_a1x2 a1x2 (hA.wt 0 rfl) (hA.wtr 1 rfl) (hH.slw 1 rfl) hg2
 ·cases hr)
def Zln:Cons:=(mkΓ [(21,con Zft),(22,con Za5)])
theorem Zqp (N:Nat) (a0 a1:Array Value) (b_a1x2:Option (Option Addr)) (n_a1x2:Nat) (a1x2:Array Value):ansV prog Zln N Tryd.f8 [] [.g a0 42,.r a1 46 [(2,0)]] [.sl (.came b_a1x2) n_a1x2 a1x2 97]=(bif ((Zbn (0:Int) a0 a1 b_a1x2 n_a1x2 a1x2) != (0:Int)) then (some (.t [.g (zc prog 35) 35,.i .i64 (Zbn (0:Int) a0 a1 b_a1x2 n_a1x2 a1x2)],.none,true))
  else (bif ((n_a1x2:Int)==(0:Int)) then (some (.t [.g (zc prog 35) 35,.i .i64 (6:Int)],.none,true))
   else (bif (okS a0&&planB a0 a1 n_a1x2 a1x2) then (some (.t [.g (spreadV prog a0 (num a1 0) n_a1x2 a1x2 (num a1 1).toNat) 35,.i .i64 (0:Int)],.none,true))
    else (none)))):=by kernel_rfl
theorem Zpa (a0 a1:Array Value) (b_a1x2:Option (Option Addr)) (n_a1x2:Nat) (a1x2:Array Value) (h_a0:WT prog 42 a0) (h_a1:WT prog 46 a1) (h_a1x2:a1x2.size=n_a1x2*(lay prog 97).length∧(∀ k,k<n_a1x2→WT prog 97 (a1x2.extract (k*(lay prog 97).length) (k*(lay prog 97).length+(lay prog 97).length)))∧n_a1x2≤9223372036854775807) (hg:(true)=true):ansV prog Zln 1000 Tryd.f8 [] [.g a0 42,.r a1 46 [(2,0)]] [.sl (.came b_a1x2) n_a1x2 a1x2 97]=some (.t [.g (spoV prog a0 a1 n_a1x2 a1x2) 35,.i .i64 (spoC a0 a1 n_a1x2 a1x2)],.none,true):=by
 unfold spoV spoC
 refine (Zqp 1000 a0 a1 b_a1x2 n_a1x2 a1x2).trans ?_
 rw [Ylv]
 unfold askC
 rw [no_cells]
 cases hp:(okS a0&&planB a0 a1 n_a1x2 a1x2) with
 | false=>simp only [cond_true,cond_false,show ((1:Int) != 0)=true from rfl]
 | true=>
  simp only [cond_true,cond_false,show ((0:Int) != 0)=false from rfl]
  unfold endV
  cases ((n_a1x2:Int)==(0:Int))<;>simp only [cond_true,cond_false]
def Zg0:Con:=fun args h=>match args,h with
 | [.g a0 42,.r a1 46 [(2,0)]],[.sl (.came b_a1x2) n_a1x2 a1x2 97]=>some (.t [.g (spoV prog a0 a1 n_a1x2 a1x2) 35,.i .i64 (spoC a0 a1 n_a1x2 a1x2)],.none,true)
 | _,_=>none
theorem Zop:EntX prog 8:=Zag (fn:=Tryd.f8) (by kernel_rfl) (by kernel_rfl) (by kernel_rfl)
theorem Zsu:ConOkX (md F) prog 8 Zg0:=(Zah (N:=1000) (by kernel_rfl) (mkΓ_consX (Zad Zk1) Zia (mkΓ_consX (Zad Zn0) Zk8 mkΓ_nilX)) (fn:=Tryd.f8) (by kernel_rfl) (by kernel_rfl) []).of (by
 intro ρ h w args vals r e hA hH hr
 unfold Zg0 at hr
 split at hr
 ·rename_i a0 a1 b_a1x2 n_a1x2 a1x2
  obtain ⟨rfl,hg⟩:=Prod.mk.inj (Option.some.inj hr)
  obtain ⟨rfl,hg2⟩:=Prod.mk.inj hg
  exact Zpa a0 a1 b_a1x2 n_a1x2 a1x2 (hA.wt 0 rfl) (hA.wtr 1 rfl) (hH.slw 0 rfl) hg2
 ·cases hr)
def Zo9:Cons:=(mkΓw [(31,conS Zfg)] [(26,conG Zg8),(32,con Zd8)] [] [])
theorem Zum (N:Nat) (a0 a1:Array Value) (a2:Int) (g_et:Addr) (b_a1x2:Option (Option Addr)) (n_a1x2:Nat) (a1x2:Array Value):ansV prog Zo9 N Tryd.f15 [] [.g a0 42,.r a1 46 [(2,1)],.i .u64 (a2)] [.gl 5 166 g_et 7000071,.sl (.came b_a1x2) n_a1x2 a1x2 97]=(bif (okS a0&&planB a0 a1 n_a1x2 a1x2) then (bif (Zab a0 a2) then (bif (Zas ((spl (spl (zc prog 69) 0 (#[.int .i64 (i64.wrap (num a1 0)),.int .i64 (i64.wrap (num a1 1))]:Array Value).toList) 2 a0.toList).setIfInBounds 365 (.slice none 0 0)) a2 b_a1x2 n_a1x2 a1x2) then (some (.t [.i .u64 (Zbb prog ((spl (spl (zc prog 69) 0 (#[.int .i64 (i64.wrap (num a1 0)),.int .i64 (i64.wrap (num a1 1))]:Array Value).toList) 2 a0.toList).setIfInBounds 365 (.slice none 0 0)) a2 b_a1x2 n_a1x2 a1x2),.i .i64 (0:Int)],.none,true))
    else (none))
   else (some (.t [.i .u64 (0:Int),.i .i64 (2:Int)],.none,true)))
  else (some (.t [.i .u64 (0:Int),.i .i64 (1:Int)],.none,true))):=by kernel_rfl
theorem Zt1 (a0 a1:Array Value) (a2:Int) (g_et:Addr) (b_a1x2:Option (Option Addr)) (n_a1x2:Nat) (a1x2:Array Value) (h_a0:WT prog 42 a0) (h_a1:WT prog 46 a1) (h_a2:IntKind.u64.min≤a2∧a2≤IntKind.u64.max) (h_a1x2:a1x2.size=n_a1x2*(lay prog 97).length∧(∀ k,k<n_a1x2→WT prog 97 (a1x2.extract (k*(lay prog 97).length) (k*(lay prog 97).length+(lay prog 97).length)))∧n_a1x2≤9223372036854775807) (hg:(true)=true):ansV prog Zo9 1000 Tryd.f15 [] [.g a0 42,.r a1 46 [(2,1)],.i .u64 (a2)] [.gl 5 166 g_et 7000071,.sl (.came b_a1x2) n_a1x2 a1x2 97]=some (.t [.i .u64 (bif (okS a0&&planB a0 a1 n_a1x2 a1x2) then (bif (Zab a0 a2) then reaV prog a0 a1 n_a1x2 a1x2 a2 else 0) else 0),.i .i64 (askC a0 a1 n_a1x2 a1x2 a2)],.none,true):=by
 refine (Zum 1000 a0 a1 a2 g_et b_a1x2 n_a1x2 a1x2).trans ?_
 obtain ⟨-,b0⟩:=h_a1.int (o:=0) (k:=.i8) (by kernel_rfl)
 obtain ⟨-,b1⟩:=h_a1.int (o:=1) (k:=.i8) (by kernel_rfl)
 unfold askC
 cases hp:(okS a0&&planB a0 a1 n_a1x2 a1x2) with
 | false=>simp only [cond_true,cond_false]
 | true=>
  obtain ⟨q1,q2⟩:=Yk9 h_a0 b0 b1 b_a1x2 a2 hp
  skip
  rw [q1,q2]
  cases (Zab a0 a2)<;>simp only [cond_true,cond_false]
def Zjk:Con:=fun args h=>match args,h with
 | [.g a0 42,.r a1 46 [(2,1)],.i .u64 a2],[.gl 5 166 g_et 7000071,.sl (.came b_a1x2) n_a1x2 a1x2 97]=>some (.t [.i .u64 (bif (okS a0&&planB a0 a1 n_a1x2 a1x2) then (bif (Zab a0 a2) then reaV prog a0 a1 n_a1x2 a1x2 a2 else 0) else 0),.i .i64 (askC a0 a1 n_a1x2 a1x2 a2)],.none,true)
 | _,_=>none
theorem Zsk:EntX prog 15:=Zag (fn:=Tryd.f15) (by kernel_rfl) (by kernel_rfl) (by kernel_rfl)
theorem Zw7:ConOkX (md F) prog 15 Zjk:=(Zah (N:=1000) (by kernel_rfl) (mkΓw_sX (Zrq Zlu) Zkb (mkΓw_cX (Zrw Zkm) Zig (mkΓw_cX (Zad Zjp) Zhx mkΓx_nilX))) (fn:=Tryd.f15) (by kernel_rfl) (by kernel_rfl) []).of (by
 intro ρ h w args vals r e hA hH hr
 unfold Zjk at hr
 split at hr
 ·rename_i a0 a1 a2 g_et b_a1x2 n_a1x2 a1x2
  obtain ⟨rfl,hg⟩:=Prod.mk.inj (Option.some.inj hr)
  obtain ⟨rfl,hg2⟩:=Prod.mk.inj hg
  exact Zt1 a0 a1 a2 g_et b_a1x2 n_a1x2 a1x2 (hA.wt 0 rfl) (hA.wtr 1 rfl) (hA.rng 2 rfl) (hH.slw 1 rfl) hg2
 ·cases hr)
def Zo8:Cons:=(mkΓ [(21,con Zft),(30,con Zf3)])
theorem Zwo (N:Nat) (a0 a1:Array Value) (a2:Int) (b_a1x2:Option (Option Addr)) (n_a1x2:Nat) (a1x2:Array Value):ansV prog Zo8 N Tryd.f14 [] [.g a0 42,.r a1 46 [(2,0)],.i .u64 (a2)] [.sl (.came b_a1x2) n_a1x2 a1x2 97]=(bif ((Zbn a2 a0 a1 b_a1x2 n_a1x2 a1x2) != (0:Int)) then (some (.t [.i .u64 (0:Int),.i .i64 (Zbn a2 a0 a1 b_a1x2 n_a1x2 a1x2)],.none,true))
  else (bif (okS a0&&planB a0 a1 n_a1x2 a1x2) then (some (.t [.i .u64 (reaV prog a0 a1 n_a1x2 a1x2 a2),.i .i64 (0:Int)],.none,true))
   else (none))):=by kernel_rfl
theorem Zth (a0 a1:Array Value) (a2:Int) (b_a1x2:Option (Option Addr)) (n_a1x2:Nat) (a1x2:Array Value) (h_a0:WT prog 42 a0) (h_a1:WT prog 46 a1) (h_a2:IntKind.u64.min≤a2∧a2≤IntKind.u64.max) (h_a1x2:a1x2.size=n_a1x2*(lay prog 97).length∧(∀ k,k<n_a1x2→WT prog 97 (a1x2.extract (k*(lay prog 97).length) (k*(lay prog 97).length+(lay prog 97).length)))∧n_a1x2≤9223372036854775807) (hg:(true)=true):ansV prog Zo8 1000 Tryd.f14 [] [.g a0 42,.r a1 46 [(2,0)],.i .u64 (a2)] [.sl (.came b_a1x2) n_a1x2 a1x2 97]=some (.t [.i .u64 (bif (okS a0&&planB a0 a1 n_a1x2 a1x2) then (bif (Zab a0 a2) then reaV prog a0 a1 n_a1x2 a1x2 a2 else 0) else 0),.i .i64 (askC a0 a1 n_a1x2 a1x2 a2)],.none,true):=by
 refine (Zwo 1000 a0 a1 a2 b_a1x2 n_a1x2 a1x2).trans ?_
 rw [Ylv]
 unfold askC
 cases hp:(okS a0&&planB a0 a1 n_a1x2 a1x2) with
 | false=>simp only [cond_true,cond_false,show ((1:Int) != 0)=true from rfl]
 | true=>
  cases (Zab a0 a2)<;>simp only [cond_true,cond_false,show ((0:Int) != 0)=false from rfl,show ((2:Int) != 0)=true from rfl]
def Zi5:Con:=fun args h=>match args,h with
 | [.g a0 42,.r a1 46 [(2,0)],.i .u64 a2],[.sl (.came b_a1x2) n_a1x2 a1x2 97]=>some (.t [.i .u64 (bif (okS a0&&planB a0 a1 n_a1x2 a1x2) then (bif (Zab a0 a2) then reaV prog a0 a1 n_a1x2 a1x2 a2 else 0) else 0),.i .i64 (askC a0 a1 n_a1x2 a1x2 a2)],.none,true)
 | _,_=>none
theorem Zr6:EntX prog 14:=Zag (fn:=Tryd.f14) (by kernel_rfl) (by kernel_rfl) (by kernel_rfl)
theorem Zxc:ConOkX (md F) prog 14 Zi5:=(Zah (N:=1000) (by kernel_rfl) (mkΓ_consX (Zad Zk1) Zia (mkΓ_consX (Zad Zmq) Zkf mkΓ_nilX)) (fn:=Tryd.f14) (by kernel_rfl) (by kernel_rfl) []).of (by
 intro ρ h w args vals r e hA hH hr
 unfold Zi5 at hr
 split at hr
 ·rename_i a0 a1 a2 b_a1x2 n_a1x2 a1x2
  obtain ⟨rfl,hg⟩:=Prod.mk.inj (Option.some.inj hr)
  obtain ⟨rfl,hg2⟩:=Prod.mk.inj hg
  exact Zth a0 a1 a2 b_a1x2 n_a1x2 a1x2 (hA.wt 0 rfl) (hA.wtr 1 rfl) (hA.rng 2 rfl) (hH.slw 0 rfl) hg2
 ·cases hr)
def Zny:Cons:=(mkΓw [(31,conS Zfg)] [(26,conG Zg8),(33,con Zgm)] [] [])
theorem Zto (N:Nat) (a0 a1:Array Value) (a2:Int) (g_et:Addr) (b_a1x2:Option (Option Addr)) (n_a1x2:Nat) (a1x2:Array Value):ansV prog Zny N Tryd.f17 [] [.g a0 42,.r a1 46 [(2,1)],.i .u64 (a2)] [.gl 5 166 g_et 7000071,.sl (.came b_a1x2) n_a1x2 a1x2 97]=(bif (okS a0&&planB a0 a1 n_a1x2 a1x2) then (bif (Zab a0 a2) then (bif (Zas ((spl (spl (zc prog 69) 0 (#[.int .i64 (i64.wrap (num a1 0)),.int .i64 (i64.wrap (num a1 1))]:Array Value).toList) 2 a0.toList).setIfInBounds 365 (.slice none 0 0)) a2 b_a1x2 n_a1x2 a1x2) then (some (.t [.b ((Zdt prog ((spl (spl (zc prog 69) 0 (#[.int .i64 (i64.wrap (num a1 0)),.int .i64 (i64.wrap (num a1 1))]:Array Value).toList) 2 a0.toList).setIfInBounds 365 (.slice none 0 0)) a2 b_a1x2 n_a1x2 a1x2)),.i .i64 (0:Int)],.none,true))
    else (none))
   else (some (.t [.b (false),.i .i64 (2:Int)],.none,true)))
  else (some (.t [.b (false),.i .i64 (1:Int)],.none,true))):=by kernel_rfl
theorem Zsj (a0 a1:Array Value) (a2:Int) (g_et:Addr) (b_a1x2:Option (Option Addr)) (n_a1x2:Nat) (a1x2:Array Value) (h_a0:WT prog 42 a0) (h_a1:WT prog 46 a1) (h_a2:IntKind.u64.min≤a2∧a2≤IntKind.u64.max) (h_a1x2:a1x2.size=n_a1x2*(lay prog 97).length∧(∀ k,k<n_a1x2→WT prog 97 (a1x2.extract (k*(lay prog 97).length) (k*(lay prog 97).length+(lay prog 97).length)))∧n_a1x2≤9223372036854775807) (hg:(true)=true):ansV prog Zny 1000 Tryd.f17 [] [.g a0 42,.r a1 46 [(2,1)],.i .u64 (a2)] [.gl 5 166 g_et 7000071,.sl (.came b_a1x2) n_a1x2 a1x2 97]=some (.t [.b ((bif (okS a0&&planB a0 a1 n_a1x2 a1x2) then (bif (Zab a0 a2) then (reaV prog a0 a1 n_a1x2 a1x2 a2==a2) else false) else false)),.i .i64 (askC a0 a1 n_a1x2 a1x2 a2)],.none,true):=by
 refine (Zto 1000 a0 a1 a2 g_et b_a1x2 n_a1x2 a1x2).trans ?_
 obtain ⟨-,b0⟩:=h_a1.int (o:=0) (k:=.i8) (by kernel_rfl)
 obtain ⟨-,b1⟩:=h_a1.int (o:=1) (k:=.i8) (by kernel_rfl)
 unfold askC
 cases hp:(okS a0&&planB a0 a1 n_a1x2 a1x2) with
 | false=>simp only [cond_true,cond_false]
 | true=>
  obtain ⟨q1,q2⟩:=Yk9 h_a0 b0 b1 b_a1x2 a2 hp
  unfold Zdt
  rw [q1,q2]
  cases (Zab a0 a2)<;>simp only [cond_true,cond_false]
def Zil:Con:=fun args h=>match args,h with
 | [.g a0 42,.r a1 46 [(2,1)],.i .u64 a2],[.gl 5 166 g_et 7000071,.sl (.came b_a1x2) n_a1x2 a1x2 97]=>some (.t [.b ((bif (okS a0&&planB a0 a1 n_a1x2 a1x2) then (bif (Zab a0 a2) then (reaV prog a0 a1 n_a1x2 a1x2 a2==a2) else false) else false)),.i .i64 (askC a0 a1 n_a1x2 a1x2 a2)],.none,true)
 | _,_=>none
theorem Zqi:EntX prog 17:=Zag (fn:=Tryd.f17) (by kernel_rfl) (by kernel_rfl) (by kernel_rfl)
theorem Zv2:ConOkX (md F) prog 17 Zil:=(Zah (N:=1000) (by kernel_rfl) (mkΓw_sX (Zrq Zlu) Zkb (mkΓw_cX (Zrw Zkm) Zig (mkΓw_cX (Zad Zrd) Znr mkΓx_nilX))) (fn:=Tryd.f17) (by kernel_rfl) (by kernel_rfl) []).of (by
 intro ρ h w args vals r e hA hH hr
 unfold Zil at hr
 split at hr
 ·rename_i a0 a1 a2 g_et b_a1x2 n_a1x2 a1x2
  obtain ⟨rfl,hg⟩:=Prod.mk.inj (Option.some.inj hr)
  obtain ⟨rfl,hg2⟩:=Prod.mk.inj hg
  exact Zsj a0 a1 a2 g_et b_a1x2 n_a1x2 a1x2 (hA.wt 0 rfl) (hA.wtr 1 rfl) (hA.rng 2 rfl) (hH.slw 1 rfl) hg2
 ·cases hr)
def Znz:Cons:=(mkΓ [(21,con Zft),(30,con Zf3)])
theorem Ztq (N:Nat) (a0 a1:Array Value) (a2:Int) (b_a1x2:Option (Option Addr)) (n_a1x2:Nat) (a1x2:Array Value):ansV prog Znz N Tryd.f16 [] [.g a0 42,.r a1 46 [(2,0)],.i .u64 (a2)] [.sl (.came b_a1x2) n_a1x2 a1x2 97]=(bif ((Zbn a2 a0 a1 b_a1x2 n_a1x2 a1x2) != (0:Int)) then (some (.t [.b (false),.i .i64 (Zbn a2 a0 a1 b_a1x2 n_a1x2 a1x2)],.none,true))
  else (bif (okS a0&&planB a0 a1 n_a1x2 a1x2) then (some (.t [.b (((reaV prog a0 a1 n_a1x2 a1x2 a2)==a2)),.i .i64 (0:Int)],.none,true))
   else (none))):=by kernel_rfl
theorem Zsg (a0 a1:Array Value) (a2:Int) (b_a1x2:Option (Option Addr)) (n_a1x2:Nat) (a1x2:Array Value) (h_a0:WT prog 42 a0) (h_a1:WT prog 46 a1) (h_a2:IntKind.u64.min≤a2∧a2≤IntKind.u64.max) (h_a1x2:a1x2.size=n_a1x2*(lay prog 97).length∧(∀ k,k<n_a1x2→WT prog 97 (a1x2.extract (k*(lay prog 97).length) (k*(lay prog 97).length+(lay prog 97).length)))∧n_a1x2≤9223372036854775807) (hg:(true)=true):ansV prog Znz 1000 Tryd.f16 [] [.g a0 42,.r a1 46 [(2,0)],.i .u64 (a2)] [.sl (.came b_a1x2) n_a1x2 a1x2 97]=some (.t [.b ((bif (okS a0&&planB a0 a1 n_a1x2 a1x2) then (bif (Zab a0 a2) then (reaV prog a0 a1 n_a1x2 a1x2 a2==a2) else false) else false)),.i .i64 (askC a0 a1 n_a1x2 a1x2 a2)],.none,true):=by
 refine (Ztq 1000 a0 a1 a2 b_a1x2 n_a1x2 a1x2).trans ?_
 rw [Ylv]
 unfold askC
 cases hp:(okS a0&&planB a0 a1 n_a1x2 a1x2) with
 | false=>simp only [cond_true,cond_false,show ((1:Int) != 0)=true from rfl]
 | true=>
  cases (Zab a0 a2)<;>simp only [cond_true,cond_false,show ((0:Int) != 0)=false from rfl,show ((2:Int) != 0)=true from rfl]
def Zio:Con:=fun args h=>match args,h with
 | [.g a0 42,.r a1 46 [(2,0)],.i .u64 a2],[.sl (.came b_a1x2) n_a1x2 a1x2 97]=>some (.t [.b ((bif (okS a0&&planB a0 a1 n_a1x2 a1x2) then (bif (Zab a0 a2) then (reaV prog a0 a1 n_a1x2 a1x2 a2==a2) else false) else false)),.i .i64 (askC a0 a1 n_a1x2 a1x2 a2)],.none,true)
 | _,_=>none
theorem Zpy:EntX prog 16:=Zag (fn:=Tryd.f16) (by kernel_rfl) (by kernel_rfl) (by kernel_rfl)
theorem Zvb:ConOkX (md F) prog 16 Zio:=(Zah (N:=1000) (by kernel_rfl) (mkΓ_consX (Zad Zk1) Zia (mkΓ_consX (Zad Zmq) Zkf mkΓ_nilX)) (fn:=Tryd.f16) (by kernel_rfl) (by kernel_rfl) []).of (by
 intro ρ h w args vals r e hA hH hr
 unfold Zio at hr
 split at hr
 ·rename_i a0 a1 a2 b_a1x2 n_a1x2 a1x2
  obtain ⟨rfl,hg⟩:=Prod.mk.inj (Option.some.inj hr)
  obtain ⟨rfl,hg2⟩:=Prod.mk.inj hg
  exact Zsg a0 a1 a2 b_a1x2 n_a1x2 a1x2 (hA.wt 0 rfl) (hA.wtr 1 rfl) (hA.rng 2 rfl) (hH.slw 0 rfl) hg2
 ·cases hr)
end
end Go.Proofs.YtflnjkpejbohjaaDoor
