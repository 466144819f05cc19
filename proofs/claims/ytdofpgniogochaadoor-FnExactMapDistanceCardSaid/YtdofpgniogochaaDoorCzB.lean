import Derived.Test.YtdofpgniogochaaDoorProg
import Derived.Test.YtdofpgniogochaaDoorCzA
namespace Go.Proofs.YtdofpgniogochaaDoor
open Go.ChangeShapes Go.WideShapes Go.ChangeAt Go.RowKit Ve Vc
open Tryd (prog)
open IntKind (i64)
set_option linter.unusedVariables false
set_option linter.unusedSimpArgs false
set_option maxRecDepth 100000
noncomputable section
variable {F:Vc.Fd}
theorem Yej (N:Nat) (a0:Int):ansV prog (mkΓ []) N Tryd.f42 [] [.i .i64 (a0)] []=(some (.a (.i .i64 (bif decide ((i64.wrap (0 - a0)) > a0) then (i64.wrap (0 - a0)) else a0)),.none,true)):=by kernel_rfl
theorem Yav (a0:Int) (h_a0:i64.min≤a0∧a0≤i64.max) (hg:(true)=true):ansV prog (mkΓ []) 1000 Tryd.f42 [] [.i .i64 (a0)] []=some (.a (.i .i64 (bif decide ((i64.wrap (0 - a0)) > a0) then (i64.wrap (0 - a0)) else a0)),.none,true):=by
 refine (Yej 1000 a0).trans ?_
 rfl
def Zns:Con:=fun args h=>match args,h with
 | [.i .i64 a0],[]=>some (.a (.i .i64 (bif decide ((i64.wrap (0 - a0)) > a0) then (i64.wrap (0 - a0)) else a0)),.none,true)
 | _,_=>none
theorem Zzd:EntX prog 42:=Zai (fn:=Tryd.f42) (by kernel_rfl) (by kernel_rfl) (by kernel_rfl)
theorem Ye5:ConOkX (md F) prog 42 Zns:=(Zaj (N:=1000) (by kernel_rfl) mkΓ_nilX (fn:=Tryd.f42) (by kernel_rfl) (by kernel_rfl) []).of (by
 intro ρ h w args vals r e hA hH hr
 unfold Zns at hr
 split at hr
 ·rename_i a0
  obtain ⟨rfl,hg⟩:=Prod.mk.inj (Option.some.inj hr)
  obtain ⟨rfl,hg2⟩:=Prod.mk.inj hg
  exact Yav a0 (hA.rng 0 rfl) hg2
 ·cases hr)
theorem Yam (N:Nat) (a0:Int):ansV prog (mkΓ []) N Tryd.f36 [] [.i .i64 (a0)] []=(bif decide (a0<(0:Int)) then (some (.a (.i .i64 (i64.wrap (0 - a0))),.none,true))
  else (some (.a (.i .i64 (a0)),.none,true))):=by kernel_rfl
def Zax (a0:Int):Int:=(bif decide (a0<(0:Int)) then (i64.wrap (0 - a0)) else a0)
theorem Zy9 (a0:Int) (h_a0:i64.min≤a0∧a0≤i64.max) (hg:(true)=true):ansV prog (mkΓ []) 1000 Tryd.f36 [] [.i .i64 (a0)] []=some (.a (.i .i64 (Zax a0)),.none,true):=by
 refine (Yam 1000 a0).trans ?_
 unfold Zax
 revert hg
 generalize (decide (a0<(0:Int)))=b2
 intro hg
 cases b2
 ·skip
  first | (simp only [cond_true,cond_false,Bool.and_true,Bool.true_and,Bool.and_false,Bool.false_and];done) | rfl | exact (nomatch (hg:false=true))
 ·skip
  first | (simp only [cond_true,cond_false,Bool.and_true,Bool.true_and,Bool.and_false,Bool.false_and];done) | rfl | exact (nomatch (hg:false=true))
def Zly:Con:=fun args h=>match args,h with
 | [.i .i64 a0],[]=>some (.a (.i .i64 (Zax a0)),.none,true)
 | _,_=>none
theorem Zxn:EntX prog 36:=Zai (fn:=Tryd.f36) (by kernel_rfl) (by kernel_rfl) (by kernel_rfl)
theorem Ycv:ConOkX (md F) prog 36 Zly:=(Zaj (N:=1000) (by kernel_rfl) mkΓ_nilX (fn:=Tryd.f36) (by kernel_rfl) (by kernel_rfl) []).of (by
 intro ρ h w args vals r e hA hH hr
 unfold Zly at hr
 split at hr
 ·rename_i a0
  obtain ⟨rfl,hg⟩:=Prod.mk.inj (Option.some.inj hr)
  obtain ⟨rfl,hg2⟩:=Prod.mk.inj hg
  exact Zy9 a0 (hA.rng 0 rfl) hg2
 ·cases hr)
theorem size_eq {n:Int} (h:i64.min≤n∧n≤i64.max):(bif decide (i64.wrap (0 - n) > n) then i64.wrap (0 - n) else n)=Zax n:=by
 unfold Zax
 have e1:i64.min = -9223372036854775808:=rfl
 have e2:i64.max=9223372036854775807:=rfl
 rw [e1,e2] at h
 by_cases h0:n = -9223372036854775808
 ·subst h0;decide
 ·rw [IntWalk.i64_in (0 - n) (by omega)]
  by_cases h1:n<0
  ·rw [decide_eq_true h1,decide_eq_true (show 0 - n > n by omega)]
  ·rw [decide_eq_false h1]
   by_cases h2:0 - n > n
   ·omega
   ·rw [decide_eq_false h2]
theorem Yis (x:Int):(bif decide (i64.wrap (0 - i64.wrap x) > i64.wrap x) then i64.wrap (0 - i64.wrap x) else i64.wrap x)=Zax (i64.wrap x):=size_eq (Zhy .i64 x)
theorem num_part (X:Array Value) {i:Nat} (hi:i<36):num (X.extract 3 (3+36)) i=num X (3+i):=by
 unfold num
 rw [Array.getElem?_extract]
 by_cases h:i<min (3+36) X.size - 3
 ·rw [if_pos h]
 ·rw [if_neg h,Array.getElem?_eq_none (show X.size≤3+i by omega)]
def distN (X Y:Array Value):Nat→Int
 | 0=>Zax (i64.wrap (num X 39 - num Y 39))
 | i+1=>i64.wrap (distN X Y i+Zax (i64.wrap (num X (3+i) - num Y (3+i))))
def distV (P:Program) (A C:Array Value) (c b n:Int):Int:=distN (driftV P A (oneX P c b) n.toNat) (driftV P C (oneX P c b) n.toNat) 36
def Zb7:Cons:=(mkΓ [(33,con Zgo),(34,con Ze7),(35,con Zhj),(36,con Zly)])
def Zda (a0 a1:Array Value) (a2 a3 a4:Int):St:=(⟨.a (.g a0 35) :: .a (.g a1 35) :: .a (.i .i64 (a2)) :: .a (.i .i64 (a3)) :: .a (.i .i64 (a4)) :: .a (.w 0) :: .a (.w 1)::us 3 (.a (.i .i64 (0:Int)) :: .a (.i .i64 (0:Int)) :: .a (.i .i64 (bothC a0 a1 a2 a3 (Zaa a4 (1:Int) (14:Int)))) :: .a (.w 15) :: .a (.w 21) :: .a (.i .i64 (Zax (i64.wrap ((num (driftV prog a0 (oneX prog a2 a3) a4.toNat) 39) - (num (driftV prog a1 (oneX prog a2 a3) a4.toNat) 39))))) :: .a (.i .i64 (0:Int)) :: .a (.i .i64 (a2)) :: .a (.i .i64 (a3)) :: .a (.l 6) :: .a (.i .i64 (a4)) :: .a (.b ((Zaa a4 (1:Int) (14:Int)))) :: .a (.i .i64 (bothC a0 a1 a2 a3 (Zaa a4 (1:Int) (14:Int)))) :: .a (.i .i64 (bothC a0 a1 a2 a3 (Zaa a4 (1:Int) (14:Int)))) :: .a (.b (((bothC a0 a1 a2 a3 (Zaa a4 (1:Int) (14:Int))) != (0:Int)))) :: .a (.u) :: .a (.i .i64 (a2)) :: .a (.i .i64 (a3)) :: .a (.i .i64 (a4)) :: .a (.g (driftV prog a0 (oneX prog a2 a3) a4.toNat) 53) :: .a (.i .i64 (a2)) :: .a (.i .i64 (a3)) :: .a (.i .i64 (a4)) :: .a (.g (driftV prog a1 (oneX prog a2 a3) a4.toNat) 53) :: .a (.p 15 (39) 2) :: .a (.i .i64 (num (driftV prog a0 (oneX prog a2 a3) a4.toNat) 39)) :: .a (.p 21 (39) 2) :: .a (.i .i64 (num (driftV prog a1 (oneX prog a2 a3) a4.toNat) 39)) :: .a (.i .i64 (i64.wrap ((num (driftV prog a0 (oneX prog a2 a3) a4.toNat) 39) - (num (driftV prog a1 (oneX prog a2 a3) a4.toNat) 39)))) :: .a (.i .i64 (Zax (i64.wrap ((num (driftV prog a0 (oneX prog a2 a3) a4.toNat) 39) - (num (driftV prog a1 (oneX prog a2 a3) a4.toNat) 39)))))::us 17 ([])),[.row a0 35,.row a1 35,.no,.no,.no,.no,.sl .own 0 (#[]:Array Value) 39,.no,.no,.no,.no,.no,.no,.no,.no,.row (driftV prog a0 (oneX prog a2 a3) a4.toNat) 53,.no,.no,.no,.no,.no,.row (driftV prog a1 (oneX prog a2 a3) a4.toNat) 53,.no],[21,15]⟩:St)
def Zej:Int×Int→LS
 | (y0_15,y0_16)=>([.a (.i .i64 (y0_15)),.a (.i .i64 (y0_16))],[])
def Zjn:Int×Int→Exit×LS
 | t=>((.exit 0),Zej t)
def Zb0 (P : Program) (a0 a1 : Array Value) (a2 a3 a4 : Int) : Int × Int → Option (Stp (Int × Int) (Int × Int))
 | (y0_15, y0_16) => bif decide (y0_16 < (36 : Int)) then (bif (decide (0 ≤ y0_16) && decide (y0_16 < 36)) then (bif (decide (0 ≤ y0_16) && decide (y0_16 < 36)) then (some (.more ((i64.wrap (y0_15 + (Zax (i64.wrap ((num (driftV prog a0 (oneX prog a2 a3) a4.toNat) (3 + ((y0_16).toNat * 1))) - (num (driftV prog a1 (oneX prog a2 a3) a4.toNat) (3 + ((y0_16).toNat * 1)))))))), (i64.wrap (y0_16 + (1 : Int))))))
    else (none))
   else (none))
  else (some (.done (y0_15, y0_16)))
theorem Zvi (N:Nat) (a0 a1:Array Value) (a2 a3 a4:Int):∀ t:Int×Int,stepV prog Zb7 N (cAt (codeOf Tryd.f11) [1,1,1,1,1,0,1,0,0]) (pAt (mkPlan (codeOf Tryd.f11) [([15,16],[])]).1 [1,1,1,1,1,0,1,0]) [15,16] [] (Zda a0 a1 a2 a3 a4) (Zej t)=mapS Zej Zjn (Zb0 prog a0 a1 a2 a3 a4 t):=by
 rintro ⟨y0_15,y0_16⟩
 refine Eq.trans (b:=(bif decide (y0_16<(36:Int)) then (bif (decide (0≤y0_16)&&decide (y0_16<36)) then (bif (decide (0≤y0_16)&&decide (y0_16<36)) then (some (.more ([.a (.i .i64 (i64.wrap (y0_15+(Zax (i64.wrap ((num (driftV prog a0 (oneX prog a2 a3) a4.toNat) (3+((y0_16).toNat*1))) - (num (driftV prog a1 (oneX prog a2 a3) a4.toNat) (3+((y0_16).toNat*1))))))))),.a (.i .i64 (i64.wrap (y0_16+(1:Int))))],[])))
    else (none))
   else (none))
  else (some (.done ((.exit 0),([.a (.i .i64 (y0_15)),.a (.i .i64 (y0_16))],[])))))) (by kernel_rfl) ?_
 simp only [Zb0,Zav,Zat,Zau,Zas,Zej,Zjn]
def Zhs (P:Program) (N:Nat) (a0 a1:Array Value) (a2 a3 a4:Int) (z0_15:Int) (z0_16:Int):Option (SV×Eff×Bool):=some (.t [.i .i64 (z0_15),.i .i64 (0:Int)],.none,true)
theorem Zo0 (N:Nat) (a0 a1:Array Value) (a2 a3 a4:Int) (z0_15:Int) (z0_16:Int):(kBlock 0 (kSeq (veC prog Zb7 N (cAt (codeOf Tryd.f11) [1,1,1,1,1,1]) (pAt (mkPlan (codeOf Tryd.f11) [([15,16],[])]).1 [1,1,1,1,1,1]) (SV×Eff×Bool)) (finK prog [] [.tmp 10,.tmp 11]))) (.exit 0) (left (writes (cAt (codeOf Tryd.f11) [1,1,1,1,1,0,1,0,0])) [15,16] [] (Zda a0 a1 a2 a3 a4) ([.a (.i .i64 (z0_15)),.a (.i .i64 (z0_16))],[]))=Zhs prog N a0 a1 a2 a3 a4 z0_15 z0_16:=by
 refine Eq.trans (b:=(some (.t [.i .i64 (z0_15),.i .i64 (0:Int)],.none,true))) (by kernel_rfl) ?_
 rfl
theorem Zul (N:Nat) (a0 a1:Array Value) (a2 a3 a4:Int):bindX (iterO (stepV prog Zb7 N (cAt (codeOf Tryd.f11) [1,1,1,1,1,0,1,0,0]) (pAt (mkPlan (codeOf Tryd.f11) [([15,16],[])]).1 [1,1,1,1,1,0,1,0]) [15,16] [] (Zda a0 a1 a2 a3 a4)) N ([.a (.i .i64 (Zax (i64.wrap ((num (driftV prog a0 (oneX prog a2 a3) a4.toNat) 39) - (num (driftV prog a1 (oneX prog a2 a3) a4.toNat) 39))))),.a (.i .i64 (0:Int))],[])) (fun e s=>(kBlock 0 (kSeq (veC prog Zb7 N (cAt (codeOf Tryd.f11) [1,1,1,1,1,1]) (pAt (mkPlan (codeOf Tryd.f11) [([15,16],[])]).1 [1,1,1,1,1,1]) (SV×Eff×Bool)) (finK prog [] [.tmp 10,.tmp 11]))) e (left (writes (cAt (codeOf Tryd.f11) [1,1,1,1,1,0,1,0,0])) [15,16] [] (Zda a0 a1 a2 a3 a4) s))=nodeX (iterO (Zb0 prog a0 a1 a2 a3 a4) N ((Zax (i64.wrap ((num (driftV prog a0 (oneX prog a2 a3) a4.toNat) 39) - (num (driftV prog a1 (oneX prog a2 a3) a4.toNat) 39)))),(0:Int))) (fun x=>Zhs prog N a0 a1 a2 a3 a4 x.1 x.2):=by
 refine Za4 Zej Zjn _ _ (Zvi N a0 a1 a2 a3 a4) N ((Zax (i64.wrap ((num (driftV prog a0 (oneX prog a2 a3) a4.toNat) 39) - (num (driftV prog a1 (oneX prog a2 a3) a4.toNat) 39)))),(0:Int)) _ _ ?_
 intro x;exact Zo0 N a0 a1 a2 a3 a4 x.1 x.2
theorem Zt1 (N:Nat) (a0 a1:Array Value) (a2 a3 a4:Int):ansV prog Zb7 N Tryd.f11 [([15,16],[])] [.g a0 35,.g a1 35,.i .i64 (a2),.i .i64 (a3),.i .i64 (a4)] []=(bif Nat.beq 0 0 then (bif ((bothC a0 a1 a2 a3 (Zaa a4 (1:Int) (14:Int))) != (0:Int)) then (some (.t [.i .i64 (0:Int),.i .i64 (bothC a0 a1 a2 a3 (Zaa a4 (1:Int) (14:Int)))],.none,true))
   else (bif (okS a0&&((Zab a2 a0&&Zaa a3 0 1)&&Zaa a4 0 14)) then (bif (okS a1&&((Zab a2 a1&&Zaa a3 0 1)&&Zaa a4 0 14)) then (nodeX (iterO (Zb0 prog a0 a1 a2 a3 a4) N ((Zax (i64.wrap ((num (driftV prog a0 (oneX prog a2 a3) a4.toNat) 39) - (num (driftV prog a1 (oneX prog a2 a3) a4.toNat) 39)))),(0:Int))) (fun x=>Zhs prog N a0 a1 a2 a3 a4 x.1 x.2))
     else (none))
    else (none)))
  else (none)):=by
 refine Eq.trans (b:=(bif Nat.beq 0 0 then (bif ((bothC a0 a1 a2 a3 (Zaa a4 (1:Int) (14:Int))) != (0:Int)) then (some (.t [.i .i64 (0:Int),.i .i64 (bothC a0 a1 a2 a3 (Zaa a4 (1:Int) (14:Int)))],.none,true))
   else (bif (okS a0&&((Zab a2 a0&&Zaa a3 0 1)&&Zaa a4 0 14)) then (bif (okS a1&&((Zab a2 a1&&Zaa a3 0 1)&&Zaa a4 0 14)) then (bindX (iterO (stepV prog Zb7 N (cAt (codeOf Tryd.f11) [1,1,1,1,1,0,1,0,0]) (pAt (mkPlan (codeOf Tryd.f11) [([15,16],[])]).1 [1,1,1,1,1,0,1,0]) [15,16] [] (Zda a0 a1 a2 a3 a4)) N ([.a (.i .i64 (Zax (i64.wrap ((num (driftV prog a0 (oneX prog a2 a3) a4.toNat) 39) - (num (driftV prog a1 (oneX prog a2 a3) a4.toNat) 39))))),.a (.i .i64 (0:Int))],[])) (fun e s=>(kBlock 0 (kSeq (veC prog Zb7 N (cAt (codeOf Tryd.f11) [1,1,1,1,1,1]) (pAt (mkPlan (codeOf Tryd.f11) [([15,16],[])]).1 [1,1,1,1,1,1]) (SV×Eff×Bool)) (finK prog [] [.tmp 10,.tmp 11]))) e (left (writes (cAt (codeOf Tryd.f11) [1,1,1,1,1,0,1,0,0])) [15,16] [] (Zda a0 a1 a2 a3 a4) s)))
     else (none))
    else (none)))
  else (none))) (by kernel_rfl) ?_
 simp only [Zul N a0 a1 a2 a3 a4]
theorem Zrh (a0 a1:Array Value) (a2 a3 a4:Int) (h_a0:WT prog 35 a0) (h_a1:WT prog 35 a1) (h_a2:i64.min≤a2∧a2≤i64.max) (h_a3:i64.min≤a3∧a3≤i64.max) (h_a4:i64.min≤a4∧a4≤i64.max) (hg:(true)=true):ansV prog Zb7 1000 Tryd.f11 [([15,16],[])] [.g a0 35,.g a1 35,.i .i64 (a2),.i .i64 (a3),.i .i64 (a4)] []=some (.t [.i .i64 (bif (bothC a0 a1 a2 a3 (Zaa a4 1 14) != (0:Int)) then 0 else distV prog a0 a1 a2 a3 a4),.i .i64 (bothC a0 a1 a2 a3 (Zaa a4 1 14))],.none,true):=by
 refine (Zt1 1000 a0 a1 a2 a3 a4).trans ?_
 have hb:Nat.beq 0 0=true:=rfl
 rw [hb,cond_true]
 cases hz:(bothC a0 a1 a2 a3 (Zaa a4 1 14) != (0:Int)) with
 | true=>simp only [cond_true]
 | false=>
  obtain ⟨o0,o1,_,i0,i1,t0,f0,_⟩:=Zku hz
  obtain ⟨f1,f2⟩:=Zft f0
  have g0:Zaa a4 0 14=true:=in_of (by omega)
  have hc:bothC a0 a1 a2 a3 (Zaa a4 1 14)=0:=eq_of_beq (by rw [bne] at hz;cases hh:(bothC a0 a1 a2 a3 (Zaa a4 1 14)==(0:Int)) with | true=>rfl | false=>rw [hh] at hz;cases hz)
  rw [o0,o1,i0,i1,t0,g0,hc]
  simp only [Bool.and_self,cond_true,cond_false,show ((0:Int) != 0)=false from rfl]
  unfold distV
  have l:=(by
  have h:=Zb5 (g:=Zb0 prog a0 a1 a2 a3 a4) (fun i=>(distN (driftV prog a0 (oneX prog a2 a3) a4.toNat) (driftV prog a1 (oneX prog a2 a3) a4.toNat) i,(i:Int))) (m:=36) (x:=(distN (driftV prog a0 (oneX prog a2 a3) a4.toNat) (driftV prog a1 (oneX prog a2 a3) a4.toNat) 36,(36:Int))) (N:=1000) (fun i hi=>by
   have h1:decide ((i:Int)<36)=true:=decide_eq_true (by omega)
   have h2:decide (0≤(i:Int))=true:=decide_eq_true (by omega)
   have h3:i64.wrap ((i:Int)+1)=((i+1:Nat):Int):=by rw [w64 (by omega)];omega
   simp only [Zb0,h1,h2,h3,Int.toNat_natCast,Nat.mul_one,Bool.and_self,cond_true]
   rfl) (by
   have h1:decide (((36:Nat):Int)<36)=false:=by decide
   simp only [Zb0,h1,cond_false]
   rfl) (by omega)
  exact h)
  have l':iterO (Zb0 prog a0 a1 a2 a3 a4) 1000 (Zax (i64.wrap (num (driftV prog a0 (oneX prog a2 a3) a4.toNat) 39 - num (driftV prog a1 (oneX prog a2 a3) a4.toNat) 39)),(0:Int))=some (distN (driftV prog a0 (oneX prog a2 a3) a4.toNat) (driftV prog a1 (oneX prog a2 a3) a4.toNat) 36,(36:Int)):=l
  rw [l']
  rfl
def Zio:Con:=fun args h=>match args,h with
 | [.g a0 35,.g a1 35,.i .i64 a2,.i .i64 a3,.i .i64 a4],[]=>some (.t [.i .i64 (bif (bothC a0 a1 a2 a3 (Zaa a4 1 14) != (0:Int)) then 0 else distV prog a0 a1 a2 a3 a4),.i .i64 (bothC a0 a1 a2 a3 (Zaa a4 1 14))],.none,true)
 | _,_=>none
theorem Zqi:EntX prog 11:=Zai (fn:=Tryd.f11) (by kernel_rfl) (by kernel_rfl) (by kernel_rfl)
theorem Zu0:ConOkX (md F) prog 11 Zio:=(Zaj (N:=1000) (by kernel_rfl) (mkΓ_consX (Zad Zm8) Zj1 (mkΓ_consX (Zad Zkg) Zhi (mkΓ_consX (Zad Zpc) Zmj (mkΓ_consX (Zad Ycv) Zxn mkΓ_nilX)))) (fn:=Tryd.f11) (by kernel_rfl) (by kernel_rfl) [([15,16],[])]).of (by
 intro ρ h w args vals r e hA hH hr
 unfold Zio at hr
 split at hr
 ·rename_i a0 a1 a2 a3 a4
  obtain ⟨rfl,hg⟩:=Prod.mk.inj (Option.some.inj hr)
  obtain ⟨rfl,hg2⟩:=Prod.mk.inj hg
  exact Zrh a0 a1 a2 a3 a4 (hA.wt 0 rfl) (hA.wt 1 rfl) (hA.rng 2 rfl) (hA.rng 3 rfl) (hA.rng 4 rfl) hg2
 ·cases hr)
def Zay:Cons:=(mkΓ [(38,conG Zb6),(39,con Zex),(40,con Zh7),(41,con Zi9),(42,con Zns)])
def Zc7 (a0 a1:Array Value) (a2 a3 a4:Int) (g_e0 g_e1 g_e2 g_e3 g_e4:Addr):St:=(⟨.a (.g a0 35) :: .a (.g a1 35) :: .a (.i .i64 (a2)) :: .a (.i .i64 (a3)) :: .a (.i .i64 (a4)) :: .a (.w 5) :: .a (.w 6)::us 3 (.a (.i .i64 (0:Int)) :: .a (.i .i64 (0:Int)) :: .a (.w 12) :: .a (.i .i64 (bothC ((spl (spl (repC (zc prog 35) 2) 0 a0.toList) 363 a1.toList).extract 0 363) ((spl (spl (repC (zc prog 35) 2) 0 a0.toList) 363 a1.toList).extract 363 726) (num (#[.int .i64 (a2),.int .i64 (a3),.slice none 0 0]:Array Value) 0) (num (#[.int .i64 (a2),.int .i64 (a3),.slice none 0 0]:Array Value) 1) (Zao a4))) :: .a (.w 25) :: .a (.w 28)::us 3 (.a (.i .i64 (a2)) :: .a (.i .i64 (a3)) :: .a (.r #[.int .i64 (a2),.int .i64 (a3),.slice none 0 0] 76 []) :: .a (.r #[.int .i64 (a2),.int .i64 (a3),.slice none 0 0] 76 []) :: .a (.i .i64 (a4)) :: .a (.b ((Zao a4))) :: .a (.g a0 35) :: .a (.g a1 35) :: .a (.l 19) :: .a (.i .i64 (bothC ((spl (spl (repC (zc prog 35) 2) 0 a0.toList) 363 a1.toList).extract 0 363) ((spl (spl (repC (zc prog 35) 2) 0 a0.toList) 363 a1.toList).extract 363 726) (num (#[.int .i64 (a2),.int .i64 (a3),.slice none 0 0]:Array Value) 0) (num (#[.int .i64 (a2),.int .i64 (a3),.slice none 0 0]:Array Value) 1) (Zao a4))) :: .a (.i .i64 (bothC ((spl (spl (repC (zc prog 35) 2) 0 a0.toList) 363 a1.toList).extract 0 363) ((spl (spl (repC (zc prog 35) 2) 0 a0.toList) 363 a1.toList).extract 363 726) (num (#[.int .i64 (a2),.int .i64 (a3),.slice none 0 0]:Array Value) 0) (num (#[.int .i64 (a2),.int .i64 (a3),.slice none 0 0]:Array Value) 1) (Zao a4))) :: .a (.b (((bothC ((spl (spl (repC (zc prog 35) 2) 0 a0.toList) 363 a1.toList).extract 0 363) ((spl (spl (repC (zc prog 35) 2) 0 a0.toList) 363 a1.toList).extract 363 726) (num (#[.int .i64 (a2),.int .i64 (a3),.slice none 0 0]:Array Value) 0) (num (#[.int .i64 (a2),.int .i64 (a3),.slice none 0 0]:Array Value) 1) (Zao a4)) != (0:Int)))) :: .a (.u) :: .a (.i .i64 (a2)) :: .a (.i .i64 (a3)) :: .a (.g (Zae prog a2 (1:Int) a3) 53) :: .a (.g (Zae prog a2 (1:Int) a3) 53) :: .a (.i .i64 (a4)) :: .a (.i .i64 (0:Int))::us 31 ([]))),[.gl 1 215 g_e0 101973,.gl 2 215 g_e1 93330,.gl 0 215 g_e2 124718,.gl 3 215 g_e3 112315,.gl 4 215 g_e4 94254,.row a0 35,.row a1 35,.no,.no,.no,.no,.no,.one (.r #[.int .i64 (a2),.int .i64 (a3),.slice none 0 0] 76 []) 76,.no,.no,.no,.no,.no,.no,.sl .own 2 (spl (spl (repC (zc prog 35) 2) 0 a0.toList) 363 a1.toList) 35,.no,.no,.no,.no,.no,.row (Zae prog a2 (1:Int) a3) 53,.no,.no,.row (Zae prog a2 (1:Int) a3) 53,.no],[28,25,12]⟩:St)
def Zeo:Int×Array Value×Array Value→LS
 | (y0_37,r0_28,r0_25)=>([.a (.i .i64 (y0_37))],[.row r0_28 53,.row r0_25 53])
def Zjf:Int×Array Value×Array Value→Exit×LS
 | t=>((.exit 0),Zeo t)
def Zby (P : Program) (a0 a1 : Array Value) (a2 a3 a4 : Int) (g_e0 g_e1 g_e2 g_e3 g_e4 : Addr) : Int × Array Value × Array Value → Option (Stp (Int × Array Value × Array Value) (Int × Array Value × Array Value))
 | (y0_37, r0_28, r0_25) => bif decide (y0_37 < a4) then (bif (goG a0 r0_25) then (bif (goG a1 r0_28) then (some (.more ((i64.wrap (y0_37 + (1 : Int))), (hourV prog a1 r0_28), (hourV prog a0 r0_25))))
    else (none))
   else (none))
  else (some (.done (y0_37, r0_28, r0_25)))
theorem Zvb (N:Nat) (a0 a1:Array Value) (a2 a3 a4:Int) (g_e0 g_e1 g_e2 g_e3 g_e4:Addr):∀ t:Int×Array Value×Array Value,stepV prog Zay N (cAt (codeOf Tryd.f13) [1,1,1,1,1,0,1,0,0]) (pAt (mkPlan (codeOf Tryd.f13) [([37],[28,25]),([16,54],[])]).1 [1,1,1,1,1,0,1,0]) [37] [28,25] (Zc7 a0 a1 a2 a3 a4 g_e0 g_e1 g_e2 g_e3 g_e4) (Zeo t)=mapS Zeo Zjf (Zby prog a0 a1 a2 a3 a4 g_e0 g_e1 g_e2 g_e3 g_e4 t):=by
 rintro ⟨y0_37,r0_28,r0_25⟩
 refine Eq.trans (b:=(bif decide (y0_37<a4) then (bif (goG a0 r0_25) then (bif (goG a1 r0_28) then (some (.more ([.a (.i .i64 (i64.wrap (y0_37+(1:Int))))],[.row (hourV prog a1 r0_28) 53,.row (hourV prog a0 r0_25) 53])))
    else (none))
   else (none))
  else (some (.done ((.exit 0),([.a (.i .i64 (y0_37))],[.row r0_28 53,.row r0_25 53])))))) (by kernel_rfl) ?_
 simp only [Zby,Zav,Zat,Zau,Zas,Zeo,Zjf]
def Zc9 (a0 a1:Array Value) (a2 a3 a4:Int) (g_e0 g_e1 g_e2 g_e3 g_e4:Addr) (z0_37:Int) (q0_28:Array Value) (q0_25:Array Value):St:=(⟨.a (.g a0 35) :: .a (.g a1 35) :: .a (.i .i64 (a2)) :: .a (.i .i64 (a3)) :: .a (.i .i64 (a4)) :: .a (.w 5) :: .a (.w 6)::us 3 (.a (.i .i64 (0:Int)) :: .a (.i .i64 (0:Int)) :: .a (.w 12) :: .a (.i .i64 (bothC ((spl (spl (repC (zc prog 35) 2) 0 a0.toList) 363 a1.toList).extract 0 363) ((spl (spl (repC (zc prog 35) 2) 0 a0.toList) 363 a1.toList).extract 363 726) (num (#[.int .i64 (a2),.int .i64 (a3),.slice none 0 0]:Array Value) 0) (num (#[.int .i64 (a2),.int .i64 (a3),.slice none 0 0]:Array Value) 1) (Zao a4))) :: .a (.w 25) :: .a (.w 28) :: .a (.i .i64 (bif decide ((i64.wrap (0 - (i64.wrap ((num q0_25 39) - (num q0_28 39))))) > (i64.wrap ((num q0_25 39) - (num q0_28 39)))) then (i64.wrap (0 - (i64.wrap ((num q0_25 39) - (num q0_28 39))))) else (i64.wrap ((num q0_25 39) - (num q0_28 39))))) :: .a (.u) :: .a (.u) :: .a (.i .i64 (a2)) :: .a (.i .i64 (a3)) :: .a (.r #[.int .i64 (a2),.int .i64 (a3),.slice none 0 0] 76 []) :: .a (.r #[.int .i64 (a2),.int .i64 (a3),.slice none 0 0] 76 []) :: .a (.i .i64 (a4)) :: .a (.b ((Zao a4))) :: .a (.g a0 35) :: .a (.g a1 35) :: .a (.l 19) :: .a (.i .i64 (bothC ((spl (spl (repC (zc prog 35) 2) 0 a0.toList) 363 a1.toList).extract 0 363) ((spl (spl (repC (zc prog 35) 2) 0 a0.toList) 363 a1.toList).extract 363 726) (num (#[.int .i64 (a2),.int .i64 (a3),.slice none 0 0]:Array Value) 0) (num (#[.int .i64 (a2),.int .i64 (a3),.slice none 0 0]:Array Value) 1) (Zao a4))) :: .a (.i .i64 (bothC ((spl (spl (repC (zc prog 35) 2) 0 a0.toList) 363 a1.toList).extract 0 363) ((spl (spl (repC (zc prog 35) 2) 0 a0.toList) 363 a1.toList).extract 363 726) (num (#[.int .i64 (a2),.int .i64 (a3),.slice none 0 0]:Array Value) 0) (num (#[.int .i64 (a2),.int .i64 (a3),.slice none 0 0]:Array Value) 1) (Zao a4))) :: .a (.b (((bothC ((spl (spl (repC (zc prog 35) 2) 0 a0.toList) 363 a1.toList).extract 0 363) ((spl (spl (repC (zc prog 35) 2) 0 a0.toList) 363 a1.toList).extract 363 726) (num (#[.int .i64 (a2),.int .i64 (a3),.slice none 0 0]:Array Value) 0) (num (#[.int .i64 (a2),.int .i64 (a3),.slice none 0 0]:Array Value) 1) (Zao a4)) != (0:Int)))) :: .a (.u) :: .a (.i .i64 (a2)) :: .a (.i .i64 (a3)) :: .a (.g (Zae prog a2 (1:Int) a3) 53) :: .a (.g (Zae prog a2 (1:Int) a3) 53) :: .a (.i .i64 (a4)) :: .a (.i .i64 (z0_37))::xs 8 (.a (.p 25 (39) 2) :: .a (.i .i64 (num q0_25 39)) :: .a (.p 28 (39) 2) :: .a (.i .i64 (num q0_28 39)) :: .a (.i .i64 (i64.wrap ((num q0_25 39) - (num q0_28 39)))) :: .a (.i .i64 (bif decide ((i64.wrap (0 - (i64.wrap ((num q0_25 39) - (num q0_28 39))))) > (i64.wrap ((num q0_25 39) - (num q0_28 39)))) then (i64.wrap (0 - (i64.wrap ((num q0_25 39) - (num q0_28 39))))) else (i64.wrap ((num q0_25 39) - (num q0_28 39))))) :: .a (.p 25 (3) 51) :: .a (.g (q0_25.extract 3 (3+36)) 51) :: .a (.i .i64 (0:Int))::us 14 ([]))),[.gl 1 215 g_e0 101973,.gl 2 215 g_e1 93330,.gl 0 215 g_e2 124718,.gl 3 215 g_e3 112315,.gl 4 215 g_e4 94254,.row a0 35,.row a1 35,.no,.no,.no,.no,.no,.one (.r #[.int .i64 (a2),.int .i64 (a3),.slice none 0 0] 76 []) 76,.no,.no,.no,.no,.no,.no,.sl .own 2 (spl (spl (repC (zc prog 35) 2) 0 a0.toList) 363 a1.toList) 35,.no,.no,.no,.no,.no,.row q0_25 53,.no,.no,.row q0_28 53,.no],[28,25,28,25,12]⟩:St)
def Zek:Int×Int→LS
 | (y1_16,y1_54)=>([.a (.i .i64 (y1_16)),.a (.i .i64 (y1_54))],[])
def Zjp:Int×Int→Exit×LS
 | t=>((.exit 2),Zek t)
def Zbz (P : Program) (a0 a1 : Array Value) (a2 a3 a4 : Int) (g_e0 g_e1 g_e2 g_e3 g_e4 : Addr) (z0_37 : Int) (q0_28 : Array Value) (q0_25 : Array Value) : Int × Int → Option (Stp (Int × Int) (Int × Int))
 | (y1_16, y1_54) => bif decide (y1_54 < (36 : Int)) then (bif (decide (0 ≤ y1_54) && decide (y1_54 < 36)) then (bif (decide (0 ≤ y1_54) && decide (y1_54 < 36)) then (some (.more ((i64.wrap (y1_16 + (bif decide ((i64.wrap (0 - (i64.wrap ((num (q0_25.extract 3 (3 + 36)) ((y1_54).toNat * 1)) - (num q0_28 (3 + ((y1_54).toNat * 1))))))) > (i64.wrap ((num (q0_25.extract 3 (3 + 36)) ((y1_54).toNat * 1)) - (num q0_28 (3 + ((y1_54).toNat * 1)))))) then (i64.wrap (0 - (i64.wrap ((num (q0_25.extract 3 (3 + 36)) ((y1_54).toNat * 1)) - (num q0_28 (3 + ((y1_54).toNat * 1))))))) else (i64.wrap ((num (q0_25.extract 3 (3 + 36)) ((y1_54).toNat * 1)) - (num q0_28 (3 + ((y1_54).toNat * 1)))))))), (i64.wrap (y1_54 + (1 : Int))))))
    else (none))
   else (none))
  else (some (.done (y1_16, y1_54)))
theorem Zu5 (N:Nat) (a0 a1:Array Value) (a2 a3 a4:Int) (g_e0 g_e1 g_e2 g_e3 g_e4:Addr) (z0_37:Int) (q0_28:Array Value) (q0_25:Array Value):∀ t:Int×Int,stepV prog Zay N (cAt (codeOf Tryd.f13) [1,1,1,1,1,1,1,0,1,0,0]) (pAt (mkPlan (codeOf Tryd.f13) [([37],[28,25]),([16,54],[])]).1 [1,1,1,1,1,1,1,0,1,0]) [16,54] [] (Zc9 a0 a1 a2 a3 a4 g_e0 g_e1 g_e2 g_e3 g_e4 z0_37 q0_28 q0_25) (Zek t)=mapS Zek Zjp (Zbz prog a0 a1 a2 a3 a4 g_e0 g_e1 g_e2 g_e3 g_e4 z0_37 q0_28 q0_25 t):=by
 rintro ⟨y1_16,y1_54⟩
 refine Eq.trans (b:=(bif decide (y1_54<(36:Int)) then (bif (decide (0≤y1_54)&&decide (y1_54<36)) then (bif (decide (0≤y1_54)&&decide (y1_54<36)) then (some (.more ([.a (.i .i64 (i64.wrap (y1_16+(bif decide ((i64.wrap (0 - (i64.wrap ((num (q0_25.extract 3 (3+36)) ((y1_54).toNat*1)) - (num q0_28 (3+((y1_54).toNat*1))))))) > (i64.wrap ((num (q0_25.extract 3 (3+36)) ((y1_54).toNat*1)) - (num q0_28 (3+((y1_54).toNat*1)))))) then (i64.wrap (0 - (i64.wrap ((num (q0_25.extract 3 (3+36)) ((y1_54).toNat*1)) - (num q0_28 (3+((y1_54).toNat*1))))))) else (i64.wrap ((num (q0_25.extract 3 (3+36)) ((y1_54).toNat*1)) - (num q0_28 (3+((y1_54).toNat*1))))))))),.a (.i .i64 (i64.wrap (y1_54+(1:Int))))],[])))
    else (none))
   else (none))
  else (some (.done ((.exit 2),([.a (.i .i64 (y1_16)),.a (.i .i64 (y1_54))],[])))))) (by kernel_rfl) ?_
 simp only [Zbz,Zav,Zat,Zau,Zas,Zek,Zjp]
def Zhx (P:Program) (N:Nat) (a0 a1:Array Value) (a2 a3 a4:Int) (g_e0 g_e1 g_e2 g_e3 g_e4:Addr) (z0_37:Int) (q0_28:Array Value) (q0_25:Array Value) (z1_16:Int) (z1_54:Int):Option (SV×Eff×Bool):=some (.t [.i .i64 (z1_16),.i .i64 (0:Int)],.none,true)
theorem Zox (N:Nat) (a0 a1:Array Value) (a2 a3 a4:Int) (g_e0 g_e1 g_e2 g_e3 g_e4:Addr) (z0_37:Int) (q0_28:Array Value) (q0_25:Array Value) (z1_16:Int) (z1_54:Int):(kBlock 2 (kSeq (veC prog Zay N (cAt (codeOf Tryd.f13) [1,1,1,1,1,1,1,1]) (pAt (mkPlan (codeOf Tryd.f13) [([37],[28,25]),([16,54],[])]).1 [1,1,1,1,1,1,1,1]) (SV×Eff×Bool)) (finK prog [.gl 1 215 g_e0 101973,.gl 2 215 g_e1 93330,.gl 0 215 g_e2 124718,.gl 3 215 g_e3 112315,.gl 4 215 g_e4 94254] [.tmp 10,.tmp 11]))) (.exit 2) (left (writes (cAt (codeOf Tryd.f13) [1,1,1,1,1,1,1,0,1,0,0])) [16,54] [] (Zc9 a0 a1 a2 a3 a4 g_e0 g_e1 g_e2 g_e3 g_e4 z0_37 q0_28 q0_25) ([.a (.i .i64 (z1_16)),.a (.i .i64 (z1_54))],[]))=Zhx prog N a0 a1 a2 a3 a4 g_e0 g_e1 g_e2 g_e3 g_e4 z0_37 q0_28 q0_25 z1_16 z1_54:=by
 refine Eq.trans (b:=(some (.t [.i .i64 (z1_16),.i .i64 (0:Int)],.none,true))) (by kernel_rfl) ?_
 rfl
theorem Zu3 (N:Nat) (a0 a1:Array Value) (a2 a3 a4:Int) (g_e0 g_e1 g_e2 g_e3 g_e4:Addr) (z0_37:Int) (q0_28:Array Value) (q0_25:Array Value):bindX (iterO (stepV prog Zay N (cAt (codeOf Tryd.f13) [1,1,1,1,1,1,1,0,1,0,0]) (pAt (mkPlan (codeOf Tryd.f13) [([37],[28,25]),([16,54],[])]).1 [1,1,1,1,1,1,1,0,1,0]) [16,54] [] (Zc9 a0 a1 a2 a3 a4 g_e0 g_e1 g_e2 g_e3 g_e4 z0_37 q0_28 q0_25)) N ([.a (.i .i64 (bif decide ((i64.wrap (0 - (i64.wrap ((num q0_25 39) - (num q0_28 39))))) > (i64.wrap ((num q0_25 39) - (num q0_28 39)))) then (i64.wrap (0 - (i64.wrap ((num q0_25 39) - (num q0_28 39))))) else (i64.wrap ((num q0_25 39) - (num q0_28 39))))),.a (.i .i64 (0:Int))],[])) (fun e s=>(kBlock 2 (kSeq (veC prog Zay N (cAt (codeOf Tryd.f13) [1,1,1,1,1,1,1,1]) (pAt (mkPlan (codeOf Tryd.f13) [([37],[28,25]),([16,54],[])]).1 [1,1,1,1,1,1,1,1]) (SV×Eff×Bool)) (finK prog [.gl 1 215 g_e0 101973,.gl 2 215 g_e1 93330,.gl 0 215 g_e2 124718,.gl 3 215 g_e3 112315,.gl 4 215 g_e4 94254] [.tmp 10,.tmp 11]))) e (left (writes (cAt (codeOf Tryd.f13) [1,1,1,1,1,1,1,0,1,0,0])) [16,54] [] (Zc9 a0 a1 a2 a3 a4 g_e0 g_e1 g_e2 g_e3 g_e4 z0_37 q0_28 q0_25) s))=nodeX (iterO (Zbz prog a0 a1 a2 a3 a4 g_e0 g_e1 g_e2 g_e3 g_e4 z0_37 q0_28 q0_25) N ((bif decide ((i64.wrap (0 - (i64.wrap ((num q0_25 39) - (num q0_28 39))))) > (i64.wrap ((num q0_25 39) - (num q0_28 39)))) then (i64.wrap (0 - (i64.wrap ((num q0_25 39) - (num q0_28 39))))) else (i64.wrap ((num q0_25 39) - (num q0_28 39)))),(0:Int))) (fun x=>Zhx prog N a0 a1 a2 a3 a4 g_e0 g_e1 g_e2 g_e3 g_e4 z0_37 q0_28 q0_25 x.1 x.2):=by
 refine Za4 Zek Zjp _ _ (Zu5 N a0 a1 a2 a3 a4 g_e0 g_e1 g_e2 g_e3 g_e4 z0_37 q0_28 q0_25) N ((bif decide ((i64.wrap (0 - (i64.wrap ((num q0_25 39) - (num q0_28 39))))) > (i64.wrap ((num q0_25 39) - (num q0_28 39)))) then (i64.wrap (0 - (i64.wrap ((num q0_25 39) - (num q0_28 39))))) else (i64.wrap ((num q0_25 39) - (num q0_28 39)))),(0:Int)) _ _ ?_
 intro x;exact Zox N a0 a1 a2 a3 a4 g_e0 g_e1 g_e2 g_e3 g_e4 z0_37 q0_28 q0_25 x.1 x.2
def Zci (P:Program) (N:Nat) (a0 a1:Array Value) (a2 a3 a4:Int) (g_e0 g_e1 g_e2 g_e3 g_e4:Addr) (z0_37:Int) (q0_28:Array Value) (q0_25:Array Value):Option (SV×Eff×Bool):=nodeX (iterO (Zbz P a0 a1 a2 a3 a4 g_e0 g_e1 g_e2 g_e3 g_e4 z0_37 q0_28 q0_25) N ((bif decide ((i64.wrap (0 - (i64.wrap ((num q0_25 39) - (num q0_28 39))))) > (i64.wrap ((num q0_25 39) - (num q0_28 39)))) then (i64.wrap (0 - (i64.wrap ((num q0_25 39) - (num q0_28 39))))) else (i64.wrap ((num q0_25 39) - (num q0_28 39)))),(0:Int))) (fun x=>Zhx P N a0 a1 a2 a3 a4 g_e0 g_e1 g_e2 g_e3 g_e4 z0_37 q0_28 q0_25 x.1 x.2)
theorem Zo3 (N:Nat) (a0 a1:Array Value) (a2 a3 a4:Int) (g_e0 g_e1 g_e2 g_e3 g_e4:Addr) (z0_37:Int) (q0_28:Array Value) (q0_25:Array Value):(kBlock 0 (kSeq (veC prog Zay N (cAt (codeOf Tryd.f13) [1,1,1,1,1,1]) (pAt (mkPlan (codeOf Tryd.f13) [([37],[28,25]),([16,54],[])]).1 [1,1,1,1,1,1]) (SV×Eff×Bool)) (finK prog [.gl 1 215 g_e0 101973,.gl 2 215 g_e1 93330,.gl 0 215 g_e2 124718,.gl 3 215 g_e3 112315,.gl 4 215 g_e4 94254] [.tmp 10,.tmp 11]))) (.exit 0) (left (writes (cAt (codeOf Tryd.f13) [1,1,1,1,1,0,1,0,0])) [37] [28,25] (Zc7 a0 a1 a2 a3 a4 g_e0 g_e1 g_e2 g_e3 g_e4) ([.a (.i .i64 (z0_37))],[.row q0_28 53,.row q0_25 53]))=Zci prog N a0 a1 a2 a3 a4 g_e0 g_e1 g_e2 g_e3 g_e4 z0_37 q0_28 q0_25:=by
 refine Eq.trans (b:=(bindX (iterO (stepV prog Zay N (cAt (codeOf Tryd.f13) [1,1,1,1,1,1,1,0,1,0,0]) (pAt (mkPlan (codeOf Tryd.f13) [([37],[28,25]),([16,54],[])]).1 [1,1,1,1,1,1,1,0,1,0]) [16,54] [] (Zc9 a0 a1 a2 a3 a4 g_e0 g_e1 g_e2 g_e3 g_e4 z0_37 q0_28 q0_25)) N ([.a (.i .i64 (bif decide ((i64.wrap (0 - (i64.wrap ((num q0_25 39) - (num q0_28 39))))) > (i64.wrap ((num q0_25 39) - (num q0_28 39)))) then (i64.wrap (0 - (i64.wrap ((num q0_25 39) - (num q0_28 39))))) else (i64.wrap ((num q0_25 39) - (num q0_28 39))))),.a (.i .i64 (0:Int))],[])) (fun e s=>(kBlock 2 (kSeq (veC prog Zay N (cAt (codeOf Tryd.f13) [1,1,1,1,1,1,1,1]) (pAt (mkPlan (codeOf Tryd.f13) [([37],[28,25]),([16,54],[])]).1 [1,1,1,1,1,1,1,1]) (SV×Eff×Bool)) (finK prog [.gl 1 215 g_e0 101973,.gl 2 215 g_e1 93330,.gl 0 215 g_e2 124718,.gl 3 215 g_e3 112315,.gl 4 215 g_e4 94254] [.tmp 10,.tmp 11]))) e (left (writes (cAt (codeOf Tryd.f13) [1,1,1,1,1,1,1,0,1,0,0])) [16,54] [] (Zc9 a0 a1 a2 a3 a4 g_e0 g_e1 g_e2 g_e3 g_e4 z0_37 q0_28 q0_25) s)))) (by kernel_rfl) ?_
 simp only [Zu3 N a0 a1 a2 a3 a4 g_e0 g_e1 g_e2 g_e3 g_e4 z0_37 q0_28 q0_25,Zci]
theorem Zu4 (N:Nat) (a0 a1:Array Value) (a2 a3 a4:Int) (g_e0 g_e1 g_e2 g_e3 g_e4:Addr):bindX (iterO (stepV prog Zay N (cAt (codeOf Tryd.f13) [1,1,1,1,1,0,1,0,0]) (pAt (mkPlan (codeOf Tryd.f13) [([37],[28,25]),([16,54],[])]).1 [1,1,1,1,1,0,1,0]) [37] [28,25] (Zc7 a0 a1 a2 a3 a4 g_e0 g_e1 g_e2 g_e3 g_e4)) N ([.a (.i .i64 (0:Int))],[.row (Zae prog a2 (1:Int) a3) 53,.row (Zae prog a2 (1:Int) a3) 53])) (fun e s=>(kBlock 0 (kSeq (veC prog Zay N (cAt (codeOf Tryd.f13) [1,1,1,1,1,1]) (pAt (mkPlan (codeOf Tryd.f13) [([37],[28,25]),([16,54],[])]).1 [1,1,1,1,1,1]) (SV×Eff×Bool)) (finK prog [.gl 1 215 g_e0 101973,.gl 2 215 g_e1 93330,.gl 0 215 g_e2 124718,.gl 3 215 g_e3 112315,.gl 4 215 g_e4 94254] [.tmp 10,.tmp 11]))) e (left (writes (cAt (codeOf Tryd.f13) [1,1,1,1,1,0,1,0,0])) [37] [28,25] (Zc7 a0 a1 a2 a3 a4 g_e0 g_e1 g_e2 g_e3 g_e4) s))=nodeX (iterO (Zby prog a0 a1 a2 a3 a4 g_e0 g_e1 g_e2 g_e3 g_e4) N ((0:Int),(Zae prog a2 (1:Int) a3),(Zae prog a2 (1:Int) a3))) (fun x=>Zci prog N a0 a1 a2 a3 a4 g_e0 g_e1 g_e2 g_e3 g_e4 x.1 x.2.1 x.2.2):=by
 refine Za4 Zeo Zjf _ _ (Zvb N a0 a1 a2 a3 a4 g_e0 g_e1 g_e2 g_e3 g_e4) N ((0:Int),(Zae prog a2 (1:Int) a3),(Zae prog a2 (1:Int) a3)) _ _ ?_
 intro x;exact Zo3 N a0 a1 a2 a3 a4 g_e0 g_e1 g_e2 g_e3 g_e4 x.1 x.2.1 x.2.2
theorem Ztx (N:Nat) (a0 a1:Array Value) (a2 a3 a4:Int) (g_e0 g_e1 g_e2 g_e3 g_e4:Addr):ansV prog Zay N Tryd.f13 [([37],[28,25]),([16,54],[])] [.g a0 35,.g a1 35,.i .i64 (a2),.i .i64 (a3),.i .i64 (a4)] [.gl 1 215 g_e0 101973,.gl 2 215 g_e1 93330,.gl 0 215 g_e2 124718,.gl 3 215 g_e3 112315,.gl 4 215 g_e4 94254]=(bif Nat.beq 2 2 then (bif ((bothC ((spl (spl (repC (zc prog 35) 2) 0 a0.toList) 363 a1.toList).extract 0 363) ((spl (spl (repC (zc prog 35) 2) 0 a0.toList) 363 a1.toList).extract 363 726) (num (#[.int .i64 (a2),.int .i64 (a3),.slice none 0 0]:Array Value) 0) (num (#[.int .i64 (a2),.int .i64 (a3),.slice none 0 0]:Array Value) 1) (Zao a4)) != (0:Int)) then (some (.t [.i .i64 (0:Int),.i .i64 (bothC ((spl (spl (repC (zc prog 35) 2) 0 a0.toList) 363 a1.toList).extract 0 363) ((spl (spl (repC (zc prog 35) 2) 0 a0.toList) 363 a1.toList).extract 363 726) (num (#[.int .i64 (a2),.int .i64 (a3),.slice none 0 0]:Array Value) 0) (num (#[.int .i64 (a2),.int .i64 (a3),.slice none 0 0]:Array Value) 1) (Zao a4))],.none,true))
   else (bif (decide (0≤a2)&&decide (a2<36)) then (nodeX (iterO (Zby prog a0 a1 a2 a3 a4 g_e0 g_e1 g_e2 g_e3 g_e4) N ((0:Int),(Zae prog a2 (1:Int) a3),(Zae prog a2 (1:Int) a3))) (fun x=>Zci prog N a0 a1 a2 a3 a4 g_e0 g_e1 g_e2 g_e3 g_e4 x.1 x.2.1 x.2.2))
    else (none)))
  else (none)):=by
 refine Eq.trans (b:=(bif Nat.beq 2 2 then (bif ((bothC ((spl (spl (repC (zc prog 35) 2) 0 a0.toList) 363 a1.toList).extract 0 363) ((spl (spl (repC (zc prog 35) 2) 0 a0.toList) 363 a1.toList).extract 363 726) (num (#[.int .i64 (a2),.int .i64 (a3),.slice none 0 0]:Array Value) 0) (num (#[.int .i64 (a2),.int .i64 (a3),.slice none 0 0]:Array Value) 1) (Zao a4)) != (0:Int)) then (some (.t [.i .i64 (0:Int),.i .i64 (bothC ((spl (spl (repC (zc prog 35) 2) 0 a0.toList) 363 a1.toList).extract 0 363) ((spl (spl (repC (zc prog 35) 2) 0 a0.toList) 363 a1.toList).extract 363 726) (num (#[.int .i64 (a2),.int .i64 (a3),.slice none 0 0]:Array Value) 0) (num (#[.int .i64 (a2),.int .i64 (a3),.slice none 0 0]:Array Value) 1) (Zao a4))],.none,true))
   else (bif (decide (0≤a2)&&decide (a2<36)) then (bindX (iterO (stepV prog Zay N (cAt (codeOf Tryd.f13) [1,1,1,1,1,0,1,0,0]) (pAt (mkPlan (codeOf Tryd.f13) [([37],[28,25]),([16,54],[])]).1 [1,1,1,1,1,0,1,0]) [37] [28,25] (Zc7 a0 a1 a2 a3 a4 g_e0 g_e1 g_e2 g_e3 g_e4)) N ([.a (.i .i64 (0:Int))],[.row (Zae prog a2 (1:Int) a3) 53,.row (Zae prog a2 (1:Int) a3) 53])) (fun e s=>(kBlock 0 (kSeq (veC prog Zay N (cAt (codeOf Tryd.f13) [1,1,1,1,1,1]) (pAt (mkPlan (codeOf Tryd.f13) [([37],[28,25]),([16,54],[])]).1 [1,1,1,1,1,1]) (SV×Eff×Bool)) (finK prog [.gl 1 215 g_e0 101973,.gl 2 215 g_e1 93330,.gl 0 215 g_e2 124718,.gl 3 215 g_e3 112315,.gl 4 215 g_e4 94254] [.tmp 10,.tmp 11]))) e (left (writes (cAt (codeOf Tryd.f13) [1,1,1,1,1,0,1,0,0])) [37] [28,25] (Zc7 a0 a1 a2 a3 a4 g_e0 g_e1 g_e2 g_e3 g_e4) s)))
    else (none)))
  else (none))) (by kernel_rfl) ?_
 simp only [Zu4 N a0 a1 a2 a3 a4 g_e0 g_e1 g_e2 g_e3 g_e4]
theorem Zsb (a0 a1:Array Value) (a2 a3 a4:Int) (g_e0 g_e1 g_e2 g_e3 g_e4:Addr) (h_a0:WT prog 35 a0) (h_a1:WT prog 35 a1) (h_a2:i64.min≤a2∧a2≤i64.max) (h_a3:i64.min≤a3∧a3≤i64.max) (h_a4:i64.min≤a4∧a4≤i64.max) (hg:(true)=true):ansV prog Zay 1000 Tryd.f13 [([37],[28,25]),([16,54],[])] [.g a0 35,.g a1 35,.i .i64 (a2),.i .i64 (a3),.i .i64 (a4)] [.gl 1 215 g_e0 101973,.gl 2 215 g_e1 93330,.gl 0 215 g_e2 124718,.gl 3 215 g_e3 112315,.gl 4 215 g_e4 94254]=some (.t [.i .i64 (bif (bothC a0 a1 a2 a3 (Zaa a4 1 14) != (0:Int)) then 0 else distV prog a0 a1 a2 a3 a4),.i .i64 (bothC a0 a1 a2 a3 (Zaa a4 1 14))],.none,true):=by
 have z0:a0.size=363:=by rw [h_a0.layLen];kernel_rfl
 have z1:a1.size=363:=by rw [h_a1.layLen];kernel_rfl
 obtain ⟨x0,x1⟩:=Yhs z0 z1
 refine (Ztx 1000 a0 a1 a2 a3 a4 g_e0 g_e1 g_e2 g_e3 g_e4).trans ?_
 have hb:Nat.beq 2 2=true:=rfl
 have c0:num (#[.int .i64 a2,.int .i64 a3,.slice none 0 0]:Array Value) 0=a2:=rfl
 have c1:num (#[.int .i64 a2,.int .i64 a3,.slice none 0 0]:Array Value) 1=a3:=rfl
 rw [hb,cond_true,x0,x1,c0,c1,Yel]
 cases hz:(bothC a0 a1 a2 a3 (Zaa a4 1 14) != (0:Int)) with
 | true=>simp only [cond_true]
 | false=>
  obtain ⟨o0,o1,_,i0,i1,t0,f0,_⟩:=Zku hz
  obtain ⟨f1,f2⟩:=Zft f0
  obtain ⟨m,rfl⟩:=Int.eq_ofNat_of_zero_le (show 0≤a4 by omega)
  have r:=Zkb i0
  have hc:bothC a0 a1 a2 a3 (Zaa (m:Int) 1 14)=0:=eq_of_beq (by rw [bne] at hz;cases hh:(bothC a0 a1 a2 a3 (Zaa (m:Int) 1 14)==(0:Int)) with | true=>rfl | false=>rw [hh] at hz;cases hz)
  rw [hc,decide_eq_true (show 0≤a2 by omega),decide_eq_true (show a2<36 by omega)]
  simp only [Bool.and_self,cond_true,cond_false]
  have e0:Zae prog a2 1 a3=oneX prog a2 a3:=rfl
  rw [e0]
  have h:=Zb5 (g:=Zby prog a0 a1 a2 a3 (m:Int) g_e0 g_e1 g_e2 g_e3 g_e4) (fun j=>((j:Int),driftV prog a1 (oneX prog a2 a3) j,driftV prog a0 (oneX prog a2 a3) j)) (m:=m) (x:=((m:Int),driftV prog a1 (oneX prog a2 a3) m,driftV prog a0 (oneX prog a2 a3) m)) (N:=1000) (fun j hj=>by
   have h1:decide ((j:Int)<(m:Int))=true:=decide_eq_true (by omega)
   have h3:i64.wrap ((j:Int)+1)=((j+1:Nat):Int):=by rw [w64 (by omega)];omega
   have h4:=Ynr h_a0 o0 i0 t0 (show j≤14 by omega)
   have h5:=Ynr h_a1 o1 i1 t0 (show j≤14 by omega)
   simp only [Zby,h1,h3,h4,h5,cond_true]
   rfl) (by
   have h1:decide ((m:Int)<(m:Int))=false:=decide_eq_false (by omega)
   simp only [Zby,h1,cond_false]) (by omega)
  have h':iterO (Zby prog a0 a1 a2 a3 (m:Int) g_e0 g_e1 g_e2 g_e3 g_e4) 1000 ((0:Int),oneX prog a2 a3,oneX prog a2 a3)=some ((m:Int),driftV prog a1 (oneX prog a2 a3) m,driftV prog a0 (oneX prog a2 a3) m):=h
  rw [h']
  show Zci prog 1000 a0 a1 a2 a3 (m:Int) g_e0 g_e1 g_e2 g_e3 g_e4 (m:Int) (driftV prog a1 (oneX prog a2 a3) m) (driftV prog a0 (oneX prog a2 a3) m)=_
  unfold distV
  rw [Int.toNat_natCast]
  generalize driftV prog a0 (oneX prog a2 a3) m=X
  generalize driftV prog a1 (oneX prog a2 a3) m=Y
  unfold Zci
  rw [Yis]
  have l:=(by
  have h:=Zb5 (g:=Zbz prog a0 a1 a2 a3 (m:Int) g_e0 g_e1 g_e2 g_e3 g_e4 (m:Int) Y X) (fun i=>(distN X Y i,(i:Int))) (m:=36) (x:=(distN X Y 36,(36:Int))) (N:=1000) (fun i hi=>by
   have h1:decide ((i:Int)<36)=true:=decide_eq_true (by omega)
   have h2:decide (0≤(i:Int))=true:=decide_eq_true (by omega)
   have h3:i64.wrap ((i:Int)+1)=((i+1:Nat):Int):=by rw [w64 (by omega)];omega
   have h5:=num_part X hi
   simp only [Zbz,h1,h2,h3,Int.toNat_natCast,Nat.mul_one,Bool.and_self,cond_true,h5,Yis]
   rfl) (by
   have h1:decide (((36:Nat):Int)<36)=false:=by decide
   simp only [Zbz,h1,cond_false]
   rfl) (by omega)
  exact h)
  have l':iterO (Zbz prog a0 a1 a2 a3 (m:Int) g_e0 g_e1 g_e2 g_e3 g_e4 (m:Int) Y X) 1000 (Zax (i64.wrap (num X 39 - num Y 39)),(0:Int))=some (distN X Y 36,(36:Int)):=l
  rw [l']
  rfl
def Zix:Con:=fun args h=>match args,h with
 | [.g a0 35,.g a1 35,.i .i64 a2,.i .i64 a3,.i .i64 a4],[.gl 1 215 g_e0 101973,.gl 2 215 g_e1 93330,.gl 0 215 g_e2 124718,.gl 3 215 g_e3 112315,.gl 4 215 g_e4 94254]=>some (.t [.i .i64 (bif (bothC a0 a1 a2 a3 (Zaa a4 1 14) != (0:Int)) then 0 else distV prog a0 a1 a2 a3 a4),.i .i64 (bothC a0 a1 a2 a3 (Zaa a4 1 14))],.none,true)
 | _,_=>none
theorem Zqr:EntX prog 13:=Zai (fn:=Tryd.f13) (by kernel_rfl) (by kernel_rfl) (by kernel_rfl)
theorem Zu2:ConOkX (md F) prog 13 Zix:=(Zaj (N:=1000) (by kernel_rfl) (mkΓ_consX (Zgk Zfs) Zd6 (mkΓ_consX (Zad Zkv) Zhf (mkΓ_consX (Zad Zqe) Zn1 (mkΓ_consX (Zad Zq8) Zn8 (mkΓ_consX (Zad Ye5) Zzd mkΓ_nilX))))) (fn:=Tryd.f13) (by kernel_rfl) (by kernel_rfl) [([37],[28,25]),([16,54],[])]).of (by
 intro ρ h w args vals r e hA hH hr
 unfold Zix at hr
 split at hr
 ·rename_i a0 a1 a2 a3 a4 g_e0 g_e1 g_e2 g_e3 g_e4
  obtain ⟨rfl,hg⟩:=Prod.mk.inj (Option.some.inj hr)
  obtain ⟨rfl,hg2⟩:=Prod.mk.inj hg
  exact Zsb a0 a1 a2 a3 a4 g_e0 g_e1 g_e2 g_e3 g_e4 (hA.wt 0 rfl) (hA.wt 1 rfl) (hA.rng 2 rfl) (hA.rng 3 rfl) (hA.rng 4 rfl) hg2
 ·cases hr)
end
end Go.Proofs.YtdofpgniogochaaDoor
