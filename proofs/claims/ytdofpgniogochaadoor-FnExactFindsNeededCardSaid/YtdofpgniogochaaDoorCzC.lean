import Derived.Test.YtdofpgniogochaaDoorProg
import Derived.Test.YtdofpgniogochaaDoorCzA
import Derived.Test.YtdofpgniogochaaDoorCzL
import Derived.Test.YtdofpgniogochaaDoorCzM
namespace Go.Proofs.YtdofpgniogochaaDoor
open Go.ChangeShapes Go.WideShapes Go.ChangeAt Go.RowKit Ve Vc
open Tryd (prog)
open IntKind (i64)
set_option linter.unusedVariables false
set_option linter.unusedSimpArgs false
set_option maxRecDepth 100000
noncomputable section
variable {F:Vc.Fd}
def gnF (X Y:Array Value) (s:Int) (k:Nat):Int:=bif (num X k==(0:Int)) then s else i64.wrap (s+i64.wrap (num X k*i64.wrap (lg (num X k) - lg (num Y k))))
def gnP (X Y:Array Value) (k:Nat):Bool:= !(num X k==(0:Int))&&(num Y k==(0:Int))
def gnB (X Y:Array Value):Bool:=((List.range 36).find? (gnP X Y)).isNone
def gnN (X Y:Array Value):Int:=bif gnB X Y then folds (gnF X Y) 0 36 else 0
def gN (P:Program) (A C:Array Value) (c b:Int) (n:Nat):Int:=gnN (inH P A c b n) (inH P C c b n)
def gB (P:Program) (A C:Array Value) (c b:Int) (n:Nat):Bool:=gnB (inH P A c b n) (inH P C c b n)
theorem Ydu {x:Int} (h:0≤x) (h0:(x==0)=false):decide (1≤x)=true:=decide_eq_true (by
 have:x≠0:=fun e=>by subst e;exact nomatch h0
 omega)
def Zc1:Cons:=(mkΓ [(43,con Znk),(92,con Zmv)])
def Zea (a2 a3 a4:Int) (a0 a1:Array Value):St:=(⟨.a (.w 0) :: .a (.w 1) :: .a (.i .i64 (a2)) :: .a (.i .i64 (a3)) :: .a (.i .i64 (a4))::us 5 (.a (.i .i64 (0:Int)) :: .a (.b (false)) :: .a (.w 7) :: .a (.w 14) :: .a (.i .i64 (0:Int)) :: .a (.i .i64 (0:Int)) :: .a (.w 0) :: .a (.i .i64 (a2)) :: .a (.i .i64 (a3)) :: .a (.i .i64 (a4)) :: .a (.g (subV (byV prog a0 a2 a3 a4.toNat) (byV prog a0 a2 a3 (a4.toNat - 1)) 12) 51) :: .a (.w 1) :: .a (.i .i64 (a2)) :: .a (.i .i64 (a3)) :: .a (.i .i64 (a4)) :: .a (.g (subV (byV prog a1 a2 a3 a4.toNat) (byV prog a1 a2 a3 (a4.toNat - 1)) 12) 51)::us 28 ([])),[.row a0 35,.row a1 35,.no,.no,.no,.no,.no,.row (subV (byV prog a0 a2 a3 a4.toNat) (byV prog a0 a2 a3 (a4.toNat - 1)) 12) 51,.no,.no,.no,.no,.no,.no,.row (subV (byV prog a1 a2 a3 a4.toNat) (byV prog a1 a2 a3 (a4.toNat - 1)) 12) 51,.no],[14,7]⟩:St)
def Zfe:Int×Bool×Int×Int→LS
 | (y0_10,y0_11,y0_14,y0_15)=>([.a (.i .i64 (y0_10)),.a (.b (y0_11)),.a (.i .i64 (y0_14)),.a (.i .i64 (y0_15))],[])
def Zml:(Stp (Int×Bool×Int×Int) (Int×Bool×Int×Int))→Exit×LS
 | .more t=>(.ret,Zfe t)
 | .done t=>((.exit 0),Zfe t)
def Zbo (P:Program) (a2 a3 a4:Int) (a0 a1:Array Value):Int×Bool×Int×Int→Option (Stp (Int×Bool×Int×Int) (Stp (Int×Bool×Int×Int) (Int×Bool×Int×Int)))
  | (y0_10,y0_11,y0_14,y0_15)=>bif decide (y0_15<(36:Int)) then (bif (decide (0≤y0_15)&&decide (y0_15<36)) then (bif ((num (subV (byV prog a0 a2 a3 a4.toNat) (byV prog a0 a2 a3 (a4.toNat - 1)) 12) ((y0_15).toNat*1))==(0:Int)) then (some (.more (y0_10,y0_11,y0_14,(i64.wrap (y0_15+(1:Int))))))
        else (bif (decide (0≤y0_15)&&decide (y0_15<36)) then (bif ((num (subV (byV prog a1 a2 a3 a4.toNat) (byV prog a1 a2 a3 (a4.toNat - 1)) 12) ((y0_15).toNat*1))==(0:Int)) then (some (.done (.more ((0:Int),false,y0_14,y0_15))))
            else (bif (decide (0≤y0_15)&&decide (y0_15<36)) then (bif (decide (0≤y0_15)&&decide (y0_15<36)) then (bif decide (1≤(num (subV (byV prog a0 a2 a3 a4.toNat) (byV prog a0 a2 a3 (a4.toNat - 1)) 12) ((y0_15).toNat*1))) then (bif (decide (0≤y0_15)&&decide (y0_15<36)) then (bif decide (1≤(num (subV (byV prog a1 a2 a3 a4.toNat) (byV prog a1 a2 a3 (a4.toNat - 1)) 12) ((y0_15).toNat*1))) then (some (.more (y0_10,y0_11,(i64.wrap (y0_14+(i64.wrap ((num (subV (byV prog a0 a2 a3 a4.toNat) (byV prog a0 a2 a3 (a4.toNat - 1)) 12) ((y0_15).toNat*1))*(i64.wrap ((lg (num (subV (byV prog a0 a2 a3 a4.toNat) (byV prog a0 a2 a3 (a4.toNat - 1)) 12) ((y0_15).toNat*1))) - (lg (num (subV (byV prog a1 a2 a3 a4.toNat) (byV prog a1 a2 a3 (a4.toNat - 1)) 12) ((y0_15).toNat*1))))))))),(i64.wrap (y0_15+(1:Int))))))
                      else (none))
                    else (none))
                  else (none))
                else (none))
              else (none)))
          else (none)))
      else (none))
    else (some (.done (.done (y0_10,y0_11,y0_14,y0_15))))
theorem Ych (N:Nat) (a2 a3 a4:Int) (a0 a1:Array Value):∀ t:Int×Bool×Int×Int,stepV prog Zc1 N (cAt (codeOf Tryd.f54) [1,1,1,1,0,1,0,0]) (pAt (mkPlan (codeOf Tryd.f54) [([10,11,14,15],[])]).1 [1,1,1,1,0,1,0]) [10,11,14,15] [] (Zea a2 a3 a4 a0 a1) (Zfe t)=mapS Zfe Zml (Zbo prog a2 a3 a4 a0 a1 t):=by
  rintro ⟨y0_10,y0_11,y0_14,y0_15⟩
  refine Eq.trans (b:=(bif decide (y0_15<(36:Int)) then (bif (decide (0≤y0_15)&&decide (y0_15<36)) then (bif ((num (subV (byV prog a0 a2 a3 a4.toNat) (byV prog a0 a2 a3 (a4.toNat - 1)) 12) ((y0_15).toNat*1))==(0:Int)) then (some (.more ([.a (.i .i64 (y0_10)),.a (.b (y0_11)),.a (.i .i64 (y0_14)),.a (.i .i64 (i64.wrap (y0_15+(1:Int))))],[])))
        else (bif (decide (0≤y0_15)&&decide (y0_15<36)) then (bif ((num (subV (byV prog a1 a2 a3 a4.toNat) (byV prog a1 a2 a3 (a4.toNat - 1)) 12) ((y0_15).toNat*1))==(0:Int)) then (some (.done (.ret,([.a (.i .i64 (0:Int)),.a (.b (false)),.a (.i .i64 (y0_14)),.a (.i .i64 (y0_15))],[]))))
            else (bif (decide (0≤y0_15)&&decide (y0_15<36)) then (bif (decide (0≤y0_15)&&decide (y0_15<36)) then (bif decide (1≤(num (subV (byV prog a0 a2 a3 a4.toNat) (byV prog a0 a2 a3 (a4.toNat - 1)) 12) ((y0_15).toNat*1))) then (bif (decide (0≤y0_15)&&decide (y0_15<36)) then (bif decide (1≤(num (subV (byV prog a1 a2 a3 a4.toNat) (byV prog a1 a2 a3 (a4.toNat - 1)) 12) ((y0_15).toNat*1))) then (some (.more ([.a (.i .i64 (y0_10)),.a (.b (y0_11)),.a (.i .i64 (i64.wrap (y0_14+(i64.wrap ((num (subV (byV prog a0 a2 a3 a4.toNat) (byV prog a0 a2 a3 (a4.toNat - 1)) 12) ((y0_15).toNat*1))*(i64.wrap ((lg (num (subV (byV prog a0 a2 a3 a4.toNat) (byV prog a0 a2 a3 (a4.toNat - 1)) 12) ((y0_15).toNat*1))) - (lg (num (subV (byV prog a1 a2 a3 a4.toNat) (byV prog a1 a2 a3 (a4.toNat - 1)) 12) ((y0_15).toNat*1)))))))))),.a (.i .i64 (i64.wrap (y0_15+(1:Int))))],[])))
                      else (none))
                    else (none))
                  else (none))
                else (none))
              else (none)))
          else (none)))
      else (none))
    else (some (.done ((.exit 0),([.a (.i .i64 (y0_10)),.a (.b (y0_11)),.a (.i .i64 (y0_14)),.a (.i .i64 (y0_15))],[])))))) (by kernel_rfl) ?_
  simp only [Zbo,Zav,Zas,Zat,Zau,Zfe,Zml]
def Zkd (P:Program) (N:Nat) (a2 a3 a4:Int) (a0 a1:Array Value) (z0_10:Int) (z0_11:Bool) (z0_14:Int) (z0_15:Int):Option (SV×Eff×Bool):=some (.t [.i .i64 (z0_10),.b (z0_11)],.none,true)
theorem Zrx (N:Nat) (a2 a3 a4:Int) (a0 a1:Array Value) (z0_10:Int) (z0_11:Bool) (z0_14:Int) (z0_15:Int):(kBlock 0 (kSeq (veC prog Zc1 N (cAt (codeOf Tryd.f54) [1,1,1,1,1]) (pAt (mkPlan (codeOf Tryd.f54) [([10,11,14,15],[])]).1 [1,1,1,1,1]) (SV×Eff×Bool)) (finK prog [.row a0 35,.row a1 35] [.tmp 10,.tmp 11]))) .ret (left (writes (cAt (codeOf Tryd.f54) [1,1,1,1,0,1,0,0])) [10,11,14,15] [] (Zea a2 a3 a4 a0 a1) ([.a (.i .i64 (z0_10)),.a (.b (z0_11)),.a (.i .i64 (z0_14)),.a (.i .i64 (z0_15))],[]))=Zkd prog N a2 a3 a4 a0 a1 z0_10 z0_11 z0_14 z0_15:=by
 refine Eq.trans (b:=(some (.t [.i .i64 (z0_10),.b (z0_11)],.none,true))) (by kernel_rfl) ?_
 rfl
def Zkh (P:Program) (N:Nat) (a2 a3 a4:Int) (a0 a1:Array Value) (z0_10:Int) (z0_11:Bool) (z0_14:Int) (z0_15:Int):Option (SV×Eff×Bool):=some (.t [.i .i64 (z0_14),.b (true)],.none,true)
theorem Zsj (N:Nat) (a2 a3 a4:Int) (a0 a1:Array Value) (z0_10:Int) (z0_11:Bool) (z0_14:Int) (z0_15:Int):(kBlock 0 (kSeq (veC prog Zc1 N (cAt (codeOf Tryd.f54) [1,1,1,1,1]) (pAt (mkPlan (codeOf Tryd.f54) [([10,11,14,15],[])]).1 [1,1,1,1,1]) (SV×Eff×Bool)) (finK prog [.row a0 35,.row a1 35] [.tmp 10,.tmp 11]))) (.exit 0) (left (writes (cAt (codeOf Tryd.f54) [1,1,1,1,0,1,0,0])) [10,11,14,15] [] (Zea a2 a3 a4 a0 a1) ([.a (.i .i64 (z0_10)),.a (.b (z0_11)),.a (.i .i64 (z0_14)),.a (.i .i64 (z0_15))],[]))=Zkh prog N a2 a3 a4 a0 a1 z0_10 z0_11 z0_14 z0_15:=by
 refine Eq.trans (b:=(some (.t [.i .i64 (z0_14),.b (true)],.none,true))) (by kernel_rfl) ?_
 rfl
theorem Ya8 (N:Nat) (a2 a3 a4:Int) (a0 a1:Array Value):bindX (iterO (stepV prog Zc1 N (cAt (codeOf Tryd.f54) [1,1,1,1,0,1,0,0]) (pAt (mkPlan (codeOf Tryd.f54) [([10,11,14,15],[])]).1 [1,1,1,1,0,1,0]) [10,11,14,15] [] (Zea a2 a3 a4 a0 a1)) N ([.a (.i .i64 (0:Int)),.a (.b (false)),.a (.i .i64 (0:Int)),.a (.i .i64 (0:Int))],[])) (fun e s=>(kBlock 0 (kSeq (veC prog Zc1 N (cAt (codeOf Tryd.f54) [1,1,1,1,1]) (pAt (mkPlan (codeOf Tryd.f54) [([10,11,14,15],[])]).1 [1,1,1,1,1]) (SV×Eff×Bool)) (finK prog [.row a0 35,.row a1 35] [.tmp 10,.tmp 11]))) e (left (writes (cAt (codeOf Tryd.f54) [1,1,1,1,0,1,0,0])) [10,11,14,15] [] (Zea a2 a3 a4 a0 a1) s))=nodeX (iterO (Zbo prog a2 a3 a4 a0 a1) N ((0:Int),false,(0:Int),(0:Int))) (st2 (fun x=>Zkd prog N a2 a3 a4 a0 a1 x.1 x.2.1 x.2.2.1 x.2.2.2) (fun x=>Zkh prog N a2 a3 a4 a0 a1 x.1 x.2.1 x.2.2.1 x.2.2.2)):=by
 refine Za9 Zfe Zml _ _ (Ych N a2 a3 a4 a0 a1) N ((0:Int),false,(0:Int),(0:Int)) _ _ ?_
 intro x
 cases x with
 | more x=>exact Zrx N a2 a3 a4 a0 a1 x.1 x.2.1 x.2.2.1 x.2.2.2
 | done x=>exact Zsj N a2 a3 a4 a0 a1 x.1 x.2.1 x.2.2.1 x.2.2.2
theorem Zz8 (N:Nat) (a2 a3 a4:Int) (a0 a1:Array Value):ansV prog Zc1 N Tryd.f54 [([10,11,14,15],[])] [.w 0,.w 1,.i .i64 (a2),.i .i64 (a3),.i .i64 (a4)] [.row a0 35,.row a1 35]=(bif (okS a0&&((Zab a2 a0&&Zaa a3 0 1)&&Zaa a4 1 14)) then (bif (okS a1&&((Zab a2 a1&&Zaa a3 0 1)&&Zaa a4 1 14)) then (nodeX (iterO (Zbo prog a2 a3 a4 a0 a1) N ((0:Int),false,(0:Int),(0:Int))) (st2 (fun x=>Zkd prog N a2 a3 a4 a0 a1 x.1 x.2.1 x.2.2.1 x.2.2.2) (fun x=>Zkh prog N a2 a3 a4 a0 a1 x.1 x.2.1 x.2.2.1 x.2.2.2)))
   else (none))
  else (none)):=by
 refine Eq.trans (b:=(bif (okS a0&&((Zab a2 a0&&Zaa a3 0 1)&&Zaa a4 1 14)) then (bif (okS a1&&((Zab a2 a1&&Zaa a3 0 1)&&Zaa a4 1 14)) then (bindX (iterO (stepV prog Zc1 N (cAt (codeOf Tryd.f54) [1,1,1,1,0,1,0,0]) (pAt (mkPlan (codeOf Tryd.f54) [([10,11,14,15],[])]).1 [1,1,1,1,0,1,0]) [10,11,14,15] [] (Zea a2 a3 a4 a0 a1)) N ([.a (.i .i64 (0:Int)),.a (.b (false)),.a (.i .i64 (0:Int)),.a (.i .i64 (0:Int))],[])) (fun e s=>(kBlock 0 (kSeq (veC prog Zc1 N (cAt (codeOf Tryd.f54) [1,1,1,1,1]) (pAt (mkPlan (codeOf Tryd.f54) [([10,11,14,15],[])]).1 [1,1,1,1,1]) (SV×Eff×Bool)) (finK prog [.row a0 35,.row a1 35] [.tmp 10,.tmp 11]))) e (left (writes (cAt (codeOf Tryd.f54) [1,1,1,1,0,1,0,0])) [10,11,14,15] [] (Zea a2 a3 a4 a0 a1) s)))
   else (none))
  else (none))) (by kernel_rfl) ?_
 simp only [Ya8 N a2 a3 a4 a0 a1]
theorem Zx4 (a2 a3 a4:Int) (a0 a1:Array Value) (h_a2:i64.min≤a2∧a2≤i64.max) (h_a3:i64.min≤a3∧a3≤i64.max) (h_a4:i64.min≤a4∧a4≤i64.max) (h_a0:WT prog 35 a0) (h_a1:WT prog 35 a1) (hg:((okS a0&&(okS a1&&(Zab a2 a0&&(Zab a2 a1&&(Zaa a3 0 1&&Zaa a4 1 14))))))=true):ansV prog Zc1 1000 Tryd.f54 [([10,11,14,15],[])] [.w 0,.w 1,.i .i64 (a2),.i .i64 (a3),.i .i64 (a4)] [.row a0 35,.row a1 35]=some (.t [.i .i64 (gN prog a0 a1 a2 a3 a4.toNat),.b ((gB prog a0 a1 a2 a3 a4.toNat))],.none,true):=by
 simp only [Bool.and_eq_true] at hg
 obtain ⟨o0,o1,i0,i1,t0,f0⟩:=hg
 obtain ⟨f1,f2⟩:=Zgv f0
 obtain ⟨m,rfl⟩:=Int.eq_ofNat_of_zero_le (show 0≤a4 by omega)
 refine (Zz8 1000 a2 a3 (m:Int) a0 a1).trans ?_
 rw [o0,o1,i0,i1,t0,f0]
 simp only [Bool.and_self,cond_true]
 have hX:∀ k,k<36→0≤num (inH prog a0 a2 a3 m) k:=fun k hk=>(Zqb h_a0 o0 i0 t0 hk (by omega)).2.1
 have hY:∀ k,k<36→0≤num (inH prog a1 a2 a3 m) k:=fun k hk=>(Zqb h_a1 o1 i1 t0 hk (by omega)).2.1
 have eX:subV (byV prog a0 a2 a3 m) (byV prog a0 a2 a3 (m - 1)) 12=inH prog a0 a2 a3 m:=rfl
 have eY:subV (byV prog a1 a2 a3 m) (byV prog a1 a2 a3 (m - 1)) 12=inH prog a1 a2 a3 m:=rfl
 unfold gN gB
 rw [Int.toNat_natCast]
 generalize inH prog a0 a2 a3 m=X at hX eX⊢
 generalize inH prog a1 a2 a3 m=Y at hY eY⊢
 have l:=Zwp (g:=Zbo prog a2 a3 (m:Int) a0 a1) (fun k=>((0:Int),false,folds (gnF X Y) 0 k,(k:Int))) (gnP X Y) 36 (N:=1000) (xd:=.done ((0:Int),false,folds (gnF X Y) 0 36,(36:Int))) (by omega) (fun k=>.more ((0:Int),false,folds (gnF X Y) 0 k,(k:Int))) (fun k hk hp=>by
   have h1:decide ((k:Int)<36)=true:=decide_eq_true (by omega)
   have h0:decide (0≤(k:Int))=true:=decide_eq_true (by omega)
   have h3:i64.wrap ((k:Int)+1)=((k+1:Nat):Int):=by rw [w64 (by omega)];omega
   have ef:folds (gnF X Y) 0 (k+1)=gnF X Y (folds (gnF X Y) 0 k) k:=Zd4 _ _ _
   show Zbo prog a2 a3 (m:Int) a0 a1 ((0:Int),false,folds (gnF X Y) 0 k,(k:Int))=some (.more ((0:Int),false,folds (gnF X Y) 0 (k+1),(((k+1):Nat):Int)))
   rw [ef]
   generalize folds (gnF X Y) 0 k=s
   cases hx:(num X k==(0:Int)) with
   | true=>simp only [Zbo,h1,h0,h3,eX,eY,Int.toNat_natCast,Nat.mul_one,hx,Bool.and_self,cond_true,cond_false,gnF]
   | false=>
    have hy:(num Y k==(0:Int))=false:=by unfold gnP at hp;rw [hx] at hp;simpa using hp
    have l1:=Ydu (hX k hk) hx
    have l2:=Ydu (hY k hk) hy
    simp only [Zbo,h1,h0,h3,eX,eY,Int.toNat_natCast,Nat.mul_one,hx,hy,l1,l2,Bool.and_self,cond_true,cond_false,gnF]) (fun k hk hp=>by
   have h1:decide ((k:Int)<36)=true:=decide_eq_true (by omega)
   have h0:decide (0≤(k:Int))=true:=decide_eq_true (by omega)
   have hp2:(!(num X k==(0:Int))&&(num Y k==(0:Int)))=true:=hp
   rw [Bool.and_eq_true] at hp2
   obtain ⟨hx,hy⟩:=hp2
   have hx:(num X k==(0:Int))=false:=by simpa using hx
   show Zbo prog a2 a3 (m:Int) a0 a1 ((0:Int),false,folds (gnF X Y) 0 k,(k:Int))=some (.done (.more ((0:Int),false,folds (gnF X Y) 0 k,(k:Int))))
   generalize folds (gnF X Y) 0 k=s
   simp only [Zbo,h1,h0,eX,eY,Int.toNat_natCast,Nat.mul_one,hx,hy,Bool.and_self,cond_true,cond_false]) (by
  have h1:decide (((36:Nat):Int)<36)=false:=by decide
  simp only [Zbo,h1,cond_false]
  rfl)
 have l':iterO (Zbo prog a2 a3 (m:Int) a0 a1) 1000 ((0:Int),false,(0:Int),(0:Int))=some (match (List.range 36).find? (gnP X Y) with | some k=>.more ((0:Int),false,folds (gnF X Y) 0 k,(k:Int)) | none=>.done ((0:Int),false,folds (gnF X Y) 0 36,(36:Int))):=l
 rw [l']
 unfold gnN gnB
 cases (List.range 36).find? (gnP X Y)<;>rfl
def Zim:Con:=fun args h=>match args,h with
 | [.w 0,.w 1,.i .i64 a2,.i .i64 a3,.i .i64 a4],[.row a0 35,.row a1 35]=>some (.t [.i .i64 (gN prog a0 a1 a2 a3 a4.toNat),.b ((gB prog a0 a1 a2 a3 a4.toNat))],.none,(okS a0&&(okS a1&&(Zab a2 a0&&(Zab a2 a1&&(Zaa a3 0 1&&Zaa a4 1 14))))))
 | _,_=>none
theorem Zm8:EntX prog 54:=Zai (fn:=Tryd.f54) (by kernel_rfl) (by kernel_rfl) (by kernel_rfl)
theorem Zp2:ConOkX (md F) prog 54 Zim:=(Zaj (N:=1000) (by kernel_rfl) (mkΓ_consX (Zad Yf1) Zyz (mkΓ_consX (Zad Ydi) Zw5 mkΓ_nilX)) (fn:=Tryd.f54) (by kernel_rfl) (by kernel_rfl) [([10,11,14,15],[])]).of (by
 intro ρ h w args vals r e hA hH hr
 unfold Zim at hr
 split at hr
 ·rename_i a2 a3 a4 a0 a1
  obtain ⟨rfl,hg⟩:=Prod.mk.inj (Option.some.inj hr)
  obtain ⟨rfl,hg2⟩:=Prod.mk.inj hg
  exact Zx4 a2 a3 a4 a0 a1 (hA.rng 2 rfl) (hA.rng 3 rfl) (hA.rng 4 rfl) (hH.wt 0 rfl) (hH.wt 1 rfl) hg2
 ·cases hr)
def Za1:Cons:=(mkΓx [(45,con Zkg),(46,con Zhc),(93,con Znq)] [(47,Zii)] [(83,Ze4)])
def Zba (a0 a1 a2:Array Value) (a3:Int):St:=(⟨.a (.r a0 76 []) :: .a (.g a1 35) :: .a (.g a2 35) :: .a (.i .i64 (a3)) :: .a (.w 0) :: .a (.w 1) :: .a (.w 2) :: .a (.u) :: .a (.w 3) :: .a (.w 4) :: .a (.w 16) :: .a (.w 29) :: .a (.w 31) :: .a (.u) :: .a (.g a1 35) :: .a (.p 0 (0) 2) :: .a (.i .i64 (num a0 0)) :: .a (.p 0 (1) 2) :: .a (.i .i64 (num a0 1)) :: .a (.i .i64 (a3)) :: .a (.l 11) :: .a (.i .i64 (a3)) :: .a (.i .i64 (i64.wrap (a3 - (1:Int)))) :: .a (.i .i64 (a3)) :: .a (.g (subV ((recC prog a1 (num a0 0) (num a0 1) a3.toNat).extract (a3.toNat*36) (a3.toNat*36+36)) ((recC prog a1 (num a0 0) (num a0 1) a3.toNat).extract ((i64.wrap (a3 - (1:Int))).toNat*36) ((i64.wrap (a3 - (1:Int))).toNat*36+36)) (12^(a3 - (i64.wrap (a3 - (1:Int)))).toNat)) 51) :: .a (.g a2 35) :: .a (.p 0 (0) 2) :: .a (.i .i64 (num a0 0)) :: .a (.p 0 (1) 2) :: .a (.i .i64 (num a0 1)) :: .a (.i .i64 (a3)) :: .a (.l 24) :: .a (.i .i64 (a3)) :: .a (.i .i64 (i64.wrap (a3 - (1:Int)))) :: .a (.i .i64 (a3)) :: .a (.g (subV ((recC prog a2 (num a0 0) (num a0 1) a3.toNat).extract (a3.toNat*36) (a3.toNat*36+36)) ((recC prog a2 (num a0 0) (num a0 1) a3.toNat).extract ((i64.wrap (a3 - (1:Int))).toNat*36) ((i64.wrap (a3 - (1:Int))).toNat*36+36)) (12^(a3 - (i64.wrap (a3 - (1:Int)))).toNat)) 51) :: .a (.g a1 35) :: .a (.c 83 [35])::us 25 ([]),[.one (.r a0 76 []) 76,.row a1 35,.row a2 35,.row #[.int .i64 (0:Int)] 2,.row #[.int .i64 (0:Int)] 2,.no,.no,.no,.no,.no,.no,.sp,.no,.no,.no,.no,.row (subV ((recC prog a1 (num a0 0) (num a0 1) a3.toNat).extract (a3.toNat*36) (a3.toNat*36+36)) ((recC prog a1 (num a0 0) (num a0 1) a3.toNat).extract ((i64.wrap (a3 - (1:Int))).toNat*36) ((i64.wrap (a3 - (1:Int))).toNat*36+36)) (12^(a3 - (i64.wrap (a3 - (1:Int)))).toNat)) 51,.no,.no,.no,.no,.no,.no,.no,.sp,.no,.no,.no,.no,.row (subV ((recC prog a2 (num a0 0) (num a0 1) a3.toNat).extract (a3.toNat*36) (a3.toNat*36+36)) ((recC prog a2 (num a0 0) (num a0 1) a3.toNat).extract ((i64.wrap (a3 - (1:Int))).toNat*36) ((i64.wrap (a3 - (1:Int))).toNat*36+36)) (12^(a3 - (i64.wrap (a3 - (1:Int)))).toNat)) 51,.no,.row #[.int .i64 (0:Int)] 2,.no,.no,.no,.row a1 35,.no,.no,.no,.no],[11,24,29,16]⟩:St)
def Zc7:Int×Int×Int→BS
 | (r0_4,r0_3,r0_31)=>([.row #[.int .i64 (r0_4)] 2,.row #[.int .i64 (r0_3)] 2,.row #[.int .i64 (r0_31)] 2]:BS)
def Zg7:Int×Int×Int→Exit×BS
 | t=>(.ret,Zc7 t)
def Zay (P:Program) (a0 a1 a2:Array Value) (a3:Int) (x0:Int):Int×Int×Int→Option (Stp (Int×Int×Int) (Int×Int×Int))
  | (r0_4,r0_3,r0_31)=>bif (decide (0≤x0)&&decide (x0<36)) then (bif ((num (subV ((recC prog a1 (num a0 0) (num a0 1) a3.toNat).extract (a3.toNat*36) (a3.toNat*36+36)) ((recC prog a1 (num a0 0) (num a0 1) a3.toNat).extract ((i64.wrap (a3 - (1:Int))).toNat*36) ((i64.wrap (a3 - (1:Int))).toNat*36+36)) (12^(a3 - (i64.wrap (a3 - (1:Int)))).toNat)) ((x0).toNat*1))==(0:Int)) then (some (.more (r0_4,r0_3,r0_31)))
      else (bif (decide (0≤x0)&&decide (x0<36)) then (bif ((num (subV ((recC prog a2 (num a0 0) (num a0 1) a3.toNat).extract (a3.toNat*36) (a3.toNat*36+36)) ((recC prog a2 (num a0 0) (num a0 1) a3.toNat).extract ((i64.wrap (a3 - (1:Int))).toNat*36) ((i64.wrap (a3 - (1:Int))).toNat*36+36)) (12^(a3 - (i64.wrap (a3 - (1:Int)))).toNat)) ((x0).toNat*1))==(0:Int)) then (some (.done ((6:Int),(0:Int),r0_31)))
          else (bif (decide (0≤x0)&&decide (x0<36)) then (bif (decide (0≤x0)&&decide (x0<36)) then (bif decide (1≤(num (subV ((recC prog a1 (num a0 0) (num a0 1) a3.toNat).extract (a3.toNat*36) (a3.toNat*36+36)) ((recC prog a1 (num a0 0) (num a0 1) a3.toNat).extract ((i64.wrap (a3 - (1:Int))).toNat*36) ((i64.wrap (a3 - (1:Int))).toNat*36+36)) (12^(a3 - (i64.wrap (a3 - (1:Int)))).toNat)) ((x0).toNat*1))) then (bif (decide (0≤x0)&&decide (x0<36)) then (bif decide (1≤(num (subV ((recC prog a2 (num a0 0) (num a0 1) a3.toNat).extract (a3.toNat*36) (a3.toNat*36+36)) ((recC prog a2 (num a0 0) (num a0 1) a3.toNat).extract ((i64.wrap (a3 - (1:Int))).toNat*36) ((i64.wrap (a3 - (1:Int))).toNat*36+36)) (12^(a3 - (i64.wrap (a3 - (1:Int)))).toNat)) ((x0).toNat*1))) then (some (.more (r0_4,r0_3,(i64.wrap (r0_31+(i64.wrap ((num (subV ((recC prog a1 (num a0 0) (num a0 1) a3.toNat).extract (a3.toNat*36) (a3.toNat*36+36)) ((recC prog a1 (num a0 0) (num a0 1) a3.toNat).extract ((i64.wrap (a3 - (1:Int))).toNat*36) ((i64.wrap (a3 - (1:Int))).toNat*36+36)) (12^(a3 - (i64.wrap (a3 - (1:Int)))).toNat)) ((x0).toNat*1))*(i64.wrap ((lg (num (subV ((recC prog a1 (num a0 0) (num a0 1) a3.toNat).extract (a3.toNat*36) (a3.toNat*36+36)) ((recC prog a1 (num a0 0) (num a0 1) a3.toNat).extract ((i64.wrap (a3 - (1:Int))).toNat*36) ((i64.wrap (a3 - (1:Int))).toNat*36+36)) (12^(a3 - (i64.wrap (a3 - (1:Int)))).toNat)) ((x0).toNat*1))) - (lg (num (subV ((recC prog a2 (num a0 0) (num a0 1) a3.toNat).extract (a3.toNat*36) (a3.toNat*36+36)) ((recC prog a2 (num a0 0) (num a0 1) a3.toNat).extract ((i64.wrap (a3 - (1:Int))).toNat*36) ((i64.wrap (a3 - (1:Int))).toNat*36+36)) (12^(a3 - (i64.wrap (a3 - (1:Int)))).toNat)) ((x0).toNat*1))))))))))))
                    else (none))
                  else (none))
                else (none))
              else (none))
            else (none)))
        else (none)))
    else (none)
theorem Zq6 (N:Nat) (a0 a1 a2:Array Value) (a3:Int) (x0:Int):∀ t:Int×Int×Int,stepI prog Za1 N (cAt (codeOf Tryd.f55) [1,1,1,1,0,1,0,0]) (pAt (mkPlan (codeOf Tryd.f55) [([],[4,3,31])]).1 [1,1,1,1,0,1,0]) 40 [4,3,31] [38] [(13,38)] (Zba a0 a1 a2 a3) [.i .i64 (x0)] (Zc7 t)=mapS Zc7 Zg7 (Zay prog a0 a1 a2 a3 x0 t):=by
  rintro ⟨r0_4,r0_3,r0_31⟩
  refine Eq.trans (b:=(bif (decide (0≤x0)&&decide (x0<36)) then (bif ((num (subV ((recC prog a1 (num a0 0) (num a0 1) a3.toNat).extract (a3.toNat*36) (a3.toNat*36+36)) ((recC prog a1 (num a0 0) (num a0 1) a3.toNat).extract ((i64.wrap (a3 - (1:Int))).toNat*36) ((i64.wrap (a3 - (1:Int))).toNat*36+36)) (12^(a3 - (i64.wrap (a3 - (1:Int)))).toNat)) ((x0).toNat*1))==(0:Int)) then (some (.more ([.row #[.int .i64 (r0_4)] 2,.row #[.int .i64 (r0_3)] 2,.row #[.int .i64 (r0_31)] 2]:BS)))
      else (bif (decide (0≤x0)&&decide (x0<36)) then (bif ((num (subV ((recC prog a2 (num a0 0) (num a0 1) a3.toNat).extract (a3.toNat*36) (a3.toNat*36+36)) ((recC prog a2 (num a0 0) (num a0 1) a3.toNat).extract ((i64.wrap (a3 - (1:Int))).toNat*36) ((i64.wrap (a3 - (1:Int))).toNat*36+36)) (12^(a3 - (i64.wrap (a3 - (1:Int)))).toNat)) ((x0).toNat*1))==(0:Int)) then (some (.done (.ret,([.row #[.int .i64 (6:Int)] 2,.row #[.int .i64 (0:Int)] 2,.row #[.int .i64 (r0_31)] 2]:BS))))
          else (bif (decide (0≤x0)&&decide (x0<36)) then (bif (decide (0≤x0)&&decide (x0<36)) then (bif decide (1≤(num (subV ((recC prog a1 (num a0 0) (num a0 1) a3.toNat).extract (a3.toNat*36) (a3.toNat*36+36)) ((recC prog a1 (num a0 0) (num a0 1) a3.toNat).extract ((i64.wrap (a3 - (1:Int))).toNat*36) ((i64.wrap (a3 - (1:Int))).toNat*36+36)) (12^(a3 - (i64.wrap (a3 - (1:Int)))).toNat)) ((x0).toNat*1))) then (bif (decide (0≤x0)&&decide (x0<36)) then (bif decide (1≤(num (subV ((recC prog a2 (num a0 0) (num a0 1) a3.toNat).extract (a3.toNat*36) (a3.toNat*36+36)) ((recC prog a2 (num a0 0) (num a0 1) a3.toNat).extract ((i64.wrap (a3 - (1:Int))).toNat*36) ((i64.wrap (a3 - (1:Int))).toNat*36+36)) (12^(a3 - (i64.wrap (a3 - (1:Int)))).toNat)) ((x0).toNat*1))) then (some (.more ([.row #[.int .i64 (r0_4)] 2,.row #[.int .i64 (r0_3)] 2,.row #[.int .i64 (i64.wrap (r0_31+(i64.wrap ((num (subV ((recC prog a1 (num a0 0) (num a0 1) a3.toNat).extract (a3.toNat*36) (a3.toNat*36+36)) ((recC prog a1 (num a0 0) (num a0 1) a3.toNat).extract ((i64.wrap (a3 - (1:Int))).toNat*36) ((i64.wrap (a3 - (1:Int))).toNat*36+36)) (12^(a3 - (i64.wrap (a3 - (1:Int)))).toNat)) ((x0).toNat*1))*(i64.wrap ((lg (num (subV ((recC prog a1 (num a0 0) (num a0 1) a3.toNat).extract (a3.toNat*36) (a3.toNat*36+36)) ((recC prog a1 (num a0 0) (num a0 1) a3.toNat).extract ((i64.wrap (a3 - (1:Int))).toNat*36) ((i64.wrap (a3 - (1:Int))).toNat*36+36)) (12^(a3 - (i64.wrap (a3 - (1:Int)))).toNat)) ((x0).toNat*1))) - (lg (num (subV ((recC prog a2 (num a0 0) (num a0 1) a3.toNat).extract (a3.toNat*36) (a3.toNat*36+36)) ((recC prog a2 (num a0 0) (num a0 1) a3.toNat).extract ((i64.wrap (a3 - (1:Int))).toNat*36) ((i64.wrap (a3 - (1:Int))).toNat*36+36)) (12^(a3 - (i64.wrap (a3 - (1:Int)))).toNat)) ((x0).toNat*1)))))))))] 2]:BS)))
                    else (none))
                  else (none))
                else (none))
              else (none))
            else (none)))
        else (none)))
    else (none))) (by kernel_rfl) ?_
  simp only [Zay,Zav,Zas,Zat,Zau,Zc7,Zg7]
def Zfq (P:Program) (N:Nat) (a0 a1 a2:Array Value) (a3:Int) (q0_4:Int) (q0_3:Int) (q0_31:Int):Option (SV×Eff×Bool):=some (.t [.i .i64 (q0_31),.i .i64 (0:Int)],.none,true)
theorem Zm2 (N:Nat) (a0 a1 a2:Array Value) (a3:Int) (q0_4:Int) (q0_3:Int) (q0_31:Int):(kBlock 0 (kSeq (veC prog Za1 N (cAt (codeOf Tryd.f55) [1,1,1,1,1]) (pAt (mkPlan (codeOf Tryd.f55) [([],[4,3,31])]).1 [1,1,1,1,1]) (SV×Eff×Bool)) (finK prog [] [.cell 8 2,.cell 9 2]))) .normal (leftI [4,3,31] (Zba a0 a1 a2 a3) ([.row #[.int .i64 (q0_4)] 2,.row #[.int .i64 (q0_3)] 2,.row #[.int .i64 (q0_31)] 2]:BS))=Zfq prog N a0 a1 a2 a3 q0_4 q0_3 q0_31:=by
 refine Eq.trans (b:=(some (.t [.i .i64 (q0_31),.i .i64 (0:Int)],.none,true))) (by kernel_rfl) ?_
 rfl
def Zfx (P:Program) (N:Nat) (a0 a1 a2:Array Value) (a3:Int) (q0_4:Int) (q0_3:Int) (q0_31:Int):Option (SV×Eff×Bool):=some (.t [.i .i64 (q0_3),.i .i64 (q0_4)],.none,true)
theorem Zm4 (N:Nat) (a0 a1 a2:Array Value) (a3:Int) (q0_4:Int) (q0_3:Int) (q0_31:Int):(kBlock 0 (kSeq (veC prog Za1 N (cAt (codeOf Tryd.f55) [1,1,1,1,1]) (pAt (mkPlan (codeOf Tryd.f55) [([],[4,3,31])]).1 [1,1,1,1,1]) (SV×Eff×Bool)) (finK prog [] [.cell 8 2,.cell 9 2]))) .ret (leftI [4,3,31] (Zba a0 a1 a2 a3) ([.row #[.int .i64 (q0_4)] 2,.row #[.int .i64 (q0_3)] 2,.row #[.int .i64 (q0_31)] 2]:BS))=Zfx prog N a0 a1 a2 a3 q0_4 q0_3 q0_31:=by
 refine Eq.trans (b:=(some (.t [.i .i64 (q0_3),.i .i64 (q0_4)],.none,true))) (by kernel_rfl) ?_
 rfl
theorem Zp5 (N:Nat) (a0 a1 a2:Array Value) (a3:Int):bindI (foldI (fun (x0:Int) (hb:BS)=>stepI prog Za1 N (cAt (codeOf Tryd.f55) [1,1,1,1,0,1,0,0]) (pAt (mkPlan (codeOf Tryd.f55) [([],[4,3,31])]).1 [1,1,1,1,0,1,0]) 40 [4,3,31] [38] [(13,38)] (Zba a0 a1 a2 a3) [.i .i64 (x0)] hb) ((cellsL (num a1 0) (num a1 1) 36).filter (Zac a1)) ([.row #[.int .i64 (0:Int)] 2,.row #[.int .i64 (0:Int)] 2,.row #[.int .i64 (0:Int)] 2]:BS)) (fun hb=>(kBlock 0 (kSeq (veC prog Za1 N (cAt (codeOf Tryd.f55) [1,1,1,1,1]) (pAt (mkPlan (codeOf Tryd.f55) [([],[4,3,31])]).1 [1,1,1,1,1]) (SV×Eff×Bool)) (finK prog [] [.cell 8 2,.cell 9 2]))) .normal (leftI [4,3,31] (Zba a0 a1 a2 a3) hb)) (fun e hb=>(kBlock 0 (kSeq (veC prog Za1 N (cAt (codeOf Tryd.f55) [1,1,1,1,1]) (pAt (mkPlan (codeOf Tryd.f55) [([],[4,3,31])]).1 [1,1,1,1,1]) (SV×Eff×Bool)) (finK prog [] [.cell 8 2,.cell 9 2]))) e (leftI [4,3,31] (Zba a0 a1 a2 a3) hb))=nodeI (foldI (Zay prog a0 a1 a2 a3) ((cellsL (num a1 0) (num a1 1) 36).filter (Zac a1)) ((0:Int),(0:Int),(0:Int))) (fun x=>Zfq prog N a0 a1 a2 a3 x.1 x.2.1 x.2.2) (fun x=>Zfx prog N a0 a1 a2 a3 x.1 x.2.1 x.2.2):=by
 refine Zv6 Zc7 Zg7 _ _ (fun y t=>Zq6 N a0 a1 a2 a3 y t) _ ((0:Int),(0:Int),(0:Int)) _ _ _ _ ?_ ?_
 ·intro x;exact Zm2 N a0 a1 a2 a3 x.1 x.2.1 x.2.2
 ·skip
  intro x;exact Zm4 N a0 a1 a2 a3 x.1 x.2.1 x.2.2
theorem Zpj (N:Nat) (a0 a1 a2:Array Value) (a3:Int):ansV prog Za1 N Tryd.f55 [([],[4,3,31])] [.r a0 76 [],.g a1 35,.g a2 35,.i .i64 (a3)] []=(bif (okS a1&&((Zab (num a0 0) a1&&Zaa (num a0 1) 0 1)&&Zaa a3 0 14)) then (bif ((decide (0≤(i64.wrap (a3 - (1:Int))))&&decide ((i64.wrap (a3 - (1:Int)))≤a3))&&(decide (a3≤(i64.wrap (a3 - (1:Int)))+14)&&decide (a3<(((a3.toNat+1)):Int)))) then (bif (okS a2&&((Zab (num a0 0) a2&&Zaa (num a0 1) 0 1)&&Zaa a3 0 14)) then (bif ((decide (0≤(i64.wrap (a3 - (1:Int))))&&decide ((i64.wrap (a3 - (1:Int)))≤a3))&&(decide (a3≤(i64.wrap (a3 - (1:Int)))+14)&&decide (a3<(((a3.toNat+1)):Int)))) then (bif (decide (0≤num a1 0)&&decide (num a1 0≤6)&&(decide (0≤num a1 1)&&decide (num a1 1≤6))) then (nodeI (foldI (Zay prog a0 a1 a2 a3) ((cellsL (num a1 0) (num a1 1) 36).filter (Zac a1)) ((0:Int),(0:Int),(0:Int))) (fun x=>Zfq prog N a0 a1 a2 a3 x.1 x.2.1 x.2.2) (fun x=>Zfx prog N a0 a1 a2 a3 x.1 x.2.1 x.2.2))
      else (none))
     else (none))
    else (none))
   else (none))
  else (none)):=by
 refine Eq.trans (b:=(bif (okS a1&&((Zab (num a0 0) a1&&Zaa (num a0 1) 0 1)&&Zaa a3 0 14)) then (bif ((decide (0≤(i64.wrap (a3 - (1:Int))))&&decide ((i64.wrap (a3 - (1:Int)))≤a3))&&(decide (a3≤(i64.wrap (a3 - (1:Int)))+14)&&decide (a3<(((a3.toNat+1)):Int)))) then (bif (okS a2&&((Zab (num a0 0) a2&&Zaa (num a0 1) 0 1)&&Zaa a3 0 14)) then (bif ((decide (0≤(i64.wrap (a3 - (1:Int))))&&decide ((i64.wrap (a3 - (1:Int)))≤a3))&&(decide (a3≤(i64.wrap (a3 - (1:Int)))+14)&&decide (a3<(((a3.toNat+1)):Int)))) then (bif (decide (0≤num a1 0)&&decide (num a1 0≤6)&&(decide (0≤num a1 1)&&decide (num a1 1≤6))) then (bindI (foldI (fun (x0:Int) (hb:BS)=>stepI prog Za1 N (cAt (codeOf Tryd.f55) [1,1,1,1,0,1,0,0]) (pAt (mkPlan (codeOf Tryd.f55) [([],[4,3,31])]).1 [1,1,1,1,0,1,0]) 40 [4,3,31] [38] [(13,38)] (Zba a0 a1 a2 a3) [.i .i64 (x0)] hb) ((cellsL (num a1 0) (num a1 1) 36).filter (Zac a1)) ([.row #[.int .i64 (0:Int)] 2,.row #[.int .i64 (0:Int)] 2,.row #[.int .i64 (0:Int)] 2]:BS)) (fun hb=>(kBlock 0 (kSeq (veC prog Za1 N (cAt (codeOf Tryd.f55) [1,1,1,1,1]) (pAt (mkPlan (codeOf Tryd.f55) [([],[4,3,31])]).1 [1,1,1,1,1]) (SV×Eff×Bool)) (finK prog [] [.cell 8 2,.cell 9 2]))) .normal (leftI [4,3,31] (Zba a0 a1 a2 a3) hb)) (fun e hb=>(kBlock 0 (kSeq (veC prog Za1 N (cAt (codeOf Tryd.f55) [1,1,1,1,1]) (pAt (mkPlan (codeOf Tryd.f55) [([],[4,3,31])]).1 [1,1,1,1,1]) (SV×Eff×Bool)) (finK prog [] [.cell 8 2,.cell 9 2]))) e (leftI [4,3,31] (Zba a0 a1 a2 a3) hb)))
      else (none))
     else (none))
    else (none))
   else (none))
  else (none))) (by kernel_rfl) ?_
 simp only [Zp5 N a0 a1 a2 a3]
theorem Zon (a0 a1 a2:Array Value) (a3:Int) (h_a0:WT prog 76 a0) (h_a1:WT prog 35 a1) (h_a2:WT prog 35 a2) (h_a3:i64.min≤a3∧a3≤i64.max) (hg:((okS a1&&(okS a2&&(Zab (num a0 0) a1&&(Zab (num a0 0) a2&&(Zaa (num a0 1) 0 1&&Zaa a3 1 14))))))=true):ansV prog Za1 1000 Tryd.f55 [([],[4,3,31])] [.r a0 76 [],.g a1 35,.g a2 35,.i .i64 (a3)] []=some (.t [.i .i64 (gN prog a1 a2 (num a0 0) (num a0 1) a3.toNat),.i .i64 (bif gB prog a1 a2 (num a0 0) (num a0 1) a3.toNat then 0 else 6)],.none,true):=by
 simp only [Bool.and_eq_true] at hg
 obtain ⟨o0,o1,i0,i1,t0,f0⟩:=hg
 obtain ⟨f1,f2⟩:=Zgv f0
 obtain ⟨m,rfl⟩:=Int.eq_ofNat_of_zero_le (show 0≤a3 by omega)
 refine (Zpj 1000 a0 a1 a2 (m:Int)).trans ?_
 have e1:i64.wrap ((m:Int) - 1)=((m - 1:Nat):Int):=by rw [w64 (by omega)];omega
 have g2:decide ((m:Int)<(m:Int)+1)=true:=decide_eq_true (by omega)
 have g3:decide (0≤((m - 1:Nat):Int))=true:=decide_eq_true (by omega)
 have g4:decide (((m - 1:Nat):Int)≤(m:Int))=true:=decide_eq_true (by omega)
 have g5:decide ((m:Int)≤((m - 1:Nat):Int)+14)=true:=decide_eq_true (by omega)
 have g6:((m:Int) - ((m - 1:Nat):Int)).toNat=1:=by omega
 have g7:(12:Int)^1=12:=by decide
 simp only [o0,o1,i0,i1,t0,in_of (x:=(m:Int)) (a:=0) (b:=14) (by omega),e1,g2,g3,g4,g5,Bool.and_self,cond_true,Int.toNat_natCast]
 rw [Yfk o0,cond_true]
 have iX:=fun (k:Nat) (hk:k<36)=>Zqb h_a1 o0 i0 t0 (k:=k) (n:=m) hk (by omega)
 have iY:=fun (k:Nat) (hk:k<36)=>Zqb h_a2 o1 i1 t0 (k:=k) (n:=m) hk (by omega)
 have eX:subV (byV prog a1 (num a0 0) (num a0 1) m) (byV prog a1 (num a0 0) (num a0 1) (m - 1)) 12=inH prog a1 (num a0 0) (num a0 1) m:=rfl
 have eY:subV (byV prog a2 (num a0 0) (num a0 1) m) (byV prog a2 (num a0 0) (num a0 1) (m - 1)) 12=inH prog a2 (num a0 0) (num a0 1) m:=rfl
 unfold gN gB
 generalize inH prog a1 (num a0 0) (num a0 1) m=X at iX eX⊢
 generalize inH prog a2 (num a0 0) (num a0 1) m=Y at iY eY⊢
 have hX:∀ k,k<36→0≤num X k:=fun k hk=>(iX k hk).2.1
 have hY:∀ k,k<36→0≤num Y k:=fun k hk=>(iY k hk).2.1
 have rX:=Yba a1 (num a0 0) (num a0 1) m m (Nat.le_refl _)
 have rX':=Yba a1 (num a0 0) (num a0 1) m (m - 1) (by omega)
 have rY:=Yba a2 (num a0 0) (num a0 1) m m (Nat.le_refl _)
 have rY':=Yba a2 (num a0 0) (num a0 1) m (m - 1) (by omega)
 have l:=Yla (g:=Zay prog a0 a1 a2 (m:Int)) (wd:=num a1 0) (hi:=num a1 1) (q:=Zac a1) (fun k=>((0:Int),(0:Int),folds (gnF X Y) 0 k)) (gnP X Y) (fun k=>((6:Int),(0:Int),folds (gnF X Y) 0 k)) (fun k hk _ _ hp=>by
   have h1:decide ((k:Int)<36)=true:=decide_eq_true (by omega)
   have h0:decide (0≤(k:Int))=true:=decide_eq_true (by omega)
   have h3:i64.wrap ((k:Int)+1)=((k+1:Nat):Int):=by rw [w64 (by omega)];omega
   have ef:folds (gnF X Y) 0 (k+1)=gnF X Y (folds (gnF X Y) 0 k) k:=Zd4 _ _ _
   show Zay prog a0 a1 a2 (m:Int) (k:Int) ((0:Int),(0:Int),folds (gnF X Y) 0 k)=some (.more ((0:Int),(0:Int),folds (gnF X Y) 0 (k+1)))
   rw [ef]
   generalize folds (gnF X Y) 0 k=s
   cases hx:(num X k==(0:Int)) with
   | true=>simp only [Zay,h1,h0,h3,e1,g6,g7,rX,rX',rY,rY',eX,eY,Int.toNat_natCast,Nat.mul_one,hx,Bool.and_self,cond_true,cond_false,gnF]
   | false=>
    have hy:(num Y k==(0:Int))=false:=by unfold gnP at hp;rw [hx] at hp;simpa using hp
    have l1:=Ydu (hX k hk) hx
    have l2:=Ydu (hY k hk) hy
    simp only [Zay,h1,h0,h3,e1,g6,g7,rX,rX',rY,rY',eX,eY,Int.toNat_natCast,Nat.mul_one,hx,hy,l1,l2,Bool.and_self,cond_true,cond_false,gnF]) (fun k hk hq=>by
   have z:(num X k==(0:Int))=true:=by rw [(iX k hk).2.2.2 hq];rfl
   have ef:folds (gnF X Y) 0 (k+1)=gnF X Y (folds (gnF X Y) 0 k) k:=Zd4 _ _ _
   refine ⟨by unfold gnP;rw [z];rfl, ?_⟩
   show ((0:Int),(0:Int),folds (gnF X Y) 0 (k+1))=((0:Int),(0:Int),folds (gnF X Y) 0 k)
   rw [ef]
   unfold gnF
   rw [z]
   rfl) (fun k hk _ _ hp=>by
   have h1:decide ((k:Int)<36)=true:=decide_eq_true (by omega)
   have h0:decide (0≤(k:Int))=true:=decide_eq_true (by omega)
   have hp2:(!(num X k==(0:Int))&&(num Y k==(0:Int)))=true:=hp
   rw [Bool.and_eq_true] at hp2
   obtain ⟨hx,hy⟩:=hp2
   have hx:(num X k==(0:Int))=false:=by simpa using hx
   show Zay prog a0 a1 a2 (m:Int) (k:Int) ((0:Int),(0:Int),folds (gnF X Y) 0 k)=some (.done ((6:Int),(0:Int),folds (gnF X Y) 0 k))
   generalize folds (gnF X Y) 0 k=s
   simp only [Zay,h1,h0,e1,g6,g7,rX,rX',rY,rY',eX,eY,Int.toNat_natCast,Nat.mul_one,hx,hy,Bool.and_self,cond_true,cond_false])
 have l':foldI (Zay prog a0 a1 a2 (m:Int)) ((cellsL (num a1 0) (num a1 1) 36).filter (Zac a1)) ((0:Int),(0:Int),(0:Int))=some (match (List.range 36).find? (gnP X Y) with | some k=>.done ((6:Int),(0:Int),folds (gnF X Y) 0 k) | none=>.more ((0:Int),(0:Int),folds (gnF X Y) 0 36)):=l
 rw [l']
 unfold gnN gnB
 cases (List.range 36).find? (gnP X Y)<;>rfl
def Zed:Con:=fun args h=>match args,h with
 | [.r a0 76 [],.g a1 35,.g a2 35,.i .i64 a3],[]=>some (.t [.i .i64 (gN prog a1 a2 (num a0 0) (num a0 1) a3.toNat),.i .i64 (bif gB prog a1 a2 (num a0 0) (num a0 1) a3.toNat then 0 else 6)],.none,(okS a1&&(okS a2&&(Zab (num a0 0) a1&&(Zab (num a0 0) a2&&(Zaa (num a0 1) 0 1&&Zaa a3 1 14))))))
 | _,_=>none
theorem Zi1:EntX prog 55:=Zai (fn:=Tryd.f55) (by kernel_rfl) (by kernel_rfl) (by kernel_rfl)
theorem Zkx:ConOkX (md F) prog 55 Zed:=(Zaj (N:=1000) (by kernel_rfl) (mkΓx_cX (Zad Zy6) Ztk (mkΓx_cX (Zad Zry) Zo4 (mkΓx_cX (Zad Yfc) Zzb (mkΓx_nX Zn7 Zl4 (mkΓx_iX Zmh Zkw mkΓx_nilX))))) (fn:=Tryd.f55) (by kernel_rfl) (by kernel_rfl) [([],[4,3,31])]).of (by
 intro ρ h w args vals r e hA hH hr
 unfold Zed at hr
 split at hr
 ·rename_i a0 a1 a2 a3
  obtain ⟨rfl,hg⟩:=Prod.mk.inj (Option.some.inj hr)
  obtain ⟨rfl,hg2⟩:=Prod.mk.inj hg
  exact Zon a0 a1 a2 a3 (hA.wtr 0 rfl) (hA.wt 1 rfl) (hA.wt 2 rfl) (hA.rng 3 rfl) hg2
 ·cases hr)
end
end Go.Proofs.YtdofpgniogochaaDoor
