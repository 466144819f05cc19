/- The score of finds: both sides. -/
import Derived.Test.YtdfefaanfiheoaaGreatDoorProg
import Derived.Test.YtdfefaanfiheoaaGreatDoorCuC
namespace Go.Proofs.YtdfefaanfiheoaaGreatDoor
open Go.ChangeShapes Go.WideShapes Go.ChangeAt Go.RowKit Ve Vc
open Tryz renaming prog → PZ
open IntKind (i64)
set_option linter.unusedVariables false
set_option linter.unusedSimpArgs false
set_option maxRecDepth 100000
noncomputable section
variable {F:Vc.Fd}
def Zu2:Cons:=(mkΓ [(59,con Znt),(60,con Zmk)])
theorem Ydd (N:Nat) (a1 a2:Int) (a3 a0:Array Value):ansV PZ Zu2 N Tryz.f41 [] [.w 0,.i .i64 (a1),.i .i64 (a2),.g a3 70] [.row a0 37]=(bif (okS a0&&((Zab a1 a0&&Zaa a2 0 1)&&Zaa (i64.wrap (num a3 1)) 1 14)) then (bif (decide (0≤(num a3 0))&&decide ((num a3 0)<36)) then (bif ((num (subV (byV PZ a0 a1 a2 (i64.wrap (num a3 1)).toNat) (byV PZ a0 a1 a2 ((i64.wrap (num a3 1)).toNat - 1)) 12) ((num a3 0).toNat*1))==(0:Int)) then (some (.t [.i .i64 (0:Int),.b (false)],.none,true))
        else (bif (decide (0≤(num a3 0))&&decide ((num a3 0)<36)) then (bif decide (1≤(num (subV (byV PZ a0 a1 a2 (i64.wrap (num a3 1)).toNat) (byV PZ a0 a1 a2 ((i64.wrap (num a3 1)).toNat - 1)) 12) ((num a3 0).toNat*1))) then (bif decide (1≤(12:Int)) then (some (.t [.i .i64 (i64.wrap ((lg (num (subV (byV PZ a0 a1 a2 (i64.wrap (num a3 1)).toNat) (byV PZ a0 a1 a2 ((i64.wrap (num a3 1)).toNat - 1)) 12) ((num a3 0).toNat*1))) - (i64.wrap ((i64.wrap (num a3 1))*(lg (12:Int)))))),.b (true)],.none,true))
              else (none))
            else (none))
          else (none)))
      else (none))
    else (none)):=by kernel_rfl
theorem Yao (a1 a2:Int) (a3 a0:Array Value) (h_a1:i64.min≤a1∧a1≤i64.max) (h_a2:i64.min≤a2∧a2≤i64.max) (h_a3:WT PZ 70 a3) (h_a0:WT PZ 37 a0) (hg:(((okS a0&&(Zab a1 a0&&Zaa a2 0 1))&&(Zaa (num a3 1) 1 14&&(decide (0≤num a3 0)&&decide (num a3 0<36)))))=true):ansV PZ Zu2 1000 Tryz.f41 [] [.w 0,.i .i64 (a1),.i .i64 (a2),.g a3 70] [.row a0 37]=some (.t [.i .i64 (bif ((num (inH PZ a0 a1 a2 (num a3 1).toNat) (num a3 0).toNat)==(0:Int)) then 0 else scN (num (inH PZ a0 a1 a2 (num a3 1).toNat) (num a3 0).toNat) (num a3 1)),.b ((!((num (inH PZ a0 a1 a2 (num a3 1).toNat) (num a3 0).toNat)==(0:Int))))],.none,true):=by
 obtain ⟨z,e0,e1,_,_⟩:=Zru h_a3
 simp only [Q7,decide_eq_true_eq] at hg
 obtain ⟨⟨o0,i0,t0⟩,q3,q4,q5⟩:=hg
 have r3:=Zim q3
 have hp:=(Yp5 h_a0 o0 i0 t0 (k:=(num a3 0).toNat) (n:=(num a3 1).toNat) (by omega) (by omega)).2.1
 have eI:subV (byV PZ a0 a1 a2 (num a3 1).toNat) (byV PZ a0 a1 a2 ((num a3 1).toNat - 1)) 12=inH PZ a0 a1 a2 (num a3 1).toNat:=rfl
 refine (Ydd 1000 a1 a2 a3 a0).trans ?_
 simp only [e1,o0,i0,t0,q3,Q3 q4,Q3 q5,Nat.mul_one,Bool.and_self,Q1]
 try rw [eI]
 generalize (num (inH PZ a0 a1 a2 (num a3 1).toNat) (num a3 0).toNat)=p at hp⊢
 cases h0:(p==(0:Int)) with
 | true=>rfl
 | false=>
  have h1:=one_le hp h0
  simp only [h1,Q1,Q2,Bool.not_false]
  rfl
def Zbm:Con:=fun args h=>match args,h with
 | [.w 0,.i .i64 a1,.i .i64 a2,.g a3 70],[.row a0 37]=>some (.t [.i .i64 (bif ((num (inH PZ a0 a1 a2 (num a3 1).toNat) (num a3 0).toNat)==(0:Int)) then 0 else scN (num (inH PZ a0 a1 a2 (num a3 1).toNat) (num a3 0).toNat) (num a3 1)),.b ((!((num (inH PZ a0 a1 a2 (num a3 1).toNat) (num a3 0).toNat)==(0:Int))))],.none,((okS a0&&(Zab a1 a0&&Zaa a2 0 1))&&(Zaa (num a3 1) 1 14&&(decide (0≤num a3 0)&&decide (num a3 0<36)))))
 | _,_=>none
theorem Zy9:EntX PZ 41:=Zah (fn:=Tryz.f41) (by kernel_rfl) (by kernel_rfl) (by kernel_rfl)
theorem Yfe:Uac (md F) PZ 41 Zbm:=(Zai (N:=1000) (by kernel_rfl) (mkΓ_consX (Zae Yg9) Ya4 (mkΓ_consX (Zae Yes) Zyc mkΓ_nilX)) (fn:=Tryz.f41) (by kernel_rfl) (by kernel_rfl) []).of (by
 intro ρ h w args vals r e hA hH hr
 unfold Zbm at hr
 split at hr
 ·rename_i a1 a2 a3 a0
  obtain ⟨rfl,rfl,hg2⟩:=BQi hr
  exact Yao a1 a2 a3 a0 (hA.rng 1 rfl) (hA.rng 2 rfl) (hA.wt 3 rfl) (hH.wt 0 rfl) hg2
 ·cases hr)
theorem finS_in (S:Array Value) (c b:Int) (D:Array Value):∀ n,i64.min≤finS PZ S c b D n∧finS PZ S c b D n≤i64.max
 | 0=>by
  have e:finS PZ S c b D 0=0:=rfl
  rw [e];exact Yk4 .i64
 | n+1=>by
  have e:finS PZ S c b D (n+1)=finF PZ S c b D (finS PZ S c b D n) n:=Zcr _ _ _
  rw [e]
  exact Zfh .i64 _
theorem Yoa (z:Bool) (n:Int):toldV (scV z n)=(bif z then 0 else n)∧toldC (scV z n)=(bif z then 6 else 0):=by cases z<;>exact ⟨rfl,rfl⟩
theorem ev_num (a b:Int):num (#[.int .i64 a,.int .i64 b,.slice none 0 0]:Array Value) 0=a∧num (#[.int .i64 a,.int .i64 b,.slice none 0 0]:Array Value) 1=b:=⟨rfl,rfl⟩
def lisC (S:Array Value) (n:Nat) (D:Array Value) (c b:Int):Int:=bif vf S n D then Za5 c b true S else 1
theorem Yla {S D:Array Value} {n:Nat} {c b:Int} (h:(lisC S n D c b != (0:Int))=false):vf S n D=true∧okS S=true∧Zab c S=true∧Zaa b 0 1=true:=by
 unfold lisC at h
 cases hv:vf S n D with
 | false=>
  rw [hv,Q2] at h
  exact absurd h (by decide)
 | true=>
  rw [hv,Q1] at h
  obtain ⟨h1,h2,h3,_,_⟩:=Yp0 h
  exact ⟨rfl,h1,h2,h3⟩
def Zdk (a1 a2:Int) (a0:Array Value) (b_a3:Option (Option Addr)) (n_a3:Nat) (a3:Array Value):St:=(⟨.a (.w 0) :: .a (.i .i64 (a1)) :: .a (.i .i64 (a2)) :: .a (.l 1)::us 4 (.a (.i .i64 (0:Int)) :: .a (.b (false)) :: .a (.i .i64 (0:Int)) :: .a (.i .i64 (0:Int))::us 25 ([])),[.row a0 37,.sl (.came b_a3) n_a3 a3 70],[]⟩:St)
def Zet:Int×Bool×Int×Int→LS
 | (y0_8,y0_9,y0_10,y0_11)=>([.a (.i .i64 (y0_8)),.a (.b (y0_9)),.a (.i .i64 (y0_10)),.a (.i .i64 (y0_11))],[])
def Zlt:(Stp (Int×Bool×Int×Int) (Int×Bool×Int×Int))→Exit×LS
 | .more t=>(.ret,Zet t)
 | .done t=>((.exit 0),Zet t)
def Zb7 (P : Program) (a1 a2 : Int) (a0 : Array Value) (b_a3 : Option (Option Addr)) (n_a3 : Nat) (a3 : Array Value) : Int × Bool × Int × Int → Option (Stp (Int × Bool × Int × Int) (Stp (Int × Bool × Int × Int) (Int × Bool × Int × Int)))
 | (y0_8, y0_9, y0_10, y0_11) => bif decide (y0_11 < (n_a3 : Int)) then (bif (decide (0 ≤ y0_11) && decide (y0_11 < (n_a3 : Int))) then (bif ((okS a0 && (Zab a1 a0 && Zaa a2 0 1)) && (Zaa (num (a3.extract ((y0_11).toNat * 2) (((y0_11).toNat * 2) + 2)) 1) 1 14 && (decide (0 ≤ num (a3.extract ((y0_11).toNat * 2) (((y0_11).toNat * 2) + 2)) 0) && decide (num (a3.extract ((y0_11).toNat * 2) (((y0_11).toNat * 2) + 2)) 0 < 36)))) then (bif (!((!((num (inH PZ a0 a1 a2 (num (a3.extract ((y0_11).toNat * 2) (((y0_11).toNat * 2) + 2)) 1).toNat) (num (a3.extract ((y0_11).toNat * 2) (((y0_11).toNat * 2) + 2)) 0).toNat) == (0 : Int))))) then (some (.done (.more ((0 : Int), false, y0_10, y0_11))))
     else (some (.more (y0_8, y0_9, (i64.wrap (y0_10 + (bif ((num (inH PZ a0 a1 a2 (num (a3.extract ((y0_11).toNat * 2) (((y0_11).toNat * 2) + 2)) 1).toNat) (num (a3.extract ((y0_11).toNat * 2) (((y0_11).toNat * 2) + 2)) 0).toNat) == (0 : Int)) then 0 else scN (num (inH PZ a0 a1 a2 (num (a3.extract ((y0_11).toNat * 2) (((y0_11).toNat * 2) + 2)) 1).toNat) (num (a3.extract ((y0_11).toNat * 2) (((y0_11).toNat * 2) + 2)) 0).toNat) (num (a3.extract ((y0_11).toNat * 2) (((y0_11).toNat * 2) + 2)) 1)))), (i64.wrap (y0_11 + (1 : Int)))))))
    else (none))
   else (none))
  else (some (.done (.done (y0_8, y0_9, y0_10, y0_11))))
theorem Ybp (N:Nat) (a1 a2:Int) (a0:Array Value) (b_a3:Option (Option Addr)) (n_a3:Nat) (a3:Array Value):∀ t:Int×Bool×Int×Int,Uag PZ (mkΓ [(41,con Zbm)]) N (cAt (codeOf Tryz.f35) [1,1,0,1,0,0]) (pAt (Uaa (codeOf Tryz.f35) [([8,9,10,11],[])]).1 [1,1,0,1,0]) [8,9,10,11] [] (Zdk a1 a2 a0 b_a3 n_a3 a3) (Zet t)=mapS Zet Zlt (Zb7 PZ a1 a2 a0 b_a3 n_a3 a3 t):=by
 rintro ⟨y0_8,y0_9,y0_10,y0_11⟩
 refine Eq.trans (b:=(bif decide (y0_11<(n_a3:Int)) then (bif (decide (0≤y0_11)&&decide (y0_11<(n_a3:Int))) then (bif ((okS a0&&(Zab a1 a0&&Zaa a2 0 1))&&(Zaa (num (a3.extract ((y0_11).toNat*2) (((y0_11).toNat*2)+2)) 1) 1 14&&(decide (0≤num (a3.extract ((y0_11).toNat*2) (((y0_11).toNat*2)+2)) 0)&&decide (num (a3.extract ((y0_11).toNat*2) (((y0_11).toNat*2)+2)) 0<36)))) then (bif (!((!((num (inH PZ a0 a1 a2 (num (a3.extract ((y0_11).toNat*2) (((y0_11).toNat*2)+2)) 1).toNat) (num (a3.extract ((y0_11).toNat*2) (((y0_11).toNat*2)+2)) 0).toNat)==(0:Int))))) then (some (.done (.ret,([.a (.i .i64 (0:Int)),.a (.b (false)),.a (.i .i64 (y0_10)),.a (.i .i64 (y0_11))],[]))))
     else (some (.more ([.a (.i .i64 (y0_8)),.a (.b (y0_9)),.a (.i .i64 (i64.wrap (y0_10+(bif ((num (inH PZ a0 a1 a2 (num (a3.extract ((y0_11).toNat*2) (((y0_11).toNat*2)+2)) 1).toNat) (num (a3.extract ((y0_11).toNat*2) (((y0_11).toNat*2)+2)) 0).toNat)==(0:Int)) then 0 else scN (num (inH PZ a0 a1 a2 (num (a3.extract ((y0_11).toNat*2) (((y0_11).toNat*2)+2)) 1).toNat) (num (a3.extract ((y0_11).toNat*2) (((y0_11).toNat*2)+2)) 0).toNat) (num (a3.extract ((y0_11).toNat*2) (((y0_11).toNat*2)+2)) 1))))),.a (.i .i64 (i64.wrap (y0_11+(1:Int))))],[]))))
    else (none))
   else (none))
  else (some (.done ((.exit 0),([.a (.i .i64 (y0_8)),.a (.b (y0_9)),.a (.i .i64 (y0_10)),.a (.i .i64 (y0_11))],[])))))) (by kernel_rfl) ?_
 simp only [Zb7,Zas,Zat,Zar,Zaq,Zet,Zlt]
def Zi7 (P:Program) (N:Nat) (a1 a2:Int) (a0:Array Value) (b_a3:Option (Option Addr)) (n_a3:Nat) (a3:Array Value) (z0_8:Int) (z0_9:Bool) (z0_10:Int) (z0_11:Int):Option (SV×Eff×Bool):=some (.t [.i .i64 (z0_8),.b (z0_9)],.none,true)
theorem Zrj (N:Nat) (a1 a2:Int) (a0:Array Value) (b_a3:Option (Option Addr)) (n_a3:Nat) (a3:Array Value) (z0_8:Int) (z0_9:Bool) (z0_10:Int) (z0_11:Int):(Uad 0 (kSeq (veC PZ (mkΓ [(41,con Zbm)]) N (cAt (codeOf Tryz.f35) [1,1,1]) (pAt (Uaa (codeOf Tryz.f35) [([8,9,10,11],[])]).1 [1,1,1]) (SV×Eff×Bool)) (finK PZ [.row a0 37,.sl (.came b_a3) n_a3 a3 70] [.tmp 8,.tmp 9]))) .ret (left (writes (cAt (codeOf Tryz.f35) [1,1,0,1,0,0])) [8,9,10,11] [] (Zdk a1 a2 a0 b_a3 n_a3 a3) ([.a (.i .i64 (z0_8)),.a (.b (z0_9)),.a (.i .i64 (z0_10)),.a (.i .i64 (z0_11))],[]))=Zi7 PZ N a1 a2 a0 b_a3 n_a3 a3 z0_8 z0_9 z0_10 z0_11:=by
 refine Eq.trans (b:=(some (.t [.i .i64 (z0_8),.b (z0_9)],.none,true))) (by kernel_rfl) ?_
 rfl
def Zj1 (P:Program) (N:Nat) (a1 a2:Int) (a0:Array Value) (b_a3:Option (Option Addr)) (n_a3:Nat) (a3:Array Value) (z0_8:Int) (z0_9:Bool) (z0_10:Int) (z0_11:Int):Option (SV×Eff×Bool):=some (.t [.i .i64 (z0_10),.b (true)],.none,true)
theorem Zqf (N:Nat) (a1 a2:Int) (a0:Array Value) (b_a3:Option (Option Addr)) (n_a3:Nat) (a3:Array Value) (z0_8:Int) (z0_9:Bool) (z0_10:Int) (z0_11:Int):(Uad 0 (kSeq (veC PZ (mkΓ [(41,con Zbm)]) N (cAt (codeOf Tryz.f35) [1,1,1]) (pAt (Uaa (codeOf Tryz.f35) [([8,9,10,11],[])]).1 [1,1,1]) (SV×Eff×Bool)) (finK PZ [.row a0 37,.sl (.came b_a3) n_a3 a3 70] [.tmp 8,.tmp 9]))) (.exit 0) (left (writes (cAt (codeOf Tryz.f35) [1,1,0,1,0,0])) [8,9,10,11] [] (Zdk a1 a2 a0 b_a3 n_a3 a3) ([.a (.i .i64 (z0_8)),.a (.b (z0_9)),.a (.i .i64 (z0_10)),.a (.i .i64 (z0_11))],[]))=Zj1 PZ N a1 a2 a0 b_a3 n_a3 a3 z0_8 z0_9 z0_10 z0_11:=by
 refine Eq.trans (b:=(some (.t [.i .i64 (z0_10),.b (true)],.none,true))) (by kernel_rfl) ?_
 rfl
theorem Zzy (N:Nat) (a1 a2:Int) (a0:Array Value) (b_a3:Option (Option Addr)) (n_a3:Nat) (a3:Array Value):Uah (Uab (Uag PZ (mkΓ [(41,con Zbm)]) N (cAt (codeOf Tryz.f35) [1,1,0,1,0,0]) (pAt (Uaa (codeOf Tryz.f35) [([8,9,10,11],[])]).1 [1,1,0,1,0]) [8,9,10,11] [] (Zdk a1 a2 a0 b_a3 n_a3 a3)) N ([.a (.i .i64 (0:Int)),.a (.b (false)),.a (.i .i64 (0:Int)),.a (.i .i64 (0:Int))],[])) (fun e s=>(Uad 0 (kSeq (veC PZ (mkΓ [(41,con Zbm)]) N (cAt (codeOf Tryz.f35) [1,1,1]) (pAt (Uaa (codeOf Tryz.f35) [([8,9,10,11],[])]).1 [1,1,1]) (SV×Eff×Bool)) (finK PZ [.row a0 37,.sl (.came b_a3) n_a3 a3 70] [.tmp 8,.tmp 9]))) e (left (writes (cAt (codeOf Tryz.f35) [1,1,0,1,0,0])) [8,9,10,11] [] (Zdk a1 a2 a0 b_a3 n_a3 a3) s))=Uai (Uab (Zb7 PZ a1 a2 a0 b_a3 n_a3 a3) N ((0:Int),false,(0:Int),(0:Int))) (st2 (fun x=>Zi7 PZ N a1 a2 a0 b_a3 n_a3 a3 x.1 x.2.1 x.2.2.1 x.2.2.2) (fun x=>Zj1 PZ N a1 a2 a0 b_a3 n_a3 a3 x.1 x.2.1 x.2.2.1 x.2.2.2)):=by
 refine Zav Zet Zlt _ _ (Ybp N a1 a2 a0 b_a3 n_a3 a3) N ((0:Int),false,(0:Int),(0:Int)) _ _ ?_
 intro x
 cases x with
 | more x=>exact Zrj N a1 a2 a0 b_a3 n_a3 a3 x.1 x.2.1 x.2.2.1 x.2.2.2
 | done x=>exact Zqf N a1 a2 a0 b_a3 n_a3 a3 x.1 x.2.1 x.2.2.1 x.2.2.2
theorem Zx5 (N:Nat) (a1 a2:Int) (a0:Array Value) (b_a3:Option (Option Addr)) (n_a3:Nat) (a3:Array Value):ansV PZ (mkΓ [(41,con Zbm)]) N Tryz.f35 [([8,9,10,11],[])] [.w 0,.i .i64 (a1),.i .i64 (a2),.l 1] [.row a0 37,.sl (.came b_a3) n_a3 a3 70]=(Uai (Uab (Zb7 PZ a1 a2 a0 b_a3 n_a3 a3) N ((0:Int),false,(0:Int),(0:Int))) (st2 (fun x=>Zi7 PZ N a1 a2 a0 b_a3 n_a3 a3 x.1 x.2.1 x.2.2.1 x.2.2.2) (fun x=>Zj1 PZ N a1 a2 a0 b_a3 n_a3 a3 x.1 x.2.1 x.2.2.1 x.2.2.2))):=by
 refine Eq.trans (b:=(Uah (Uab (Uag PZ (mkΓ [(41,con Zbm)]) N (cAt (codeOf Tryz.f35) [1,1,0,1,0,0]) (pAt (Uaa (codeOf Tryz.f35) [([8,9,10,11],[])]).1 [1,1,0,1,0]) [8,9,10,11] [] (Zdk a1 a2 a0 b_a3 n_a3 a3)) N ([.a (.i .i64 (0:Int)),.a (.b (false)),.a (.i .i64 (0:Int)),.a (.i .i64 (0:Int))],[])) (fun e s=>(Uad 0 (kSeq (veC PZ (mkΓ [(41,con Zbm)]) N (cAt (codeOf Tryz.f35) [1,1,1]) (pAt (Uaa (codeOf Tryz.f35) [([8,9,10,11],[])]).1 [1,1,1]) (SV×Eff×Bool)) (finK PZ [.row a0 37,.sl (.came b_a3) n_a3 a3 70] [.tmp 8,.tmp 9]))) e (left (writes (cAt (codeOf Tryz.f35) [1,1,0,1,0,0])) [8,9,10,11] [] (Zdk a1 a2 a0 b_a3 n_a3 a3) s)))) (by kernel_rfl) ?_
 simp only [Zzy N a1 a2 a0 b_a3 n_a3 a3]
theorem Zxm (a1 a2:Int) (a0:Array Value) (b_a3:Option (Option Addr)) (n_a3:Nat) (a3:Array Value) (h_a1:i64.min≤a1∧a1≤i64.max) (h_a2:i64.min≤a2∧a2≤i64.max) (h_a0:WT PZ 37 a0) (h_a3:a3.size=n_a3*(lay PZ 70).length∧(∀ k,k<n_a3→WT PZ 70 (a3.extract (k*(lay PZ 70).length) (k*(lay PZ 70).length+(lay PZ 70).length)))∧n_a3≤9223372036854775807) (hg:((vf a0 n_a3 a3&&(Zab a1 a0&&Zaa a2 0 1)))=true):ansV PZ (mkΓ [(41,con Zbm)]) 1000 Tryz.f35 [([8,9,10,11],[])] [.w 0,.i .i64 (a1),.i .i64 (a2),.l 1] [.row a0 37,.sl (.came b_a3) n_a3 a3 70]=some (.t [.i .i64 (bif (finZ PZ a0 a1 a2 a3 n_a3) then 0 else (finS PZ a0 a1 a2 a3 n_a3)),.b ((!(finZ PZ a0 a1 a2 a3 n_a3)))],.none,true):=by
 have hl:(lay PZ 70).length=2:=by kernel_rfl
 rw [hl] at h_a3
 obtain ⟨s1,s2,s3⟩:=h_a3
 simp only [Q7] at hg
 obtain ⟨hv,i0,t0⟩:=hg
 obtain ⟨o0,hn,_⟩:=vf_of hv
 have hh:=Ygq hv s2
 refine (Zx5 1000 a1 a2 a0 b_a3 n_a3 a3).trans ?_
 have l0:=Zm6 (g:=Zb7 PZ a1 a2 a0 b_a3 n_a3 a3) (fun k=>((0:Int),false,finS PZ a0 a1 a2 a3 k,(k:Int))) (noK PZ a0 a1 a2 a3) n_a3 (N:=1000) (xd:=.done ((0:Int),false,(finS PZ a0 a1 a2 a3 n_a3),(n_a3:Int))) (by omega) (fun k=>.more ((0:Int),false,finS PZ a0 a1 a2 a3 k,(k:Int))) (fun k hk hp=>by
  obtain ⟨p3,p4,p5,p6⟩:=hh k hk
  have h1:decide ((k:Int)<(n_a3:Int))=true:=Q3 (by omega)
  have h2:decide (0≤(k:Int))=true:=Q3 (by omega)
  have h3:i64.wrap ((k:Int)+1)=((k+1:Nat):Int):=by rw [w64 (by omega)];omega
  have g4:=Q3 p4
  have g5:=Q3 p5
  have ef:finS PZ a0 a1 a2 a3 (k+1)=finF PZ a0 a1 a2 a3 (finS PZ a0 a1 a2 a3 k) k:=Zcr _ _ _
  rw [ef]
  generalize finS PZ a0 a1 a2 a3 k=s
  unfold noK ptK at hp
  simp only [Zb7,h1,h2,h3,o0,i0,t0,p3,g4,g5,hp,finF,nuK,ptK,Q9,Bool.and_self,Bool.not_true,Bool.not_false,Q1,Q2]) (fun k hk hp=>by
  obtain ⟨p3,p4,p5,p6⟩:=hh k hk
  have h1:decide ((k:Int)<(n_a3:Int))=true:=Q3 (by omega)
  have h2:decide (0≤(k:Int))=true:=Q3 (by omega)
  have h3:i64.wrap ((k:Int)+1)=((k+1:Nat):Int):=by rw [w64 (by omega)];omega
  have g4:=Q3 p4
  have g5:=Q3 p5
  unfold noK ptK at hp
  generalize finS PZ a0 a1 a2 a3 k=s
  simp only [Zb7,h1,h2,o0,i0,t0,p3,g4,g5,hp,Q9,Bool.and_self,Bool.not_true,Bool.not_false,Q1,Q2]) (by
  have h1:decide ((n_a3:Int)<(n_a3:Int))=false:=Q4 (by omega)
  generalize (finS PZ a0 a1 a2 a3 n_a3)=s
  simp only [Zb7,h1,Q2])
 have l0':Uab (Zb7 PZ a1 a2 a0 b_a3 n_a3 a3) 1000 ((0:Int),false,(0:Int),(0:Int))=some (match (List.range n_a3).find? (noK PZ a0 a1 a2 a3) with | some k=>.more ((0:Int),false,finS PZ a0 a1 a2 a3 k,(k:Int)) | none=>.done ((0:Int),false,(finS PZ a0 a1 a2 a3 n_a3),(n_a3:Int))):=l0
 rw [l0']
 unfold finZ
 cases (List.range n_a3).find? (noK PZ a0 a1 a2 a3)<;>rfl
def Zke:Con:=fun args h=>match args,h with
 | [.w 0,.i .i64 a1,.i .i64 a2,.l 1],[.row a0 37,.sl (.came b_a3) n_a3 a3 70]=>some (.t [.i .i64 (bif (finZ PZ a0 a1 a2 a3 n_a3) then 0 else (finS PZ a0 a1 a2 a3 n_a3)),.b ((!(finZ PZ a0 a1 a2 a3 n_a3)))],.none,(vf a0 n_a3 a3&&(Zab a1 a0&&Zaa a2 0 1)))
 | _,_=>none
theorem Zt1:EntX PZ 35:=Zah (fn:=Tryz.f35) (by kernel_rfl) (by kernel_rfl) (by kernel_rfl)
theorem Yah:Uac (md F) PZ 35 Zke:=(Zai (N:=1000) (by kernel_rfl) (mkΓ_consX (Zae Yfe) Zy9 mkΓ_nilX) (fn:=Tryz.f35) (by kernel_rfl) (by kernel_rfl) [([8,9,10,11],[])]).of (by
 intro ρ h w args vals r e hA hH hr
 unfold Zke at hr
 split at hr
 ·rename_i a1 a2 a0 b_a3 n_a3 a3
  obtain ⟨rfl,rfl,hg2⟩:=BQi hr
  exact Zxm a1 a2 a0 b_a3 n_a3 a3 (hA.rng 1 rfl) (hA.rng 2 rfl) (hH.wt 0 rfl) (hH.slw 1 rfl) hg2
 ·cases hr)
def Zti : Cons := (withM [("loop.example/g01300/impl.told", Ygg)] (mkΓ [(38, conG Zeh), (39, con Zd9)]))
theorem Ybm (N:Nat) (a0:Array Value) (a1 a2:Int) (g_e0 g_e1 g_e2 g_e3 g_e4:Addr) (b_a3:Option (Option Addr)) (n_a3:Nat) (a3:Array Value):ansV PZ Zti N Tryz.f13 [] [.g a0 37,.i .i64 (a1),.i .i64 (a2),.l 5] [.gl 0 185 g_e0 101973,.gl 1 185 g_e1 93330,.gl 3 185 g_e2 124718,.gl 2 185 g_e3 112315,.gl 4 185 g_e4 94254,.sl (.came b_a3) n_a3 a3 70]=(bif (Nat.ble 1 1&&Nat.ble 1 8) then (bif ((Uf4 1 (spl (repC (zc PZ 37) 1) 0 a0.toList) n_a3 a3 (num (#[.int .i64 (a1),.int .i64 (a2),.slice none 0 0]:Array Value) 0) (num (#[.int .i64 (a1),.int .i64 (a2),.slice none 0 0]:Array Value) 1) true) != (0:Int)) then (some (.t [.i .i64 (0:Int),.i .i64 (Uf4 1 (spl (repC (zc PZ 37) 1) 0 a0.toList) n_a3 a3 (num (#[.int .i64 (a1),.int .i64 (a2),.slice none 0 0]:Array Value) 0) (num (#[.int .i64 (a1),.int .i64 (a2),.slice none 0 0]:Array Value) 1) true)],.none,true))
   else (bif (vf a0 n_a3 a3&&(Zab (num (#[.int .i64 (a1),.int .i64 (a2),.slice none 0 0]:Array Value) 0) a0&&Zaa (num (#[.int .i64 (a1),.int .i64 (a2),.slice none 0 0]:Array Value) 1) 0 1)) then (bif (isSc (scV (finZ PZ a0 (num (#[.int .i64 (a1),.int .i64 (a2),.slice none 0 0]:Array Value) 0) (num (#[.int .i64 (a1),.int .i64 (a2),.slice none 0 0]:Array Value) 1) a3 n_a3) (finS PZ a0 (num (#[.int .i64 (a1),.int .i64 (a2),.slice none 0 0]:Array Value) 0) (num (#[.int .i64 (a1),.int .i64 (a2),.slice none 0 0]:Array Value) 1) a3 n_a3))) then (some (.t [.i .i64 (toldV (scV (finZ PZ a0 (num (#[.int .i64 (a1),.int .i64 (a2),.slice none 0 0]:Array Value) 0) (num (#[.int .i64 (a1),.int .i64 (a2),.slice none 0 0]:Array Value) 1) a3 n_a3) (finS PZ a0 (num (#[.int .i64 (a1),.int .i64 (a2),.slice none 0 0]:Array Value) 0) (num (#[.int .i64 (a1),.int .i64 (a2),.slice none 0 0]:Array Value) 1) a3 n_a3))),.i .i64 (toldC (scV (finZ PZ a0 (num (#[.int .i64 (a1),.int .i64 (a2),.slice none 0 0]:Array Value) 0) (num (#[.int .i64 (a1),.int .i64 (a2),.slice none 0 0]:Array Value) 1) a3 n_a3) (finS PZ a0 (num (#[.int .i64 (a1),.int .i64 (a2),.slice none 0 0]:Array Value) 0) (num (#[.int .i64 (a1),.int .i64 (a2),.slice none 0 0]:Array Value) 1) a3 n_a3)))],.none,true))
     else (none))
    else (none)))
  else (none)):=by kernel_rfl
theorem Zzb (a0:Array Value) (a1 a2:Int) (g_e0 g_e1 g_e2 g_e3 g_e4:Addr) (b_a3:Option (Option Addr)) (n_a3:Nat) (a3:Array Value) (h_a0:WT PZ 37 a0) (h_a1:i64.min≤a1∧a1≤i64.max) (h_a2:i64.min≤a2∧a2≤i64.max) (h_a3:a3.size=n_a3*(lay PZ 70).length∧(∀ k,k<n_a3→WT PZ 70 (a3.extract (k*(lay PZ 70).length) (k*(lay PZ 70).length+(lay PZ 70).length)))∧n_a3≤9223372036854775807) (hg:(true)=true):ansV PZ Zti 1000 Tryz.f13 [] [.g a0 37,.i .i64 (a1),.i .i64 (a2),.l 5] [.gl 0 185 g_e0 101973,.gl 1 185 g_e1 93330,.gl 3 185 g_e2 124718,.gl 2 185 g_e3 112315,.gl 4 185 g_e4 94254,.sl (.came b_a3) n_a3 a3 70]=some (.t [.i .i64 (bif ((lisC a0 n_a3 a3 a1 a2) != (0:Int)) then 0 else bif (finZ PZ a0 a1 a2 a3 n_a3) then 0 else (finS PZ a0 a1 a2 a3 n_a3)),.i .i64 (bif ((lisC a0 n_a3 a3 a1 a2) != (0:Int)) then (lisC a0 n_a3 a3 a1 a2) else bif (finZ PZ a0 a1 a2 a3 n_a3) then 6 else 0)],.none,true):=by
 refine (Ybm 1000 a0 a1 a2 g_e0 g_e1 g_e2 g_e3 g_e4 b_a3 n_a3 a3).trans ?_
 obtain ⟨n0,n1⟩:=ev_num a1 a2
 rw [one_sea h_a0,n0,n1,with_one (Yl2 h_a0),(Yoa _ _).1,(Yoa _ _).2,sc_is (finS_in _ _ _ _ _),show (Nat.ble 1 1&&Nat.ble 1 8)=true from rfl]
 change (bif true then bif ((lisC a0 n_a3 a3 a1 a2) != (0:Int)) then _ else _ else _)=_
 simp only [Q1]
 cases hl:((lisC a0 n_a3 a3 a1 a2) != (0:Int)) with
 | true=>rfl
 | false=>
  obtain ⟨hv,_,i0,t0⟩:=Yla hl
  rw [hv,i0,t0]
  rfl
def Zlo:Con:=fun args h=>match args,h with
 | [.g a0 37,.i .i64 a1,.i .i64 a2,.l 5],[.gl 0 185 g_e0 101973,.gl 1 185 g_e1 93330,.gl 3 185 g_e2 124718,.gl 2 185 g_e3 112315,.gl 4 185 g_e4 94254,.sl (.came b_a3) n_a3 a3 70]=>some (.t [.i .i64 (bif ((lisC a0 n_a3 a3 a1 a2) != (0:Int)) then 0 else bif (finZ PZ a0 a1 a2 a3 n_a3) then 0 else (finS PZ a0 a1 a2 a3 n_a3)),.i .i64 (bif ((lisC a0 n_a3 a3 a1 a2) != (0:Int)) then (lisC a0 n_a3 a3 a1 a2) else bif (finZ PZ a0 a1 a2 a3 n_a3) then 6 else 0)],.none,true)
 | _,_=>none
theorem Zu7:EntX PZ 13:=Zah (fn:=Tryz.f13) (by kernel_rfl) (by kernel_rfl) (by kernel_rfl)
theorem Yb2 : Uac (md F) PZ 13 Zlo := (Zai (N := 1000) (by kernel_rfl) (Yp3 (m := [("loop.example/g01300/impl.told", Ygg)]) (fun q hq => by simp only [List.mem_cons, List.not_mem_nil, or_false] at hq; subst hq; first | exact told_mok) (mkΓ_consX (Zjk Znz) Zlz (mkΓ_consX (Zae Znf) Zlq mkΓ_nilX))) (fn := Tryz.f13) (by kernel_rfl) (by kernel_rfl) []).of (by
 intro ρ h w args vals r e hA hH hr
 unfold Zlo at hr
 split at hr
 ·rename_i a0 a1 a2 g_e0 g_e1 g_e2 g_e3 g_e4 b_a3 n_a3 a3
  obtain ⟨rfl,rfl,hg2⟩:=BQi hr
  exact Zzb a0 a1 a2 g_e0 g_e1 g_e2 g_e3 g_e4 b_a3 n_a3 a3 (hA.wt 0 rfl) (hA.rng 1 rfl) (hA.rng 2 rfl) (hH.slw 5 rfl) hg2
 ·cases hr)
def Zth:Cons:=(mkΓ [(34,con Zj3),(35,con Zke)])
theorem Yac (N:Nat) (a0:Array Value) (a1 a2:Int) (b_a3:Option (Option Addr)) (n_a3:Nat) (a3:Array Value):ansV PZ Zth N Tryz.f10 [] [.g a0 37,.i .i64 (a1),.i .i64 (a2),.l 0] [.sl (.came b_a3) n_a3 a3 70]=(bif ((bif vf a0 n_a3 a3 then Za5 a1 a2 true a0 else 1) != (0:Int)) then (some (.t [.i .i64 (0:Int),.i .i64 (bif vf a0 n_a3 a3 then Za5 a1 a2 true a0 else 1)],.none,true))
  else (bif (vf a0 n_a3 a3&&(Zab a1 a0&&Zaa a2 0 1)) then (bif (!((!(finZ PZ a0 a1 a2 a3 n_a3)))) then (some (.t [.i .i64 (0:Int),.i .i64 (6:Int)],.none,true))
    else (some (.t [.i .i64 (bif (finZ PZ a0 a1 a2 a3 n_a3) then 0 else (finS PZ a0 a1 a2 a3 n_a3)),.i .i64 (0:Int)],.none,true)))
   else (none))):=by kernel_rfl
theorem Zy4 (a0:Array Value) (a1 a2:Int) (b_a3:Option (Option Addr)) (n_a3:Nat) (a3:Array Value) (h_a0:WT PZ 37 a0) (h_a1:i64.min≤a1∧a1≤i64.max) (h_a2:i64.min≤a2∧a2≤i64.max) (h_a3:a3.size=n_a3*(lay PZ 70).length∧(∀ k,k<n_a3→WT PZ 70 (a3.extract (k*(lay PZ 70).length) (k*(lay PZ 70).length+(lay PZ 70).length)))∧n_a3≤9223372036854775807) (hg:(true)=true):ansV PZ Zth 1000 Tryz.f10 [] [.g a0 37,.i .i64 (a1),.i .i64 (a2),.l 0] [.sl (.came b_a3) n_a3 a3 70]=some (.t [.i .i64 (bif ((lisC a0 n_a3 a3 a1 a2) != (0:Int)) then 0 else bif (finZ PZ a0 a1 a2 a3 n_a3) then 0 else (finS PZ a0 a1 a2 a3 n_a3)),.i .i64 (bif ((lisC a0 n_a3 a3 a1 a2) != (0:Int)) then (lisC a0 n_a3 a3 a1 a2) else bif (finZ PZ a0 a1 a2 a3 n_a3) then 6 else 0)],.none,true):=by
 refine (Yac 1000 a0 a1 a2 b_a3 n_a3 a3).trans ?_
 change (bif ((lisC a0 n_a3 a3 a1 a2) != (0:Int)) then _ else _)=_
 cases hl:((lisC a0 n_a3 a3 a1 a2) != (0:Int)) with
 | true=>rfl
 | false=>
  obtain ⟨hv,_,i0,t0⟩:=Yla hl
  rw [hv,i0,t0]
  cases (finZ PZ a0 a1 a2 a3 n_a3)<;>rfl
def Zk4:Con:=fun args h=>match args,h with
 | [.g a0 37,.i .i64 a1,.i .i64 a2,.l 0],[.sl (.came b_a3) n_a3 a3 70]=>some (.t [.i .i64 (bif ((lisC a0 n_a3 a3 a1 a2) != (0:Int)) then 0 else bif (finZ PZ a0 a1 a2 a3 n_a3) then 0 else (finS PZ a0 a1 a2 a3 n_a3)),.i .i64 (bif ((lisC a0 n_a3 a3 a1 a2) != (0:Int)) then (lisC a0 n_a3 a3 a1 a2) else bif (finZ PZ a0 a1 a2 a3 n_a3) then 6 else 0)],.none,true)
 | _,_=>none
theorem Zw1:EntX PZ 10:=Zah (fn:=Tryz.f10) (by kernel_rfl) (by kernel_rfl) (by kernel_rfl)
theorem Yc3:Uac (md F) PZ 10 Zk4:=(Zai (N:=1000) (by kernel_rfl) (mkΓ_consX (Zae Zy0) Zsf (mkΓ_consX (Zae Yah) Zt1 mkΓ_nilX)) (fn:=Tryz.f10) (by kernel_rfl) (by kernel_rfl) []).of (by
 intro ρ h w args vals r e hA hH hr
 unfold Zk4 at hr
 split at hr
 ·rename_i a0 a1 a2 b_a3 n_a3 a3
  obtain ⟨rfl,rfl,hg2⟩:=BQi hr
  exact Zy4 a0 a1 a2 b_a3 n_a3 a3 (hA.wt 0 rfl) (hA.rng 1 rfl) (hA.rng 2 rfl) (hH.slw 0 rfl) hg2
 ·cases hr)
end
end Go.Proofs.YtdfefaanfiheoaaGreatDoor
