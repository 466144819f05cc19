/- Parts of twelve, in company. -/
import Derived.Test.YtffagbiedigmcaaDoorProg
import Derived.Test.YtffagbiedigmcaaDoorCxC
namespace Go.Proofs.YtffagbiedigmcaaDoor
open Go.ChangeShapes Go.WideShapes Go.ChangeAt Go.RowKit Ve Vc
open Tryd (prog)
open IntKind (i64)
set_option linter.unusedVariables false
set_option linter.unusedSimpArgs false
set_option maxRecDepth 100000
noncomputable section
variable {mn:Md}
def Zdp (a0:Array Value):St:=(⟨.a (.g a0 24) :: .a (.w 0) :: .a (.w 1) :: .a (.w 2) :: .a (.i .i64 (0:Int))::us 10 ([]),[.row a0 24,.row #[.int .u8 (0:Int),.int .u8 (0:Int),.int .u8 (0:Int),.int .u8 (0:Int),.int .u8 (0:Int)] 31,.row #[.int .u8 (0:Int),.int .u8 (0:Int),.int .u8 (0:Int),.int .u8 (0:Int),.int .u8 (0:Int)] 31],[]⟩:St)
def Zek:Int×Array Value→LS
 | (y0_4,r0_2)=>([.a (.i .i64 (y0_4))],[.row r0_2 31])
def Zhv:Int×Array Value→Exit×LS
 | t=>((.exit 0),Zek t)
def Zce (P : Program) (a0 : Array Value) : Int × Array Value → Option (Stp (Int × Array Value) (Int × Array Value))
 | (y0_4, r0_2) => bif decide (y0_4 < (5 : Int)) then (bif (decide (0 ≤ y0_4) && decide (y0_4 < 5)) then (bif (decide (0 ≤ y0_4) && decide (y0_4 < 5)) then (some (.more ((i64.wrap (y0_4 + (1 : Int))), (r0_2.setIfInBounds ((y0_4).toNat * 1) (.int .u8 (num a0 ((y0_4).toNat * 1)))))))
    else (none))
   else (none))
  else (some (.done (y0_4, r0_2)))
theorem Zsf (N:Nat) (a0:Array Value):∀ t:Int×Array Value,stepV prog (mkΓ []) N (cAt (codeOf Tryd.f65) [1,1,0,1,0,0]) (pAt (mkPlan (codeOf Tryd.f65) [([4],[2])]).1 [1,1,0,1,0]) [4] [2] (Zdp a0) (Zek t)=mapS Zek Zhv (Zce prog a0 t):=by
 rintro ⟨y0_4,r0_2⟩
 refine Eq.trans (b:=(bif decide (y0_4<(5:Int)) then (bif (decide (0≤y0_4)&&decide (y0_4<5)) then (bif (decide (0≤y0_4)&&decide (y0_4<5)) then (some (.more ([.a (.i .i64 (i64.wrap (y0_4+(1:Int))))],[.row (r0_2.setIfInBounds ((y0_4).toNat*1) (.int .u8 (num a0 ((y0_4).toNat*1)))) 31])))
    else (none))
   else (none))
  else (some (.done ((.exit 0),([.a (.i .i64 (y0_4))],[.row r0_2 31])))))) (by kernel_rfl) ?_
 simp only [Zce,Zbe,Zbc,Zbb,Zbf,Zek,Zhv]
def Zgx (P:Program) (N:Nat) (a0:Array Value) (z0_4:Int) (q0_2:Array Value):Option (SV×Eff×Bool):=some (.a (.g q0_2 31),.none,true)
theorem Zmj (N:Nat) (a0:Array Value) (z0_4:Int) (q0_2:Array Value):(kBlock 0 (kSeq (veC prog (mkΓ []) N (cAt (codeOf Tryd.f65) [1,1,1]) (pAt (mkPlan (codeOf Tryd.f65) [([4],[2])]).1 [1,1,1]) (SV×Eff×Bool)) (finK prog [] [.cell 2 31]))) (.exit 0) (left (writes (cAt (codeOf Tryd.f65) [1,1,0,1,0,0])) [4] [2] (Zdp a0) ([.a (.i .i64 (z0_4))],[.row q0_2 31]))=Zgx prog N a0 z0_4 q0_2:=by
 refine Eq.trans (b:=(some (.a (.g q0_2 31),.none,true))) (by kernel_rfl) ?_
 rfl
theorem Zso (N:Nat) (a0:Array Value):bindX (iterO (stepV prog (mkΓ []) N (cAt (codeOf Tryd.f65) [1,1,0,1,0,0]) (pAt (mkPlan (codeOf Tryd.f65) [([4],[2])]).1 [1,1,0,1,0]) [4] [2] (Zdp a0)) N ([.a (.i .i64 (0:Int))],[.row (#[.int .u8 (0:Int),.int .u8 (0:Int),.int .u8 (0:Int),.int .u8 (0:Int),.int .u8 (0:Int)]:Array Value) 31])) (fun e s=>(kBlock 0 (kSeq (veC prog (mkΓ []) N (cAt (codeOf Tryd.f65) [1,1,1]) (pAt (mkPlan (codeOf Tryd.f65) [([4],[2])]).1 [1,1,1]) (SV×Eff×Bool)) (finK prog [] [.cell 2 31]))) e (left (writes (cAt (codeOf Tryd.f65) [1,1,0,1,0,0])) [4] [2] (Zdp a0) s))=nodeX (iterO (Zce prog a0) N ((0:Int),(#[.int .u8 (0:Int),.int .u8 (0:Int),.int .u8 (0:Int),.int .u8 (0:Int),.int .u8 (0:Int)]:Array Value))) (fun x=>Zgx prog N a0 x.1 x.2):=by
 refine Zcl Zek Zhv _ _ (Zsf N a0) N ((0:Int),(#[.int .u8 (0:Int),.int .u8 (0:Int),.int .u8 (0:Int),.int .u8 (0:Int),.int .u8 (0:Int)]:Array Value)) _ _ ?_
 intro x;exact Zmj N a0 x.1 x.2
theorem Zrw (N:Nat) (a0:Array Value):ansV prog (mkΓ []) N Tryd.f65 [([4],[2])] [.g a0 24] []=(nodeX (iterO (Zce prog a0) N ((0:Int),(#[.int .u8 (0:Int),.int .u8 (0:Int),.int .u8 (0:Int),.int .u8 (0:Int),.int .u8 (0:Int)]:Array Value))) (fun x=>Zgx prog N a0 x.1 x.2)):=by
 refine Eq.trans (b:=(bindX (iterO (stepV prog (mkΓ []) N (cAt (codeOf Tryd.f65) [1,1,0,1,0,0]) (pAt (mkPlan (codeOf Tryd.f65) [([4],[2])]).1 [1,1,0,1,0]) [4] [2] (Zdp a0)) N ([.a (.i .i64 (0:Int))],[.row (#[.int .u8 (0:Int),.int .u8 (0:Int),.int .u8 (0:Int),.int .u8 (0:Int),.int .u8 (0:Int)]:Array Value) 31])) (fun e s=>(kBlock 0 (kSeq (veC prog (mkΓ []) N (cAt (codeOf Tryd.f65) [1,1,1]) (pAt (mkPlan (codeOf Tryd.f65) [([4],[2])]).1 [1,1,1]) (SV×Eff×Bool)) (finK prog [] [.cell 2 31]))) e (left (writes (cAt (codeOf Tryd.f65) [1,1,0,1,0,0])) [4] [2] (Zdp a0) s)))) (by kernel_rfl) ?_
 simp only [Zso N a0]
theorem Zp4 (a0:Array Value) (h_a0:WT prog 24 a0) (hg:(true)=true):ansV prog (mkΓ []) 1000 Tryd.f65 [([4],[2])] [.g a0 24] []=some (.a (.g a0 31),.none,true):=by
 have hs:a0.size=(#[.int .u8 (0:Int),.int .u8 (0:Int),.int .u8 (0:Int),.int .u8 (0:Int),.int .u8 (0:Int)]:Array Value).size:=by rw [h_a0.layLen];kernel_rfl
 have hz:a0.size=5:=by rw [h_a0.layLen];kernel_rfl
 have hL:∀ k,k<5→(lay prog 24)[k*1]? = some 4:=by
  intro k hk
  have h:(List.range 5).all (fun k=>(lay prog 24)[k*1]? == some 4)=true:=by kernel_rfl
  exact eq_of_beq (List.all_eq_true.1 h k (List.mem_range.2 hk))
 have h:=Zhi (g:=Zce prog a0) (fun k=>((k:Int),upto a0 (#[.int .u8 (0:Int),.int .u8 (0:Int),.int .u8 (0:Int),.int .u8 (0:Int),.int .u8 (0:Int)]:Array Value) (k*1))) (m:=5) (x:=(((5:Nat):Int),upto a0 (#[.int .u8 (0:Int),.int .u8 (0:Int),.int .u8 (0:Int),.int .u8 (0:Int),.int .u8 (0:Int)]:Array Value) (5*1))) (N:=1000) (fun k hk=>by
  have h1:decide ((k:Int)<5)=true:=decide_eq_true (by omega)
  have h0:decide (0≤(k:Int))=true:=decide_eq_true (by omega)
  have h3:i64.wrap ((k:Int)+1)=((k+1:Nat):Int):=by rw [IntWalk.i64_in _ (by omega)];omega
  have h4:((k:Int)).toNat=k:=Int.toNat_natCast k
  have h5:(upto a0 (#[.int .u8 (0:Int),.int .u8 (0:Int),.int .u8 (0:Int),.int .u8 (0:Int),.int .u8 (0:Int)]:Array Value) (k*1)).setIfInBounds (k*1) (.int .u8 (num a0 (k*1)))=upto a0 (#[.int .u8 (0:Int),.int .u8 (0:Int),.int .u8 (0:Int),.int .u8 (0:Int),.int .u8 (0:Int)]:Array Value) ((k+1)*1):=by
   rw [Nat.add_mul];exact Zux hs (h_a0.int (k:=.u8) (hL k hk)).1
  simp only [Zce,h1,h0,Bool.and_self,h4,cond_true,h3,h5]) (by
  have h1:decide (((5:Nat):Int)<5)=false:=by decide
  simp only [Zce,h1,cond_false]) (by omega)
 simp only [Nat.zero_mul,Zqq hs,Zu5 hs hz] at h
 refine (Zrw 1000 a0).trans ?_
 have h':iterO (Zce prog a0) 1000 ((0:Int),(#[.int .u8 (0:Int),.int .u8 (0:Int),.int .u8 (0:Int),.int .u8 (0:Int),.int .u8 (0:Int)]:Array Value))=some (((5:Nat):Int),a0):=h
 rw [h']
 rfl
def Za9:Con:=fun args h=>match args,h with
 | [.g a0 24],[]=>some (.a (.g a0 31),.none,true)
 | _,_=>none
theorem Zof:EntX prog 65:=Zam (fn:=Tryd.f65) (by kernel_rfl) (by kernel_rfl) (by kernel_rfl)
theorem Ztc:ConOkX mn prog 65 Za9:=(Zat (N:=1000) (by kernel_rfl) mkΓ_nilX (fn:=Tryd.f65) (by kernel_rfl) (by kernel_rfl) [([4],[2])]).of (by
 intro ρ h w args vals r e hA hH hr
 unfold Za9 at hr
 split at hr
 ·rename_i a0
  obtain ⟨rfl,hg⟩:=Prod.mk.inj (Option.some.inj hr)
  obtain ⟨rfl,hg2⟩:=Prod.mk.inj hg
  exact Zp4 a0 (hA.wt 0 rfl) hg2
 ·cases hr)
def Zcr (a0:Array Value):St:=(⟨.a (.g a0 25) :: .a (.w 0) :: .a (.w 1) :: .a (.w 2) :: .a (.i .i64 (0:Int))::us 11 ([]),[.row a0 25,.row (zc prog 32) 32,.row (zc prog 32) 32],[]⟩:St)
def Zdj:Int×Array Value→LS
 | (y0_4,r0_2)=>([.a (.i .i64 (y0_4))],[.row r0_2 32])
def Zf8:Int×Array Value→Exit×LS
 | t=>((.exit 0),Zdj t)
def Zbn (P : Program) (a0 : Array Value) : Int × Array Value → Option (Stp (Int × Array Value) (Int × Array Value))
 | (y0_4, r0_2) => bif decide (y0_4 < (36 : Int)) then (bif (decide (0 ≤ y0_4) && decide (y0_4 < 36)) then (bif (decide (0 ≤ y0_4) && decide (y0_4 < 36)) then (some (.more ((i64.wrap (y0_4 + (1 : Int))), (spl r0_2 ((y0_4).toNat * 5) (a0.extract ((y0_4).toNat * 5) (((y0_4).toNat * 5) + 5)).toList))))
    else (none))
   else (none))
  else (some (.done (y0_4, r0_2)))
theorem Zn3 (N:Nat) (a0:Array Value):∀ t:Int×Array Value,stepV prog (mkΓ [(65,con Za9)]) N (cAt (codeOf Tryd.f44) [1,1,0,1,0,0]) (pAt (mkPlan (codeOf Tryd.f44) [([4],[2])]).1 [1,1,0,1,0]) [4] [2] (Zcr a0) (Zdj t)=mapS Zdj Zf8 (Zbn prog a0 t):=by
 rintro ⟨y0_4,r0_2⟩
 refine Eq.trans (b:=(bif decide (y0_4<(36:Int)) then (bif (decide (0≤y0_4)&&decide (y0_4<36)) then (bif (decide (0≤y0_4)&&decide (y0_4<36)) then (some (.more ([.a (.i .i64 (i64.wrap (y0_4+(1:Int))))],[.row (spl r0_2 ((y0_4).toNat*5) (a0.extract ((y0_4).toNat*5) (((y0_4).toNat*5)+5)).toList) 32])))
    else (none))
   else (none))
  else (some (.done ((.exit 0),([.a (.i .i64 (y0_4))],[.row r0_2 32])))))) (by kernel_rfl) ?_
 simp only [Zbn,Zbe,Zbc,Zbb,Zbf,Zdj,Zf8]
def Zfe (P:Program) (N:Nat) (a0:Array Value) (z0_4:Int) (q0_2:Array Value):Option (SV×Eff×Bool):=some (.a (.g q0_2 32),.none,true)
theorem Zkb (N:Nat) (a0:Array Value) (z0_4:Int) (q0_2:Array Value):(kBlock 0 (kSeq (veC prog (mkΓ [(65,con Za9)]) N (cAt (codeOf Tryd.f44) [1,1,1]) (pAt (mkPlan (codeOf Tryd.f44) [([4],[2])]).1 [1,1,1]) (SV×Eff×Bool)) (finK prog [] [.cell 2 32]))) (.exit 0) (left (writes (cAt (codeOf Tryd.f44) [1,1,0,1,0,0])) [4] [2] (Zcr a0) ([.a (.i .i64 (z0_4))],[.row q0_2 32]))=Zfe prog N a0 z0_4 q0_2:=by
 refine Eq.trans (b:=(some (.a (.g q0_2 32),.none,true))) (by kernel_rfl) ?_
 rfl
theorem Zn9 (N:Nat) (a0:Array Value):bindX (iterO (stepV prog (mkΓ [(65,con Za9)]) N (cAt (codeOf Tryd.f44) [1,1,0,1,0,0]) (pAt (mkPlan (codeOf Tryd.f44) [([4],[2])]).1 [1,1,0,1,0]) [4] [2] (Zcr a0)) N ([.a (.i .i64 (0:Int))],[.row (zc prog 32) 32])) (fun e s=>(kBlock 0 (kSeq (veC prog (mkΓ [(65,con Za9)]) N (cAt (codeOf Tryd.f44) [1,1,1]) (pAt (mkPlan (codeOf Tryd.f44) [([4],[2])]).1 [1,1,1]) (SV×Eff×Bool)) (finK prog [] [.cell 2 32]))) e (left (writes (cAt (codeOf Tryd.f44) [1,1,0,1,0,0])) [4] [2] (Zcr a0) s))=nodeX (iterO (Zbn prog a0) N ((0:Int),(zc prog 32))) (fun x=>Zfe prog N a0 x.1 x.2):=by
 refine Zcl Zdj Zf8 _ _ (Zn3 N a0) N ((0:Int),(zc prog 32)) _ _ ?_
 intro x;exact Zkb N a0 x.1 x.2
theorem Zm4 (N:Nat) (a0:Array Value):ansV prog (mkΓ [(65,con Za9)]) N Tryd.f44 [([4],[2])] [.g a0 25] []=(nodeX (iterO (Zbn prog a0) N ((0:Int),(zc prog 32))) (fun x=>Zfe prog N a0 x.1 x.2)):=by
 refine Eq.trans (b:=(bindX (iterO (stepV prog (mkΓ [(65,con Za9)]) N (cAt (codeOf Tryd.f44) [1,1,0,1,0,0]) (pAt (mkPlan (codeOf Tryd.f44) [([4],[2])]).1 [1,1,0,1,0]) [4] [2] (Zcr a0)) N ([.a (.i .i64 (0:Int))],[.row (zc prog 32) 32])) (fun e s=>(kBlock 0 (kSeq (veC prog (mkΓ [(65,con Za9)]) N (cAt (codeOf Tryd.f44) [1,1,1]) (pAt (mkPlan (codeOf Tryd.f44) [([4],[2])]).1 [1,1,1]) (SV×Eff×Bool)) (finK prog [] [.cell 2 32]))) e (left (writes (cAt (codeOf Tryd.f44) [1,1,0,1,0,0])) [4] [2] (Zcr a0) s)))) (by kernel_rfl) ?_
 simp only [Zn9 N a0]
theorem Zmb (a0:Array Value) (h_a0:WT prog 25 a0) (hg:(true)=true):ansV prog (mkΓ [(65,con Za9)]) 1000 Tryd.f44 [([4],[2])] [.g a0 25] []=some (.a (.g a0 32),.none,true):=by
 have hs:a0.size=(zc prog 32).size:=by rw [h_a0.layLen];kernel_rfl
 have hz:a0.size=180:=by rw [h_a0.layLen];kernel_rfl
 have hL:∀ k,k<36→(lay prog 25)[k*5]? = some 4:=by
  intro k hk
  have h:(List.range 36).all (fun k=>(lay prog 25)[k*5]? == some 4)=true:=by kernel_rfl
  exact eq_of_beq (List.all_eq_true.1 h k (List.mem_range.2 hk))
 have h:=Zhi (g:=Zbn prog a0) (fun k=>((k:Int),upto a0 (zc prog 32) (k*5))) (m:=36) (x:=(((36:Nat):Int),upto a0 (zc prog 32) (36*5))) (N:=1000) (fun k hk=>by
  have h1:decide ((k:Int)<36)=true:=decide_eq_true (by omega)
  have h0:decide (0≤(k:Int))=true:=decide_eq_true (by omega)
  have h3:i64.wrap ((k:Int)+1)=((k+1:Nat):Int):=by rw [IntWalk.i64_in _ (by omega)];omega
  have h4:((k:Int)).toNat=k:=Int.toNat_natCast k
  have h5:spl (upto a0 (zc prog 32) (k*5)) (k*5) (a0.extract (k*5) (k*5+5)).toList=upto a0 (zc prog 32) ((k+1)*5):=by
   rw [Nat.add_mul];exact Zzm hs (by omega) rfl
  simp only [Zbn,h1,h0,Bool.and_self,h4,cond_true,h3,h5]) (by
  have h1:decide (((36:Nat):Int)<36)=false:=by decide
  simp only [Zbn,h1,cond_false]) (by omega)
 simp only [Nat.zero_mul,Zqq hs,Zu5 hs hz] at h
 refine (Zm4 1000 a0).trans ?_
 have h':iterO (Zbn prog a0) 1000 ((0:Int),(zc prog 32))=some (((36:Nat):Int),a0):=h
 rw [h']
 rfl
def Zaw:Con:=fun args h=>match args,h with
 | [.g a0 25],[]=>some (.a (.g a0 32),.none,true)
 | _,_=>none
theorem Zle:EntX prog 44:=Zam (fn:=Tryd.f44) (by kernel_rfl) (by kernel_rfl) (by kernel_rfl)
theorem Zn1:ConOkX mn prog 44 Zaw:=(Zat (N:=1000) (by kernel_rfl) (mkΓ_consX (Zag Ztc) Zof mkΓ_nilX) (fn:=Tryd.f44) (by kernel_rfl) (by kernel_rfl) [([4],[2])]).of (by
 intro ρ h w args vals r e hA hH hr
 unfold Zaw at hr
 split at hr
 ·rename_i a0
  obtain ⟨rfl,hg⟩:=Prod.mk.inj (Option.some.inj hr)
  obtain ⟨rfl,hg2⟩:=Prod.mk.inj hg
  exact Zmb a0 (hA.wt 0 rfl) hg2
 ·cases hr)
def Zb4 (a0:Array Value):St:=(⟨.a (.g a0 26) :: .a (.w 0) :: .a (.w 1) :: .a (.w 2) :: .a (.i .i64 (0:Int))::us 11 ([]),[.row a0 26,.row (zc prog 33) 33,.row (zc prog 33) 33],[]⟩:St)
def Zcy:Int×Array Value→LS
 | (y0_4,r0_2)=>([.a (.i .i64 (y0_4))],[.row r0_2 33])
def Zff:Int×Array Value→Exit×LS
 | t=>((.exit 0),Zcy t)
def Za4 (P : Program) (a0 : Array Value) : Int × Array Value → Option (Stp (Int × Array Value) (Int × Array Value))
 | (y0_4, r0_2) => bif decide (y0_4 < (2 : Int)) then (bif (decide (0 ≤ y0_4) && decide (y0_4 < 2)) then (bif (decide (0 ≤ y0_4) && decide (y0_4 < 2)) then (some (.more ((i64.wrap (y0_4 + (1 : Int))), (spl r0_2 ((y0_4).toNat * 180) (a0.extract ((y0_4).toNat * 180) (((y0_4).toNat * 180) + 180)).toList))))
    else (none))
   else (none))
  else (some (.done (y0_4, r0_2)))
theorem Zl3 (N:Nat) (a0:Array Value):∀ t:Int×Array Value,stepV prog (mkΓ [(44,con Zaw)]) N (cAt (codeOf Tryd.f21) [1,1,0,1,0,0]) (pAt (mkPlan (codeOf Tryd.f21) [([4],[2])]).1 [1,1,0,1,0]) [4] [2] (Zb4 a0) (Zcy t)=mapS Zcy Zff (Za4 prog a0 t):=by
 rintro ⟨y0_4,r0_2⟩
 refine Eq.trans (b:=(bif decide (y0_4<(2:Int)) then (bif (decide (0≤y0_4)&&decide (y0_4<2)) then (bif (decide (0≤y0_4)&&decide (y0_4<2)) then (some (.more ([.a (.i .i64 (i64.wrap (y0_4+(1:Int))))],[.row (spl r0_2 ((y0_4).toNat*180) (a0.extract ((y0_4).toNat*180) (((y0_4).toNat*180)+180)).toList) 33])))
    else (none))
   else (none))
  else (some (.done ((.exit 0),([.a (.i .i64 (y0_4))],[.row r0_2 33])))))) (by kernel_rfl) ?_
 simp only [Za4,Zbe,Zbc,Zbb,Zbf,Zcy,Zff]
def Zen (P:Program) (N:Nat) (a0:Array Value) (z0_4:Int) (q0_2:Array Value):Option (SV×Eff×Bool):=some (.a (.g q0_2 33),.none,true)
theorem Zji (N:Nat) (a0:Array Value) (z0_4:Int) (q0_2:Array Value):(kBlock 0 (kSeq (veC prog (mkΓ [(44,con Zaw)]) N (cAt (codeOf Tryd.f21) [1,1,1]) (pAt (mkPlan (codeOf Tryd.f21) [([4],[2])]).1 [1,1,1]) (SV×Eff×Bool)) (finK prog [] [.cell 2 33]))) (.exit 0) (left (writes (cAt (codeOf Tryd.f21) [1,1,0,1,0,0])) [4] [2] (Zb4 a0) ([.a (.i .i64 (z0_4))],[.row q0_2 33]))=Zen prog N a0 z0_4 q0_2:=by
 refine Eq.trans (b:=(some (.a (.g q0_2 33),.none,true))) (by kernel_rfl) ?_
 rfl
theorem Zl7 (N:Nat) (a0:Array Value):bindX (iterO (stepV prog (mkΓ [(44,con Zaw)]) N (cAt (codeOf Tryd.f21) [1,1,0,1,0,0]) (pAt (mkPlan (codeOf Tryd.f21) [([4],[2])]).1 [1,1,0,1,0]) [4] [2] (Zb4 a0)) N ([.a (.i .i64 (0:Int))],[.row (zc prog 33) 33])) (fun e s=>(kBlock 0 (kSeq (veC prog (mkΓ [(44,con Zaw)]) N (cAt (codeOf Tryd.f21) [1,1,1]) (pAt (mkPlan (codeOf Tryd.f21) [([4],[2])]).1 [1,1,1]) (SV×Eff×Bool)) (finK prog [] [.cell 2 33]))) e (left (writes (cAt (codeOf Tryd.f21) [1,1,0,1,0,0])) [4] [2] (Zb4 a0) s))=nodeX (iterO (Za4 prog a0) N ((0:Int),(zc prog 33))) (fun x=>Zen prog N a0 x.1 x.2):=by
 refine Zcl Zcy Zff _ _ (Zl3 N a0) N ((0:Int),(zc prog 33)) _ _ ?_
 intro x;exact Zji N a0 x.1 x.2
theorem Zls (N:Nat) (a0:Array Value):ansV prog (mkΓ [(44,con Zaw)]) N Tryd.f21 [([4],[2])] [.g a0 26] []=(nodeX (iterO (Za4 prog a0) N ((0:Int),(zc prog 33))) (fun x=>Zen prog N a0 x.1 x.2)):=by
 refine Eq.trans (b:=(bindX (iterO (stepV prog (mkΓ [(44,con Zaw)]) N (cAt (codeOf Tryd.f21) [1,1,0,1,0,0]) (pAt (mkPlan (codeOf Tryd.f21) [([4],[2])]).1 [1,1,0,1,0]) [4] [2] (Zb4 a0)) N ([.a (.i .i64 (0:Int))],[.row (zc prog 33) 33])) (fun e s=>(kBlock 0 (kSeq (veC prog (mkΓ [(44,con Zaw)]) N (cAt (codeOf Tryd.f21) [1,1,1]) (pAt (mkPlan (codeOf Tryd.f21) [([4],[2])]).1 [1,1,1]) (SV×Eff×Bool)) (finK prog [] [.cell 2 33]))) e (left (writes (cAt (codeOf Tryd.f21) [1,1,0,1,0,0])) [4] [2] (Zb4 a0) s)))) (by kernel_rfl) ?_
 simp only [Zl7 N a0]
theorem Zkl (a0:Array Value) (h_a0:WT prog 26 a0) (hg:(true)=true):ansV prog (mkΓ [(44,con Zaw)]) 1000 Tryd.f21 [([4],[2])] [.g a0 26] []=some (.a (.g a0 33),.none,true):=by
 have hs:a0.size=(zc prog 33).size:=by rw [h_a0.layLen];kernel_rfl
 have hz:a0.size=360:=by rw [h_a0.layLen];kernel_rfl
 have hL:∀ k,k<2→(lay prog 26)[k*180]? = some 4:=by
  intro k hk
  have h:(List.range 2).all (fun k=>(lay prog 26)[k*180]? == some 4)=true:=by kernel_rfl
  exact eq_of_beq (List.all_eq_true.1 h k (List.mem_range.2 hk))
 have h:=Zhi (g:=Za4 prog a0) (fun k=>((k:Int),upto a0 (zc prog 33) (k*180))) (m:=2) (x:=(((2:Nat):Int),upto a0 (zc prog 33) (2*180))) (N:=1000) (fun k hk=>by
  have h1:decide ((k:Int)<2)=true:=decide_eq_true (by omega)
  have h0:decide (0≤(k:Int))=true:=decide_eq_true (by omega)
  have h3:i64.wrap ((k:Int)+1)=((k+1:Nat):Int):=by rw [IntWalk.i64_in _ (by omega)];omega
  have h4:((k:Int)).toNat=k:=Int.toNat_natCast k
  have h5:spl (upto a0 (zc prog 33) (k*180)) (k*180) (a0.extract (k*180) (k*180+180)).toList=upto a0 (zc prog 33) ((k+1)*180):=by
   rw [Nat.add_mul];exact Zzm hs (by omega) rfl
  simp only [Za4,h1,h0,Bool.and_self,h4,cond_true,h3,h5]) (by
  have h1:decide (((2:Nat):Int)<2)=false:=by decide
  simp only [Za4,h1,cond_false]) (by omega)
 simp only [Nat.zero_mul,Zqq hs,Zu5 hs hz] at h
 refine (Zls 1000 a0).trans ?_
 have h':iterO (Za4 prog a0) 1000 ((0:Int),(zc prog 33))=some (((2:Nat):Int),a0):=h
 rw [h']
 rfl
def Zez:Con:=fun args h=>match args,h with
 | [.g a0 26],[]=>some (.a (.g a0 33),.none,true)
 | _,_=>none
theorem Zj5:EntX prog 21:=Zam (fn:=Tryd.f21) (by kernel_rfl) (by kernel_rfl) (by kernel_rfl)
theorem Zmi:ConOkX mn prog 21 Zez:=(Zat (N:=1000) (by kernel_rfl) (mkΓ_consX (Zag Zn1) Zle mkΓ_nilX) (fn:=Tryd.f21) (by kernel_rfl) (by kernel_rfl) [([4],[2])]).of (by
 intro ρ h w args vals r e hA hH hr
 unfold Zez at hr
 split at hr
 ·rename_i a0
  obtain ⟨rfl,hg⟩:=Prod.mk.inj (Option.some.inj hr)
  obtain ⟨rfl,hg2⟩:=Prod.mk.inj hg
  exact Zkl a0 (hA.wt 0 rfl) hg2
 ·cases hr)
def Ztp:Cons:=(mkΓ [(21,con Zez)])
theorem Zxa (N:Nat) (a0:Array Value):ansV prog Ztp N Tryd.f7 [] [.g a0 28] []=(some (.a (.g (spl ((((zc prog 35).setIfInBounds 0 (.int .i8 (num a0 0))).setIfInBounds 1 (.int .i8 (num a0 1))).setIfInBounds 2 (.int .u64 (num a0 2))) 3 (a0.extract 3 (3+360)).toList) 35),.none,true)):=by kernel_rfl
theorem Zva (a0:Array Value) (h_a0:WT prog 28 a0) (hg:(true)=true):ansV prog Ztp 1000 Tryd.f7 [] [.g a0 28] []=some (.a (.g a0 35),.none,true):=by
 have hs:a0.size=(zc prog 35).size:=by rw [h_a0.layLen];kernel_rfl
 have hz:a0.size=363:=by rw [h_a0.layLen];kernel_rfl
 have e0:(upto a0 (zc prog 35) 0).setIfInBounds 0 (.int .i8 (num a0 0))=upto a0 (zc prog 35) 1:=Zux hs (h_a0.int (k:=.i8) (by kernel_rfl)).1
 rw [Zqq hs] at e0
 have e1:(upto a0 (zc prog 35) 1).setIfInBounds 1 (.int .i8 (num a0 1))=upto a0 (zc prog 35) 2:=Zux hs (h_a0.int (k:=.i8) (by kernel_rfl)).1
 have e2:(upto a0 (zc prog 35) 2).setIfInBounds 2 (.int .u64 (num a0 2))=upto a0 (zc prog 35) 3:=Zux hs (h_a0.int (k:=.u64) (by kernel_rfl)).1
 have e3:spl (upto a0 (zc prog 35) 3) 3 (a0.extract 3 (3+360)).toList=upto a0 (zc prog 35) 363:=Zzm hs (by omega) rfl
 refine (Zxa 1000 a0).trans ?_
 rw [e0,e1,e2,e3,Zu5 hs hz]
def Zj0:Con:=fun args h=>match args,h with
 | [.g a0 28],[]=>some (.a (.g a0 35),.none,true)
 | _,_=>none
theorem Zt1:EntX prog 7:=Zam (fn:=Tryd.f7) (by kernel_rfl) (by kernel_rfl) (by kernel_rfl)
theorem Zy5:ConOkX mn prog 7 Zj0:=(Zat (N:=1000) (by kernel_rfl) (mkΓ_consX (Zag Zmi) Zj5 mkΓ_nilX) (fn:=Tryd.f7) (by kernel_rfl) (by kernel_rfl) []).of (by
 intro ρ h w args vals r e hA hH hr
 unfold Zj0 at hr
 split at hr
 ·rename_i a0
  obtain ⟨rfl,hg⟩:=Prod.mk.inj (Option.some.inj hr)
  obtain ⟨rfl,hg2⟩:=Prod.mk.inj hg
  exact Zva a0 (hA.wt 0 rfl) hg2
 ·cases hr)
theorem wrap12:∀ k,k<14→i64.wrap ((12:Int)^k*12)=12^(k+1):=by decide
def Zd3 (a0:Int):St:=(⟨.a (.i .i64 (a0)) :: .a (.u) :: .a (.i .i64 (0:Int)) :: .a (.i .i64 (1:Int)) :: .a (.i .i64 (0:Int))::us 8 ([]),[],[]⟩:St)
def Zfa:Int×Int→LS
 | (y0_3,y0_4)=>([.a (.i .i64 (y0_3)),.a (.i .i64 (y0_4))],[])
def Zim:Int×Int→Exit×LS
 | t=>((.exit 0),Zfa t)
def Zcw (P:Program) (a0:Int):Int×Int→Option (Stp (Int×Int) (Int×Int))
 | (y0_3,y0_4)=>bif decide (y0_4<a0) then (some (.more ((i64.wrap (y0_3*(12:Int))),(i64.wrap (y0_4+(1:Int))))))
  else (some (.done (y0_3,y0_4)))
theorem Zun (N:Nat) (a0:Int):∀ t:Int×Int,stepV prog (mkΓ []) N (cAt (codeOf Tryd.f83) [1,1,0,1,0,0]) (pAt (mkPlan (codeOf Tryd.f83) [([3,4],[])]).1 [1,1,0,1,0]) [3,4] [] (Zd3 a0) (Zfa t)=mapS Zfa Zim (Zcw prog a0 t):=by
 rintro ⟨y0_3,y0_4⟩
 refine Eq.trans (b:=(bif decide (y0_4<a0) then (some (.more ([.a (.i .i64 (i64.wrap (y0_3*(12:Int)))),.a (.i .i64 (i64.wrap (y0_4+(1:Int))))],[])))
  else (some (.done ((.exit 0),([.a (.i .i64 (y0_3)),.a (.i .i64 (y0_4))],[])))))) (by kernel_rfl) ?_
 simp only [Zcw,Zbe,Zbc,Zbb,Zbf,Zfa,Zim]
def Zhd (P:Program) (N:Nat) (a0:Int) (z0_3:Int) (z0_4:Int):Option (SV×Eff×Bool):=some (.a (.i .i64 (z0_3)),.none,true)
theorem Znn (N:Nat) (a0:Int) (z0_3:Int) (z0_4:Int):(kBlock 0 (kSeq (veC prog (mkΓ []) N (cAt (codeOf Tryd.f83) [1,1,1]) (pAt (mkPlan (codeOf Tryd.f83) [([3,4],[])]).1 [1,1,1]) (SV×Eff×Bool)) (finK prog [] [.tmp 2]))) (.exit 0) (left (writes (cAt (codeOf Tryd.f83) [1,1,0,1,0,0])) [3,4] [] (Zd3 a0) ([.a (.i .i64 (z0_3)),.a (.i .i64 (z0_4))],[]))=Zhd prog N a0 z0_3 z0_4:=by
 refine Eq.trans (b:=(some (.a (.i .i64 (z0_3)),.none,true))) (by kernel_rfl) ?_
 rfl
theorem Zue (N:Nat) (a0:Int):bindX (iterO (stepV prog (mkΓ []) N (cAt (codeOf Tryd.f83) [1,1,0,1,0,0]) (pAt (mkPlan (codeOf Tryd.f83) [([3,4],[])]).1 [1,1,0,1,0]) [3,4] [] (Zd3 a0)) N ([.a (.i .i64 (1:Int)),.a (.i .i64 (0:Int))],[])) (fun e s=>(kBlock 0 (kSeq (veC prog (mkΓ []) N (cAt (codeOf Tryd.f83) [1,1,1]) (pAt (mkPlan (codeOf Tryd.f83) [([3,4],[])]).1 [1,1,1]) (SV×Eff×Bool)) (finK prog [] [.tmp 2]))) e (left (writes (cAt (codeOf Tryd.f83) [1,1,0,1,0,0])) [3,4] [] (Zd3 a0) s))=nodeX (iterO (Zcw prog a0) N ((1:Int),(0:Int))) (fun x=>Zhd prog N a0 x.1 x.2):=by
 refine Zcl Zfa Zim _ _ (Zun N a0) N ((1:Int),(0:Int)) _ _ ?_
 intro x;exact Znn N a0 x.1 x.2
theorem Zs1 (N:Nat) (a0:Int):ansV prog (mkΓ []) N Tryd.f83 [([3,4],[])] [.i .i64 (a0)] []=(nodeX (iterO (Zcw prog a0) N ((1:Int),(0:Int))) (fun x=>Zhd prog N a0 x.1 x.2)):=by
 refine Eq.trans (b:=(bindX (iterO (stepV prog (mkΓ []) N (cAt (codeOf Tryd.f83) [1,1,0,1,0,0]) (pAt (mkPlan (codeOf Tryd.f83) [([3,4],[])]).1 [1,1,0,1,0]) [3,4] [] (Zd3 a0)) N ([.a (.i .i64 (1:Int)),.a (.i .i64 (0:Int))],[])) (fun e s=>(kBlock 0 (kSeq (veC prog (mkΓ []) N (cAt (codeOf Tryd.f83) [1,1,1]) (pAt (mkPlan (codeOf Tryd.f83) [([3,4],[])]).1 [1,1,1]) (SV×Eff×Bool)) (finK prog [] [.tmp 2]))) e (left (writes (cAt (codeOf Tryd.f83) [1,1,0,1,0,0])) [3,4] [] (Zd3 a0) s)))) (by kernel_rfl) ?_
 simp only [Zue N a0]
theorem Zqc (a0:Int) (h_a0:i64.min≤a0∧a0≤i64.max) (hg:((decide (0≤a0)&&decide (a0≤14)))=true):ansV prog (mkΓ []) 1000 Tryd.f83 [([3,4],[])] [.i .i64 (a0)] []=some (.a (.i .i64 (12^a0.toNat)),.none,true):=by
 simp only [Bool.and_eq_true,decide_eq_true_eq] at hg
 obtain ⟨h0,h14⟩:=hg
 obtain ⟨m,rfl⟩:=Int.eq_ofNat_of_zero_le h0
 refine (Zs1 1000 _).trans ?_
 have h:=Zhi (g:=Zcw prog (m:Int)) (fun k=>((12:Int)^k,(k:Int))) (m:=m) (x:=((12:Int)^m,(m:Int))) (N:=1000) (fun k hk=>by
  have h1:decide ((k:Int)<(m:Int))=true:=decide_eq_true (by omega)
  have h2:i64.wrap ((k:Int)+1)=((k+1:Nat):Int):=by rw [IntWalk.i64_in _ (by omega)];omega
  simp only [Zcw,h1,cond_true,wrap12 k (by omega),h2]) (by
  have h1:decide ((m:Int)<(m:Int))=false:=decide_eq_false (by omega)
  simp only [Zcw,h1,cond_false]) (by omega)
 have h':iterO (Zcw prog (m:Int)) 1000 ((1:Int),(0:Int))=some ((12:Int)^m,(m:Int)):=h
 rw [h']
 rfl
def Zhy:Con:=fun args h=>match args,h with
 | [.i .i64 a0],[]=>some (.a (.i .i64 (12^a0.toNat)),.none,(decide (0≤a0)&&decide (a0≤14)))
 | _,_=>none
theorem Zpm:EntX prog 83:=Zam (fn:=Tryd.f83) (by kernel_rfl) (by kernel_rfl) (by kernel_rfl)
theorem Zt5:ConOkX mn prog 83 Zhy:=(Zat (N:=1000) (by kernel_rfl) mkΓ_nilX (fn:=Tryd.f83) (by kernel_rfl) (by kernel_rfl) [([3,4],[])]).of (by
 intro ρ h w args vals r e hA hH hr
 unfold Zhy at hr
 split at hr
 ·rename_i a0
  obtain ⟨rfl,hg⟩:=Prod.mk.inj (Option.some.inj hr)
  obtain ⟨rfl,hg2⟩:=Prod.mk.inj hg
  exact Zqc a0 (hA.rng 0 rfl) hg2
 ·cases hr)
theorem Znt {x a b:Int} (h:Zaa x a b=true):a≤x∧x≤b:=by
 unfold Zaa at h
 cases h0:decide (x ≥ a) with
 | false=>rw [h0] at h;exact nomatch h
 | true=>rw [h0] at h;exact ⟨of_decide_eq_true h0,of_decide_eq_true h⟩
end
end Go.Proofs.YtffagbiedigmcaaDoor
