/- Parts of twelve, in company. -/
import Derived.Test.YtohnggmlmglhmaaGreatDoorProg
import Derived.Test.YtohnggmlmglhmaaGreatDoorCxC
namespace Go.Proofs.YtohnggmlmglhmaaGreatDoor
open Go.ChangeShapes Go.WideShapes Go.ChangeAt Go.RowKit Ve Vc
open Tryz renaming prog → PZ
open IntKind (i64)
set_option linter.unusedVariables false
set_option linter.unusedSimpArgs false
set_option maxRecDepth 100000
noncomputable section
variable {mn:Md}
def Zey (a0:Array Value):St:=(⟨.a (.g a0 24) :: .a (.w 0) :: .a (.w 1) :: .a (.w 2) :: .a (.i .i64 (0:Int))::us 10 ([]),[.row a0 24,.row #[.int .u8 (0:Int),.int .u8 (0:Int),.int .u8 (0:Int),.int .u8 (0:Int),.int .u8 (0:Int)] 37,.row #[.int .u8 (0:Int),.int .u8 (0:Int),.int .u8 (0:Int),.int .u8 (0:Int),.int .u8 (0:Int)] 37],[]⟩:St)
def Zf0:Int×Array Value→LS
 | (y0_4,r0_2)=>([.a (.i .i64 (y0_4))],[.row r0_2 37])
def Zkw:Int×Array Value→Exit×LS
 | t=>((.exit 0),Zf0 t)
def Zc5 (P : Program) (a0 : Array Value) : Int × Array Value → Option (Stp (Int × Array Value) (Int × Array Value))
 | (y0_4, r0_2) => bif decide (y0_4 < (5 : Int)) then (bif (decide (0 ≤ y0_4) && decide (y0_4 < 5)) then (bif (decide (0 ≤ y0_4) && decide (y0_4 < 5)) then (some (.more ((i64.wrap (y0_4 + (1 : Int))), (r0_2.setIfInBounds ((y0_4).toNat * 1) (.int .u8 (num a0 ((y0_4).toNat * 1)))))))
    else (none))
   else (none))
  else (some (.done (y0_4, r0_2)))
theorem Zy1 (N:Nat) (a0:Array Value):∀ t:Int×Array Value,Uai PZ (mkΓ []) N (cAt (codeOf Tryz.f83) [1,1,0,1,0,0]) (pAt (Uaa (codeOf Tryz.f83) [([4],[2])]).1 [1,1,0,1,0]) [4] [2] (Zey a0) (Zf0 t)=mapS Zf0 Zkw (Zc5 PZ a0 t):=by
 rintro ⟨y0_4,r0_2⟩
 refine Eq.trans (b:=(bif decide (y0_4<(5:Int)) then (bif (decide (0≤y0_4)&&decide (y0_4<5)) then (bif (decide (0≤y0_4)&&decide (y0_4<5)) then (some (.more ([.a (.i .i64 (i64.wrap (y0_4+(1:Int))))],[.row (r0_2.setIfInBounds ((y0_4).toNat*1) (.int .u8 (num a0 ((y0_4).toNat*1)))) 37])))
    else (none))
   else (none))
  else (some (.done ((.exit 0),([.a (.i .i64 (y0_4))],[.row r0_2 37])))))) (by kernel_rfl) ?_
 simp only [Zc5,Za3,Za4,Za5,Za2,Zf0,Zkw]
def Zi1 (P:Program) (N:Nat) (a0:Array Value) (z0_4:Int) (q0_2:Array Value):Option (SV×Eff×Bool):=some (.a (.g q0_2 37),.none,true)
theorem Zq2 (N:Nat) (a0:Array Value) (z0_4:Int) (q0_2:Array Value):(Uab 0 (kSeq (veC PZ (mkΓ []) N (cAt (codeOf Tryz.f83) [1,1,1]) (pAt (Uaa (codeOf Tryz.f83) [([4],[2])]).1 [1,1,1]) (SV×Eff×Bool)) (finK PZ [] [.cell 2 37]))) (.exit 0) (left (writes (cAt (codeOf Tryz.f83) [1,1,0,1,0,0])) [4] [2] (Zey a0) ([.a (.i .i64 (z0_4))],[.row q0_2 37]))=Zi1 PZ N a0 z0_4 q0_2:=by
 refine Eq.trans (b:=(some (.a (.g q0_2 37),.none,true))) (by kernel_rfl) ?_
 rfl
theorem Zyw (N:Nat) (a0:Array Value):Uag (Uac (Uai PZ (mkΓ []) N (cAt (codeOf Tryz.f83) [1,1,0,1,0,0]) (pAt (Uaa (codeOf Tryz.f83) [([4],[2])]).1 [1,1,0,1,0]) [4] [2] (Zey a0)) N ([.a (.i .i64 (0:Int))],[.row (#[.int .u8 (0:Int),.int .u8 (0:Int),.int .u8 (0:Int),.int .u8 (0:Int),.int .u8 (0:Int)]:Array Value) 37])) (fun e s=>(Uab 0 (kSeq (veC PZ (mkΓ []) N (cAt (codeOf Tryz.f83) [1,1,1]) (pAt (Uaa (codeOf Tryz.f83) [([4],[2])]).1 [1,1,1]) (SV×Eff×Bool)) (finK PZ [] [.cell 2 37]))) e (left (writes (cAt (codeOf Tryz.f83) [1,1,0,1,0,0])) [4] [2] (Zey a0) s))=Ual (Uac (Zc5 PZ a0) N ((0:Int),(#[.int .u8 (0:Int),.int .u8 (0:Int),.int .u8 (0:Int),.int .u8 (0:Int),.int .u8 (0:Int)]:Array Value))) (fun x=>Zi1 PZ N a0 x.1 x.2):=by
 refine Zbg Zf0 Zkw _ _ (Zy1 N a0) N ((0:Int),(#[.int .u8 (0:Int),.int .u8 (0:Int),.int .u8 (0:Int),.int .u8 (0:Int),.int .u8 (0:Int)]:Array Value)) _ _ ?_
 intro x;exact Zq2 N a0 x.1 x.2
theorem Zxe (N:Nat) (a0:Array Value):ansV PZ (mkΓ []) N Tryz.f83 [([4],[2])] [.g a0 24] []=(Ual (Uac (Zc5 PZ a0) N ((0:Int),(#[.int .u8 (0:Int),.int .u8 (0:Int),.int .u8 (0:Int),.int .u8 (0:Int),.int .u8 (0:Int)]:Array Value))) (fun x=>Zi1 PZ N a0 x.1 x.2)):=by
 refine Eq.trans (b:=(Uag (Uac (Uai PZ (mkΓ []) N (cAt (codeOf Tryz.f83) [1,1,0,1,0,0]) (pAt (Uaa (codeOf Tryz.f83) [([4],[2])]).1 [1,1,0,1,0]) [4] [2] (Zey a0)) N ([.a (.i .i64 (0:Int))],[.row (#[.int .u8 (0:Int),.int .u8 (0:Int),.int .u8 (0:Int),.int .u8 (0:Int),.int .u8 (0:Int)]:Array Value) 37])) (fun e s=>(Uab 0 (kSeq (veC PZ (mkΓ []) N (cAt (codeOf Tryz.f83) [1,1,1]) (pAt (Uaa (codeOf Tryz.f83) [([4],[2])]).1 [1,1,1]) (SV×Eff×Bool)) (finK PZ [] [.cell 2 37]))) e (left (writes (cAt (codeOf Tryz.f83) [1,1,0,1,0,0])) [4] [2] (Zey a0) s)))) (by kernel_rfl) ?_
 simp only [Zyw N a0]
theorem Zuv (a0:Array Value) (h_a0:WT PZ 24 a0) (hg:(true)=true):ansV PZ (mkΓ []) 1000 Tryz.f83 [([4],[2])] [.g a0 24] []=some (.a (.g a0 37),.none,true):=by
 have hs:a0.size=(#[.int .u8 (0:Int),.int .u8 (0:Int),.int .u8 (0:Int),.int .u8 (0:Int),.int .u8 (0:Int)]:Array Value).size:=by rw [h_a0.layLen];kernel_rfl
 have hz:a0.size=5:=by rw [h_a0.layLen];kernel_rfl
 have hL:∀ k,k<5→(lay PZ 24)[k*1]? = some 4:=by
  intro k hk
  have h:(List.range 5).all (fun k=>(lay PZ 24)[k*1]? == some 4)=true:=by kernel_rfl
  exact eq_of_beq (List.all_eq_true.1 h k (List.mem_range.2 hk))
 have h:=Zdr (g:=Zc5 PZ a0) (fun k=>((k:Int),upto a0 (#[.int .u8 (0:Int),.int .u8 (0:Int),.int .u8 (0:Int),.int .u8 (0:Int),.int .u8 (0:Int)]:Array Value) (k*1))) (m:=5) (x:=(((5:Nat):Int),upto a0 (#[.int .u8 (0:Int),.int .u8 (0:Int),.int .u8 (0:Int),.int .u8 (0:Int),.int .u8 (0:Int)]:Array Value) (5*1))) (N:=1000) (fun k hk=>by
  have h1:decide ((k:Int)<5)=true:=Q3 (by omega)
  have h0:decide (0≤(k:Int))=true:=Q3 (by omega)
  have h3:i64.wrap ((k:Int)+1)=((k+1:Nat):Int):=by rw [IntWalk.i64_in _ (by omega)];omega
  have h4:((k:Int)).toNat=k:=Q9 k
  have h5:(upto a0 (#[.int .u8 (0:Int),.int .u8 (0:Int),.int .u8 (0:Int),.int .u8 (0:Int),.int .u8 (0:Int)]:Array Value) (k*1)).setIfInBounds (k*1) (.int .u8 (num a0 (k*1)))=upto a0 (#[.int .u8 (0:Int),.int .u8 (0:Int),.int .u8 (0:Int),.int .u8 (0:Int),.int .u8 (0:Int)]:Array Value) ((k+1)*1):=by
   rw [Nat.add_mul];exact Yb5 hs (h_a0.int (k:=.u8) (hL k hk)).1
  simp only [Zc5,h1,h0,Bool.and_self,h4,Q1,h3,h5]) (by
  have h1:decide (((5:Nat):Int)<5)=false:=by decide
  simp only [Zc5,h1,Q2]) (by omega)
 simp only [Nat.zero_mul,Zrc hs,Zxa hs hz] at h
 refine (Zxe 1000 a0).trans ?_
 have h':Uac (Zc5 PZ a0) 1000 ((0:Int),(#[.int .u8 (0:Int),.int .u8 (0:Int),.int .u8 (0:Int),.int .u8 (0:Int),.int .u8 (0:Int)]:Array Value))=some (((5:Nat):Int),a0):=h
 rw [h']
 rfl
def Zbp:Con:=fun args h=>match args,h with
 | [.g a0 24],[]=>some (.a (.g a0 37),.none,true)
 | _,_=>none
theorem Zt0:EntX PZ 83:=Zag (fn:=Tryz.f83) (by kernel_rfl) (by kernel_rfl) (by kernel_rfl)
theorem Zyr:Uad mn PZ 83 Zbp:=(Zai (N:=1000) (by kernel_rfl) mkΓ_nilX (fn:=Tryz.f83) (by kernel_rfl) (by kernel_rfl) [([4],[2])]).of (by
 intro ρ h w args vals r e hA hH hr
 unfold Zbp at hr
 split at hr
 ·rename_i a0
  obtain ⟨rfl,rfl,hg2⟩:=BQi hr
  exact Zuv a0 (hA.wt 0 rfl) hg2
 ·cases hr)
def Zdh (a0:Array Value):St:=(⟨.a (.g a0 25) :: .a (.w 0) :: .a (.w 1) :: .a (.w 2) :: .a (.i .i64 (0:Int))::us 11 ([]),[.row a0 25,.row (zc PZ 38) 38,.row (zc PZ 38) 38],[]⟩:St)
def Zeo:Int×Array Value→LS
 | (y0_4,r0_2)=>([.a (.i .i64 (y0_4))],[.row r0_2 38])
def Zh5:Int×Array Value→Exit×LS
 | t=>((.exit 0),Zeo t)
def Zb0 (P : Program) (a0 : Array Value) : Int × Array Value → Option (Stp (Int × Array Value) (Int × Array Value))
 | (y0_4, r0_2) => bif decide (y0_4 < (36 : Int)) then (bif (decide (0 ≤ y0_4) && decide (y0_4 < 36)) then (bif (decide (0 ≤ y0_4) && decide (y0_4 < 36)) then (some (.more ((i64.wrap (y0_4 + (1 : Int))), (spl r0_2 ((y0_4).toNat * 5) (a0.extract ((y0_4).toNat * 5) (((y0_4).toNat * 5) + 5)).toList))))
    else (none))
   else (none))
  else (some (.done (y0_4, r0_2)))
theorem Ztd (N:Nat) (a0:Array Value):∀ t:Int×Array Value,Uai PZ (mkΓ [(83,con Zbp)]) N (cAt (codeOf Tryz.f57) [1,1,0,1,0,0]) (pAt (Uaa (codeOf Tryz.f57) [([4],[2])]).1 [1,1,0,1,0]) [4] [2] (Zdh a0) (Zeo t)=mapS Zeo Zh5 (Zb0 PZ a0 t):=by
 rintro ⟨y0_4,r0_2⟩
 refine Eq.trans (b:=(bif decide (y0_4<(36:Int)) then (bif (decide (0≤y0_4)&&decide (y0_4<36)) then (bif (decide (0≤y0_4)&&decide (y0_4<36)) then (some (.more ([.a (.i .i64 (i64.wrap (y0_4+(1:Int))))],[.row (spl r0_2 ((y0_4).toNat*5) (a0.extract ((y0_4).toNat*5) (((y0_4).toNat*5)+5)).toList) 38])))
    else (none))
   else (none))
  else (some (.done ((.exit 0),([.a (.i .i64 (y0_4))],[.row r0_2 38])))))) (by kernel_rfl) ?_
 simp only [Zb0,Za3,Za4,Za5,Za2,Zeo,Zh5]
def Zg5 (P:Program) (N:Nat) (a0:Array Value) (z0_4:Int) (q0_2:Array Value):Option (SV×Eff×Bool):=some (.a (.g q0_2 38),.none,true)
theorem Zn5 (N:Nat) (a0:Array Value) (z0_4:Int) (q0_2:Array Value):(Uab 0 (kSeq (veC PZ (mkΓ [(83,con Zbp)]) N (cAt (codeOf Tryz.f57) [1,1,1]) (pAt (Uaa (codeOf Tryz.f57) [([4],[2])]).1 [1,1,1]) (SV×Eff×Bool)) (finK PZ [] [.cell 2 38]))) (.exit 0) (left (writes (cAt (codeOf Tryz.f57) [1,1,0,1,0,0])) [4] [2] (Zdh a0) ([.a (.i .i64 (z0_4))],[.row q0_2 38]))=Zg5 PZ N a0 z0_4 q0_2:=by
 refine Eq.trans (b:=(some (.a (.g q0_2 38),.none,true))) (by kernel_rfl) ?_
 rfl
theorem Zs9 (N:Nat) (a0:Array Value):Uag (Uac (Uai PZ (mkΓ [(83,con Zbp)]) N (cAt (codeOf Tryz.f57) [1,1,0,1,0,0]) (pAt (Uaa (codeOf Tryz.f57) [([4],[2])]).1 [1,1,0,1,0]) [4] [2] (Zdh a0)) N ([.a (.i .i64 (0:Int))],[.row (zc PZ 38) 38])) (fun e s=>(Uab 0 (kSeq (veC PZ (mkΓ [(83,con Zbp)]) N (cAt (codeOf Tryz.f57) [1,1,1]) (pAt (Uaa (codeOf Tryz.f57) [([4],[2])]).1 [1,1,1]) (SV×Eff×Bool)) (finK PZ [] [.cell 2 38]))) e (left (writes (cAt (codeOf Tryz.f57) [1,1,0,1,0,0])) [4] [2] (Zdh a0) s))=Ual (Uac (Zb0 PZ a0) N ((0:Int),(zc PZ 38))) (fun x=>Zg5 PZ N a0 x.1 x.2):=by
 refine Zbg Zeo Zh5 _ _ (Ztd N a0) N ((0:Int),(zc PZ 38)) _ _ ?_
 intro x;exact Zn5 N a0 x.1 x.2
theorem Zr6 (N:Nat) (a0:Array Value):ansV PZ (mkΓ [(83,con Zbp)]) N Tryz.f57 [([4],[2])] [.g a0 25] []=(Ual (Uac (Zb0 PZ a0) N ((0:Int),(zc PZ 38))) (fun x=>Zg5 PZ N a0 x.1 x.2)):=by
 refine Eq.trans (b:=(Uag (Uac (Uai PZ (mkΓ [(83,con Zbp)]) N (cAt (codeOf Tryz.f57) [1,1,0,1,0,0]) (pAt (Uaa (codeOf Tryz.f57) [([4],[2])]).1 [1,1,0,1,0]) [4] [2] (Zdh a0)) N ([.a (.i .i64 (0:Int))],[.row (zc PZ 38) 38])) (fun e s=>(Uab 0 (kSeq (veC PZ (mkΓ [(83,con Zbp)]) N (cAt (codeOf Tryz.f57) [1,1,1]) (pAt (Uaa (codeOf Tryz.f57) [([4],[2])]).1 [1,1,1]) (SV×Eff×Bool)) (finK PZ [] [.cell 2 38]))) e (left (writes (cAt (codeOf Tryz.f57) [1,1,0,1,0,0])) [4] [2] (Zdh a0) s)))) (by kernel_rfl) ?_
 simp only [Zs9 N a0]
theorem Zqy (a0:Array Value) (h_a0:WT PZ 25 a0) (hg:(true)=true):ansV PZ (mkΓ [(83,con Zbp)]) 1000 Tryz.f57 [([4],[2])] [.g a0 25] []=some (.a (.g a0 38),.none,true):=by
 have hs:a0.size=(zc PZ 38).size:=by rw [h_a0.layLen];kernel_rfl
 have hz:a0.size=180:=by rw [h_a0.layLen];kernel_rfl
 have hL:∀ k,k<36→(lay PZ 25)[k*5]? = some 4:=by
  intro k hk
  have h:(List.range 36).all (fun k=>(lay PZ 25)[k*5]? == some 4)=true:=by kernel_rfl
  exact eq_of_beq (List.all_eq_true.1 h k (List.mem_range.2 hk))
 have h:=Zdr (g:=Zb0 PZ a0) (fun k=>((k:Int),upto a0 (zc PZ 38) (k*5))) (m:=36) (x:=(((36:Nat):Int),upto a0 (zc PZ 38) (36*5))) (N:=1000) (fun k hk=>by
  have h1:decide ((k:Int)<36)=true:=Q3 (by omega)
  have h0:decide (0≤(k:Int))=true:=Q3 (by omega)
  have h3:i64.wrap ((k:Int)+1)=((k+1:Nat):Int):=by rw [IntWalk.i64_in _ (by omega)];omega
  have h4:((k:Int)).toNat=k:=Q9 k
  have h5:spl (upto a0 (zc PZ 38) (k*5)) (k*5) (a0.extract (k*5) (k*5+5)).toList=upto a0 (zc PZ 38) ((k+1)*5):=by
   rw [Nat.add_mul];exact Yb0 hs (by omega) rfl
  simp only [Zb0,h1,h0,Bool.and_self,h4,Q1,h3,h5]) (by
  have h1:decide (((36:Nat):Int)<36)=false:=by decide
  simp only [Zb0,h1,Q2]) (by omega)
 simp only [Nat.zero_mul,Zrc hs,Zxa hs hz] at h
 refine (Zr6 1000 a0).trans ?_
 have h':Uac (Zb0 PZ a0) 1000 ((0:Int),(zc PZ 38))=some (((36:Nat):Int),a0):=h
 rw [h']
 rfl
def Za8:Con:=fun args h=>match args,h with
 | [.g a0 25],[]=>some (.a (.g a0 38),.none,true)
 | _,_=>none
theorem Zpt:EntX PZ 57:=Zag (fn:=Tryz.f57) (by kernel_rfl) (by kernel_rfl) (by kernel_rfl)
theorem Ztn:Uad mn PZ 57 Za8:=(Zai (N:=1000) (by kernel_rfl) (mkΓ_consX (Zad Zyr) Zt0 mkΓ_nilX) (fn:=Tryz.f57) (by kernel_rfl) (by kernel_rfl) [([4],[2])]).of (by
 intro ρ h w args vals r e hA hH hr
 unfold Za8 at hr
 split at hr
 ·rename_i a0
  obtain ⟨rfl,rfl,hg2⟩:=BQi hr
  exact Zqy a0 (hA.wt 0 rfl) hg2
 ·cases hr)
def Zcs (a0:Array Value):St:=(⟨.a (.g a0 26) :: .a (.w 0) :: .a (.w 1) :: .a (.w 2) :: .a (.i .i64 (0:Int))::us 11 ([]),[.row a0 26,.row (zc PZ 39) 39,.row (zc PZ 39) 39],[]⟩:St)
def Zdv:Int×Array Value→LS
 | (y0_4,r0_2)=>([.a (.i .i64 (y0_4))],[.row r0_2 39])
def Zg0:Int×Array Value→Exit×LS
 | t=>((.exit 0),Zdv t)
def Zbi (P : Program) (a0 : Array Value) : Int × Array Value → Option (Stp (Int × Array Value) (Int × Array Value))
 | (y0_4, r0_2) => bif decide (y0_4 < (2 : Int)) then (bif (decide (0 ≤ y0_4) && decide (y0_4 < 2)) then (bif (decide (0 ≤ y0_4) && decide (y0_4 < 2)) then (some (.more ((i64.wrap (y0_4 + (1 : Int))), (spl r0_2 ((y0_4).toNat * 180) (a0.extract ((y0_4).toNat * 180) (((y0_4).toNat * 180) + 180)).toList))))
    else (none))
   else (none))
  else (some (.done (y0_4, r0_2)))
theorem Zqn (N:Nat) (a0:Array Value):∀ t:Int×Array Value,Uai PZ (mkΓ [(57,con Za8)]) N (cAt (codeOf Tryz.f29) [1,1,0,1,0,0]) (pAt (Uaa (codeOf Tryz.f29) [([4],[2])]).1 [1,1,0,1,0]) [4] [2] (Zcs a0) (Zdv t)=mapS Zdv Zg0 (Zbi PZ a0 t):=by
 rintro ⟨y0_4,r0_2⟩
 refine Eq.trans (b:=(bif decide (y0_4<(2:Int)) then (bif (decide (0≤y0_4)&&decide (y0_4<2)) then (bif (decide (0≤y0_4)&&decide (y0_4<2)) then (some (.more ([.a (.i .i64 (i64.wrap (y0_4+(1:Int))))],[.row (spl r0_2 ((y0_4).toNat*180) (a0.extract ((y0_4).toNat*180) (((y0_4).toNat*180)+180)).toList) 39])))
    else (none))
   else (none))
  else (some (.done ((.exit 0),([.a (.i .i64 (y0_4))],[.row r0_2 39])))))) (by kernel_rfl) ?_
 simp only [Zbi,Za3,Za4,Za5,Za2,Zdv,Zg0]
def Zf5 (P:Program) (N:Nat) (a0:Array Value) (z0_4:Int) (q0_2:Array Value):Option (SV×Eff×Bool):=some (.a (.g q0_2 39),.none,true)
theorem Zl6 (N:Nat) (a0:Array Value) (z0_4:Int) (q0_2:Array Value):(Uab 0 (kSeq (veC PZ (mkΓ [(57,con Za8)]) N (cAt (codeOf Tryz.f29) [1,1,1]) (pAt (Uaa (codeOf Tryz.f29) [([4],[2])]).1 [1,1,1]) (SV×Eff×Bool)) (finK PZ [] [.cell 2 39]))) (.exit 0) (left (writes (cAt (codeOf Tryz.f29) [1,1,0,1,0,0])) [4] [2] (Zcs a0) ([.a (.i .i64 (z0_4))],[.row q0_2 39]))=Zf5 PZ N a0 z0_4 q0_2:=by
 refine Eq.trans (b:=(some (.a (.g q0_2 39),.none,true))) (by kernel_rfl) ?_
 rfl
theorem Zqf (N:Nat) (a0:Array Value):Uag (Uac (Uai PZ (mkΓ [(57,con Za8)]) N (cAt (codeOf Tryz.f29) [1,1,0,1,0,0]) (pAt (Uaa (codeOf Tryz.f29) [([4],[2])]).1 [1,1,0,1,0]) [4] [2] (Zcs a0)) N ([.a (.i .i64 (0:Int))],[.row (zc PZ 39) 39])) (fun e s=>(Uab 0 (kSeq (veC PZ (mkΓ [(57,con Za8)]) N (cAt (codeOf Tryz.f29) [1,1,1]) (pAt (Uaa (codeOf Tryz.f29) [([4],[2])]).1 [1,1,1]) (SV×Eff×Bool)) (finK PZ [] [.cell 2 39]))) e (left (writes (cAt (codeOf Tryz.f29) [1,1,0,1,0,0])) [4] [2] (Zcs a0) s))=Ual (Uac (Zbi PZ a0) N ((0:Int),(zc PZ 39))) (fun x=>Zf5 PZ N a0 x.1 x.2):=by
 refine Zbg Zdv Zg0 _ _ (Zqn N a0) N ((0:Int),(zc PZ 39)) _ _ ?_
 intro x;exact Zl6 N a0 x.1 x.2
theorem Zpv (N:Nat) (a0:Array Value):ansV PZ (mkΓ [(57,con Za8)]) N Tryz.f29 [([4],[2])] [.g a0 26] []=(Ual (Uac (Zbi PZ a0) N ((0:Int),(zc PZ 39))) (fun x=>Zf5 PZ N a0 x.1 x.2)):=by
 refine Eq.trans (b:=(Uag (Uac (Uai PZ (mkΓ [(57,con Za8)]) N (cAt (codeOf Tryz.f29) [1,1,0,1,0,0]) (pAt (Uaa (codeOf Tryz.f29) [([4],[2])]).1 [1,1,0,1,0]) [4] [2] (Zcs a0)) N ([.a (.i .i64 (0:Int))],[.row (zc PZ 39) 39])) (fun e s=>(Uab 0 (kSeq (veC PZ (mkΓ [(57,con Za8)]) N (cAt (codeOf Tryz.f29) [1,1,1]) (pAt (Uaa (codeOf Tryz.f29) [([4],[2])]).1 [1,1,1]) (SV×Eff×Bool)) (finK PZ [] [.cell 2 39]))) e (left (writes (cAt (codeOf Tryz.f29) [1,1,0,1,0,0])) [4] [2] (Zcs a0) s)))) (by kernel_rfl) ?_
 simp only [Zqf N a0]
theorem Zol (a0:Array Value) (h_a0:WT PZ 26 a0) (hg:(true)=true):ansV PZ (mkΓ [(57,con Za8)]) 1000 Tryz.f29 [([4],[2])] [.g a0 26] []=some (.a (.g a0 39),.none,true):=by
 have hs:a0.size=(zc PZ 39).size:=by rw [h_a0.layLen];kernel_rfl
 have hz:a0.size=360:=by rw [h_a0.layLen];kernel_rfl
 have hL:∀ k,k<2→(lay PZ 26)[k*180]? = some 4:=by
  intro k hk
  have h:(List.range 2).all (fun k=>(lay PZ 26)[k*180]? == some 4)=true:=by kernel_rfl
  exact eq_of_beq (List.all_eq_true.1 h k (List.mem_range.2 hk))
 have h:=Zdr (g:=Zbi PZ a0) (fun k=>((k:Int),upto a0 (zc PZ 39) (k*180))) (m:=2) (x:=(((2:Nat):Int),upto a0 (zc PZ 39) (2*180))) (N:=1000) (fun k hk=>by
  have h1:decide ((k:Int)<2)=true:=Q3 (by omega)
  have h0:decide (0≤(k:Int))=true:=Q3 (by omega)
  have h3:i64.wrap ((k:Int)+1)=((k+1:Nat):Int):=by rw [IntWalk.i64_in _ (by omega)];omega
  have h4:((k:Int)).toNat=k:=Q9 k
  have h5:spl (upto a0 (zc PZ 39) (k*180)) (k*180) (a0.extract (k*180) (k*180+180)).toList=upto a0 (zc PZ 39) ((k+1)*180):=by
   rw [Nat.add_mul];exact Yb0 hs (by omega) rfl
  simp only [Zbi,h1,h0,Bool.and_self,h4,Q1,h3,h5]) (by
  have h1:decide (((2:Nat):Int)<2)=false:=by decide
  simp only [Zbi,h1,Q2]) (by omega)
 simp only [Nat.zero_mul,Zrc hs,Zxa hs hz] at h
 refine (Zpv 1000 a0).trans ?_
 have h':Uac (Zbi PZ a0) 1000 ((0:Int),(zc PZ 39))=some (((2:Nat):Int),a0):=h
 rw [h']
 rfl
def Zgg:Con:=fun args h=>match args,h with
 | [.g a0 26],[]=>some (.a (.g a0 39),.none,true)
 | _,_=>none
theorem Zn4:EntX PZ 29:=Zag (fn:=Tryz.f29) (by kernel_rfl) (by kernel_rfl) (by kernel_rfl)
theorem Zqg:Uad mn PZ 29 Zgg:=(Zai (N:=1000) (by kernel_rfl) (mkΓ_consX (Zad Ztn) Zpt mkΓ_nilX) (fn:=Tryz.f29) (by kernel_rfl) (by kernel_rfl) [([4],[2])]).of (by
 intro ρ h w args vals r e hA hH hr
 unfold Zgg at hr
 split at hr
 ·rename_i a0
  obtain ⟨rfl,rfl,hg2⟩:=BQi hr
  exact Zol a0 (hA.wt 0 rfl) hg2
 ·cases hr)
def Yai:Cons:=(mkΓ [(29,con Zgg)])
theorem Ye4 (N:Nat) (a0:Array Value):ansV PZ Yai N Tryz.f9 [] [.g a0 28] []=(some (.a (.g (spl ((((zc PZ 41).setIfInBounds 0 (.int .i8 (num a0 0))).setIfInBounds 1 (.int .i8 (num a0 1))).setIfInBounds 2 (.int .u64 (num a0 2))) 3 (a0.extract 3 (3+360)).toList) 41),.none,true)):=by kernel_rfl
theorem Yea (a0:Array Value) (h_a0:WT PZ 28 a0) (hg:(true)=true):ansV PZ Yai 1000 Tryz.f9 [] [.g a0 28] []=some (.a (.g a0 41),.none,true):=by
 have hs:a0.size=(zc PZ 41).size:=by rw [h_a0.layLen];kernel_rfl
 have hz:a0.size=363:=by rw [h_a0.layLen];kernel_rfl
 have e0:(upto a0 (zc PZ 41) 0).setIfInBounds 0 (.int .i8 (num a0 0))=upto a0 (zc PZ 41) 1:=Yb5 hs (h_a0.int (k:=.i8) (by kernel_rfl)).1
 rw [Zrc hs] at e0
 have e1:(upto a0 (zc PZ 41) 1).setIfInBounds 1 (.int .i8 (num a0 1))=upto a0 (zc PZ 41) 2:=Yb5 hs (h_a0.int (k:=.i8) (by kernel_rfl)).1
 have e2:(upto a0 (zc PZ 41) 2).setIfInBounds 2 (.int .u64 (num a0 2))=upto a0 (zc PZ 41) 3:=Yb5 hs (h_a0.int (k:=.u64) (by kernel_rfl)).1
 have e3:spl (upto a0 (zc PZ 41) 3) 3 (a0.extract 3 (3+360)).toList=upto a0 (zc PZ 41) 363:=Yb0 hs (by omega) rfl
 refine (Ye4 1000 a0).trans ?_
 rw [e0,e1,e2,e3,Zxa hs hz]
def Zn6:Con:=fun args h=>match args,h with
 | [.g a0 28],[]=>some (.a (.g a0 41),.none,true)
 | _,_=>none
theorem Ya7:EntX PZ 9:=Zag (fn:=Tryz.f9) (by kernel_rfl) (by kernel_rfl) (by kernel_rfl)
theorem Yhi:Uad mn PZ 9 Zn6:=(Zai (N:=1000) (by kernel_rfl) (mkΓ_consX (Zad Zqg) Zn4 mkΓ_nilX) (fn:=Tryz.f9) (by kernel_rfl) (by kernel_rfl) []).of (by
 intro ρ h w args vals r e hA hH hr
 unfold Zn6 at hr
 split at hr
 ·rename_i a0
  obtain ⟨rfl,rfl,hg2⟩:=BQi hr
  exact Yea a0 (hA.wt 0 rfl) hg2
 ·cases hr)
theorem wrap12:∀ k,k<14→i64.wrap ((12:Int)^k*12)=12^(k+1):=by decide
def Ze6 (a0:Int):St:=(⟨.a (.i .i64 (a0)) :: .a (.u) :: .a (.i .i64 (0:Int)) :: .a (.i .i64 (1:Int)) :: .a (.i .i64 (0:Int))::us 8 ([]),[],[]⟩:St)
def Zgt:Int×Int→LS
 | (y0_3,y0_4)=>([.a (.i .i64 (y0_3)),.a (.i .i64 (y0_4))],[])
def Zlu:Int×Int→Exit×LS
 | t=>((.exit 0),Zgt t)
def Zdl (P:Program) (a0:Int):Int×Int→Option (Stp (Int×Int) (Int×Int))
 | (y0_3,y0_4)=>bif decide (y0_4<a0) then (some (.more ((i64.wrap (y0_3*(12:Int))),(i64.wrap (y0_4+(1:Int))))))
  else (some (.done (y0_3,y0_4)))
theorem Ya2 (N:Nat) (a0:Int):∀ t:Int×Int,Uai PZ (mkΓ []) N (cAt (codeOf Tryz.f28) [1,1,0,1,0,0]) (pAt (Uaa (codeOf Tryz.f28) [([3,4],[])]).1 [1,1,0,1,0]) [3,4] [] (Ze6 a0) (Zgt t)=mapS Zgt Zlu (Zdl PZ a0 t):=by
 rintro ⟨y0_3,y0_4⟩
 refine Eq.trans (b:=(bif decide (y0_4<a0) then (some (.more ([.a (.i .i64 (i64.wrap (y0_3*(12:Int)))),.a (.i .i64 (i64.wrap (y0_4+(1:Int))))],[])))
  else (some (.done ((.exit 0),([.a (.i .i64 (y0_3)),.a (.i .i64 (y0_4))],[])))))) (by kernel_rfl) ?_
 simp only [Zdl,Za3,Za4,Za5,Za2,Zgt,Zlu]
def Zjr (P:Program) (N:Nat) (a0:Int) (z0_3:Int) (z0_4:Int):Option (SV×Eff×Bool):=some (.a (.i .i64 (z0_3)),.none,true)
theorem Zsf (N:Nat) (a0:Int) (z0_3:Int) (z0_4:Int):(Uab 0 (kSeq (veC PZ (mkΓ []) N (cAt (codeOf Tryz.f28) [1,1,1]) (pAt (Uaa (codeOf Tryz.f28) [([3,4],[])]).1 [1,1,1]) (SV×Eff×Bool)) (finK PZ [] [.tmp 2]))) (.exit 0) (left (writes (cAt (codeOf Tryz.f28) [1,1,0,1,0,0])) [3,4] [] (Ze6 a0) ([.a (.i .i64 (z0_3)),.a (.i .i64 (z0_4))],[]))=Zjr PZ N a0 z0_3 z0_4:=by
 refine Eq.trans (b:=(some (.a (.i .i64 (z0_3)),.none,true))) (by kernel_rfl) ?_
 rfl
theorem Ya6 (N:Nat) (a0:Int):Uag (Uac (Uai PZ (mkΓ []) N (cAt (codeOf Tryz.f28) [1,1,0,1,0,0]) (pAt (Uaa (codeOf Tryz.f28) [([3,4],[])]).1 [1,1,0,1,0]) [3,4] [] (Ze6 a0)) N ([.a (.i .i64 (1:Int)),.a (.i .i64 (0:Int))],[])) (fun e s=>(Uab 0 (kSeq (veC PZ (mkΓ []) N (cAt (codeOf Tryz.f28) [1,1,1]) (pAt (Uaa (codeOf Tryz.f28) [([3,4],[])]).1 [1,1,1]) (SV×Eff×Bool)) (finK PZ [] [.tmp 2]))) e (left (writes (cAt (codeOf Tryz.f28) [1,1,0,1,0,0])) [3,4] [] (Ze6 a0) s))=Ual (Uac (Zdl PZ a0) N ((1:Int),(0:Int))) (fun x=>Zjr PZ N a0 x.1 x.2):=by
 refine Zbg Zgt Zlu _ _ (Ya2 N a0) N ((1:Int),(0:Int)) _ _ ?_
 intro x;exact Zsf N a0 x.1 x.2
theorem Zyt (N:Nat) (a0:Int):ansV PZ (mkΓ []) N Tryz.f28 [([3,4],[])] [.i .i64 (a0)] []=(Ual (Uac (Zdl PZ a0) N ((1:Int),(0:Int))) (fun x=>Zjr PZ N a0 x.1 x.2)):=by
 refine Eq.trans (b:=(Uag (Uac (Uai PZ (mkΓ []) N (cAt (codeOf Tryz.f28) [1,1,0,1,0,0]) (pAt (Uaa (codeOf Tryz.f28) [([3,4],[])]).1 [1,1,0,1,0]) [3,4] [] (Ze6 a0)) N ([.a (.i .i64 (1:Int)),.a (.i .i64 (0:Int))],[])) (fun e s=>(Uab 0 (kSeq (veC PZ (mkΓ []) N (cAt (codeOf Tryz.f28) [1,1,1]) (pAt (Uaa (codeOf Tryz.f28) [([3,4],[])]).1 [1,1,1]) (SV×Eff×Bool)) (finK PZ [] [.tmp 2]))) e (left (writes (cAt (codeOf Tryz.f28) [1,1,0,1,0,0])) [3,4] [] (Ze6 a0) s)))) (by kernel_rfl) ?_
 simp only [Ya6 N a0]
theorem Zwj (a0:Int) (h_a0:i64.min≤a0∧a0≤i64.max) (hg:((decide (0≤a0)&&decide (a0≤14)))=true):ansV PZ (mkΓ []) 1000 Tryz.f28 [([3,4],[])] [.i .i64 (a0)] []=some (.a (.i .i64 (12^a0.toNat)),.none,true):=by
 simp only [Q7,decide_eq_true_eq] at hg
 obtain ⟨h0,h14⟩:=hg
 obtain ⟨m,rfl⟩:=Int.eq_ofNat_of_zero_le h0
 refine (Zyt 1000 _).trans ?_
 have h:=Zdr (g:=Zdl PZ (m:Int)) (fun k=>((12:Int)^k,(k:Int))) (m:=m) (x:=((12:Int)^m,(m:Int))) (N:=1000) (fun k hk=>by
  have h1:decide ((k:Int)<(m:Int))=true:=Q3 (by omega)
  have h2:i64.wrap ((k:Int)+1)=((k+1:Nat):Int):=by rw [IntWalk.i64_in _ (by omega)];omega
  simp only [Zdl,h1,Q1,wrap12 k (by omega),h2]) (by
  have h1:decide ((m:Int)<(m:Int))=false:=Q4 (by omega)
  simp only [Zdl,h1,Q2]) (by omega)
 have h':Uac (Zdl PZ (m:Int)) 1000 ((1:Int),(0:Int))=some ((12:Int)^m,(m:Int)):=h
 rw [h']
 rfl
def Zh2:Con:=fun args h=>match args,h with
 | [.i .i64 a0],[]=>some (.a (.i .i64 (12^a0.toNat)),.none,(decide (0≤a0)&&decide (a0≤14)))
 | _,_=>none
theorem Zmo:EntX PZ 28:=Zag (fn:=Tryz.f28) (by kernel_rfl) (by kernel_rfl) (by kernel_rfl)
theorem Zp8:Uad mn PZ 28 Zh2:=(Zai (N:=1000) (by kernel_rfl) mkΓ_nilX (fn:=Tryz.f28) (by kernel_rfl) (by kernel_rfl) [([3,4],[])]).of (by
 intro ρ h w args vals r e hA hH hr
 unfold Zh2 at hr
 split at hr
 ·rename_i a0
  obtain ⟨rfl,rfl,hg2⟩:=BQi hr
  exact Zwj a0 (hA.rng 0 rfl) hg2
 ·cases hr)
def Zeh (a0:Int):St:=(⟨.a (.i .i64 (a0)) :: .a (.u) :: .a (.i .i64 (0:Int)) :: .a (.i .i64 (1:Int)) :: .a (.i .i64 (a0)) :: .a (.i .i64 (0:Int))::us 5 ([]),[],[]⟩:St)
def Zff:Int×Int→LS
 | (y0_3,y0_5)=>([.a (.i .i64 (y0_3)),.a (.i .i64 (y0_5))],[])
def Zjz:Int×Int→Exit×LS
 | t=>((.exit 0),Zff t)
def Zcp (P:Program) (a0:Int):Int×Int→Option (Stp (Int×Int) (Int×Int))
 | (y0_3,y0_5)=>bif decide (y0_5<a0) then (some (.more ((i64.wrap (y0_3*(12:Int))),(i64.wrap (y0_5+(1:Int))))))
  else (some (.done (y0_3,y0_5)))
theorem Zv5 (N:Nat) (a0:Int):∀ t:Int×Int,Uai PZ (mkΓ []) N (cAt (codeOf Tryz.f93) [1,1,0,1,0,0]) (pAt (Uaa (codeOf Tryz.f93) [([3,5],[])]).1 [1,1,0,1,0]) [3,5] [] (Zeh a0) (Zff t)=mapS Zff Zjz (Zcp PZ a0 t):=by
 rintro ⟨y0_3,y0_5⟩
 refine Eq.trans (b:=(bif decide (y0_5<a0) then (some (.more ([.a (.i .i64 (i64.wrap (y0_3*(12:Int)))),.a (.i .i64 (i64.wrap (y0_5+(1:Int))))],[])))
  else (some (.done ((.exit 0),([.a (.i .i64 (y0_3)),.a (.i .i64 (y0_5))],[])))))) (by kernel_rfl) ?_
 simp only [Zcp,Za3,Za4,Za5,Za2,Zff,Zjz]
def Zie (P:Program) (N:Nat) (a0:Int) (z0_3:Int) (z0_5:Int):Option (SV×Eff×Bool):=some (.a (.i .i64 (z0_3)),.none,true)
theorem Zps (N:Nat) (a0:Int) (z0_3:Int) (z0_5:Int):(Uab 0 (kSeq (veC PZ (mkΓ []) N (cAt (codeOf Tryz.f93) [1,1,1]) (pAt (Uaa (codeOf Tryz.f93) [([3,5],[])]).1 [1,1,1]) (SV×Eff×Bool)) (finK PZ [] [.tmp 2]))) (.exit 0) (left (writes (cAt (codeOf Tryz.f93) [1,1,0,1,0,0])) [3,5] [] (Zeh a0) ([.a (.i .i64 (z0_3)),.a (.i .i64 (z0_5))],[]))=Zie PZ N a0 z0_3 z0_5:=by
 refine Eq.trans (b:=(some (.a (.i .i64 (z0_3)),.none,true))) (by kernel_rfl) ?_
 rfl
theorem Zyi (N:Nat) (a0:Int):Uag (Uac (Uai PZ (mkΓ []) N (cAt (codeOf Tryz.f93) [1,1,0,1,0,0]) (pAt (Uaa (codeOf Tryz.f93) [([3,5],[])]).1 [1,1,0,1,0]) [3,5] [] (Zeh a0)) N ([.a (.i .i64 (1:Int)),.a (.i .i64 (0:Int))],[])) (fun e s=>(Uab 0 (kSeq (veC PZ (mkΓ []) N (cAt (codeOf Tryz.f93) [1,1,1]) (pAt (Uaa (codeOf Tryz.f93) [([3,5],[])]).1 [1,1,1]) (SV×Eff×Bool)) (finK PZ [] [.tmp 2]))) e (left (writes (cAt (codeOf Tryz.f93) [1,1,0,1,0,0])) [3,5] [] (Zeh a0) s))=Ual (Uac (Zcp PZ a0) N ((1:Int),(0:Int))) (fun x=>Zie PZ N a0 x.1 x.2):=by
 refine Zbg Zff Zjz _ _ (Zv5 N a0) N ((1:Int),(0:Int)) _ _ ?_
 intro x;exact Zps N a0 x.1 x.2
theorem Zut (N:Nat) (a0:Int):ansV PZ (mkΓ []) N Tryz.f93 [([3,5],[])] [.i .i64 (a0)] []=(Ual (Uac (Zcp PZ a0) N ((1:Int),(0:Int))) (fun x=>Zie PZ N a0 x.1 x.2)):=by
 refine Eq.trans (b:=(Uag (Uac (Uai PZ (mkΓ []) N (cAt (codeOf Tryz.f93) [1,1,0,1,0,0]) (pAt (Uaa (codeOf Tryz.f93) [([3,5],[])]).1 [1,1,0,1,0]) [3,5] [] (Zeh a0)) N ([.a (.i .i64 (1:Int)),.a (.i .i64 (0:Int))],[])) (fun e s=>(Uab 0 (kSeq (veC PZ (mkΓ []) N (cAt (codeOf Tryz.f93) [1,1,1]) (pAt (Uaa (codeOf Tryz.f93) [([3,5],[])]).1 [1,1,1]) (SV×Eff×Bool)) (finK PZ [] [.tmp 2]))) e (left (writes (cAt (codeOf Tryz.f93) [1,1,0,1,0,0])) [3,5] [] (Zeh a0) s)))) (by kernel_rfl) ?_
 simp only [Zyi N a0]
theorem Ztl (a0:Int) (h_a0:i64.min≤a0∧a0≤i64.max) (hg:((decide (0≤a0)&&decide (a0≤14)))=true):ansV PZ (mkΓ []) 1000 Tryz.f93 [([3,5],[])] [.i .i64 (a0)] []=some (.a (.i .i64 (12^a0.toNat)),.none,true):=by
 simp only [Q7,decide_eq_true_eq] at hg
 obtain ⟨h0,h14⟩:=hg
 obtain ⟨m,rfl⟩:=Int.eq_ofNat_of_zero_le h0
 refine (Zut 1000 _).trans ?_
 have h:=Zdr (g:=Zcp PZ (m:Int)) (fun k=>((12:Int)^k,(k:Int))) (m:=m) (x:=((12:Int)^m,(m:Int))) (N:=1000) (fun k hk=>by
  have h1:decide ((k:Int)<(m:Int))=true:=Q3 (by omega)
  have h2:i64.wrap ((k:Int)+1)=((k+1:Nat):Int):=by rw [IntWalk.i64_in _ (by omega)];omega
  simp only [Zcp,h1,Q1,wrap12 k (by omega),h2]) (by
  have h1:decide ((m:Int)<(m:Int))=false:=Q4 (by omega)
  simp only [Zcp,h1,Q2]) (by omega)
 have h':Uac (Zcp PZ (m:Int)) 1000 ((1:Int),(0:Int))=some ((12:Int)^m,(m:Int)):=h
 rw [h']
 rfl
def Zi6:Con:=fun args h=>match args,h with
 | [.i .i64 a0],[]=>some (.a (.i .i64 (12^a0.toNat)),.none,(decide (0≤a0)&&decide (a0≤14)))
 | _,_=>none
theorem Zsc:EntX PZ 93:=Zag (fn:=Tryz.f93) (by kernel_rfl) (by kernel_rfl) (by kernel_rfl)
theorem Zwi:Uad mn PZ 93 Zi6:=(Zai (N:=1000) (by kernel_rfl) mkΓ_nilX (fn:=Tryz.f93) (by kernel_rfl) (by kernel_rfl) [([3,5],[])]).of (by
 intro ρ h w args vals r e hA hH hr
 unfold Zi6 at hr
 split at hr
 ·rename_i a0
  obtain ⟨rfl,rfl,hg2⟩:=BQi hr
  exact Ztl a0 (hA.rng 0 rfl) hg2
 ·cases hr)
theorem Ylu {x a b:Int} (h:Zaa x a b=true):a≤x∧x≤b:=by
 unfold Zaa at h
 cases h0:decide (x ≥ a) with
 | false=>rw [h0] at h;exact nomatch h
 | true=>rw [h0] at h;exact ⟨of_decide_eq_true h0,of_decide_eq_true h⟩
end
end Go.Proofs.YtohnggmlmglhmaaGreatDoor
