/- Parts of twelve, in company. -/
import Derived.Test.YtohnggmlmglhmaaGreatDoorProg
import Derived.Test.YtohnggmlmglhmaaGreatDoorCxC
namespace Go.Proofs.YtohnggmlmglhmaaGreatDoor
open Go.ChangeShapes Go.WideShapes Go.ChangeAt Go.RowKit Ve Vc
open Tryz renaming prog → PZ
open IntKind (i64)
set_option linter.unusedVariables false
set_option linter.unusedSimpArgs false
set_option maxRecDepth 100000
noncomputable section
variable {mn:Md}
def Zes (a0:Array Value):St:=(⟨.a (.g a0 24) :: .a (.w 0) :: .a (.w 1) :: .a (.w 2) :: .a (.i .i64 (0:Int))::us 10 ([]),[.row a0 24,.row #[.int .u8 (0:Int),.int .u8 (0:Int),.int .u8 (0:Int),.int .u8 (0:Int),.int .u8 (0:Int)] 37,.row #[.int .u8 (0:Int),.int .u8 (0:Int),.int .u8 (0:Int),.int .u8 (0:Int),.int .u8 (0:Int)] 37],[]⟩:St)
def Zf2:Int×Array Value→LS
 | (y0_4,r0_2)=>([.a (.i .i64 (y0_4))],[.row r0_2 37])
def Zko:Int×Array Value→Exit×LS
 | t=>((.exit 0),Zf2 t)
def Zc4 (P : Program) (a0 : Array Value) : Int × Array Value → Option (Stp (Int × Array Value) (Int × Array Value))
 | (y0_4, r0_2) => bif decide (y0_4 < (5 : Int)) then (bif (decide (0 ≤ y0_4) && decide (y0_4 < 5)) then (bif (decide (0 ≤ y0_4) && decide (y0_4 < 5)) then (some (.more ((i64.wrap (y0_4 + (1 : Int))), (r0_2.setIfInBounds ((y0_4).toNat * 1) (.int .u8 (num a0 ((y0_4).toNat * 1)))))))
    else (none))
   else (none))
  else (some (.done (y0_4, r0_2)))
theorem Zyz (N:Nat) (a0:Array Value):∀ t:Int×Array Value,Uai PZ (mkΓ []) N (cAt (codeOf Tryz.f83) [1,1,0,1,0,0]) (pAt (Uaa (codeOf Tryz.f83) [([4],[2])]).1 [1,1,0,1,0]) [4] [2] (Zes a0) (Zf2 t)=mapS Zf2 Zko (Zc4 PZ a0 t):=by
 rintro ⟨y0_4,r0_2⟩
 refine Eq.trans (b:=(bif decide (y0_4<(5:Int)) then (bif (decide (0≤y0_4)&&decide (y0_4<5)) then (bif (decide (0≤y0_4)&&decide (y0_4<5)) then (some (.more ([.a (.i .i64 (i64.wrap (y0_4+(1:Int))))],[.row (r0_2.setIfInBounds ((y0_4).toNat*1) (.int .u8 (num a0 ((y0_4).toNat*1)))) 37])))
    else (none))
   else (none))
  else (some (.done ((.exit 0),([.a (.i .i64 (y0_4))],[.row r0_2 37])))))) (by kernel_rfl) ?_
 simp only [Zc4,Za5,Za4,Za3,Za6,Zf2,Zko]
def Zi1 (P:Program) (N:Nat) (a0:Array Value) (z0_4:Int) (q0_2:Array Value):Option (SV×Eff×Bool):=some (.a (.g q0_2 37),.none,true)
theorem Zqj (N:Nat) (a0:Array Value) (z0_4:Int) (q0_2:Array Value):(Uab 0 (kSeq (veC PZ (mkΓ []) N (cAt (codeOf Tryz.f83) [1,1,1]) (pAt (Uaa (codeOf Tryz.f83) [([4],[2])]).1 [1,1,1]) (SV×Eff×Bool)) (finK PZ [] [.cell 2 37]))) (.exit 0) (left (writes (cAt (codeOf Tryz.f83) [1,1,0,1,0,0])) [4] [2] (Zes a0) ([.a (.i .i64 (z0_4))],[.row q0_2 37]))=Zi1 PZ N a0 z0_4 q0_2:=by
 refine Eq.trans (b:=(some (.a (.g q0_2 37),.none,true))) (by kernel_rfl) ?_
 rfl
theorem Zyw (N:Nat) (a0:Array Value):Uah (Uac (Uai PZ (mkΓ []) N (cAt (codeOf Tryz.f83) [1,1,0,1,0,0]) (pAt (Uaa (codeOf Tryz.f83) [([4],[2])]).1 [1,1,0,1,0]) [4] [2] (Zes a0)) N ([.a (.i .i64 (0:Int))],[.row (#[.int .u8 (0:Int),.int .u8 (0:Int),.int .u8 (0:Int),.int .u8 (0:Int),.int .u8 (0:Int)]:Array Value) 37])) (fun e s=>(Uab 0 (kSeq (veC PZ (mkΓ []) N (cAt (codeOf Tryz.f83) [1,1,1]) (pAt (Uaa (codeOf Tryz.f83) [([4],[2])]).1 [1,1,1]) (SV×Eff×Bool)) (finK PZ [] [.cell 2 37]))) e (left (writes (cAt (codeOf Tryz.f83) [1,1,0,1,0,0])) [4] [2] (Zes a0) s))=Uam (Uac (Zc4 PZ a0) N ((0:Int),(#[.int .u8 (0:Int),.int .u8 (0:Int),.int .u8 (0:Int),.int .u8 (0:Int),.int .u8 (0:Int)]:Array Value))) (fun x=>Zi1 PZ N a0 x.1 x.2):=by
 refine Zbn Zf2 Zko _ _ (Zyz N a0) N ((0:Int),(#[.int .u8 (0:Int),.int .u8 (0:Int),.int .u8 (0:Int),.int .u8 (0:Int),.int .u8 (0:Int)]:Array Value)) _ _ ?_
 intro x;exact Zqj N a0 x.1 x.2
theorem Zxf (N:Nat) (a0:Array Value):ansV PZ (mkΓ []) N Tryz.f83 [([4],[2])] [.g a0 24] []=(Uam (Uac (Zc4 PZ a0) N ((0:Int),(#[.int .u8 (0:Int),.int .u8 (0:Int),.int .u8 (0:Int),.int .u8 (0:Int),.int .u8 (0:Int)]:Array Value))) (fun x=>Zi1 PZ N a0 x.1 x.2)):=by
 refine Eq.trans (b:=(Uah (Uac (Uai PZ (mkΓ []) N (cAt (codeOf Tryz.f83) [1,1,0,1,0,0]) (pAt (Uaa (codeOf Tryz.f83) [([4],[2])]).1 [1,1,0,1,0]) [4] [2] (Zes a0)) N ([.a (.i .i64 (0:Int))],[.row (#[.int .u8 (0:Int),.int .u8 (0:Int),.int .u8 (0:Int),.int .u8 (0:Int),.int .u8 (0:Int)]:Array Value) 37])) (fun e s=>(Uab 0 (kSeq (veC PZ (mkΓ []) N (cAt (codeOf Tryz.f83) [1,1,1]) (pAt (Uaa (codeOf Tryz.f83) [([4],[2])]).1 [1,1,1]) (SV×Eff×Bool)) (finK PZ [] [.cell 2 37]))) e (left (writes (cAt (codeOf Tryz.f83) [1,1,0,1,0,0])) [4] [2] (Zes a0) s)))) (by kernel_rfl) ?_
 simp only [Zyw N a0]
theorem Zvn (a0:Array Value) (h_a0:WT PZ 24 a0) (hg:(true)=true):ansV PZ (mkΓ []) 1000 Tryz.f83 [([4],[2])] [.g a0 24] []=some (.a (.g a0 37),.none,true):=by
 have hs:a0.size=(#[.int .u8 (0:Int),.int .u8 (0:Int),.int .u8 (0:Int),.int .u8 (0:Int),.int .u8 (0:Int)]:Array Value).size:=by rw [h_a0.layLen];kernel_rfl
 have hz:a0.size=5:=by rw [h_a0.layLen];kernel_rfl
 have hL:∀ k,k<5→(lay PZ 24)[k*1]? = some 4:=by
  intro k hk
  have h:(List.range 5).all (fun k=>(lay PZ 24)[k*1]? == some 4)=true:=by kernel_rfl
  exact eq_of_beq (List.all_eq_true.1 h k (List.mem_range.2 hk))
 have h:=Zdz (g:=Zc4 PZ a0) (fun k=>((k:Int),upto a0 (#[.int .u8 (0:Int),.int .u8 (0:Int),.int .u8 (0:Int),.int .u8 (0:Int),.int .u8 (0:Int)]:Array Value) (k*1))) (m:=5) (x:=(((5:Nat):Int),upto a0 (#[.int .u8 (0:Int),.int .u8 (0:Int),.int .u8 (0:Int),.int .u8 (0:Int),.int .u8 (0:Int)]:Array Value) (5*1))) (N:=1000) (fun k hk=>by
  have h1:decide ((k:Int)<5)=true:=Q3 (by omega)
  have h0:decide (0≤(k:Int))=true:=Q3 (by omega)
  have h3:i64.wrap ((k:Int)+1)=((k+1:Nat):Int):=by rw [IntWalk.i64_in _ (by omega)];omega
  have h4:((k:Int)).toNat=k:=Q9 k
  have h5:(upto a0 (#[.int .u8 (0:Int),.int .u8 (0:Int),.int .u8 (0:Int),.int .u8 (0:Int),.int .u8 (0:Int)]:Array Value) (k*1)).setIfInBounds (k*1) (.int .u8 (num a0 (k*1)))=upto a0 (#[.int .u8 (0:Int),.int .u8 (0:Int),.int .u8 (0:Int),.int .u8 (0:Int),.int .u8 (0:Int)]:Array Value) ((k+1)*1):=by
   rw [Nat.add_mul];exact Ybu hs (h_a0.int (k:=.u8) (hL k hk)).1
  simp only [Zc4,h1,h0,Bool.and_self,h4,Q1,h3,h5]) (by
  have h1:decide (((5:Nat):Int)<5)=false:=by decide
  simp only [Zc4,h1,Q2]) (by omega)
 simp only [Nat.zero_mul,Zra hs,Zw3 hs hz] at h
 refine (Zxf 1000 a0).trans ?_
 have h':Uac (Zc4 PZ a0) 1000 ((0:Int),(#[.int .u8 (0:Int),.int .u8 (0:Int),.int .u8 (0:Int),.int .u8 (0:Int),.int .u8 (0:Int)]:Array Value))=some (((5:Nat):Int),a0):=h
 rw [h']
 rfl
def Zbq:Con:=fun args h=>match args,h with
 | [.g a0 24],[]=>some (.a (.g a0 37),.none,true)
 | _,_=>none
theorem Ztg:EntX PZ 83:=Zag (fn:=Tryz.f83) (by kernel_rfl) (by kernel_rfl) (by kernel_rfl)
theorem Zzo:Uad mn PZ 83 Zbq:=(Zai (N:=1000) (by kernel_rfl) mkΓ_nilX (fn:=Tryz.f83) (by kernel_rfl) (by kernel_rfl) [([4],[2])]).of (by
 intro ρ h w args vals r e hA hH hr
 unfold Zbq at hr
 split at hr
 ·rename_i a0
  obtain ⟨rfl,rfl,hg2⟩:=BQi hr
  exact Zvn a0 (hA.wt 0 rfl) hg2
 ·cases hr)
def Zdh (a0:Array Value):St:=(⟨.a (.g a0 25) :: .a (.w 0) :: .a (.w 1) :: .a (.w 2) :: .a (.i .i64 (0:Int))::us 11 ([]),[.row a0 25,.row (zc PZ 38) 38,.row (zc PZ 38) 38],[]⟩:St)
def Zei:Int×Array Value→LS
 | (y0_4,r0_2)=>([.a (.i .i64 (y0_4))],[.row r0_2 38])
def Zid:Int×Array Value→Exit×LS
 | t=>((.exit 0),Zei t)
def Zb1 (P : Program) (a0 : Array Value) : Int × Array Value → Option (Stp (Int × Array Value) (Int × Array Value))
 | (y0_4, r0_2) => bif decide (y0_4 < (36 : Int)) then (bif (decide (0 ≤ y0_4) && decide (y0_4 < 36)) then (bif (decide (0 ≤ y0_4) && decide (y0_4 < 36)) then (some (.more ((i64.wrap (y0_4 + (1 : Int))), (spl r0_2 ((y0_4).toNat * 5) (a0.extract ((y0_4).toNat * 5) (((y0_4).toNat * 5) + 5)).toList))))
    else (none))
   else (none))
  else (some (.done (y0_4, r0_2)))
theorem Zs5 (N:Nat) (a0:Array Value):∀ t:Int×Array Value,Uai PZ (mkΓ [(83,con Zbq)]) N (cAt (codeOf Tryz.f57) [1,1,0,1,0,0]) (pAt (Uaa (codeOf Tryz.f57) [([4],[2])]).1 [1,1,0,1,0]) [4] [2] (Zdh a0) (Zei t)=mapS Zei Zid (Zb1 PZ a0 t):=by
 rintro ⟨y0_4,r0_2⟩
 refine Eq.trans (b:=(bif decide (y0_4<(36:Int)) then (bif (decide (0≤y0_4)&&decide (y0_4<36)) then (bif (decide (0≤y0_4)&&decide (y0_4<36)) then (some (.more ([.a (.i .i64 (i64.wrap (y0_4+(1:Int))))],[.row (spl r0_2 ((y0_4).toNat*5) (a0.extract ((y0_4).toNat*5) (((y0_4).toNat*5)+5)).toList) 38])))
    else (none))
   else (none))
  else (some (.done ((.exit 0),([.a (.i .i64 (y0_4))],[.row r0_2 38])))))) (by kernel_rfl) ?_
 simp only [Zb1,Za5,Za4,Za3,Za6,Zei,Zid]
def Zgx (P:Program) (N:Nat) (a0:Array Value) (z0_4:Int) (q0_2:Array Value):Option (SV×Eff×Bool):=some (.a (.g q0_2 38),.none,true)
theorem Znp (N:Nat) (a0:Array Value) (z0_4:Int) (q0_2:Array Value):(Uab 0 (kSeq (veC PZ (mkΓ [(83,con Zbq)]) N (cAt (codeOf Tryz.f57) [1,1,1]) (pAt (Uaa (codeOf Tryz.f57) [([4],[2])]).1 [1,1,1]) (SV×Eff×Bool)) (finK PZ [] [.cell 2 38]))) (.exit 0) (left (writes (cAt (codeOf Tryz.f57) [1,1,0,1,0,0])) [4] [2] (Zdh a0) ([.a (.i .i64 (z0_4))],[.row q0_2 38]))=Zgx PZ N a0 z0_4 q0_2:=by
 refine Eq.trans (b:=(some (.a (.g q0_2 38),.none,true))) (by kernel_rfl) ?_
 rfl
theorem Zs9 (N:Nat) (a0:Array Value):Uah (Uac (Uai PZ (mkΓ [(83,con Zbq)]) N (cAt (codeOf Tryz.f57) [1,1,0,1,0,0]) (pAt (Uaa (codeOf Tryz.f57) [([4],[2])]).1 [1,1,0,1,0]) [4] [2] (Zdh a0)) N ([.a (.i .i64 (0:Int))],[.row (zc PZ 38) 38])) (fun e s=>(Uab 0 (kSeq (veC PZ (mkΓ [(83,con Zbq)]) N (cAt (codeOf Tryz.f57) [1,1,1]) (pAt (Uaa (codeOf Tryz.f57) [([4],[2])]).1 [1,1,1]) (SV×Eff×Bool)) (finK PZ [] [.cell 2 38]))) e (left (writes (cAt (codeOf Tryz.f57) [1,1,0,1,0,0])) [4] [2] (Zdh a0) s))=Uam (Uac (Zb1 PZ a0) N ((0:Int),(zc PZ 38))) (fun x=>Zgx PZ N a0 x.1 x.2):=by
 refine Zbn Zei Zid _ _ (Zs5 N a0) N ((0:Int),(zc PZ 38)) _ _ ?_
 intro x;exact Znp N a0 x.1 x.2
theorem Zr7 (N:Nat) (a0:Array Value):ansV PZ (mkΓ [(83,con Zbq)]) N Tryz.f57 [([4],[2])] [.g a0 25] []=(Uam (Uac (Zb1 PZ a0) N ((0:Int),(zc PZ 38))) (fun x=>Zgx PZ N a0 x.1 x.2)):=by
 refine Eq.trans (b:=(Uah (Uac (Uai PZ (mkΓ [(83,con Zbq)]) N (cAt (codeOf Tryz.f57) [1,1,0,1,0,0]) (pAt (Uaa (codeOf Tryz.f57) [([4],[2])]).1 [1,1,0,1,0]) [4] [2] (Zdh a0)) N ([.a (.i .i64 (0:Int))],[.row (zc PZ 38) 38])) (fun e s=>(Uab 0 (kSeq (veC PZ (mkΓ [(83,con Zbq)]) N (cAt (codeOf Tryz.f57) [1,1,1]) (pAt (Uaa (codeOf Tryz.f57) [([4],[2])]).1 [1,1,1]) (SV×Eff×Bool)) (finK PZ [] [.cell 2 38]))) e (left (writes (cAt (codeOf Tryz.f57) [1,1,0,1,0,0])) [4] [2] (Zdh a0) s)))) (by kernel_rfl) ?_
 simp only [Zs9 N a0]
theorem Zql (a0:Array Value) (h_a0:WT PZ 25 a0) (hg:(true)=true):ansV PZ (mkΓ [(83,con Zbq)]) 1000 Tryz.f57 [([4],[2])] [.g a0 25] []=some (.a (.g a0 38),.none,true):=by
 have hs:a0.size=(zc PZ 38).size:=by rw [h_a0.layLen];kernel_rfl
 have hz:a0.size=180:=by rw [h_a0.layLen];kernel_rfl
 have hL:∀ k,k<36→(lay PZ 25)[k*5]? = some 4:=by
  intro k hk
  have h:(List.range 36).all (fun k=>(lay PZ 25)[k*5]? == some 4)=true:=by kernel_rfl
  exact eq_of_beq (List.all_eq_true.1 h k (List.mem_range.2 hk))
 have h:=Zdz (g:=Zb1 PZ a0) (fun k=>((k:Int),upto a0 (zc PZ 38) (k*5))) (m:=36) (x:=(((36:Nat):Int),upto a0 (zc PZ 38) (36*5))) (N:=1000) (fun k hk=>by
  have h1:decide ((k:Int)<36)=true:=Q3 (by omega)
  have h0:decide (0≤(k:Int))=true:=Q3 (by omega)
  have h3:i64.wrap ((k:Int)+1)=((k+1:Nat):Int):=by rw [IntWalk.i64_in _ (by omega)];omega
  have h4:((k:Int)).toNat=k:=Q9 k
  have h5:spl (upto a0 (zc PZ 38) (k*5)) (k*5) (a0.extract (k*5) (k*5+5)).toList=upto a0 (zc PZ 38) ((k+1)*5):=by
   rw [Nat.add_mul];exact Ybv hs (by omega) rfl
  simp only [Zb1,h1,h0,Bool.and_self,h4,Q1,h3,h5]) (by
  have h1:decide (((36:Nat):Int)<36)=false:=by decide
  simp only [Zb1,h1,Q2]) (by omega)
 simp only [Nat.zero_mul,Zra hs,Zw3 hs hz] at h
 refine (Zr7 1000 a0).trans ?_
 have h':Uac (Zb1 PZ a0) 1000 ((0:Int),(zc PZ 38))=some (((36:Nat):Int),a0):=h
 rw [h']
 rfl
def Zba:Con:=fun args h=>match args,h with
 | [.g a0 25],[]=>some (.a (.g a0 38),.none,true)
 | _,_=>none
theorem Zo4:EntX PZ 57:=Zag (fn:=Tryz.f57) (by kernel_rfl) (by kernel_rfl) (by kernel_rfl)
theorem Ztm:Uad mn PZ 57 Zba:=(Zai (N:=1000) (by kernel_rfl) (mkΓ_consX (Zac Zzo) Ztg mkΓ_nilX) (fn:=Tryz.f57) (by kernel_rfl) (by kernel_rfl) [([4],[2])]).of (by
 intro ρ h w args vals r e hA hH hr
 unfold Zba at hr
 split at hr
 ·rename_i a0
  obtain ⟨rfl,rfl,hg2⟩:=BQi hr
  exact Zql a0 (hA.wt 0 rfl) hg2
 ·cases hr)
def Zcs (a0:Array Value):St:=(⟨.a (.g a0 26) :: .a (.w 0) :: .a (.w 1) :: .a (.w 2) :: .a (.i .i64 (0:Int))::us 11 ([]),[.row a0 26,.row (zc PZ 39) 39,.row (zc PZ 39) 39],[]⟩:St)
def Zds:Int×Array Value→LS
 | (y0_4,r0_2)=>([.a (.i .i64 (y0_4))],[.row r0_2 39])
def Zgz:Int×Array Value→Exit×LS
 | t=>((.exit 0),Zds t)
def Zbh (P : Program) (a0 : Array Value) : Int × Array Value → Option (Stp (Int × Array Value) (Int × Array Value))
 | (y0_4, r0_2) => bif decide (y0_4 < (2 : Int)) then (bif (decide (0 ≤ y0_4) && decide (y0_4 < 2)) then (bif (decide (0 ≤ y0_4) && decide (y0_4 < 2)) then (some (.more ((i64.wrap (y0_4 + (1 : Int))), (spl r0_2 ((y0_4).toNat * 180) (a0.extract ((y0_4).toNat * 180) (((y0_4).toNat * 180) + 180)).toList))))
    else (none))
   else (none))
  else (some (.done (y0_4, r0_2)))
theorem Zqd (N:Nat) (a0:Array Value):∀ t:Int×Array Value,Uai PZ (mkΓ [(57,con Zba)]) N (cAt (codeOf Tryz.f29) [1,1,0,1,0,0]) (pAt (Uaa (codeOf Tryz.f29) [([4],[2])]).1 [1,1,0,1,0]) [4] [2] (Zcs a0) (Zds t)=mapS Zds Zgz (Zbh PZ a0 t):=by
 rintro ⟨y0_4,r0_2⟩
 refine Eq.trans (b:=(bif decide (y0_4<(2:Int)) then (bif (decide (0≤y0_4)&&decide (y0_4<2)) then (bif (decide (0≤y0_4)&&decide (y0_4<2)) then (some (.more ([.a (.i .i64 (i64.wrap (y0_4+(1:Int))))],[.row (spl r0_2 ((y0_4).toNat*180) (a0.extract ((y0_4).toNat*180) (((y0_4).toNat*180)+180)).toList) 39])))
    else (none))
   else (none))
  else (some (.done ((.exit 0),([.a (.i .i64 (y0_4))],[.row r0_2 39])))))) (by kernel_rfl) ?_
 simp only [Zbh,Za5,Za4,Za3,Za6,Zds,Zgz]
def Zf1 (P:Program) (N:Nat) (a0:Array Value) (z0_4:Int) (q0_2:Array Value):Option (SV×Eff×Bool):=some (.a (.g q0_2 39),.none,true)
theorem Zmd (N:Nat) (a0:Array Value) (z0_4:Int) (q0_2:Array Value):(Uab 0 (kSeq (veC PZ (mkΓ [(57,con Zba)]) N (cAt (codeOf Tryz.f29) [1,1,1]) (pAt (Uaa (codeOf Tryz.f29) [([4],[2])]).1 [1,1,1]) (SV×Eff×Bool)) (finK PZ [] [.cell 2 39]))) (.exit 0) (left (writes (cAt (codeOf Tryz.f29) [1,1,0,1,0,0])) [4] [2] (Zcs a0) ([.a (.i .i64 (z0_4))],[.row q0_2 39]))=Zf1 PZ N a0 z0_4 q0_2:=by
 refine Eq.trans (b:=(some (.a (.g q0_2 39),.none,true))) (by kernel_rfl) ?_
 rfl
theorem Zqf (N:Nat) (a0:Array Value):Uah (Uac (Uai PZ (mkΓ [(57,con Zba)]) N (cAt (codeOf Tryz.f29) [1,1,0,1,0,0]) (pAt (Uaa (codeOf Tryz.f29) [([4],[2])]).1 [1,1,0,1,0]) [4] [2] (Zcs a0)) N ([.a (.i .i64 (0:Int))],[.row (zc PZ 39) 39])) (fun e s=>(Uab 0 (kSeq (veC PZ (mkΓ [(57,con Zba)]) N (cAt (codeOf Tryz.f29) [1,1,1]) (pAt (Uaa (codeOf Tryz.f29) [([4],[2])]).1 [1,1,1]) (SV×Eff×Bool)) (finK PZ [] [.cell 2 39]))) e (left (writes (cAt (codeOf Tryz.f29) [1,1,0,1,0,0])) [4] [2] (Zcs a0) s))=Uam (Uac (Zbh PZ a0) N ((0:Int),(zc PZ 39))) (fun x=>Zf1 PZ N a0 x.1 x.2):=by
 refine Zbn Zds Zgz _ _ (Zqd N a0) N ((0:Int),(zc PZ 39)) _ _ ?_
 intro x;exact Zmd N a0 x.1 x.2
theorem Zo8 (N:Nat) (a0:Array Value):ansV PZ (mkΓ [(57,con Zba)]) N Tryz.f29 [([4],[2])] [.g a0 26] []=(Uam (Uac (Zbh PZ a0) N ((0:Int),(zc PZ 39))) (fun x=>Zf1 PZ N a0 x.1 x.2)):=by
 refine Eq.trans (b:=(Uah (Uac (Uai PZ (mkΓ [(57,con Zba)]) N (cAt (codeOf Tryz.f29) [1,1,0,1,0,0]) (pAt (Uaa (codeOf Tryz.f29) [([4],[2])]).1 [1,1,0,1,0]) [4] [2] (Zcs a0)) N ([.a (.i .i64 (0:Int))],[.row (zc PZ 39) 39])) (fun e s=>(Uab 0 (kSeq (veC PZ (mkΓ [(57,con Zba)]) N (cAt (codeOf Tryz.f29) [1,1,1]) (pAt (Uaa (codeOf Tryz.f29) [([4],[2])]).1 [1,1,1]) (SV×Eff×Bool)) (finK PZ [] [.cell 2 39]))) e (left (writes (cAt (codeOf Tryz.f29) [1,1,0,1,0,0])) [4] [2] (Zcs a0) s)))) (by kernel_rfl) ?_
 simp only [Zqf N a0]
theorem Zof (a0:Array Value) (h_a0:WT PZ 26 a0) (hg:(true)=true):ansV PZ (mkΓ [(57,con Zba)]) 1000 Tryz.f29 [([4],[2])] [.g a0 26] []=some (.a (.g a0 39),.none,true):=by
 have hs:a0.size=(zc PZ 39).size:=by rw [h_a0.layLen];kernel_rfl
 have hz:a0.size=360:=by rw [h_a0.layLen];kernel_rfl
 have hL:∀ k,k<2→(lay PZ 26)[k*180]? = some 4:=by
  intro k hk
  have h:(List.range 2).all (fun k=>(lay PZ 26)[k*180]? == some 4)=true:=by kernel_rfl
  exact eq_of_beq (List.all_eq_true.1 h k (List.mem_range.2 hk))
 have h:=Zdz (g:=Zbh PZ a0) (fun k=>((k:Int),upto a0 (zc PZ 39) (k*180))) (m:=2) (x:=(((2:Nat):Int),upto a0 (zc PZ 39) (2*180))) (N:=1000) (fun k hk=>by
  have h1:decide ((k:Int)<2)=true:=Q3 (by omega)
  have h0:decide (0≤(k:Int))=true:=Q3 (by omega)
  have h3:i64.wrap ((k:Int)+1)=((k+1:Nat):Int):=by rw [IntWalk.i64_in _ (by omega)];omega
  have h4:((k:Int)).toNat=k:=Q9 k
  have h5:spl (upto a0 (zc PZ 39) (k*180)) (k*180) (a0.extract (k*180) (k*180+180)).toList=upto a0 (zc PZ 39) ((k+1)*180):=by
   rw [Nat.add_mul];exact Ybv hs (by omega) rfl
  simp only [Zbh,h1,h0,Bool.and_self,h4,Q1,h3,h5]) (by
  have h1:decide (((2:Nat):Int)<2)=false:=by decide
  simp only [Zbh,h1,Q2]) (by omega)
 simp only [Nat.zero_mul,Zra hs,Zw3 hs hz] at h
 refine (Zo8 1000 a0).trans ?_
 have h':Uac (Zbh PZ a0) 1000 ((0:Int),(zc PZ 39))=some (((2:Nat):Int),a0):=h
 rw [h']
 rfl
def Zf3:Con:=fun args h=>match args,h with
 | [.g a0 26],[]=>some (.a (.g a0 39),.none,true)
 | _,_=>none
theorem Znz:EntX PZ 29:=Zag (fn:=Tryz.f29) (by kernel_rfl) (by kernel_rfl) (by kernel_rfl)
theorem Zqg:Uad mn PZ 29 Zf3:=(Zai (N:=1000) (by kernel_rfl) (mkΓ_consX (Zac Ztm) Zo4 mkΓ_nilX) (fn:=Tryz.f29) (by kernel_rfl) (by kernel_rfl) [([4],[2])]).of (by
 intro ρ h w args vals r e hA hH hr
 unfold Zf3 at hr
 split at hr
 ·rename_i a0
  obtain ⟨rfl,rfl,hg2⟩:=BQi hr
  exact Zof a0 (hA.wt 0 rfl) hg2
 ·cases hr)
def Zz6:Cons:=(mkΓ [(29,con Zf3)])
theorem Yev (N:Nat) (a0:Array Value):ansV PZ Zz6 N Tryz.f9 [] [.g a0 28] []=(some (.a (.g (spl ((((zc PZ 41).setIfInBounds 0 (.int .i8 (num a0 0))).setIfInBounds 1 (.int .i8 (num a0 1))).setIfInBounds 2 (.int .u64 (num a0 2))) 3 (a0.extract 3 (3+360)).toList) 41),.none,true)):=by kernel_rfl
theorem Yco (a0:Array Value) (h_a0:WT PZ 28 a0) (hg:(true)=true):ansV PZ Zz6 1000 Tryz.f9 [] [.g a0 28] []=some (.a (.g a0 41),.none,true):=by
 have hs:a0.size=(zc PZ 41).size:=by rw [h_a0.layLen];kernel_rfl
 have hz:a0.size=363:=by rw [h_a0.layLen];kernel_rfl
 have e0:(upto a0 (zc PZ 41) 0).setIfInBounds 0 (.int .i8 (num a0 0))=upto a0 (zc PZ 41) 1:=Ybu hs (h_a0.int (k:=.i8) (by kernel_rfl)).1
 rw [Zra hs] at e0
 have e1:(upto a0 (zc PZ 41) 1).setIfInBounds 1 (.int .i8 (num a0 1))=upto a0 (zc PZ 41) 2:=Ybu hs (h_a0.int (k:=.i8) (by kernel_rfl)).1
 have e2:(upto a0 (zc PZ 41) 2).setIfInBounds 2 (.int .u64 (num a0 2))=upto a0 (zc PZ 41) 3:=Ybu hs (h_a0.int (k:=.u64) (by kernel_rfl)).1
 have e3:spl (upto a0 (zc PZ 41) 3) 3 (a0.extract 3 (3+360)).toList=upto a0 (zc PZ 41) 363:=Ybv hs (by omega) rfl
 refine (Yev 1000 a0).trans ?_
 rw [e0,e1,e2,e3,Zw3 hs hz]
def Znx:Con:=fun args h=>match args,h with
 | [.g a0 28],[]=>some (.a (.g a0 41),.none,true)
 | _,_=>none
theorem Ya4:EntX PZ 9:=Zag (fn:=Tryz.f9) (by kernel_rfl) (by kernel_rfl) (by kernel_rfl)
theorem Ygi:Uad mn PZ 9 Znx:=(Zai (N:=1000) (by kernel_rfl) (mkΓ_consX (Zac Zqg) Znz mkΓ_nilX) (fn:=Tryz.f9) (by kernel_rfl) (by kernel_rfl) []).of (by
 intro ρ h w args vals r e hA hH hr
 unfold Znx at hr
 split at hr
 ·rename_i a0
  obtain ⟨rfl,rfl,hg2⟩:=BQi hr
  exact Yco a0 (hA.wt 0 rfl) hg2
 ·cases hr)
theorem wrap12:∀ k,k<14→i64.wrap ((12:Int)^k*12)=12^(k+1):=by decide
def Zez (a0:Int):St:=(⟨.a (.i .i64 (a0)) :: .a (.u) :: .a (.i .i64 (0:Int)) :: .a (.i .i64 (1:Int)) :: .a (.i .i64 (0:Int))::us 8 ([]),[],[]⟩:St)
def Zgp:Int×Int→LS
 | (y0_3,y0_4)=>([.a (.i .i64 (y0_3)),.a (.i .i64 (y0_4))],[])
def Zle:Int×Int→Exit×LS
 | t=>((.exit 0),Zgp t)
def Zdi (P:Program) (a0:Int):Int×Int→Option (Stp (Int×Int) (Int×Int))
 | (y0_3,y0_4)=>bif decide (y0_4<a0) then (some (.more ((i64.wrap (y0_3*(12:Int))),(i64.wrap (y0_4+(1:Int))))))
  else (some (.done (y0_3,y0_4)))
theorem Yaw (N:Nat) (a0:Int):∀ t:Int×Int,Uai PZ (mkΓ []) N (cAt (codeOf Tryz.f28) [1,1,0,1,0,0]) (pAt (Uaa (codeOf Tryz.f28) [([3,4],[])]).1 [1,1,0,1,0]) [3,4] [] (Zez a0) (Zgp t)=mapS Zgp Zle (Zdi PZ a0 t):=by
 rintro ⟨y0_3,y0_4⟩
 refine Eq.trans (b:=(bif decide (y0_4<a0) then (some (.more ([.a (.i .i64 (i64.wrap (y0_3*(12:Int)))),.a (.i .i64 (i64.wrap (y0_4+(1:Int))))],[])))
  else (some (.done ((.exit 0),([.a (.i .i64 (y0_3)),.a (.i .i64 (y0_4))],[])))))) (by kernel_rfl) ?_
 simp only [Zdi,Za5,Za4,Za3,Za6,Zgp,Zle]
def Zjd (P:Program) (N:Nat) (a0:Int) (z0_3:Int) (z0_4:Int):Option (SV×Eff×Bool):=some (.a (.i .i64 (z0_3)),.none,true)
theorem Zre (N:Nat) (a0:Int) (z0_3:Int) (z0_4:Int):(Uab 0 (kSeq (veC PZ (mkΓ []) N (cAt (codeOf Tryz.f28) [1,1,1]) (pAt (Uaa (codeOf Tryz.f28) [([3,4],[])]).1 [1,1,1]) (SV×Eff×Bool)) (finK PZ [] [.tmp 2]))) (.exit 0) (left (writes (cAt (codeOf Tryz.f28) [1,1,0,1,0,0])) [3,4] [] (Zez a0) ([.a (.i .i64 (z0_3)),.a (.i .i64 (z0_4))],[]))=Zjd PZ N a0 z0_3 z0_4:=by
 refine Eq.trans (b:=(some (.a (.i .i64 (z0_3)),.none,true))) (by kernel_rfl) ?_
 rfl
theorem Yav (N:Nat) (a0:Int):Uah (Uac (Uai PZ (mkΓ []) N (cAt (codeOf Tryz.f28) [1,1,0,1,0,0]) (pAt (Uaa (codeOf Tryz.f28) [([3,4],[])]).1 [1,1,0,1,0]) [3,4] [] (Zez a0)) N ([.a (.i .i64 (1:Int)),.a (.i .i64 (0:Int))],[])) (fun e s=>(Uab 0 (kSeq (veC PZ (mkΓ []) N (cAt (codeOf Tryz.f28) [1,1,1]) (pAt (Uaa (codeOf Tryz.f28) [([3,4],[])]).1 [1,1,1]) (SV×Eff×Bool)) (finK PZ [] [.tmp 2]))) e (left (writes (cAt (codeOf Tryz.f28) [1,1,0,1,0,0])) [3,4] [] (Zez a0) s))=Uam (Uac (Zdi PZ a0) N ((1:Int),(0:Int))) (fun x=>Zjd PZ N a0 x.1 x.2):=by
 refine Zbn Zgp Zle _ _ (Yaw N a0) N ((1:Int),(0:Int)) _ _ ?_
 intro x;exact Zre N a0 x.1 x.2
theorem Zzh (N:Nat) (a0:Int):ansV PZ (mkΓ []) N Tryz.f28 [([3,4],[])] [.i .i64 (a0)] []=(Uam (Uac (Zdi PZ a0) N ((1:Int),(0:Int))) (fun x=>Zjd PZ N a0 x.1 x.2)):=by
 refine Eq.trans (b:=(Uah (Uac (Uai PZ (mkΓ []) N (cAt (codeOf Tryz.f28) [1,1,0,1,0,0]) (pAt (Uaa (codeOf Tryz.f28) [([3,4],[])]).1 [1,1,0,1,0]) [3,4] [] (Zez a0)) N ([.a (.i .i64 (1:Int)),.a (.i .i64 (0:Int))],[])) (fun e s=>(Uab 0 (kSeq (veC PZ (mkΓ []) N (cAt (codeOf Tryz.f28) [1,1,1]) (pAt (Uaa (codeOf Tryz.f28) [([3,4],[])]).1 [1,1,1]) (SV×Eff×Bool)) (finK PZ [] [.tmp 2]))) e (left (writes (cAt (codeOf Tryz.f28) [1,1,0,1,0,0])) [3,4] [] (Zez a0) s)))) (by kernel_rfl) ?_
 simp only [Yav N a0]
theorem Zxo (a0:Int) (h_a0:i64.min≤a0∧a0≤i64.max) (hg:((decide (0≤a0)&&decide (a0≤14)))=true):ansV PZ (mkΓ []) 1000 Tryz.f28 [([3,4],[])] [.i .i64 (a0)] []=some (.a (.i .i64 (12^a0.toNat)),.none,true):=by
 simp only [Q7,decide_eq_true_eq] at hg
 obtain ⟨h0,h14⟩:=hg
 obtain ⟨m,rfl⟩:=Int.eq_ofNat_of_zero_le h0
 refine (Zzh 1000 _).trans ?_
 have h:=Zdz (g:=Zdi PZ (m:Int)) (fun k=>((12:Int)^k,(k:Int))) (m:=m) (x:=((12:Int)^m,(m:Int))) (N:=1000) (fun k hk=>by
  have h1:decide ((k:Int)<(m:Int))=true:=Q3 (by omega)
  have h2:i64.wrap ((k:Int)+1)=((k+1:Nat):Int):=by rw [IntWalk.i64_in _ (by omega)];omega
  simp only [Zdi,h1,Q1,wrap12 k (by omega),h2]) (by
  have h1:decide ((m:Int)<(m:Int))=false:=Q4 (by omega)
  simp only [Zdi,h1,Q2]) (by omega)
 have h':Uac (Zdi PZ (m:Int)) 1000 ((1:Int),(0:Int))=some ((12:Int)^m,(m:Int)):=h
 rw [h']
 rfl
def Zhm:Con:=fun args h=>match args,h with
 | [.i .i64 a0],[]=>some (.a (.i .i64 (12^a0.toNat)),.none,(decide (0≤a0)&&decide (a0≤14)))
 | _,_=>none
theorem Zmk:EntX PZ 28:=Zag (fn:=Tryz.f28) (by kernel_rfl) (by kernel_rfl) (by kernel_rfl)
theorem Zp1:Uad mn PZ 28 Zhm:=(Zai (N:=1000) (by kernel_rfl) mkΓ_nilX (fn:=Tryz.f28) (by kernel_rfl) (by kernel_rfl) [([3,4],[])]).of (by
 intro ρ h w args vals r e hA hH hr
 unfold Zhm at hr
 split at hr
 ·rename_i a0
  obtain ⟨rfl,rfl,hg2⟩:=BQi hr
  exact Zxo a0 (hA.rng 0 rfl) hg2
 ·cases hr)
def Zd7 (a0:Int):St:=(⟨.a (.i .i64 (a0)) :: .a (.u) :: .a (.i .i64 (0:Int)) :: .a (.i .i64 (1:Int)) :: .a (.i .i64 (a0)) :: .a (.i .i64 (0:Int))::us 5 ([]),[],[]⟩:St)
def Zff:Int×Int→LS
 | (y0_3,y0_5)=>([.a (.i .i64 (y0_3)),.a (.i .i64 (y0_5))],[])
def Zjv:Int×Int→Exit×LS
 | t=>((.exit 0),Zff t)
def Zcn (P:Program) (a0:Int):Int×Int→Option (Stp (Int×Int) (Int×Int))
 | (y0_3,y0_5)=>bif decide (y0_5<a0) then (some (.more ((i64.wrap (y0_3*(12:Int))),(i64.wrap (y0_5+(1:Int))))))
  else (some (.done (y0_3,y0_5)))
theorem Zwx (N:Nat) (a0:Int):∀ t:Int×Int,Uai PZ (mkΓ []) N (cAt (codeOf Tryz.f93) [1,1,0,1,0,0]) (pAt (Uaa (codeOf Tryz.f93) [([3,5],[])]).1 [1,1,0,1,0]) [3,5] [] (Zd7 a0) (Zff t)=mapS Zff Zjv (Zcn PZ a0 t):=by
 rintro ⟨y0_3,y0_5⟩
 refine Eq.trans (b:=(bif decide (y0_5<a0) then (some (.more ([.a (.i .i64 (i64.wrap (y0_3*(12:Int)))),.a (.i .i64 (i64.wrap (y0_5+(1:Int))))],[])))
  else (some (.done ((.exit 0),([.a (.i .i64 (y0_3)),.a (.i .i64 (y0_5))],[])))))) (by kernel_rfl) ?_
 simp only [Zcn,Za5,Za4,Za3,Za6,Zff,Zjv]
def Zh7 (P:Program) (N:Nat) (a0:Int) (z0_3:Int) (z0_5:Int):Option (SV×Eff×Bool):=some (.a (.i .i64 (z0_3)),.none,true)
theorem Zpf (N:Nat) (a0:Int) (z0_3:Int) (z0_5:Int):(Uab 0 (kSeq (veC PZ (mkΓ []) N (cAt (codeOf Tryz.f93) [1,1,1]) (pAt (Uaa (codeOf Tryz.f93) [([3,5],[])]).1 [1,1,1]) (SV×Eff×Bool)) (finK PZ [] [.tmp 2]))) (.exit 0) (left (writes (cAt (codeOf Tryz.f93) [1,1,0,1,0,0])) [3,5] [] (Zd7 a0) ([.a (.i .i64 (z0_3)),.a (.i .i64 (z0_5))],[]))=Zh7 PZ N a0 z0_3 z0_5:=by
 refine Eq.trans (b:=(some (.a (.i .i64 (z0_3)),.none,true))) (by kernel_rfl) ?_
 rfl
theorem Zwb (N:Nat) (a0:Int):Uah (Uac (Uai PZ (mkΓ []) N (cAt (codeOf Tryz.f93) [1,1,0,1,0,0]) (pAt (Uaa (codeOf Tryz.f93) [([3,5],[])]).1 [1,1,0,1,0]) [3,5] [] (Zd7 a0)) N ([.a (.i .i64 (1:Int)),.a (.i .i64 (0:Int))],[])) (fun e s=>(Uab 0 (kSeq (veC PZ (mkΓ []) N (cAt (codeOf Tryz.f93) [1,1,1]) (pAt (Uaa (codeOf Tryz.f93) [([3,5],[])]).1 [1,1,1]) (SV×Eff×Bool)) (finK PZ [] [.tmp 2]))) e (left (writes (cAt (codeOf Tryz.f93) [1,1,0,1,0,0])) [3,5] [] (Zd7 a0) s))=Uam (Uac (Zcn PZ a0) N ((1:Int),(0:Int))) (fun x=>Zh7 PZ N a0 x.1 x.2):=by
 refine Zbn Zff Zjv _ _ (Zwx N a0) N ((1:Int),(0:Int)) _ _ ?_
 intro x;exact Zpf N a0 x.1 x.2
theorem Zvg (N:Nat) (a0:Int):ansV PZ (mkΓ []) N Tryz.f93 [([3,5],[])] [.i .i64 (a0)] []=(Uam (Uac (Zcn PZ a0) N ((1:Int),(0:Int))) (fun x=>Zh7 PZ N a0 x.1 x.2)):=by
 refine Eq.trans (b:=(Uah (Uac (Uai PZ (mkΓ []) N (cAt (codeOf Tryz.f93) [1,1,0,1,0,0]) (pAt (Uaa (codeOf Tryz.f93) [([3,5],[])]).1 [1,1,0,1,0]) [3,5] [] (Zd7 a0)) N ([.a (.i .i64 (1:Int)),.a (.i .i64 (0:Int))],[])) (fun e s=>(Uab 0 (kSeq (veC PZ (mkΓ []) N (cAt (codeOf Tryz.f93) [1,1,1]) (pAt (Uaa (codeOf Tryz.f93) [([3,5],[])]).1 [1,1,1]) (SV×Eff×Bool)) (finK PZ [] [.tmp 2]))) e (left (writes (cAt (codeOf Tryz.f93) [1,1,0,1,0,0])) [3,5] [] (Zd7 a0) s)))) (by kernel_rfl) ?_
 simp only [Zwb N a0]
theorem Zs2 (a0:Int) (h_a0:i64.min≤a0∧a0≤i64.max) (hg:((decide (0≤a0)&&decide (a0≤14)))=true):ansV PZ (mkΓ []) 1000 Tryz.f93 [([3,5],[])] [.i .i64 (a0)] []=some (.a (.i .i64 (12^a0.toNat)),.none,true):=by
 simp only [Q7,decide_eq_true_eq] at hg
 obtain ⟨h0,h14⟩:=hg
 obtain ⟨m,rfl⟩:=Int.eq_ofNat_of_zero_le h0
 refine (Zvg 1000 _).trans ?_
 have h:=Zdz (g:=Zcn PZ (m:Int)) (fun k=>((12:Int)^k,(k:Int))) (m:=m) (x:=((12:Int)^m,(m:Int))) (N:=1000) (fun k hk=>by
  have h1:decide ((k:Int)<(m:Int))=true:=Q3 (by omega)
  have h2:i64.wrap ((k:Int)+1)=((k+1:Nat):Int):=by rw [IntWalk.i64_in _ (by omega)];omega
  simp only [Zcn,h1,Q1,wrap12 k (by omega),h2]) (by
  have h1:decide ((m:Int)<(m:Int))=false:=Q4 (by omega)
  simp only [Zcn,h1,Q2]) (by omega)
 have h':Uac (Zcn PZ (m:Int)) 1000 ((1:Int),(0:Int))=some ((12:Int)^m,(m:Int)):=h
 rw [h']
 rfl
def Zit:Con:=fun args h=>match args,h with
 | [.i .i64 a0],[]=>some (.a (.i .i64 (12^a0.toNat)),.none,(decide (0≤a0)&&decide (a0≤14)))
 | _,_=>none
theorem Zsl:EntX PZ 93:=Zag (fn:=Tryz.f93) (by kernel_rfl) (by kernel_rfl) (by kernel_rfl)
theorem Zwm:Uad mn PZ 93 Zit:=(Zai (N:=1000) (by kernel_rfl) mkΓ_nilX (fn:=Tryz.f93) (by kernel_rfl) (by kernel_rfl) [([3,5],[])]).of (by
 intro ρ h w args vals r e hA hH hr
 unfold Zit at hr
 split at hr
 ·rename_i a0
  obtain ⟨rfl,rfl,hg2⟩:=BQi hr
  exact Zs2 a0 (hA.rng 0 rfl) hg2
 ·cases hr)
theorem Ylw {x a b:Int} (h:Zaa x a b=true):a≤x∧x≤b:=by
 unfold Zaa at h
 cases h0:decide (x ≥ a) with
 | false=>rw [h0] at h;exact nomatch h
 | true=>rw [h0] at h;exact ⟨of_decide_eq_true h0,of_decide_eq_true h⟩
end
end Go.Proofs.YtohnggmlmglhmaaGreatDoor
