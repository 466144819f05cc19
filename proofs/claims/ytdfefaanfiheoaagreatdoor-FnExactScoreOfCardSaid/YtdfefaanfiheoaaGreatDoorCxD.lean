/- Parts of twelve, in company. -/
import Derived.Test.YtdfefaanfiheoaaGreatDoorProg
import Derived.Test.YtdfefaanfiheoaaGreatDoorCxC
namespace Go.Proofs.YtdfefaanfiheoaaGreatDoor
open Go.ChangeShapes Go.WideShapes Go.ChangeAt Go.RowKit Ve Vc
open Tryz renaming prog → PZ
open IntKind (i64)
set_option linter.unusedVariables false
set_option linter.unusedSimpArgs false
set_option maxRecDepth 100000
noncomputable section
variable {mn:Md}
def Zd5 (a0:Array Value):St:=(⟨.a (.g a0 24) :: .a (.w 0) :: .a (.w 1) :: .a (.w 2) :: .a (.i .i64 (0:Int))::us 10 ([]),[.row a0 24,.row #[.int .u8 (0:Int),.int .u8 (0:Int),.int .u8 (0:Int),.int .u8 (0:Int),.int .u8 (0:Int)] 33,.row #[.int .u8 (0:Int),.int .u8 (0:Int),.int .u8 (0:Int),.int .u8 (0:Int),.int .u8 (0:Int)] 33],[]⟩:St)
def Zfv:Int×Array Value→LS
 | (y0_4,r0_2)=>([.a (.i .i64 (y0_4))],[.row r0_2 33])
def Zkf:Int×Array Value→Exit×LS
 | t=>((.exit 0),Zfv t)
def Zcb (P : Program) (a0 : Array Value) : Int × Array Value → Option (Stp (Int × Array Value) (Int × Array Value))
 | (y0_4, r0_2) => bif decide (y0_4 < (5 : Int)) then (bif (decide (0 ≤ y0_4) && decide (y0_4 < 5)) then (bif (decide (0 ≤ y0_4) && decide (y0_4 < 5)) then (some (.more ((i64.wrap (y0_4 + (1 : Int))), (r0_2.setIfInBounds ((y0_4).toNat * 1) (.int .u8 (num a0 ((y0_4).toNat * 1)))))))
    else (none))
   else (none))
  else (some (.done (y0_4, r0_2)))
def Udu:=(Uaa (codeOf Tryz.f76) [([4],[2])]).1
theorem Zy1 (N:Nat) (a0:Array Value):∀ t:Int×Array Value,Uag PZ (mkΓ []) N (cAt (codeOf Tryz.f76) [1,1,0,1,0,0]) (pAt Udu [1,1,0,1,0]) [4] [2] (Zd5 a0) (Zfv t)=mapS Zfv Zkf (Zcb PZ a0 t):=by
 rintro ⟨y0_4,r0_2⟩
 refine Eq.trans (b:=(bif decide (y0_4<(5:Int)) then (bif (decide (0≤y0_4)&&decide (y0_4<5)) then (bif (decide (0≤y0_4)&&decide (y0_4<5)) then (some (.more ([.a (.i .i64 (i64.wrap (y0_4+(1:Int))))],[.row (r0_2.setIfInBounds ((y0_4).toNat*1) (.int .u8 (num a0 ((y0_4).toNat*1)))) 33])))
    else (none))
   else (none))
  else (some (.done ((.exit 0),([.a (.i .i64 (y0_4))],[.row r0_2 33])))))) (by kernel_rfl) ?_
 simp only [Zcb,Zas,Zat,Zar,Zaq,Zfv,Zkf]
def Zix (P:Program) (N:Nat) (a0:Array Value) (z0_4:Int) (q0_2:Array Value):Option (SV×Eff×Bool):=some (.a (.g q0_2 33),.none,true)
def Uev (N:Nat):=(Uad 0 (kSeq (veC PZ (mkΓ []) N (cAt (codeOf Tryz.f76) [1,1,1]) (pAt Udu [1,1,1]) (SV×Eff×Bool)) (finK PZ [] [.cell 2 33])))
theorem Zpr (N:Nat) (a0:Array Value) (z0_4:Int) (q0_2:Array Value):(Uev N) (.exit 0) (left (writes (cAt (codeOf Tryz.f76) [1,1,0,1,0,0])) [4] [2] (Zd5 a0) ([.a (.i .i64 (z0_4))],[.row q0_2 33]))=Zix PZ N a0 z0_4 q0_2:=by
 refine Eq.trans (b:=(some (.a (.g q0_2 33),.none,true))) (by kernel_rfl) ?_
 rfl
theorem Zxt (N:Nat) (a0:Array Value):Uah (Uab (Uag PZ (mkΓ []) N (cAt (codeOf Tryz.f76) [1,1,0,1,0,0]) (pAt Udu [1,1,0,1,0]) [4] [2] (Zd5 a0)) N ([.a (.i .i64 (0:Int))],[.row (#[.int .u8 (0:Int),.int .u8 (0:Int),.int .u8 (0:Int),.int .u8 (0:Int),.int .u8 (0:Int)]:Array Value) 33])) (fun e s=>(Uev N) e (left (writes (cAt (codeOf Tryz.f76) [1,1,0,1,0,0])) [4] [2] (Zd5 a0) s))=Uai (Uab (Zcb PZ a0) N ((0:Int),(#[.int .u8 (0:Int),.int .u8 (0:Int),.int .u8 (0:Int),.int .u8 (0:Int),.int .u8 (0:Int)]:Array Value))) (fun x=>Zix PZ N a0 x.1 x.2):=by
 refine Zav Zfv Zkf _ _ (Zy1 N a0) N ((0:Int),(#[.int .u8 (0:Int),.int .u8 (0:Int),.int .u8 (0:Int),.int .u8 (0:Int),.int .u8 (0:Int)]:Array Value)) _ _ ?_
 intro x;exact Zpr N a0 x.1 x.2
theorem Zvs (N:Nat) (a0:Array Value):ansV PZ (mkΓ []) N Tryz.f76 [([4],[2])] [.g a0 24] []=(Uai (Uab (Zcb PZ a0) N ((0:Int),(#[.int .u8 (0:Int),.int .u8 (0:Int),.int .u8 (0:Int),.int .u8 (0:Int),.int .u8 (0:Int)]:Array Value))) (fun x=>Zix PZ N a0 x.1 x.2)):=by
 refine Eq.trans (b:=(Uah (Uab (Uag PZ (mkΓ []) N (cAt (codeOf Tryz.f76) [1,1,0,1,0,0]) (pAt Udu [1,1,0,1,0]) [4] [2] (Zd5 a0)) N ([.a (.i .i64 (0:Int))],[.row (#[.int .u8 (0:Int),.int .u8 (0:Int),.int .u8 (0:Int),.int .u8 (0:Int),.int .u8 (0:Int)]:Array Value) 33])) (fun e s=>(Uev N) e (left (writes (cAt (codeOf Tryz.f76) [1,1,0,1,0,0])) [4] [2] (Zd5 a0) s)))) (by kernel_rfl) ?_
 simp only [Zxt N a0]
theorem Zud (a0:Array Value) (h_a0:WT PZ 24 a0) (hg:(true)=true):ansV PZ (mkΓ []) 1000 Tryz.f76 [([4],[2])] [.g a0 24] []=some (.a (.g a0 33),.none,true):=by
 have hs:a0.size=(#[.int .u8 (0:Int),.int .u8 (0:Int),.int .u8 (0:Int),.int .u8 (0:Int),.int .u8 (0:Int)]:Array Value).size:=by rw [h_a0.layLen];kernel_rfl
 have hz:a0.size=5:=by rw [h_a0.layLen];kernel_rfl
 have hL:∀ k,k<5→(lay PZ 24)[k*1]? = some 4:=by
  intro k hk
  have h:(List.range 5).all (fun k=>(lay PZ 24)[k*1]? == some 4)=true:=by kernel_rfl
  exact eq_of_beq (List.all_eq_true.1 h k (List.mem_range.2 hk))
 have h:=Zdg (g:=Zcb PZ a0) (fun k=>((k:Int),upto a0 (#[.int .u8 (0:Int),.int .u8 (0:Int),.int .u8 (0:Int),.int .u8 (0:Int),.int .u8 (0:Int)]:Array Value) (k*1))) (m:=5) (x:=(((5:Nat):Int),upto a0 (#[.int .u8 (0:Int),.int .u8 (0:Int),.int .u8 (0:Int),.int .u8 (0:Int),.int .u8 (0:Int)]:Array Value) (5*1))) (N:=1000) (fun k hk=>by
  have h1:decide ((k:Int)<5)=true:=Q3 (by omega)
  have h0:decide (0≤(k:Int))=true:=Q3 (by omega)
  have h3:i64.wrap ((k:Int)+1)=((k+1:Nat):Int):=by rw [IntWalk.i64_in _ (by omega)];omega
  have h4:((k:Int)).toNat=k:=Q9 k
  have h5:(upto a0 (#[.int .u8 (0:Int),.int .u8 (0:Int),.int .u8 (0:Int),.int .u8 (0:Int),.int .u8 (0:Int)]:Array Value) (k*1)).setIfInBounds (k*1) (.int .u8 (num a0 (k*1)))=upto a0 (#[.int .u8 (0:Int),.int .u8 (0:Int),.int .u8 (0:Int),.int .u8 (0:Int),.int .u8 (0:Int)]:Array Value) ((k+1)*1):=by
   rw [Nat.add_mul];exact Zv8 hs (h_a0.int (k:=.u8) (hL k hk)).1
  simp only [Zcb,h1,h0,Bool.and_self,h4,Q1,h3,h5]) (by
  have h1:decide (((5:Nat):Int)<5)=false:=by decide
  simp only [Zcb,h1,Q2]) (by omega)
 simp only [Nat.zero_mul,Zn4 hs,Zr7 hs hz] at h
 refine (Zvs 1000 a0).trans ?_
 have h':Uab (Zcb PZ a0) 1000 ((0:Int),(#[.int .u8 (0:Int),.int .u8 (0:Int),.int .u8 (0:Int),.int .u8 (0:Int),.int .u8 (0:Int)]:Array Value))=some (((5:Nat):Int),a0):=h
 rw [h']
 rfl
def Zbv:Con:=fun args h=>match args,h with
 | [.g a0 24],[]=>some (.a (.g a0 33),.none,true)
 | _,_=>none
theorem Zs5:EntX PZ 76:=Zah (fn:=Tryz.f76) (by kernel_rfl) (by kernel_rfl) (by kernel_rfl)
theorem Zyd:Uac mn PZ 76 Zbv:=(Zai (N:=1000) (by kernel_rfl) mkΓ_nilX (fn:=Tryz.f76) (by kernel_rfl) (by kernel_rfl) [([4],[2])]).of (by
 intro ρ h w args vals r e hA hH hr
 unfold Zbv at hr
 split at hr
 ·rename_i a0
  obtain ⟨rfl,rfl,hg2⟩:=BQi hr
  exact Zud a0 (hA.wt 0 rfl) hg2
 ·cases hr)
def Zcq (a0:Array Value):St:=(⟨.a (.g a0 25) :: .a (.w 0) :: .a (.w 1) :: .a (.w 2) :: .a (.i .i64 (0:Int))::us 11 ([]),[.row a0 25,.row (zc PZ 34) 34,.row (zc PZ 34) 34],[]⟩:St)
def Zdp:Int×Array Value→LS
 | (y0_4,r0_2)=>([.a (.i .i64 (y0_4))],[.row r0_2 34])
def Zh6:Int×Array Value→Exit×LS
 | t=>((.exit 0),Zdp t)
def Zbi (P : Program) (a0 : Array Value) : Int × Array Value → Option (Stp (Int × Array Value) (Int × Array Value))
 | (y0_4, r0_2) => bif decide (y0_4 < (36 : Int)) then (bif (decide (0 ≤ y0_4) && decide (y0_4 < 36)) then (bif (decide (0 ≤ y0_4) && decide (y0_4 < 36)) then (some (.more ((i64.wrap (y0_4 + (1 : Int))), (spl r0_2 ((y0_4).toNat * 5) (a0.extract ((y0_4).toNat * 5) (((y0_4).toNat * 5) + 5)).toList))))
    else (none))
   else (none))
  else (some (.done (y0_4, r0_2)))
def Udy:=(Uaa (codeOf Tryz.f54) [([4],[2])]).1
theorem Ztc (N:Nat) (a0:Array Value):∀ t:Int×Array Value,Uag PZ (mkΓ [(76,con Zbv)]) N (cAt (codeOf Tryz.f54) [1,1,0,1,0,0]) (pAt Udy [1,1,0,1,0]) [4] [2] (Zcq a0) (Zdp t)=mapS Zdp Zh6 (Zbi PZ a0 t):=by
 rintro ⟨y0_4,r0_2⟩
 refine Eq.trans (b:=(bif decide (y0_4<(36:Int)) then (bif (decide (0≤y0_4)&&decide (y0_4<36)) then (bif (decide (0≤y0_4)&&decide (y0_4<36)) then (some (.more ([.a (.i .i64 (i64.wrap (y0_4+(1:Int))))],[.row (spl r0_2 ((y0_4).toNat*5) (a0.extract ((y0_4).toNat*5) (((y0_4).toNat*5)+5)).toList) 34])))
    else (none))
   else (none))
  else (some (.done ((.exit 0),([.a (.i .i64 (y0_4))],[.row r0_2 34])))))) (by kernel_rfl) ?_
 simp only [Zbi,Zas,Zat,Zar,Zaq,Zdp,Zh6]
def Zgv (P:Program) (N:Nat) (a0:Array Value) (z0_4:Int) (q0_2:Array Value):Option (SV×Eff×Bool):=some (.a (.g q0_2 34),.none,true)
def Ue9 (N:Nat):=(Uad 0 (kSeq (veC PZ (mkΓ [(76,con Zbv)]) N (cAt (codeOf Tryz.f54) [1,1,1]) (pAt Udy [1,1,1]) (SV×Eff×Bool)) (finK PZ [] [.cell 2 34])))
theorem Zn2 (N:Nat) (a0:Array Value) (z0_4:Int) (q0_2:Array Value):(Ue9 N) (.exit 0) (left (writes (cAt (codeOf Tryz.f54) [1,1,0,1,0,0])) [4] [2] (Zcq a0) ([.a (.i .i64 (z0_4))],[.row q0_2 34]))=Zgv PZ N a0 z0_4 q0_2:=by
 refine Eq.trans (b:=(some (.a (.g q0_2 34),.none,true))) (by kernel_rfl) ?_
 rfl
theorem Zsy (N:Nat) (a0:Array Value):Uah (Uab (Uag PZ (mkΓ [(76,con Zbv)]) N (cAt (codeOf Tryz.f54) [1,1,0,1,0,0]) (pAt Udy [1,1,0,1,0]) [4] [2] (Zcq a0)) N ([.a (.i .i64 (0:Int))],[.row (zc PZ 34) 34])) (fun e s=>(Ue9 N) e (left (writes (cAt (codeOf Tryz.f54) [1,1,0,1,0,0])) [4] [2] (Zcq a0) s))=Uai (Uab (Zbi PZ a0) N ((0:Int),(zc PZ 34))) (fun x=>Zgv PZ N a0 x.1 x.2):=by
 refine Zav Zdp Zh6 _ _ (Ztc N a0) N ((0:Int),(zc PZ 34)) _ _ ?_
 intro x;exact Zn2 N a0 x.1 x.2
theorem Zp5 (N:Nat) (a0:Array Value):ansV PZ (mkΓ [(76,con Zbv)]) N Tryz.f54 [([4],[2])] [.g a0 25] []=(Uai (Uab (Zbi PZ a0) N ((0:Int),(zc PZ 34))) (fun x=>Zgv PZ N a0 x.1 x.2)):=by
 refine Eq.trans (b:=(Uah (Uab (Uag PZ (mkΓ [(76,con Zbv)]) N (cAt (codeOf Tryz.f54) [1,1,0,1,0,0]) (pAt Udy [1,1,0,1,0]) [4] [2] (Zcq a0)) N ([.a (.i .i64 (0:Int))],[.row (zc PZ 34) 34])) (fun e s=>(Ue9 N) e (left (writes (cAt (codeOf Tryz.f54) [1,1,0,1,0,0])) [4] [2] (Zcq a0) s)))) (by kernel_rfl) ?_
 simp only [Zsy N a0]
theorem Zpw (a0:Array Value) (h_a0:WT PZ 25 a0) (hg:(true)=true):ansV PZ (mkΓ [(76,con Zbv)]) 1000 Tryz.f54 [([4],[2])] [.g a0 25] []=some (.a (.g a0 34),.none,true):=by
 have hs:a0.size=(zc PZ 34).size:=by rw [h_a0.layLen];kernel_rfl
 have hz:a0.size=180:=by rw [h_a0.layLen];kernel_rfl
 have hL:∀ k,k<36→(lay PZ 25)[k*5]? = some 4:=by
  intro k hk
  have h:(List.range 36).all (fun k=>(lay PZ 25)[k*5]? == some 4)=true:=by kernel_rfl
  exact eq_of_beq (List.all_eq_true.1 h k (List.mem_range.2 hk))
 have h:=Zdg (g:=Zbi PZ a0) (fun k=>((k:Int),upto a0 (zc PZ 34) (k*5))) (m:=36) (x:=(((36:Nat):Int),upto a0 (zc PZ 34) (36*5))) (N:=1000) (fun k hk=>by
  have h1:decide ((k:Int)<36)=true:=Q3 (by omega)
  have h0:decide (0≤(k:Int))=true:=Q3 (by omega)
  have h3:i64.wrap ((k:Int)+1)=((k+1:Nat):Int):=by rw [IntWalk.i64_in _ (by omega)];omega
  have h4:((k:Int)).toNat=k:=Q9 k
  have h5:spl (upto a0 (zc PZ 34) (k*5)) (k*5) (a0.extract (k*5) (k*5+5)).toList=upto a0 (zc PZ 34) ((k+1)*5):=by
   rw [Nat.add_mul];exact Ybt hs (by omega) rfl
  simp only [Zbi,h1,h0,Bool.and_self,h4,Q1,h3,h5]) (by
  have h1:decide (((36:Nat):Int)<36)=false:=by decide
  simp only [Zbi,h1,Q2]) (by omega)
 simp only [Nat.zero_mul,Zn4 hs,Zr7 hs hz] at h
 refine (Zp5 1000 a0).trans ?_
 have h':Uab (Zbi PZ a0) 1000 ((0:Int),(zc PZ 34))=some (((36:Nat):Int),a0):=h
 rw [h']
 rfl
def Zbf:Con:=fun args h=>match args,h with
 | [.g a0 25],[]=>some (.a (.g a0 34),.none,true)
 | _,_=>none
theorem Zox:EntX PZ 54:=Zah (fn:=Tryz.f54) (by kernel_rfl) (by kernel_rfl) (by kernel_rfl)
theorem Zsz:Uac mn PZ 54 Zbf:=(Zai (N:=1000) (by kernel_rfl) (mkΓ_consX (Zae Zyd) Zs5 mkΓ_nilX) (fn:=Tryz.f54) (by kernel_rfl) (by kernel_rfl) [([4],[2])]).of (by
 intro ρ h w args vals r e hA hH hr
 unfold Zbf at hr
 split at hr
 ·rename_i a0
  obtain ⟨rfl,rfl,hg2⟩:=BQi hr
  exact Zpw a0 (hA.wt 0 rfl) hg2
 ·cases hr)
def Zbz (a0:Array Value):St:=(⟨.a (.g a0 26) :: .a (.w 0) :: .a (.w 1) :: .a (.w 2) :: .a (.i .i64 (0:Int))::us 11 ([]),[.row a0 26,.row (zc PZ 35) 35,.row (zc PZ 35) 35],[]⟩:St)
def Zc1:Int×Array Value→LS
 | (y0_4,r0_2)=>([.a (.i .i64 (y0_4))],[.row r0_2 35])
def Zgy:Int×Array Value→Exit×LS
 | t=>((.exit 0),Zc1 t)
def Za9 (P : Program) (a0 : Array Value) : Int × Array Value → Option (Stp (Int × Array Value) (Int × Array Value))
 | (y0_4, r0_2) => bif decide (y0_4 < (2 : Int)) then (bif (decide (0 ≤ y0_4) && decide (y0_4 < 2)) then (bif (decide (0 ≤ y0_4) && decide (y0_4 < 2)) then (some (.more ((i64.wrap (y0_4 + (1 : Int))), (spl r0_2 ((y0_4).toNat * 180) (a0.extract ((y0_4).toNat * 180) (((y0_4).toNat * 180) + 180)).toList))))
    else (none))
   else (none))
  else (some (.done (y0_4, r0_2)))
def Udq:=(Uaa (codeOf Tryz.f36) [([4],[2])]).1
theorem Zp2 (N:Nat) (a0:Array Value):∀ t:Int×Array Value,Uag PZ (mkΓ [(54,con Zbf)]) N (cAt (codeOf Tryz.f36) [1,1,0,1,0,0]) (pAt Udq [1,1,0,1,0]) [4] [2] (Zbz a0) (Zc1 t)=mapS Zc1 Zgy (Za9 PZ a0 t):=by
 rintro ⟨y0_4,r0_2⟩
 refine Eq.trans (b:=(bif decide (y0_4<(2:Int)) then (bif (decide (0≤y0_4)&&decide (y0_4<2)) then (bif (decide (0≤y0_4)&&decide (y0_4<2)) then (some (.more ([.a (.i .i64 (i64.wrap (y0_4+(1:Int))))],[.row (spl r0_2 ((y0_4).toNat*180) (a0.extract ((y0_4).toNat*180) (((y0_4).toNat*180)+180)).toList) 35])))
    else (none))
   else (none))
  else (some (.done ((.exit 0),([.a (.i .i64 (y0_4))],[.row r0_2 35])))))) (by kernel_rfl) ?_
 simp only [Za9,Zas,Zat,Zar,Zaq,Zc1,Zgy]
def Zfn (P:Program) (N:Nat) (a0:Array Value) (z0_4:Int) (q0_2:Array Value):Option (SV×Eff×Bool):=some (.a (.g q0_2 35),.none,true)
def Ue4 (N:Nat):=(Uad 0 (kSeq (veC PZ (mkΓ [(54,con Zbf)]) N (cAt (codeOf Tryz.f36) [1,1,1]) (pAt Udq [1,1,1]) (SV×Eff×Bool)) (finK PZ [] [.cell 2 35])))
theorem Zmq (N:Nat) (a0:Array Value) (z0_4:Int) (q0_2:Array Value):(Ue4 N) (.exit 0) (left (writes (cAt (codeOf Tryz.f36) [1,1,0,1,0,0])) [4] [2] (Zbz a0) ([.a (.i .i64 (z0_4))],[.row q0_2 35]))=Zfn PZ N a0 z0_4 q0_2:=by
 refine Eq.trans (b:=(some (.a (.g q0_2 35),.none,true))) (by kernel_rfl) ?_
 rfl
theorem Zp0 (N:Nat) (a0:Array Value):Uah (Uab (Uag PZ (mkΓ [(54,con Zbf)]) N (cAt (codeOf Tryz.f36) [1,1,0,1,0,0]) (pAt Udq [1,1,0,1,0]) [4] [2] (Zbz a0)) N ([.a (.i .i64 (0:Int))],[.row (zc PZ 35) 35])) (fun e s=>(Ue4 N) e (left (writes (cAt (codeOf Tryz.f36) [1,1,0,1,0,0])) [4] [2] (Zbz a0) s))=Uai (Uab (Za9 PZ a0) N ((0:Int),(zc PZ 35))) (fun x=>Zfn PZ N a0 x.1 x.2):=by
 refine Zav Zc1 Zgy _ _ (Zp2 N a0) N ((0:Int),(zc PZ 35)) _ _ ?_
 intro x;exact Zmq N a0 x.1 x.2
theorem Zo9 (N:Nat) (a0:Array Value):ansV PZ (mkΓ [(54,con Zbf)]) N Tryz.f36 [([4],[2])] [.g a0 26] []=(Uai (Uab (Za9 PZ a0) N ((0:Int),(zc PZ 35))) (fun x=>Zfn PZ N a0 x.1 x.2)):=by
 refine Eq.trans (b:=(Uah (Uab (Uag PZ (mkΓ [(54,con Zbf)]) N (cAt (codeOf Tryz.f36) [1,1,0,1,0,0]) (pAt Udq [1,1,0,1,0]) [4] [2] (Zbz a0)) N ([.a (.i .i64 (0:Int))],[.row (zc PZ 35) 35])) (fun e s=>(Ue4 N) e (left (writes (cAt (codeOf Tryz.f36) [1,1,0,1,0,0])) [4] [2] (Zbz a0) s)))) (by kernel_rfl) ?_
 simp only [Zp0 N a0]
theorem Zog (a0:Array Value) (h_a0:WT PZ 26 a0) (hg:(true)=true):ansV PZ (mkΓ [(54,con Zbf)]) 1000 Tryz.f36 [([4],[2])] [.g a0 26] []=some (.a (.g a0 35),.none,true):=by
 have hs:a0.size=(zc PZ 35).size:=by rw [h_a0.layLen];kernel_rfl
 have hz:a0.size=360:=by rw [h_a0.layLen];kernel_rfl
 have hL:∀ k,k<2→(lay PZ 26)[k*180]? = some 4:=by
  intro k hk
  have h:(List.range 2).all (fun k=>(lay PZ 26)[k*180]? == some 4)=true:=by kernel_rfl
  exact eq_of_beq (List.all_eq_true.1 h k (List.mem_range.2 hk))
 have h:=Zdg (g:=Za9 PZ a0) (fun k=>((k:Int),upto a0 (zc PZ 35) (k*180))) (m:=2) (x:=(((2:Nat):Int),upto a0 (zc PZ 35) (2*180))) (N:=1000) (fun k hk=>by
  have h1:decide ((k:Int)<2)=true:=Q3 (by omega)
  have h0:decide (0≤(k:Int))=true:=Q3 (by omega)
  have h3:i64.wrap ((k:Int)+1)=((k+1:Nat):Int):=by rw [IntWalk.i64_in _ (by omega)];omega
  have h4:((k:Int)).toNat=k:=Q9 k
  have h5:spl (upto a0 (zc PZ 35) (k*180)) (k*180) (a0.extract (k*180) (k*180+180)).toList=upto a0 (zc PZ 35) ((k+1)*180):=by
   rw [Nat.add_mul];exact Ybt hs (by omega) rfl
  simp only [Za9,h1,h0,Bool.and_self,h4,Q1,h3,h5]) (by
  have h1:decide (((2:Nat):Int)<2)=false:=by decide
  simp only [Za9,h1,Q2]) (by omega)
 simp only [Nat.zero_mul,Zn4 hs,Zr7 hs hz] at h
 refine (Zo9 1000 a0).trans ?_
 have h':Uab (Za9 PZ a0) 1000 ((0:Int),(zc PZ 35))=some (((2:Nat):Int),a0):=h
 rw [h']
 rfl
def Zf6:Con:=fun args h=>match args,h with
 | [.g a0 26],[]=>some (.a (.g a0 35),.none,true)
 | _,_=>none
theorem Zno:EntX PZ 36:=Zah (fn:=Tryz.f36) (by kernel_rfl) (by kernel_rfl) (by kernel_rfl)
theorem Zpy:Uac mn PZ 36 Zf6:=(Zai (N:=1000) (by kernel_rfl) (mkΓ_consX (Zae Zsz) Zox mkΓ_nilX) (fn:=Tryz.f36) (by kernel_rfl) (by kernel_rfl) [([4],[2])]).of (by
 intro ρ h w args vals r e hA hH hr
 unfold Zf6 at hr
 split at hr
 ·rename_i a0
  obtain ⟨rfl,rfl,hg2⟩:=BQi hr
  exact Zog a0 (hA.wt 0 rfl) hg2
 ·cases hr)
def Zzi:Cons:=(mkΓ [(36,con Zf6)])
theorem Yeo (N:Nat) (a0:Array Value):ansV PZ Zzi N Tryz.f11 [] [.g a0 28] []=(some (.a (.g (spl ((((zc PZ 37).setIfInBounds 0 (.int .i8 (num a0 0))).setIfInBounds 1 (.int .i8 (num a0 1))).setIfInBounds 2 (.int .u64 (num a0 2))) 3 (a0.extract 3 (3+360)).toList) 37),.none,true)):=by kernel_rfl
theorem Yea (a0:Array Value) (h_a0:WT PZ 28 a0) (hg:(true)=true):ansV PZ Zzi 1000 Tryz.f11 [] [.g a0 28] []=some (.a (.g a0 37),.none,true):=by
 have hs:a0.size=(zc PZ 37).size:=by rw [h_a0.layLen];kernel_rfl
 have hz:a0.size=363:=by rw [h_a0.layLen];kernel_rfl
 have e0:(upto a0 (zc PZ 37) 0).setIfInBounds 0 (.int .i8 (num a0 0))=upto a0 (zc PZ 37) 1:=Zv8 hs (h_a0.int (k:=.i8) (by kernel_rfl)).1
 rw [Zn4 hs] at e0
 have e1:(upto a0 (zc PZ 37) 1).setIfInBounds 1 (.int .i8 (num a0 1))=upto a0 (zc PZ 37) 2:=Zv8 hs (h_a0.int (k:=.i8) (by kernel_rfl)).1
 have e2:(upto a0 (zc PZ 37) 2).setIfInBounds 2 (.int .u64 (num a0 2))=upto a0 (zc PZ 37) 3:=Zv8 hs (h_a0.int (k:=.u64) (by kernel_rfl)).1
 have e3:spl (upto a0 (zc PZ 37) 3) 3 (a0.extract 3 (3+360)).toList=upto a0 (zc PZ 37) 363:=Ybt hs (by omega) rfl
 refine (Yeo 1000 a0).trans ?_
 rw [e0,e1,e2,e3,Zr7 hs hz]
def Znr:Con:=fun args h=>match args,h with
 | [.g a0 28],[]=>some (.a (.g a0 37),.none,true)
 | _,_=>none
theorem Zzv:EntX PZ 11:=Zah (fn:=Tryz.f11) (by kernel_rfl) (by kernel_rfl) (by kernel_rfl)
theorem Ygw:Uac mn PZ 11 Znr:=(Zai (N:=1000) (by kernel_rfl) (mkΓ_consX (Zae Zpy) Zno mkΓ_nilX) (fn:=Tryz.f11) (by kernel_rfl) (by kernel_rfl) []).of (by
 intro ρ h w args vals r e hA hH hr
 unfold Znr at hr
 split at hr
 ·rename_i a0
  obtain ⟨rfl,rfl,hg2⟩:=BQi hr
  exact Yea a0 (hA.wt 0 rfl) hg2
 ·cases hr)
theorem wrap12:∀ k,k<14→i64.wrap ((12:Int)^k*12)=12^(k+1):=by decide
def Zdc (a0:Int):St:=(⟨.a (.i .i64 (a0)) :: .a (.u) :: .a (.i .i64 (0:Int)) :: .a (.i .i64 (1:Int)) :: .a (.i .i64 (a0)) :: .a (.i .i64 (0:Int))::us 5 ([]),[],[]⟩:St)
def Ze1:Int×Int→LS
 | (y0_3,y0_5)=>([.a (.i .i64 (y0_3)),.a (.i .i64 (y0_5))],[])
def Zjf:Int×Int→Exit×LS
 | t=>((.exit 0),Ze1 t)
def Zbw (P:Program) (a0:Int):Int×Int→Option (Stp (Int×Int) (Int×Int))
 | (y0_3,y0_5)=>bif decide (y0_5<a0) then (some (.more ((i64.wrap (y0_3*(12:Int))),(i64.wrap (y0_5+(1:Int))))))
  else (some (.done (y0_3,y0_5)))
def Ud2:=(Uaa (codeOf Tryz.f117) [([3,5],[])]).1
theorem Zvz (N:Nat) (a0:Int):∀ t:Int×Int,Uag PZ (mkΓ []) N (cAt (codeOf Tryz.f117) [1,1,0,1,0,0]) (pAt Ud2 [1,1,0,1,0]) [3,5] [] (Zdc a0) (Ze1 t)=mapS Ze1 Zjf (Zbw PZ a0 t):=by
 rintro ⟨y0_3,y0_5⟩
 refine Eq.trans (b:=(bif decide (y0_5<a0) then (some (.more ([.a (.i .i64 (i64.wrap (y0_3*(12:Int)))),.a (.i .i64 (i64.wrap (y0_5+(1:Int))))],[])))
  else (some (.done ((.exit 0),([.a (.i .i64 (y0_3)),.a (.i .i64 (y0_5))],[])))))) (by kernel_rfl) ?_
 simp only [Zbw,Zas,Zat,Zar,Zaq,Ze1,Zjf]
def Zh8 (P:Program) (N:Nat) (a0:Int) (z0_3:Int) (z0_5:Int):Option (SV×Eff×Bool):=some (.a (.i .i64 (z0_3)),.none,true)
def Ue8 (N:Nat):=(Uad 0 (kSeq (veC PZ (mkΓ []) N (cAt (codeOf Tryz.f117) [1,1,1]) (pAt Ud2 [1,1,1]) (SV×Eff×Bool)) (finK PZ [] [.tmp 2])))
theorem Zo8 (N:Nat) (a0:Int) (z0_3:Int) (z0_5:Int):(Ue8 N) (.exit 0) (left (writes (cAt (codeOf Tryz.f117) [1,1,0,1,0,0])) [3,5] [] (Zdc a0) ([.a (.i .i64 (z0_3)),.a (.i .i64 (z0_5))],[]))=Zh8 PZ N a0 z0_3 z0_5:=by
 refine Eq.trans (b:=(some (.a (.i .i64 (z0_3)),.none,true))) (by kernel_rfl) ?_
 rfl
theorem Zwq (N:Nat) (a0:Int):Uah (Uab (Uag PZ (mkΓ []) N (cAt (codeOf Tryz.f117) [1,1,0,1,0,0]) (pAt Ud2 [1,1,0,1,0]) [3,5] [] (Zdc a0)) N ([.a (.i .i64 (1:Int)),.a (.i .i64 (0:Int))],[])) (fun e s=>(Ue8 N) e (left (writes (cAt (codeOf Tryz.f117) [1,1,0,1,0,0])) [3,5] [] (Zdc a0) s))=Uai (Uab (Zbw PZ a0) N ((1:Int),(0:Int))) (fun x=>Zh8 PZ N a0 x.1 x.2):=by
 refine Zav Ze1 Zjf _ _ (Zvz N a0) N ((1:Int),(0:Int)) _ _ ?_
 intro x;exact Zo8 N a0 x.1 x.2
theorem Ztt (N:Nat) (a0:Int):ansV PZ (mkΓ []) N Tryz.f117 [([3,5],[])] [.i .i64 (a0)] []=(Uai (Uab (Zbw PZ a0) N ((1:Int),(0:Int))) (fun x=>Zh8 PZ N a0 x.1 x.2)):=by
 refine Eq.trans (b:=(Uah (Uab (Uag PZ (mkΓ []) N (cAt (codeOf Tryz.f117) [1,1,0,1,0,0]) (pAt Ud2 [1,1,0,1,0]) [3,5] [] (Zdc a0)) N ([.a (.i .i64 (1:Int)),.a (.i .i64 (0:Int))],[])) (fun e s=>(Ue8 N) e (left (writes (cAt (codeOf Tryz.f117) [1,1,0,1,0,0])) [3,5] [] (Zdc a0) s)))) (by kernel_rfl) ?_
 simp only [Zwq N a0]
theorem Zsw (a0:Int) (h_a0:i64.min≤a0∧a0≤i64.max) (hg:((decide (0≤a0)&&decide (a0≤14)))=true):ansV PZ (mkΓ []) 1000 Tryz.f117 [([3,5],[])] [.i .i64 (a0)] []=some (.a (.i .i64 (12^a0.toNat)),.none,true):=by
 simp only [Q7,decide_eq_true_eq] at hg
 obtain ⟨h0,h14⟩:=hg
 obtain ⟨m,rfl⟩:=Int.eq_ofNat_of_zero_le h0
 refine (Ztt 1000 _).trans ?_
 have h:=Zdg (g:=Zbw PZ (m:Int)) (fun k=>((12:Int)^k,(k:Int))) (m:=m) (x:=((12:Int)^m,(m:Int))) (N:=1000) (fun k hk=>by
  have h1:decide ((k:Int)<(m:Int))=true:=Q3 (by omega)
  have h2:i64.wrap ((k:Int)+1)=((k+1:Nat):Int):=by rw [IntWalk.i64_in _ (by omega)];omega
  simp only [Zbw,h1,Q1,wrap12 k (by omega),h2]) (by
  have h1:decide ((m:Int)<(m:Int))=false:=Q4 (by omega)
  simp only [Zbw,h1,Q2]) (by omega)
 have h':Uab (Zbw PZ (m:Int)) 1000 ((1:Int),(0:Int))=some ((12:Int)^m,(m:Int)):=h
 rw [h']
 rfl
def Za8:Con:=fun args h=>match args,h with
 | [.i .i64 a0],[]=>some (.a (.i .i64 (12^a0.toNat)),.none,(decide (0≤a0)&&decide (a0≤14)))
 | _,_=>none
theorem Zqh:EntX PZ 117:=Zah (fn:=Tryz.f117) (by kernel_rfl) (by kernel_rfl) (by kernel_rfl)
theorem Zv2:Uac mn PZ 117 Za8:=(Zai (N:=1000) (by kernel_rfl) mkΓ_nilX (fn:=Tryz.f117) (by kernel_rfl) (by kernel_rfl) [([3,5],[])]).of (by
 intro ρ h w args vals r e hA hH hr
 unfold Za8 at hr
 split at hr
 ·rename_i a0
  obtain ⟨rfl,rfl,hg2⟩:=BQi hr
  exact Zsw a0 (hA.rng 0 rfl) hg2
 ·cases hr)
theorem Zim {x a b:Int} (h:Zaa x a b=true):a≤x∧x≤b:=by
 unfold Zaa at h
 cases h0:decide (x ≥ a) with
 | false=>rw [h0] at h;exact nomatch h
 | true=>rw [h0] at h;exact ⟨of_decide_eq_true h0,of_decide_eq_true h⟩
theorem cell_num {D:Array Value} {T:TypeId} (hz:D.size=40) (k:Nat) (hk:k<36):num (D.extract 3 (3+36)) (k*1)=num D (3+k*1):=by
 unfold num
 rw [Array.getElem?_extract,if_pos (by omega)]
end
end Go.Proofs.YtdfefaanfiheoaaGreatDoor
