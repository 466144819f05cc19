/- Parts of twelve, in company. -/
import Derived.Test.YtdfefaanfiheoaaGreatDoorProg
import Derived.Test.YtdfefaanfiheoaaGreatDoorCxC
set_option linter.unusedVariables false
set_option linter.unusedSimpArgs false
namespace Go.Proofs.YtdfefaanfiheoaaGreatDoor
open Tryz (f11 f36 f54 f76 f117)
open Go.ChangeShapes Go.WideShapes Go.ChangeAt Go.RowKit Ve Vc
open Tryz renaming prog → PZ
open IntKind (i64)
set_option maxRecDepth 100000
noncomputable section
variable {mn:Md}
def Zd8 (a0:Array Value):St:=(⟨.a (.g a0 24) :: .a (.w 0) :: .a (.w 1) :: .a (.w 2) :: .a (.i .i64 (0:Int))::us 10 ([]),[.row a0 24,.row #[.int .u8 (0:Int),.int .u8 (0:Int),.int .u8 (0:Int),.int .u8 (0:Int),.int .u8 (0:Int)] 33,.row #[.int .u8 (0:Int),.int .u8 (0:Int),.int .u8 (0:Int),.int .u8 (0:Int),.int .u8 (0:Int)] 33],[]⟩:St)
def Zfp:Int×Array Value→LS
 | (y0_4,r0_2)=>([.a (.i .i64 (y0_4))],[.row r0_2 33])
def Zkv:Int×Array Value→Exit×LS
 | t=>((.exit 0),Zfp t)
def Zca (P : Program) (a0 : Array Value) : Int × Array Value → Option (Stp (Int × Array Value) (Int × Array Value))
 | (y0_4, r0_2) => bif decide (y0_4 < (5 : Int)) then (bif (decide (0 ≤ y0_4) && decide (y0_4 < 5)) then (bif (decide (0 ≤ y0_4) && decide (y0_4 < 5)) then (some (.more ((i64.wrap (y0_4 + (1 : Int))), (r0_2.setIfInBounds ((y0_4).toNat * 1) (.int .u8 (num a0 ((y0_4).toNat * 1)))))))
    else (none))
   else (none))
  else (some (.done (y0_4, r0_2)))
noncomputable abbrev cKCxD76:=codeOf f76
def Ud1:=(Uaa cKCxD76 [([4],[2])]).1
theorem Zzj (N:Nat) (a0:Array Value):∀ t:Int×Array Value,Uag PZ (mkΓ []) N (cAt cKCxD76 [1,1,0,1,0,0]) (pAt Ud1 [1,1,0,1,0]) [4] [2] (Zd8 a0) (Zfp t)=mapS Zfp Zkv (Zca PZ a0 t):=by
 rintro ⟨y0_4,r0_2⟩
 refine Eq.trans (b:=(bif decide (y0_4<(5:Int)) then (bif (decide (0≤y0_4)&&decide (y0_4<5)) then (bif (decide (0≤y0_4)&&decide (y0_4<5)) then (some (.more ([.a (.i .i64 (i64.wrap (y0_4+(1:Int))))],[.row (r0_2.setIfInBounds ((y0_4).toNat*1) (.int .u8 (num a0 ((y0_4).toNat*1)))) 33])))
    else (none))
   else (none))
  else (some (.done ((.exit 0),([.a (.i .i64 (y0_4))],[.row r0_2 33])))))) (by kernel_rfl) ?_
 simp only [Zca,Zat,Zaq,Zar,Zas,Zfp,Zkv]
def Ziy (P:Program) (N:Nat) (a0:Array Value) (z0_4:Int) (q0_2:Array Value):Option (SV×Eff×Bool):=some (.a (.g q0_2 33),.none,true)
def Ue2 (N:Nat):=(Uad 0 (kSeq (veC PZ (mkΓ []) N (cAt cKCxD76 [1,1,1]) (pAt Ud1 [1,1,1]) (SV×Eff×Bool)) (finK PZ [] [.cell 2 33])))
theorem Zpq (N:Nat) (a0:Array Value) (z0_4:Int) (q0_2:Array Value):(Ue2 N) (.exit 0) (left (writes (cAt cKCxD76 [1,1,0,1,0,0])) [4] [2] (Zd8 a0) ([.a (.i .i64 (z0_4))],[.row q0_2 33]))=Ziy PZ N a0 z0_4 q0_2:=by
 refine Eq.trans (b:=(some (.a (.g q0_2 33),.none,true))) (by kernel_rfl) ?_
 rfl
theorem Zyl (N:Nat) (a0:Array Value):Uah (Uab (Uag PZ (mkΓ []) N (cAt cKCxD76 [1,1,0,1,0,0]) (pAt Ud1 [1,1,0,1,0]) [4] [2] (Zd8 a0)) N ([.a (.i .i64 (0:Int))],[.row (#[.int .u8 (0:Int),.int .u8 (0:Int),.int .u8 (0:Int),.int .u8 (0:Int),.int .u8 (0:Int)]:Array Value) 33])) (fun e s=>(Ue2 N) e (left (writes (cAt cKCxD76 [1,1,0,1,0,0])) [4] [2] (Zd8 a0) s))=Uai (Uab (Zca PZ a0) N ((0:Int),(#[.int .u8 (0:Int),.int .u8 (0:Int),.int .u8 (0:Int),.int .u8 (0:Int),.int .u8 (0:Int)]:Array Value))) (fun x=>Ziy PZ N a0 x.1 x.2):=by
 refine Zav Zfp Zkv _ _ (Zzj N a0) N ((0:Int),(#[.int .u8 (0:Int),.int .u8 (0:Int),.int .u8 (0:Int),.int .u8 (0:Int),.int .u8 (0:Int)]:Array Value)) _ _ ?_
 intro x;exact Zpq N a0 x.1 x.2
theorem Zxb (N:Nat) (a0:Array Value):ansV PZ (mkΓ []) N f76 [([4],[2])] [.g a0 24] []=(Uai (Uab (Zca PZ a0) N ((0:Int),(#[.int .u8 (0:Int),.int .u8 (0:Int),.int .u8 (0:Int),.int .u8 (0:Int),.int .u8 (0:Int)]:Array Value))) (fun x=>Ziy PZ N a0 x.1 x.2)):=by
 refine Eq.trans (b:=(Uah (Uab (Uag PZ (mkΓ []) N (cAt cKCxD76 [1,1,0,1,0,0]) (pAt Ud1 [1,1,0,1,0]) [4] [2] (Zd8 a0)) N ([.a (.i .i64 (0:Int))],[.row (#[.int .u8 (0:Int),.int .u8 (0:Int),.int .u8 (0:Int),.int .u8 (0:Int),.int .u8 (0:Int)]:Array Value) 33])) (fun e s=>(Ue2 N) e (left (writes (cAt cKCxD76 [1,1,0,1,0,0])) [4] [2] (Zd8 a0) s)))) (by kernel_rfl) ?_
 simp only [Zyl N a0]
theorem Zt0 (a0:Array Value) (h_a0:WT PZ 24 a0) (hg:(true)=true):ansV PZ (mkΓ []) 1000 f76 [([4],[2])] [.g a0 24] []=some (.a (.g a0 33),.none,true):=by
 have hs:a0.size=(#[.int .u8 (0:Int),.int .u8 (0:Int),.int .u8 (0:Int),.int .u8 (0:Int),.int .u8 (0:Int)]:Array Value).size:=by rw [h_a0.layLen];kernel_rfl
 have hz:a0.size=5:=by rw [h_a0.layLen];kernel_rfl
 have hL:∀ k,k<5→(lay PZ 24)[k*1]? = some 4:=by
  intro k hk
  have h:(List.range 5).all (fun k=>(lay PZ 24)[k*1]? == some 4)=true:=by kernel_rfl
  exact eq_of_beq (List.all_eq_true.1 h k (List.mem_range.2 hk))
 have h:=Zci (g:=Zca PZ a0) (fun k=>((k:Int),upto a0 (#[.int .u8 (0:Int),.int .u8 (0:Int),.int .u8 (0:Int),.int .u8 (0:Int),.int .u8 (0:Int)]:Array Value) (k*1))) (m:=5) (x:=(((5:Nat):Int),upto a0 (#[.int .u8 (0:Int),.int .u8 (0:Int),.int .u8 (0:Int),.int .u8 (0:Int),.int .u8 (0:Int)]:Array Value) (5*1))) (N:=1000) (fun k hk=>by
  have h1:decide ((k:Int)<5)=true:=Q3 (by omega)
  have h0:decide (0≤(k:Int))=true:=Q3 (by omega)
  have h3:i64.wrap ((k:Int)+1)=((k+1:Nat):Int):=by rw [IntWalk.i64_in _ (by omega)];omega
  have h4:((k:Int)).toNat=k:=Q9 k
  have h5:(upto a0 (#[.int .u8 (0:Int),.int .u8 (0:Int),.int .u8 (0:Int),.int .u8 (0:Int),.int .u8 (0:Int)]:Array Value) (k*1)).setIfInBounds (k*1) (.int .u8 (num a0 (k*1)))=upto a0 (#[.int .u8 (0:Int),.int .u8 (0:Int),.int .u8 (0:Int),.int .u8 (0:Int),.int .u8 (0:Int)]:Array Value) ((k+1)*1):=by
   rw [Nat.add_mul];exact Zw5 hs (h_a0.int (k:=.u8) (hL k hk)).1
  simp only [Zca,h1,h0,Bool.and_self,h4,Q1,h3,h5]) (by
  have h1:decide (((5:Nat):Int)<5)=false:=by decide
  simp only [Zca,h1,Q2]) (by omega)
 simp only [Nat.zero_mul,Zoh hs,Zsb hs hz] at h
 refine (Zxb 1000 a0).trans ?_
 have h':Uab (Zca PZ a0) 1000 ((0:Int),(#[.int .u8 (0:Int),.int .u8 (0:Int),.int .u8 (0:Int),.int .u8 (0:Int),.int .u8 (0:Int)]:Array Value))=some (((5:Nat):Int),a0):=h
 rw [h']
 rfl
def Zbv:Con:=fun args h=>match args,h with
 | [.g a0 24],[]=>some (.a (.g a0 33),.none,true)
 | _,_=>none
theorem Zsu:EntX PZ 76:=Zah (fn:=f76)
theorem Zzm:Uac mn PZ 76 Zbv:=(ansY (N:=1000) mkΓ_nilX f76 [([4],[2])]).of (by
 intro ρ h w args vals r e hA hH hr
 unfold Zbv at hr
 split at hr
 ·rename_i a0
  obtain ⟨rfl,rfl,hg2⟩:=BQi hr
  exact Zt0 a0 (hA.wt 0 rfl) hg2
 ·cases hr)
def Zcu (a0:Array Value):St:=(⟨.a (.g a0 25) :: .a (.w 0) :: .a (.w 1) :: .a (.w 2) :: .a (.i .i64 (0:Int))::us 11 ([]),[.row a0 25,.row (zc PZ 34) 34,.row (zc PZ 34) 34],[]⟩:St)
def Zdq:Int×Array Value→LS
 | (y0_4,r0_2)=>([.a (.i .i64 (y0_4))],[.row r0_2 34])
def Zh7:Int×Array Value→Exit×LS
 | t=>((.exit 0),Zdq t)
def Zbi (P : Program) (a0 : Array Value) : Int × Array Value → Option (Stp (Int × Array Value) (Int × Array Value))
 | (y0_4, r0_2) => bif decide (y0_4 < (36 : Int)) then (bif (decide (0 ≤ y0_4) && decide (y0_4 < 36)) then (bif (decide (0 ≤ y0_4) && decide (y0_4 < 36)) then (some (.more ((i64.wrap (y0_4 + (1 : Int))), (spl r0_2 ((y0_4).toNat * 5) (a0.extract ((y0_4).toNat * 5) (((y0_4).toNat * 5) + 5)).toList))))
    else (none))
   else (none))
  else (some (.done (y0_4, r0_2)))
noncomputable abbrev cKCxD54:=codeOf f54
def Udz:=(Uaa cKCxD54 [([4],[2])]).1
theorem Ztk (N:Nat) (a0:Array Value):∀ t:Int×Array Value,Uag PZ (mkΓ [(76,con Zbv)]) N (cAt cKCxD54 [1,1,0,1,0,0]) (pAt Udz [1,1,0,1,0]) [4] [2] (Zcu a0) (Zdq t)=mapS Zdq Zh7 (Zbi PZ a0 t):=by
 rintro ⟨y0_4,r0_2⟩
 refine Eq.trans (b:=(bif decide (y0_4<(36:Int)) then (bif (decide (0≤y0_4)&&decide (y0_4<36)) then (bif (decide (0≤y0_4)&&decide (y0_4<36)) then (some (.more ([.a (.i .i64 (i64.wrap (y0_4+(1:Int))))],[.row (spl r0_2 ((y0_4).toNat*5) (a0.extract ((y0_4).toNat*5) (((y0_4).toNat*5)+5)).toList) 34])))
    else (none))
   else (none))
  else (some (.done ((.exit 0),([.a (.i .i64 (y0_4))],[.row r0_2 34])))))) (by kernel_rfl) ?_
 simp only [Zbi,Zat,Zaq,Zar,Zas,Zdq,Zh7]
def Zg3 (P:Program) (N:Nat) (a0:Array Value) (z0_4:Int) (q0_2:Array Value):Option (SV×Eff×Bool):=some (.a (.g q0_2 34),.none,true)
def Ufd (N:Nat):=(Uad 0 (kSeq (veC PZ (mkΓ [(76,con Zbv)]) N (cAt cKCxD54 [1,1,1]) (pAt Udz [1,1,1]) (SV×Eff×Bool)) (finK PZ [] [.cell 2 34])))
theorem Znr (N:Nat) (a0:Array Value) (z0_4:Int) (q0_2:Array Value):(Ufd N) (.exit 0) (left (writes (cAt cKCxD54 [1,1,0,1,0,0])) [4] [2] (Zcu a0) ([.a (.i .i64 (z0_4))],[.row q0_2 34]))=Zg3 PZ N a0 z0_4 q0_2:=by
 refine Eq.trans (b:=(some (.a (.g q0_2 34),.none,true))) (by kernel_rfl) ?_
 rfl
theorem Zsw (N:Nat) (a0:Array Value):Uah (Uab (Uag PZ (mkΓ [(76,con Zbv)]) N (cAt cKCxD54 [1,1,0,1,0,0]) (pAt Udz [1,1,0,1,0]) [4] [2] (Zcu a0)) N ([.a (.i .i64 (0:Int))],[.row (zc PZ 34) 34])) (fun e s=>(Ufd N) e (left (writes (cAt cKCxD54 [1,1,0,1,0,0])) [4] [2] (Zcu a0) s))=Uai (Uab (Zbi PZ a0) N ((0:Int),(zc PZ 34))) (fun x=>Zg3 PZ N a0 x.1 x.2):=by
 refine Zav Zdq Zh7 _ _ (Ztk N a0) N ((0:Int),(zc PZ 34)) _ _ ?_
 intro x;exact Znr N a0 x.1 x.2
theorem Zqo (N:Nat) (a0:Array Value):ansV PZ (mkΓ [(76,con Zbv)]) N f54 [([4],[2])] [.g a0 25] []=(Uai (Uab (Zbi PZ a0) N ((0:Int),(zc PZ 34))) (fun x=>Zg3 PZ N a0 x.1 x.2)):=by
 refine Eq.trans (b:=(Uah (Uab (Uag PZ (mkΓ [(76,con Zbv)]) N (cAt cKCxD54 [1,1,0,1,0,0]) (pAt Udz [1,1,0,1,0]) [4] [2] (Zcu a0)) N ([.a (.i .i64 (0:Int))],[.row (zc PZ 34) 34])) (fun e s=>(Ufd N) e (left (writes (cAt cKCxD54 [1,1,0,1,0,0])) [4] [2] (Zcu a0) s)))) (by kernel_rfl) ?_
 simp only [Zsw N a0]
theorem Zpu (a0:Array Value) (h_a0:WT PZ 25 a0) (hg:(true)=true):ansV PZ (mkΓ [(76,con Zbv)]) 1000 f54 [([4],[2])] [.g a0 25] []=some (.a (.g a0 34),.none,true):=by
 have hs:a0.size=(zc PZ 34).size:=by rw [h_a0.layLen];kernel_rfl
 have hz:a0.size=180:=by rw [h_a0.layLen];kernel_rfl
 have hL:∀ k,k<36→(lay PZ 25)[k*5]? = some 4:=by
  intro k hk
  have h:(List.range 36).all (fun k=>(lay PZ 25)[k*5]? == some 4)=true:=by kernel_rfl
  exact eq_of_beq (List.all_eq_true.1 h k (List.mem_range.2 hk))
 have h:=Zci (g:=Zbi PZ a0) (fun k=>((k:Int),upto a0 (zc PZ 34) (k*5))) (m:=36) (x:=(((36:Nat):Int),upto a0 (zc PZ 34) (36*5))) (N:=1000) (fun k hk=>by
  have h1:decide ((k:Int)<36)=true:=Q3 (by omega)
  have h0:decide (0≤(k:Int))=true:=Q3 (by omega)
  have h3:i64.wrap ((k:Int)+1)=((k+1:Nat):Int):=by rw [IntWalk.i64_in _ (by omega)];omega
  have h4:((k:Int)).toNat=k:=Q9 k
  have h5:spl (upto a0 (zc PZ 34) (k*5)) (k*5) (a0.extract (k*5) (k*5+5)).toList=upto a0 (zc PZ 34) ((k+1)*5):=by
   rw [Nat.add_mul];exact Yb1 hs (by omega) rfl
  simp only [Zbi,h1,h0,Bool.and_self,h4,Q1,h3,h5]) (by
  have h1:decide (((36:Nat):Int)<36)=false:=by decide
  simp only [Zbi,h1,Q2]) (by omega)
 simp only [Nat.zero_mul,Zoh hs,Zsb hs hz] at h
 refine (Zqo 1000 a0).trans ?_
 have h':Uab (Zbi PZ a0) 1000 ((0:Int),(zc PZ 34))=some (((36:Nat):Int),a0):=h
 rw [h']
 rfl
def Zbf:Con:=fun args h=>match args,h with
 | [.g a0 25],[]=>some (.a (.g a0 34),.none,true)
 | _,_=>none
theorem Zow:EntX PZ 54:=Zah (fn:=f54)
theorem Zsl:Uac mn PZ 54 Zbf:=(ansY (N:=1000) (mkΓ_consX (Zae Zzm) Zsu mkΓ_nilX) f54 [([4],[2])]).of (by
 intro ρ h w args vals r e hA hH hr
 unfold Zbf at hr
 split at hr
 ·rename_i a0
  obtain ⟨rfl,rfl,hg2⟩:=BQi hr
  exact Zpu a0 (hA.wt 0 rfl) hg2
 ·cases hr)
def Zb0 (a0:Array Value):St:=(⟨.a (.g a0 26) :: .a (.w 0) :: .a (.w 1) :: .a (.w 2) :: .a (.i .i64 (0:Int))::us 11 ([]),[.row a0 26,.row (zc PZ 35) 35,.row (zc PZ 35) 35],[]⟩:St)
def Zc4:Int×Array Value→LS
 | (y0_4,r0_2)=>([.a (.i .i64 (y0_4))],[.row r0_2 35])
def Zg0:Int×Array Value→Exit×LS
 | t=>((.exit 0),Zc4 t)
def Za9 (P : Program) (a0 : Array Value) : Int × Array Value → Option (Stp (Int × Array Value) (Int × Array Value))
 | (y0_4, r0_2) => bif decide (y0_4 < (2 : Int)) then (bif (decide (0 ≤ y0_4) && decide (y0_4 < 2)) then (bif (decide (0 ≤ y0_4) && decide (y0_4 < 2)) then (some (.more ((i64.wrap (y0_4 + (1 : Int))), (spl r0_2 ((y0_4).toNat * 180) (a0.extract ((y0_4).toNat * 180) (((y0_4).toNat * 180) + 180)).toList))))
    else (none))
   else (none))
  else (some (.done (y0_4, r0_2)))
noncomputable abbrev cKCxD36:=codeOf f36
def Ud8:=(Uaa cKCxD36 [([4],[2])]).1
theorem Zp5 (N:Nat) (a0:Array Value):∀ t:Int×Array Value,Uag PZ (mkΓ [(54,con Zbf)]) N (cAt cKCxD36 [1,1,0,1,0,0]) (pAt Ud8 [1,1,0,1,0]) [4] [2] (Zb0 a0) (Zc4 t)=mapS Zc4 Zg0 (Za9 PZ a0 t):=by
 rintro ⟨y0_4,r0_2⟩
 refine Eq.trans (b:=(bif decide (y0_4<(2:Int)) then (bif (decide (0≤y0_4)&&decide (y0_4<2)) then (bif (decide (0≤y0_4)&&decide (y0_4<2)) then (some (.more ([.a (.i .i64 (i64.wrap (y0_4+(1:Int))))],[.row (spl r0_2 ((y0_4).toNat*180) (a0.extract ((y0_4).toNat*180) (((y0_4).toNat*180)+180)).toList) 35])))
    else (none))
   else (none))
  else (some (.done ((.exit 0),([.a (.i .i64 (y0_4))],[.row r0_2 35])))))) (by kernel_rfl) ?_
 simp only [Za9,Zat,Zaq,Zar,Zas,Zc4,Zg0]
def Zfi (P:Program) (N:Nat) (a0:Array Value) (z0_4:Int) (q0_2:Array Value):Option (SV×Eff×Bool):=some (.a (.g q0_2 35),.none,true)
def Ue5 (N:Nat):=(Uad 0 (kSeq (veC PZ (mkΓ [(54,con Zbf)]) N (cAt cKCxD36 [1,1,1]) (pAt Ud8 [1,1,1]) (SV×Eff×Bool)) (finK PZ [] [.cell 2 35])))
theorem Zmx (N:Nat) (a0:Array Value) (z0_4:Int) (q0_2:Array Value):(Ue5 N) (.exit 0) (left (writes (cAt cKCxD36 [1,1,0,1,0,0])) [4] [2] (Zb0 a0) ([.a (.i .i64 (z0_4))],[.row q0_2 35]))=Zfi PZ N a0 z0_4 q0_2:=by
 refine Eq.trans (b:=(some (.a (.g q0_2 35),.none,true))) (by kernel_rfl) ?_
 rfl
theorem Zpy (N:Nat) (a0:Array Value):Uah (Uab (Uag PZ (mkΓ [(54,con Zbf)]) N (cAt cKCxD36 [1,1,0,1,0,0]) (pAt Ud8 [1,1,0,1,0]) [4] [2] (Zb0 a0)) N ([.a (.i .i64 (0:Int))],[.row (zc PZ 35) 35])) (fun e s=>(Ue5 N) e (left (writes (cAt cKCxD36 [1,1,0,1,0,0])) [4] [2] (Zb0 a0) s))=Uai (Uab (Za9 PZ a0) N ((0:Int),(zc PZ 35))) (fun x=>Zfi PZ N a0 x.1 x.2):=by
 refine Zav Zc4 Zg0 _ _ (Zp5 N a0) N ((0:Int),(zc PZ 35)) _ _ ?_
 intro x;exact Zmx N a0 x.1 x.2
theorem Zo4 (N:Nat) (a0:Array Value):ansV PZ (mkΓ [(54,con Zbf)]) N f36 [([4],[2])] [.g a0 26] []=(Uai (Uab (Za9 PZ a0) N ((0:Int),(zc PZ 35))) (fun x=>Zfi PZ N a0 x.1 x.2)):=by
 refine Eq.trans (b:=(Uah (Uab (Uag PZ (mkΓ [(54,con Zbf)]) N (cAt cKCxD36 [1,1,0,1,0,0]) (pAt Ud8 [1,1,0,1,0]) [4] [2] (Zb0 a0)) N ([.a (.i .i64 (0:Int))],[.row (zc PZ 35) 35])) (fun e s=>(Ue5 N) e (left (writes (cAt cKCxD36 [1,1,0,1,0,0])) [4] [2] (Zb0 a0) s)))) (by kernel_rfl) ?_
 simp only [Zpy N a0]
theorem Zol (a0:Array Value) (h_a0:WT PZ 26 a0) (hg:(true)=true):ansV PZ (mkΓ [(54,con Zbf)]) 1000 f36 [([4],[2])] [.g a0 26] []=some (.a (.g a0 35),.none,true):=by
 have hs:a0.size=(zc PZ 35).size:=by rw [h_a0.layLen];kernel_rfl
 have hz:a0.size=360:=by rw [h_a0.layLen];kernel_rfl
 have hL:∀ k,k<2→(lay PZ 26)[k*180]? = some 4:=by
  intro k hk
  have h:(List.range 2).all (fun k=>(lay PZ 26)[k*180]? == some 4)=true:=by kernel_rfl
  exact eq_of_beq (List.all_eq_true.1 h k (List.mem_range.2 hk))
 have h:=Zci (g:=Za9 PZ a0) (fun k=>((k:Int),upto a0 (zc PZ 35) (k*180))) (m:=2) (x:=(((2:Nat):Int),upto a0 (zc PZ 35) (2*180))) (N:=1000) (fun k hk=>by
  have h1:decide ((k:Int)<2)=true:=Q3 (by omega)
  have h0:decide (0≤(k:Int))=true:=Q3 (by omega)
  have h3:i64.wrap ((k:Int)+1)=((k+1:Nat):Int):=by rw [IntWalk.i64_in _ (by omega)];omega
  have h4:((k:Int)).toNat=k:=Q9 k
  have h5:spl (upto a0 (zc PZ 35) (k*180)) (k*180) (a0.extract (k*180) (k*180+180)).toList=upto a0 (zc PZ 35) ((k+1)*180):=by
   rw [Nat.add_mul];exact Yb1 hs (by omega) rfl
  simp only [Za9,h1,h0,Bool.and_self,h4,Q1,h3,h5]) (by
  have h1:decide (((2:Nat):Int)<2)=false:=by decide
  simp only [Za9,h1,Q2]) (by omega)
 simp only [Nat.zero_mul,Zoh hs,Zsb hs hz] at h
 refine (Zo4 1000 a0).trans ?_
 have h':Uab (Za9 PZ a0) 1000 ((0:Int),(zc PZ 35))=some (((2:Nat):Int),a0):=h
 rw [h']
 rfl
def Zf2:Con:=fun args h=>match args,h with
 | [.g a0 26],[]=>some (.a (.g a0 35),.none,true)
 | _,_=>none
theorem Znv:EntX PZ 36:=Zah (fn:=f36)
theorem Zpr:Uac mn PZ 36 Zf2:=(ansY (N:=1000) (mkΓ_consX (Zae Zsl) Zow mkΓ_nilX) f36 [([4],[2])]).of (by
 intro ρ h w args vals r e hA hH hr
 unfold Zf2 at hr
 split at hr
 ·rename_i a0
  obtain ⟨rfl,rfl,hg2⟩:=BQi hr
  exact Zol a0 (hA.wt 0 rfl) hg2
 ·cases hr)
def Zzx:Cons:=(mkΓ [(36,con Zf2)])
theorem Yff (N:Nat) (a0:Array Value):ansV PZ Zzx N f11 [] [.g a0 28] []=(some (.a (.g (spl ((((zc PZ 37).setIfInBounds 0 (.int .i8 (num a0 0))).setIfInBounds 1 (.int .i8 (num a0 1))).setIfInBounds 2 (.int .u64 (num a0 2))) 3 (a0.extract 3 (3+360)).toList) 37),.none,true)):=by kernel_rfl
theorem Ycv (a0:Array Value) (h_a0:WT PZ 28 a0) (hg:(true)=true):ansV PZ Zzx 1000 f11 [] [.g a0 28] []=some (.a (.g a0 37),.none,true):=by
 have hs:a0.size=(zc PZ 37).size:=by rw [h_a0.layLen];kernel_rfl
 have hz:a0.size=363:=by rw [h_a0.layLen];kernel_rfl
 have e0:(upto a0 (zc PZ 37) 0).setIfInBounds 0 (.int .i8 (num a0 0))=upto a0 (zc PZ 37) 1:=Zw5 hs (h_a0.int (k:=.i8) (by kernel_rfl)).1
 rw [Zoh hs] at e0
 have e1:(upto a0 (zc PZ 37) 1).setIfInBounds 1 (.int .i8 (num a0 1))=upto a0 (zc PZ 37) 2:=Zw5 hs (h_a0.int (k:=.i8) (by kernel_rfl)).1
 have e2:(upto a0 (zc PZ 37) 2).setIfInBounds 2 (.int .u64 (num a0 2))=upto a0 (zc PZ 37) 3:=Zw5 hs (h_a0.int (k:=.u64) (by kernel_rfl)).1
 have e3:spl (upto a0 (zc PZ 37) 3) 3 (a0.extract 3 (3+360)).toList=upto a0 (zc PZ 37) 363:=Yb1 hs (by omega) rfl
 refine (Yff 1000 a0).trans ?_
 rw [e0,e1,e2,e3,Zsb hs hz]
def Zno:Con:=fun args h=>match args,h with
 | [.g a0 28],[]=>some (.a (.g a0 37),.none,true)
 | _,_=>none
theorem Ybg:EntX PZ 11:=Zah (fn:=f11)
theorem Yg6:Uac mn PZ 11 Zno:=(ansY (N:=1000) (mkΓ_consX (Zae Zpr) Znv mkΓ_nilX) f11 []).of (by
 intro ρ h w args vals r e hA hH hr
 unfold Zno at hr
 split at hr
 ·rename_i a0
  obtain ⟨rfl,rfl,hg2⟩:=BQi hr
  exact Ycv a0 (hA.wt 0 rfl) hg2
 ·cases hr)
theorem wrap12:∀ k,k<14→i64.wrap ((12:Int)^k*12)=12^(k+1):=by decide
def Zdj (a0:Int):St:=(⟨.a (.i .i64 (a0)) :: .a (.u) :: .a (.i .i64 (0:Int)) :: .a (.i .i64 (1:Int)) :: .a (.i .i64 (a0)) :: .a (.i .i64 (0:Int))::us 5 ([]),[],[]⟩:St)
def Ze0:Int×Int→LS
 | (y0_3,y0_5)=>([.a (.i .i64 (y0_3)),.a (.i .i64 (y0_5))],[])
def Zjp:Int×Int→Exit×LS
 | t=>((.exit 0),Ze0 t)
def Zbx (P:Program) (a0:Int):Int×Int→Option (Stp (Int×Int) (Int×Int))
 | (y0_3,y0_5)=>bif decide (y0_5<a0) then (some (.more ((i64.wrap (y0_3*(12:Int))),(i64.wrap (y0_5+(1:Int))))))
  else (some (.done (y0_3,y0_5)))
noncomputable abbrev cKCxD117:=codeOf f117
def Udv:=(Uaa cKCxD117 [([3,5],[])]).1
theorem Zwq (N:Nat) (a0:Int):∀ t:Int×Int,Uag PZ (mkΓ []) N (cAt cKCxD117 [1,1,0,1,0,0]) (pAt Udv [1,1,0,1,0]) [3,5] [] (Zdj a0) (Ze0 t)=mapS Ze0 Zjp (Zbx PZ a0 t):=by
 rintro ⟨y0_3,y0_5⟩
 refine Eq.trans (b:=(bif decide (y0_5<a0) then (some (.more ([.a (.i .i64 (i64.wrap (y0_3*(12:Int)))),.a (.i .i64 (i64.wrap (y0_5+(1:Int))))],[])))
  else (some (.done ((.exit 0),([.a (.i .i64 (y0_3)),.a (.i .i64 (y0_5))],[])))))) (by kernel_rfl) ?_
 simp only [Zbx,Zat,Zaq,Zar,Zas,Ze0,Zjp]
def Zie (P:Program) (N:Nat) (a0:Int) (z0_3:Int) (z0_5:Int):Option (SV×Eff×Bool):=some (.a (.i .i64 (z0_3)),.none,true)
def Ufc (N:Nat):=(Uad 0 (kSeq (veC PZ (mkΓ []) N (cAt cKCxD117 [1,1,1]) (pAt Udv [1,1,1]) (SV×Eff×Bool)) (finK PZ [] [.tmp 2])))
theorem Zo9 (N:Nat) (a0:Int) (z0_3:Int) (z0_5:Int):(Ufc N) (.exit 0) (left (writes (cAt cKCxD117 [1,1,0,1,0,0])) [3,5] [] (Zdj a0) ([.a (.i .i64 (z0_3)),.a (.i .i64 (z0_5))],[]))=Zie PZ N a0 z0_3 z0_5:=by
 refine Eq.trans (b:=(some (.a (.i .i64 (z0_3)),.none,true))) (by kernel_rfl) ?_
 rfl
theorem Zxi (N:Nat) (a0:Int):Uah (Uab (Uag PZ (mkΓ []) N (cAt cKCxD117 [1,1,0,1,0,0]) (pAt Udv [1,1,0,1,0]) [3,5] [] (Zdj a0)) N ([.a (.i .i64 (1:Int)),.a (.i .i64 (0:Int))],[])) (fun e s=>(Ufc N) e (left (writes (cAt cKCxD117 [1,1,0,1,0,0])) [3,5] [] (Zdj a0) s))=Uai (Uab (Zbx PZ a0) N ((1:Int),(0:Int))) (fun x=>Zie PZ N a0 x.1 x.2):=by
 refine Zav Ze0 Zjp _ _ (Zwq N a0) N ((1:Int),(0:Int)) _ _ ?_
 intro x;exact Zo9 N a0 x.1 x.2
theorem Zt2 (N:Nat) (a0:Int):ansV PZ (mkΓ []) N f117 [([3,5],[])] [.i .i64 (a0)] []=(Uai (Uab (Zbx PZ a0) N ((1:Int),(0:Int))) (fun x=>Zie PZ N a0 x.1 x.2)):=by
 refine Eq.trans (b:=(Uah (Uab (Uag PZ (mkΓ []) N (cAt cKCxD117 [1,1,0,1,0,0]) (pAt Udv [1,1,0,1,0]) [3,5] [] (Zdj a0)) N ([.a (.i .i64 (1:Int)),.a (.i .i64 (0:Int))],[])) (fun e s=>(Ufc N) e (left (writes (cAt cKCxD117 [1,1,0,1,0,0])) [3,5] [] (Zdj a0) s)))) (by kernel_rfl) ?_
 simp only [Zxi N a0]
theorem Ztd (a0:Int) (h_a0:i64.min≤a0∧a0≤i64.max) (hg:((decide (0≤a0)&&decide (a0≤14)))=true):ansV PZ (mkΓ []) 1000 f117 [([3,5],[])] [.i .i64 (a0)] []=some (.a (.i .i64 (12^a0.toNat)),.none,true):=by
 simp only [Q7,decide_eq_true_eq] at hg
 obtain ⟨h0,h14⟩:=hg
 obtain ⟨m,rfl⟩:=Int.eq_ofNat_of_zero_le h0
 refine (Zt2 1000 _).trans ?_
 have h:=Zci (g:=Zbx PZ (m:Int)) (fun k=>((12:Int)^k,(k:Int))) (m:=m) (x:=((12:Int)^m,(m:Int))) (N:=1000) (fun k hk=>by
  have h1:decide ((k:Int)<(m:Int))=true:=Q3 (by omega)
  have h2:i64.wrap ((k:Int)+1)=((k+1:Nat):Int):=by rw [IntWalk.i64_in _ (by omega)];omega
  simp only [Zbx,h1,Q1,wrap12 k (by omega),h2]) (by
  have h1:decide ((m:Int)<(m:Int))=false:=Q4 (by omega)
  simp only [Zbx,h1,Q2]) (by omega)
 have h':Uab (Zbx PZ (m:Int)) 1000 ((1:Int),(0:Int))=some ((12:Int)^m,(m:Int)):=h
 rw [h']
 rfl
def Za7:Con:=fun args h=>match args,h with
 | [.i .i64 a0],[]=>some (.a (.i .i64 (12^a0.toNat)),.none,(decide (0≤a0)&&decide (a0≤14)))
 | _,_=>none
theorem Zrd:EntX PZ 117:=Zah (fn:=f117)
theorem Zxr:Uac mn PZ 117 Za7:=(ansY (N:=1000) mkΓ_nilX f117 [([3,5],[])]).of (by
 intro ρ h w args vals r e hA hH hr
 unfold Za7 at hr
 split at hr
 ·rename_i a0
  obtain ⟨rfl,rfl,hg2⟩:=BQi hr
  exact Ztd a0 (hA.rng 0 rfl) hg2
 ·cases hr)
theorem Zio {x a b:Int} (h:Zaa x a b=true):a≤x∧x≤b:=by
 unfold Zaa at h
 cases h0:decide (x ≥ a) with
 | false=>rw [h0] at h;exact nomatch h
 | true=>rw [h0] at h;exact ⟨of_decide_eq_true h0,of_decide_eq_true h⟩
theorem cell_num {D:Array Value} {T:TypeId} (hz:D.size=40) (k:Nat) (hk:k<36):num (D.extract 3 (3+36)) (k*1)=num D (3+k*1):=by
 unfold num
 rw [Array.getElem?_extract,if_pos (by omega)]
end
end Go.Proofs.YtdfefaanfiheoaaGreatDoor
