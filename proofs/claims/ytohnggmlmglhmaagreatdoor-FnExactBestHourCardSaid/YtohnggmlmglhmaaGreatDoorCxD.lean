/- Parts of twelve, in company. -/
import Derived.Test.YtohnggmlmglhmaaGreatDoorProg
import Derived.Test.YtohnggmlmglhmaaGreatDoorCxC
namespace Go.Proofs.YtohnggmlmglhmaaGreatDoor
open Go.ChangeShapes Go.WideShapes Go.ChangeAt Go.RowKit Ve Vc
open Tryz renaming prog → PZ
open IntKind (i64)
set_option linter.unusedVariables false
set_option linter.unusedSimpArgs false
set_option maxRecDepth 100000
noncomputable section
variable {mn:Md}
def Zet (a0:Array Value):St:=(⟨.a (.g a0 24) :: .a (.w 0) :: .a (.w 1) :: .a (.w 2) :: .a (.i .i64 (0:Int))::us 10 ([]),[.row a0 24,.row #[.int .u8 (0:Int),.int .u8 (0:Int),.int .u8 (0:Int),.int .u8 (0:Int),.int .u8 (0:Int)] 37,.row #[.int .u8 (0:Int),.int .u8 (0:Int),.int .u8 (0:Int),.int .u8 (0:Int),.int .u8 (0:Int)] 37],[]⟩:St)
def Zft:Int×Array Value→LS
 | (y0_4,r0_2)=>([.a (.i .i64 (y0_4))],[.row r0_2 37])
def Zki:Int×Array Value→Exit×LS
 | t=>((.exit 0),Zft t)
def Zc1 (P : Program) (a0 : Array Value) : Int × Array Value → Option (Stp (Int × Array Value) (Int × Array Value))
 | (y0_4, r0_2) => bif decide (y0_4 < (5 : Int)) then (bif (decide (0 ≤ y0_4) && decide (y0_4 < 5)) then (bif (decide (0 ≤ y0_4) && decide (y0_4 < 5)) then (some (.more ((i64.wrap (y0_4 + (1 : Int))), (r0_2.setIfInBounds ((y0_4).toNat * 1) (.int .u8 (num a0 ((y0_4).toNat * 1)))))))
    else (none))
   else (none))
  else (some (.done (y0_4, r0_2)))
theorem Zzp (N:Nat) (a0:Array Value):∀ t:Int×Array Value,Uai PZ (mkΓ []) N (cAt (codeOf Tryz.f83) [1,1,0,1,0,0]) (pAt (Uaa (codeOf Tryz.f83) [([4],[2])]).1 [1,1,0,1,0]) [4] [2] (Zet a0) (Zft t)=mapS Zft Zki (Zc1 PZ a0 t):=by
 rintro ⟨y0_4,r0_2⟩
 refine Eq.trans (b:=(bif decide (y0_4<(5:Int)) then (bif (decide (0≤y0_4)&&decide (y0_4<5)) then (bif (decide (0≤y0_4)&&decide (y0_4<5)) then (some (.more ([.a (.i .i64 (i64.wrap (y0_4+(1:Int))))],[.row (r0_2.setIfInBounds ((y0_4).toNat*1) (.int .u8 (num a0 ((y0_4).toNat*1)))) 37])))
    else (none))
   else (none))
  else (some (.done ((.exit 0),([.a (.i .i64 (y0_4))],[.row r0_2 37])))))) (by kernel_rfl) ?_
 simp only [Zc1,Za3,Za4,Za6,Za5,Zft,Zki]
def Zi4 (P:Program) (N:Nat) (a0:Array Value) (z0_4:Int) (q0_2:Array Value):Option (SV×Eff×Bool):=some (.a (.g q0_2 37),.none,true)
theorem Zqx (N:Nat) (a0:Array Value) (z0_4:Int) (q0_2:Array Value):(Uab 0 (kSeq (veC PZ (mkΓ []) N (cAt (codeOf Tryz.f83) [1,1,1]) (pAt (Uaa (codeOf Tryz.f83) [([4],[2])]).1 [1,1,1]) (SV×Eff×Bool)) (finK PZ [] [.cell 2 37]))) (.exit 0) (left (writes (cAt (codeOf Tryz.f83) [1,1,0,1,0,0])) [4] [2] (Zet a0) ([.a (.i .i64 (z0_4))],[.row q0_2 37]))=Zi4 PZ N a0 z0_4 q0_2:=by
 refine Eq.trans (b:=(some (.a (.g q0_2 37),.none,true))) (by kernel_rfl) ?_
 rfl
theorem Zza (N:Nat) (a0:Array Value):Uah (Uac (Uai PZ (mkΓ []) N (cAt (codeOf Tryz.f83) [1,1,0,1,0,0]) (pAt (Uaa (codeOf Tryz.f83) [([4],[2])]).1 [1,1,0,1,0]) [4] [2] (Zet a0)) N ([.a (.i .i64 (0:Int))],[.row (#[.int .u8 (0:Int),.int .u8 (0:Int),.int .u8 (0:Int),.int .u8 (0:Int),.int .u8 (0:Int)]:Array Value) 37])) (fun e s=>(Uab 0 (kSeq (veC PZ (mkΓ []) N (cAt (codeOf Tryz.f83) [1,1,1]) (pAt (Uaa (codeOf Tryz.f83) [([4],[2])]).1 [1,1,1]) (SV×Eff×Bool)) (finK PZ [] [.cell 2 37]))) e (left (writes (cAt (codeOf Tryz.f83) [1,1,0,1,0,0])) [4] [2] (Zet a0) s))=Uam (Uac (Zc1 PZ a0) N ((0:Int),(#[.int .u8 (0:Int),.int .u8 (0:Int),.int .u8 (0:Int),.int .u8 (0:Int),.int .u8 (0:Int)]:Array Value))) (fun x=>Zi4 PZ N a0 x.1 x.2):=by
 refine Zbm Zft Zki _ _ (Zzp N a0) N ((0:Int),(#[.int .u8 (0:Int),.int .u8 (0:Int),.int .u8 (0:Int),.int .u8 (0:Int),.int .u8 (0:Int)]:Array Value)) _ _ ?_
 intro x;exact Zqx N a0 x.1 x.2
theorem Zww (N:Nat) (a0:Array Value):ansV PZ (mkΓ []) N Tryz.f83 [([4],[2])] [.g a0 24] []=(Uam (Uac (Zc1 PZ a0) N ((0:Int),(#[.int .u8 (0:Int),.int .u8 (0:Int),.int .u8 (0:Int),.int .u8 (0:Int),.int .u8 (0:Int)]:Array Value))) (fun x=>Zi4 PZ N a0 x.1 x.2)):=by
 refine Eq.trans (b:=(Uah (Uac (Uai PZ (mkΓ []) N (cAt (codeOf Tryz.f83) [1,1,0,1,0,0]) (pAt (Uaa (codeOf Tryz.f83) [([4],[2])]).1 [1,1,0,1,0]) [4] [2] (Zet a0)) N ([.a (.i .i64 (0:Int))],[.row (#[.int .u8 (0:Int),.int .u8 (0:Int),.int .u8 (0:Int),.int .u8 (0:Int),.int .u8 (0:Int)]:Array Value) 37])) (fun e s=>(Uab 0 (kSeq (veC PZ (mkΓ []) N (cAt (codeOf Tryz.f83) [1,1,1]) (pAt (Uaa (codeOf Tryz.f83) [([4],[2])]).1 [1,1,1]) (SV×Eff×Bool)) (finK PZ [] [.cell 2 37]))) e (left (writes (cAt (codeOf Tryz.f83) [1,1,0,1,0,0])) [4] [2] (Zet a0) s)))) (by kernel_rfl) ?_
 simp only [Zza N a0]
theorem Zt9 (a0:Array Value) (h_a0:WT PZ 24 a0) (hg:(true)=true):ansV PZ (mkΓ []) 1000 Tryz.f83 [([4],[2])] [.g a0 24] []=some (.a (.g a0 37),.none,true):=by
 have hs:a0.size=(#[.int .u8 (0:Int),.int .u8 (0:Int),.int .u8 (0:Int),.int .u8 (0:Int),.int .u8 (0:Int)]:Array Value).size:=by rw [h_a0.layLen];kernel_rfl
 have hz:a0.size=5:=by rw [h_a0.layLen];kernel_rfl
 have hL:∀ k,k<5→(lay PZ 24)[k*1]? = some 4:=by
  intro k hk
  have h:(List.range 5).all (fun k=>(lay PZ 24)[k*1]? == some 4)=true:=by kernel_rfl
  exact eq_of_beq (List.all_eq_true.1 h k (List.mem_range.2 hk))
 have h:=Zdy (g:=Zc1 PZ a0) (fun k=>((k:Int),upto a0 (#[.int .u8 (0:Int),.int .u8 (0:Int),.int .u8 (0:Int),.int .u8 (0:Int),.int .u8 (0:Int)]:Array Value) (k*1))) (m:=5) (x:=(((5:Nat):Int),upto a0 (#[.int .u8 (0:Int),.int .u8 (0:Int),.int .u8 (0:Int),.int .u8 (0:Int),.int .u8 (0:Int)]:Array Value) (5*1))) (N:=1000) (fun k hk=>by
  have h1:decide ((k:Int)<5)=true:=decide_eq_true (by omega)
  have h0:decide (0≤(k:Int))=true:=decide_eq_true (by omega)
  have h3:i64.wrap ((k:Int)+1)=((k+1:Nat):Int):=by rw [IntWalk.i64_in _ (by omega)];omega
  have h4:((k:Int)).toNat=k:=Int.toNat_natCast k
  have h5:(upto a0 (#[.int .u8 (0:Int),.int .u8 (0:Int),.int .u8 (0:Int),.int .u8 (0:Int),.int .u8 (0:Int)]:Array Value) (k*1)).setIfInBounds (k*1) (.int .u8 (num a0 (k*1)))=upto a0 (#[.int .u8 (0:Int),.int .u8 (0:Int),.int .u8 (0:Int),.int .u8 (0:Int),.int .u8 (0:Int)]:Array Value) ((k+1)*1):=by
   rw [Nat.add_mul];exact Ybt hs (h_a0.int (k:=.u8) (hL k hk)).1
  simp only [Zc1,h1,h0,Bool.and_self,h4,cond_true,h3,h5]) (by
  have h1:decide (((5:Nat):Int)<5)=false:=by decide
  simp only [Zc1,h1,cond_false]) (by omega)
 simp only [Nat.zero_mul,Zrn hs,Zvu hs hz] at h
 refine (Zww 1000 a0).trans ?_
 have h':Uac (Zc1 PZ a0) 1000 ((0:Int),(#[.int .u8 (0:Int),.int .u8 (0:Int),.int .u8 (0:Int),.int .u8 (0:Int),.int .u8 (0:Int)]:Array Value))=some (((5:Nat):Int),a0):=h
 rw [h']
 rfl
def Zbo:Con:=fun args h=>match args,h with
 | [.g a0 24],[]=>some (.a (.g a0 37),.none,true)
 | _,_=>none
theorem Ztm:EntX PZ 83:=Zag (fn:=Tryz.f83) (by kernel_rfl) (by kernel_rfl) (by kernel_rfl)
theorem Zyk:Uad mn PZ 83 Zbo:=(Zai (N:=1000) (by kernel_rfl) mkΓ_nilX (fn:=Tryz.f83) (by kernel_rfl) (by kernel_rfl) [([4],[2])]).of (by
 intro ρ h w args vals r e hA hH hr
 unfold Zbo at hr
 split at hr
 ·rename_i a0
  obtain ⟨rfl,rfl,hg2⟩:=BQi hr
  exact Zt9 a0 (hA.wt 0 rfl) hg2
 ·cases hr)
def Zdg (a0:Array Value):St:=(⟨.a (.g a0 25) :: .a (.w 0) :: .a (.w 1) :: .a (.w 2) :: .a (.i .i64 (0:Int))::us 11 ([]),[.row a0 25,.row (zc PZ 38) 38,.row (zc PZ 38) 38],[]⟩:St)
def Zek:Int×Array Value→LS
 | (y0_4,r0_2)=>([.a (.i .i64 (y0_4))],[.row r0_2 38])
def Zh3:Int×Array Value→Exit×LS
 | t=>((.exit 0),Zek t)
def Zb1 (P : Program) (a0 : Array Value) : Int × Array Value → Option (Stp (Int × Array Value) (Int × Array Value))
 | (y0_4, r0_2) => bif decide (y0_4 < (36 : Int)) then (bif (decide (0 ≤ y0_4) && decide (y0_4 < 36)) then (bif (decide (0 ≤ y0_4) && decide (y0_4 < 36)) then (some (.more ((i64.wrap (y0_4 + (1 : Int))), (spl r0_2 ((y0_4).toNat * 5) (a0.extract ((y0_4).toNat * 5) (((y0_4).toNat * 5) + 5)).toList))))
    else (none))
   else (none))
  else (some (.done (y0_4, r0_2)))
theorem Ztk (N:Nat) (a0:Array Value):∀ t:Int×Array Value,Uai PZ (mkΓ [(83,con Zbo)]) N (cAt (codeOf Tryz.f57) [1,1,0,1,0,0]) (pAt (Uaa (codeOf Tryz.f57) [([4],[2])]).1 [1,1,0,1,0]) [4] [2] (Zdg a0) (Zek t)=mapS Zek Zh3 (Zb1 PZ a0 t):=by
 rintro ⟨y0_4,r0_2⟩
 refine Eq.trans (b:=(bif decide (y0_4<(36:Int)) then (bif (decide (0≤y0_4)&&decide (y0_4<36)) then (bif (decide (0≤y0_4)&&decide (y0_4<36)) then (some (.more ([.a (.i .i64 (i64.wrap (y0_4+(1:Int))))],[.row (spl r0_2 ((y0_4).toNat*5) (a0.extract ((y0_4).toNat*5) (((y0_4).toNat*5)+5)).toList) 38])))
    else (none))
   else (none))
  else (some (.done ((.exit 0),([.a (.i .i64 (y0_4))],[.row r0_2 38])))))) (by kernel_rfl) ?_
 simp only [Zb1,Za3,Za4,Za6,Za5,Zek,Zh3]
def Zgw (P:Program) (N:Nat) (a0:Array Value) (z0_4:Int) (q0_2:Array Value):Option (SV×Eff×Bool):=some (.a (.g q0_2 38),.none,true)
theorem Znu (N:Nat) (a0:Array Value) (z0_4:Int) (q0_2:Array Value):(Uab 0 (kSeq (veC PZ (mkΓ [(83,con Zbo)]) N (cAt (codeOf Tryz.f57) [1,1,1]) (pAt (Uaa (codeOf Tryz.f57) [([4],[2])]).1 [1,1,1]) (SV×Eff×Bool)) (finK PZ [] [.cell 2 38]))) (.exit 0) (left (writes (cAt (codeOf Tryz.f57) [1,1,0,1,0,0])) [4] [2] (Zdg a0) ([.a (.i .i64 (z0_4))],[.row q0_2 38]))=Zgw PZ N a0 z0_4 q0_2:=by
 refine Eq.trans (b:=(some (.a (.g q0_2 38),.none,true))) (by kernel_rfl) ?_
 rfl
theorem Zs6 (N:Nat) (a0:Array Value):Uah (Uac (Uai PZ (mkΓ [(83,con Zbo)]) N (cAt (codeOf Tryz.f57) [1,1,0,1,0,0]) (pAt (Uaa (codeOf Tryz.f57) [([4],[2])]).1 [1,1,0,1,0]) [4] [2] (Zdg a0)) N ([.a (.i .i64 (0:Int))],[.row (zc PZ 38) 38])) (fun e s=>(Uab 0 (kSeq (veC PZ (mkΓ [(83,con Zbo)]) N (cAt (codeOf Tryz.f57) [1,1,1]) (pAt (Uaa (codeOf Tryz.f57) [([4],[2])]).1 [1,1,1]) (SV×Eff×Bool)) (finK PZ [] [.cell 2 38]))) e (left (writes (cAt (codeOf Tryz.f57) [1,1,0,1,0,0])) [4] [2] (Zdg a0) s))=Uam (Uac (Zb1 PZ a0) N ((0:Int),(zc PZ 38))) (fun x=>Zgw PZ N a0 x.1 x.2):=by
 refine Zbm Zek Zh3 _ _ (Ztk N a0) N ((0:Int),(zc PZ 38)) _ _ ?_
 intro x;exact Znu N a0 x.1 x.2
theorem Zr8 (N:Nat) (a0:Array Value):ansV PZ (mkΓ [(83,con Zbo)]) N Tryz.f57 [([4],[2])] [.g a0 25] []=(Uam (Uac (Zb1 PZ a0) N ((0:Int),(zc PZ 38))) (fun x=>Zgw PZ N a0 x.1 x.2)):=by
 refine Eq.trans (b:=(Uah (Uac (Uai PZ (mkΓ [(83,con Zbo)]) N (cAt (codeOf Tryz.f57) [1,1,0,1,0,0]) (pAt (Uaa (codeOf Tryz.f57) [([4],[2])]).1 [1,1,0,1,0]) [4] [2] (Zdg a0)) N ([.a (.i .i64 (0:Int))],[.row (zc PZ 38) 38])) (fun e s=>(Uab 0 (kSeq (veC PZ (mkΓ [(83,con Zbo)]) N (cAt (codeOf Tryz.f57) [1,1,1]) (pAt (Uaa (codeOf Tryz.f57) [([4],[2])]).1 [1,1,1]) (SV×Eff×Bool)) (finK PZ [] [.cell 2 38]))) e (left (writes (cAt (codeOf Tryz.f57) [1,1,0,1,0,0])) [4] [2] (Zdg a0) s)))) (by kernel_rfl) ?_
 simp only [Zs6 N a0]
theorem Zqi (a0:Array Value) (h_a0:WT PZ 25 a0) (hg:(true)=true):ansV PZ (mkΓ [(83,con Zbo)]) 1000 Tryz.f57 [([4],[2])] [.g a0 25] []=some (.a (.g a0 38),.none,true):=by
 have hs:a0.size=(zc PZ 38).size:=by rw [h_a0.layLen];kernel_rfl
 have hz:a0.size=180:=by rw [h_a0.layLen];kernel_rfl
 have hL:∀ k,k<36→(lay PZ 25)[k*5]? = some 4:=by
  intro k hk
  have h:(List.range 36).all (fun k=>(lay PZ 25)[k*5]? == some 4)=true:=by kernel_rfl
  exact eq_of_beq (List.all_eq_true.1 h k (List.mem_range.2 hk))
 have h:=Zdy (g:=Zb1 PZ a0) (fun k=>((k:Int),upto a0 (zc PZ 38) (k*5))) (m:=36) (x:=(((36:Nat):Int),upto a0 (zc PZ 38) (36*5))) (N:=1000) (fun k hk=>by
  have h1:decide ((k:Int)<36)=true:=decide_eq_true (by omega)
  have h0:decide (0≤(k:Int))=true:=decide_eq_true (by omega)
  have h3:i64.wrap ((k:Int)+1)=((k+1:Nat):Int):=by rw [IntWalk.i64_in _ (by omega)];omega
  have h4:((k:Int)).toNat=k:=Int.toNat_natCast k
  have h5:spl (upto a0 (zc PZ 38) (k*5)) (k*5) (a0.extract (k*5) (k*5+5)).toList=upto a0 (zc PZ 38) ((k+1)*5):=by
   rw [Nat.add_mul];exact Ybn hs (by omega) rfl
  simp only [Zb1,h1,h0,Bool.and_self,h4,cond_true,h3,h5]) (by
  have h1:decide (((36:Nat):Int)<36)=false:=by decide
  simp only [Zb1,h1,cond_false]) (by omega)
 simp only [Nat.zero_mul,Zrn hs,Zvu hs hz] at h
 refine (Zr8 1000 a0).trans ?_
 have h':Uac (Zb1 PZ a0) 1000 ((0:Int),(zc PZ 38))=some (((36:Nat):Int),a0):=h
 rw [h']
 rfl
def Zba:Con:=fun args h=>match args,h with
 | [.g a0 25],[]=>some (.a (.g a0 38),.none,true)
 | _,_=>none
theorem Zpz:EntX PZ 57:=Zag (fn:=Tryz.f57) (by kernel_rfl) (by kernel_rfl) (by kernel_rfl)
theorem Zs3:Uad mn PZ 57 Zba:=(Zai (N:=1000) (by kernel_rfl) (mkΓ_consX (Zac Zyk) Ztm mkΓ_nilX) (fn:=Tryz.f57) (by kernel_rfl) (by kernel_rfl) [([4],[2])]).of (by
 intro ρ h w args vals r e hA hH hr
 unfold Zba at hr
 split at hr
 ·rename_i a0
  obtain ⟨rfl,rfl,hg2⟩:=BQi hr
  exact Zqi a0 (hA.wt 0 rfl) hg2
 ·cases hr)
def Zct (a0:Array Value):St:=(⟨.a (.g a0 26) :: .a (.w 0) :: .a (.w 1) :: .a (.w 2) :: .a (.i .i64 (0:Int))::us 11 ([]),[.row a0 26,.row (zc PZ 39) 39,.row (zc PZ 39) 39],[]⟩:St)
def Zds:Int×Array Value→LS
 | (y0_4,r0_2)=>([.a (.i .i64 (y0_4))],[.row r0_2 39])
def Zgu:Int×Array Value→Exit×LS
 | t=>((.exit 0),Zds t)
def Zbi (P : Program) (a0 : Array Value) : Int × Array Value → Option (Stp (Int × Array Value) (Int × Array Value))
 | (y0_4, r0_2) => bif decide (y0_4 < (2 : Int)) then (bif (decide (0 ≤ y0_4) && decide (y0_4 < 2)) then (bif (decide (0 ≤ y0_4) && decide (y0_4 < 2)) then (some (.more ((i64.wrap (y0_4 + (1 : Int))), (spl r0_2 ((y0_4).toNat * 180) (a0.extract ((y0_4).toNat * 180) (((y0_4).toNat * 180) + 180)).toList))))
    else (none))
   else (none))
  else (some (.done (y0_4, r0_2)))
theorem Zqm (N:Nat) (a0:Array Value):∀ t:Int×Array Value,Uai PZ (mkΓ [(57,con Zba)]) N (cAt (codeOf Tryz.f29) [1,1,0,1,0,0]) (pAt (Uaa (codeOf Tryz.f29) [([4],[2])]).1 [1,1,0,1,0]) [4] [2] (Zct a0) (Zds t)=mapS Zds Zgu (Zbi PZ a0 t):=by
 rintro ⟨y0_4,r0_2⟩
 refine Eq.trans (b:=(bif decide (y0_4<(2:Int)) then (bif (decide (0≤y0_4)&&decide (y0_4<2)) then (bif (decide (0≤y0_4)&&decide (y0_4<2)) then (some (.more ([.a (.i .i64 (i64.wrap (y0_4+(1:Int))))],[.row (spl r0_2 ((y0_4).toNat*180) (a0.extract ((y0_4).toNat*180) (((y0_4).toNat*180)+180)).toList) 39])))
    else (none))
   else (none))
  else (some (.done ((.exit 0),([.a (.i .i64 (y0_4))],[.row r0_2 39])))))) (by kernel_rfl) ?_
 simp only [Zbi,Za3,Za4,Za6,Za5,Zds,Zgu]
def Zf2 (P:Program) (N:Nat) (a0:Array Value) (z0_4:Int) (q0_2:Array Value):Option (SV×Eff×Bool):=some (.a (.g q0_2 39),.none,true)
theorem Zm7 (N:Nat) (a0:Array Value) (z0_4:Int) (q0_2:Array Value):(Uab 0 (kSeq (veC PZ (mkΓ [(57,con Zba)]) N (cAt (codeOf Tryz.f29) [1,1,1]) (pAt (Uaa (codeOf Tryz.f29) [([4],[2])]).1 [1,1,1]) (SV×Eff×Bool)) (finK PZ [] [.cell 2 39]))) (.exit 0) (left (writes (cAt (codeOf Tryz.f29) [1,1,0,1,0,0])) [4] [2] (Zct a0) ([.a (.i .i64 (z0_4))],[.row q0_2 39]))=Zf2 PZ N a0 z0_4 q0_2:=by
 refine Eq.trans (b:=(some (.a (.g q0_2 39),.none,true))) (by kernel_rfl) ?_
 rfl
theorem Zqf (N:Nat) (a0:Array Value):Uah (Uac (Uai PZ (mkΓ [(57,con Zba)]) N (cAt (codeOf Tryz.f29) [1,1,0,1,0,0]) (pAt (Uaa (codeOf Tryz.f29) [([4],[2])]).1 [1,1,0,1,0]) [4] [2] (Zct a0)) N ([.a (.i .i64 (0:Int))],[.row (zc PZ 39) 39])) (fun e s=>(Uab 0 (kSeq (veC PZ (mkΓ [(57,con Zba)]) N (cAt (codeOf Tryz.f29) [1,1,1]) (pAt (Uaa (codeOf Tryz.f29) [([4],[2])]).1 [1,1,1]) (SV×Eff×Bool)) (finK PZ [] [.cell 2 39]))) e (left (writes (cAt (codeOf Tryz.f29) [1,1,0,1,0,0])) [4] [2] (Zct a0) s))=Uam (Uac (Zbi PZ a0) N ((0:Int),(zc PZ 39))) (fun x=>Zf2 PZ N a0 x.1 x.2):=by
 refine Zbm Zds Zgu _ _ (Zqm N a0) N ((0:Int),(zc PZ 39)) _ _ ?_
 intro x;exact Zm7 N a0 x.1 x.2
theorem Zo4 (N:Nat) (a0:Array Value):ansV PZ (mkΓ [(57,con Zba)]) N Tryz.f29 [([4],[2])] [.g a0 26] []=(Uam (Uac (Zbi PZ a0) N ((0:Int),(zc PZ 39))) (fun x=>Zf2 PZ N a0 x.1 x.2)):=by
 refine Eq.trans (b:=(Uah (Uac (Uai PZ (mkΓ [(57,con Zba)]) N (cAt (codeOf Tryz.f29) [1,1,0,1,0,0]) (pAt (Uaa (codeOf Tryz.f29) [([4],[2])]).1 [1,1,0,1,0]) [4] [2] (Zct a0)) N ([.a (.i .i64 (0:Int))],[.row (zc PZ 39) 39])) (fun e s=>(Uab 0 (kSeq (veC PZ (mkΓ [(57,con Zba)]) N (cAt (codeOf Tryz.f29) [1,1,1]) (pAt (Uaa (codeOf Tryz.f29) [([4],[2])]).1 [1,1,1]) (SV×Eff×Bool)) (finK PZ [] [.cell 2 39]))) e (left (writes (cAt (codeOf Tryz.f29) [1,1,0,1,0,0])) [4] [2] (Zct a0) s)))) (by kernel_rfl) ?_
 simp only [Zqf N a0]
theorem Zoq (a0:Array Value) (h_a0:WT PZ 26 a0) (hg:(true)=true):ansV PZ (mkΓ [(57,con Zba)]) 1000 Tryz.f29 [([4],[2])] [.g a0 26] []=some (.a (.g a0 39),.none,true):=by
 have hs:a0.size=(zc PZ 39).size:=by rw [h_a0.layLen];kernel_rfl
 have hz:a0.size=360:=by rw [h_a0.layLen];kernel_rfl
 have hL:∀ k,k<2→(lay PZ 26)[k*180]? = some 4:=by
  intro k hk
  have h:(List.range 2).all (fun k=>(lay PZ 26)[k*180]? == some 4)=true:=by kernel_rfl
  exact eq_of_beq (List.all_eq_true.1 h k (List.mem_range.2 hk))
 have h:=Zdy (g:=Zbi PZ a0) (fun k=>((k:Int),upto a0 (zc PZ 39) (k*180))) (m:=2) (x:=(((2:Nat):Int),upto a0 (zc PZ 39) (2*180))) (N:=1000) (fun k hk=>by
  have h1:decide ((k:Int)<2)=true:=decide_eq_true (by omega)
  have h0:decide (0≤(k:Int))=true:=decide_eq_true (by omega)
  have h3:i64.wrap ((k:Int)+1)=((k+1:Nat):Int):=by rw [IntWalk.i64_in _ (by omega)];omega
  have h4:((k:Int)).toNat=k:=Int.toNat_natCast k
  have h5:spl (upto a0 (zc PZ 39) (k*180)) (k*180) (a0.extract (k*180) (k*180+180)).toList=upto a0 (zc PZ 39) ((k+1)*180):=by
   rw [Nat.add_mul];exact Ybn hs (by omega) rfl
  simp only [Zbi,h1,h0,Bool.and_self,h4,cond_true,h3,h5]) (by
  have h1:decide (((2:Nat):Int)<2)=false:=by decide
  simp only [Zbi,h1,cond_false]) (by omega)
 simp only [Nat.zero_mul,Zrn hs,Zvu hs hz] at h
 refine (Zo4 1000 a0).trans ?_
 have h':Uac (Zbi PZ a0) 1000 ((0:Int),(zc PZ 39))=some (((2:Nat):Int),a0):=h
 rw [h']
 rfl
def Zge:Con:=fun args h=>match args,h with
 | [.g a0 26],[]=>some (.a (.g a0 39),.none,true)
 | _,_=>none
theorem Zns:EntX PZ 29:=Zag (fn:=Tryz.f29) (by kernel_rfl) (by kernel_rfl) (by kernel_rfl)
theorem Zqj:Uad mn PZ 29 Zge:=(Zai (N:=1000) (by kernel_rfl) (mkΓ_consX (Zac Zs3) Zpz mkΓ_nilX) (fn:=Tryz.f29) (by kernel_rfl) (by kernel_rfl) [([4],[2])]).of (by
 intro ρ h w args vals r e hA hH hr
 unfold Zge at hr
 split at hr
 ·rename_i a0
  obtain ⟨rfl,rfl,hg2⟩:=BQi hr
  exact Zoq a0 (hA.wt 0 rfl) hg2
 ·cases hr)
def Zz3:Cons:=(mkΓ [(29,con Zge)])
theorem Yev (N:Nat) (a0:Array Value):ansV PZ Zz3 N Tryz.f9 [] [.g a0 28] []=(some (.a (.g (spl ((((zc PZ 41).setIfInBounds 0 (.int .i8 (num a0 0))).setIfInBounds 1 (.int .i8 (num a0 1))).setIfInBounds 2 (.int .u64 (num a0 2))) 3 (a0.extract 3 (3+360)).toList) 41),.none,true)):=by kernel_rfl
theorem Yc5 (a0:Array Value) (h_a0:WT PZ 28 a0) (hg:(true)=true):ansV PZ Zz3 1000 Tryz.f9 [] [.g a0 28] []=some (.a (.g a0 41),.none,true):=by
 have hs:a0.size=(zc PZ 41).size:=by rw [h_a0.layLen];kernel_rfl
 have hz:a0.size=363:=by rw [h_a0.layLen];kernel_rfl
 have e0:(upto a0 (zc PZ 41) 0).setIfInBounds 0 (.int .i8 (num a0 0))=upto a0 (zc PZ 41) 1:=Ybt hs (h_a0.int (k:=.i8) (by kernel_rfl)).1
 rw [Zrn hs] at e0
 have e1:(upto a0 (zc PZ 41) 1).setIfInBounds 1 (.int .i8 (num a0 1))=upto a0 (zc PZ 41) 2:=Ybt hs (h_a0.int (k:=.i8) (by kernel_rfl)).1
 have e2:(upto a0 (zc PZ 41) 2).setIfInBounds 2 (.int .u64 (num a0 2))=upto a0 (zc PZ 41) 3:=Ybt hs (h_a0.int (k:=.u64) (by kernel_rfl)).1
 have e3:spl (upto a0 (zc PZ 41) 3) 3 (a0.extract 3 (3+360)).toList=upto a0 (zc PZ 41) 363:=Ybn hs (by omega) rfl
 refine (Yev 1000 a0).trans ?_
 rw [e0,e1,e2,e3,Zvu hs hz]
def Zn3:Con:=fun args h=>match args,h with
 | [.g a0 28],[]=>some (.a (.g a0 41),.none,true)
 | _,_=>none
theorem Ya8:EntX PZ 9:=Zag (fn:=Tryz.f9) (by kernel_rfl) (by kernel_rfl) (by kernel_rfl)
theorem Yg3:Uad mn PZ 9 Zn3:=(Zai (N:=1000) (by kernel_rfl) (mkΓ_consX (Zac Zqj) Zns mkΓ_nilX) (fn:=Tryz.f9) (by kernel_rfl) (by kernel_rfl) []).of (by
 intro ρ h w args vals r e hA hH hr
 unfold Zn3 at hr
 split at hr
 ·rename_i a0
  obtain ⟨rfl,rfl,hg2⟩:=BQi hr
  exact Yc5 a0 (hA.wt 0 rfl) hg2
 ·cases hr)
theorem wrap12:∀ k,k<14→i64.wrap ((12:Int)^k*12)=12^(k+1):=by decide
def Ze3 (a0:Int):St:=(⟨.a (.i .i64 (a0)) :: .a (.u) :: .a (.i .i64 (0:Int)) :: .a (.i .i64 (1:Int)) :: .a (.i .i64 (0:Int))::us 8 ([]),[],[]⟩:St)
def Zgp:Int×Int→LS
 | (y0_3,y0_4)=>([.a (.i .i64 (y0_3)),.a (.i .i64 (y0_4))],[])
def Zlq:Int×Int→Exit×LS
 | t=>((.exit 0),Zgp t)
def Zdm (P:Program) (a0:Int):Int×Int→Option (Stp (Int×Int) (Int×Int))
 | (y0_3,y0_4)=>bif decide (y0_4<a0) then (some (.more ((i64.wrap (y0_3*(12:Int))),(i64.wrap (y0_4+(1:Int))))))
  else (some (.done (y0_3,y0_4)))
theorem Yat (N:Nat) (a0:Int):∀ t:Int×Int,Uai PZ (mkΓ []) N (cAt (codeOf Tryz.f28) [1,1,0,1,0,0]) (pAt (Uaa (codeOf Tryz.f28) [([3,4],[])]).1 [1,1,0,1,0]) [3,4] [] (Ze3 a0) (Zgp t)=mapS Zgp Zlq (Zdm PZ a0 t):=by
 rintro ⟨y0_3,y0_4⟩
 refine Eq.trans (b:=(bif decide (y0_4<a0) then (some (.more ([.a (.i .i64 (i64.wrap (y0_3*(12:Int)))),.a (.i .i64 (i64.wrap (y0_4+(1:Int))))],[])))
  else (some (.done ((.exit 0),([.a (.i .i64 (y0_3)),.a (.i .i64 (y0_4))],[])))))) (by kernel_rfl) ?_
 simp only [Zdm,Za3,Za4,Za6,Za5,Zgp,Zlq]
def Zjd (P:Program) (N:Nat) (a0:Int) (z0_3:Int) (z0_4:Int):Option (SV×Eff×Bool):=some (.a (.i .i64 (z0_3)),.none,true)
theorem Zr5 (N:Nat) (a0:Int) (z0_3:Int) (z0_4:Int):(Uab 0 (kSeq (veC PZ (mkΓ []) N (cAt (codeOf Tryz.f28) [1,1,1]) (pAt (Uaa (codeOf Tryz.f28) [([3,4],[])]).1 [1,1,1]) (SV×Eff×Bool)) (finK PZ [] [.tmp 2]))) (.exit 0) (left (writes (cAt (codeOf Tryz.f28) [1,1,0,1,0,0])) [3,4] [] (Ze3 a0) ([.a (.i .i64 (z0_3)),.a (.i .i64 (z0_4))],[]))=Zjd PZ N a0 z0_3 z0_4:=by
 refine Eq.trans (b:=(some (.a (.i .i64 (z0_3)),.none,true))) (by kernel_rfl) ?_
 rfl
theorem Ya1 (N:Nat) (a0:Int):Uah (Uac (Uai PZ (mkΓ []) N (cAt (codeOf Tryz.f28) [1,1,0,1,0,0]) (pAt (Uaa (codeOf Tryz.f28) [([3,4],[])]).1 [1,1,0,1,0]) [3,4] [] (Ze3 a0)) N ([.a (.i .i64 (1:Int)),.a (.i .i64 (0:Int))],[])) (fun e s=>(Uab 0 (kSeq (veC PZ (mkΓ []) N (cAt (codeOf Tryz.f28) [1,1,1]) (pAt (Uaa (codeOf Tryz.f28) [([3,4],[])]).1 [1,1,1]) (SV×Eff×Bool)) (finK PZ [] [.tmp 2]))) e (left (writes (cAt (codeOf Tryz.f28) [1,1,0,1,0,0])) [3,4] [] (Ze3 a0) s))=Uam (Uac (Zdm PZ a0) N ((1:Int),(0:Int))) (fun x=>Zjd PZ N a0 x.1 x.2):=by
 refine Zbm Zgp Zlq _ _ (Yat N a0) N ((1:Int),(0:Int)) _ _ ?_
 intro x;exact Zr5 N a0 x.1 x.2
theorem Zyq (N:Nat) (a0:Int):ansV PZ (mkΓ []) N Tryz.f28 [([3,4],[])] [.i .i64 (a0)] []=(Uam (Uac (Zdm PZ a0) N ((1:Int),(0:Int))) (fun x=>Zjd PZ N a0 x.1 x.2)):=by
 refine Eq.trans (b:=(Uah (Uac (Uai PZ (mkΓ []) N (cAt (codeOf Tryz.f28) [1,1,0,1,0,0]) (pAt (Uaa (codeOf Tryz.f28) [([3,4],[])]).1 [1,1,0,1,0]) [3,4] [] (Ze3 a0)) N ([.a (.i .i64 (1:Int)),.a (.i .i64 (0:Int))],[])) (fun e s=>(Uab 0 (kSeq (veC PZ (mkΓ []) N (cAt (codeOf Tryz.f28) [1,1,1]) (pAt (Uaa (codeOf Tryz.f28) [([3,4],[])]).1 [1,1,1]) (SV×Eff×Bool)) (finK PZ [] [.tmp 2]))) e (left (writes (cAt (codeOf Tryz.f28) [1,1,0,1,0,0])) [3,4] [] (Ze3 a0) s)))) (by kernel_rfl) ?_
 simp only [Ya1 N a0]
theorem Zw7 (a0:Int) (h_a0:i64.min≤a0∧a0≤i64.max) (hg:((decide (0≤a0)&&decide (a0≤14)))=true):ansV PZ (mkΓ []) 1000 Tryz.f28 [([3,4],[])] [.i .i64 (a0)] []=some (.a (.i .i64 (12^a0.toNat)),.none,true):=by
 simp only [Bool.and_eq_true,decide_eq_true_eq] at hg
 obtain ⟨h0,h14⟩:=hg
 obtain ⟨m,rfl⟩:=Int.eq_ofNat_of_zero_le h0
 refine (Zyq 1000 _).trans ?_
 have h:=Zdy (g:=Zdm PZ (m:Int)) (fun k=>((12:Int)^k,(k:Int))) (m:=m) (x:=((12:Int)^m,(m:Int))) (N:=1000) (fun k hk=>by
  have h1:decide ((k:Int)<(m:Int))=true:=decide_eq_true (by omega)
  have h2:i64.wrap ((k:Int)+1)=((k+1:Nat):Int):=by rw [IntWalk.i64_in _ (by omega)];omega
  simp only [Zdm,h1,cond_true,wrap12 k (by omega),h2]) (by
  have h1:decide ((m:Int)<(m:Int))=false:=decide_eq_false (by omega)
  simp only [Zdm,h1,cond_false]) (by omega)
 have h':Uac (Zdm PZ (m:Int)) 1000 ((1:Int),(0:Int))=some ((12:Int)^m,(m:Int)):=h
 rw [h']
 rfl
def Zhn:Con:=fun args h=>match args,h with
 | [.i .i64 a0],[]=>some (.a (.i .i64 (12^a0.toNat)),.none,(decide (0≤a0)&&decide (a0≤14)))
 | _,_=>none
theorem Zl7:EntX PZ 28:=Zag (fn:=Tryz.f28) (by kernel_rfl) (by kernel_rfl) (by kernel_rfl)
theorem Zp6:Uad mn PZ 28 Zhn:=(Zai (N:=1000) (by kernel_rfl) mkΓ_nilX (fn:=Tryz.f28) (by kernel_rfl) (by kernel_rfl) [([3,4],[])]).of (by
 intro ρ h w args vals r e hA hH hr
 unfold Zhn at hr
 split at hr
 ·rename_i a0
  obtain ⟨rfl,rfl,hg2⟩:=BQi hr
  exact Zw7 a0 (hA.rng 0 rfl) hg2
 ·cases hr)
def Zd9 (a0:Int):St:=(⟨.a (.i .i64 (a0)) :: .a (.u) :: .a (.i .i64 (0:Int)) :: .a (.i .i64 (1:Int)) :: .a (.i .i64 (a0)) :: .a (.i .i64 (0:Int))::us 5 ([]),[],[]⟩:St)
def Zfd:Int×Int→LS
 | (y0_3,y0_5)=>([.a (.i .i64 (y0_3)),.a (.i .i64 (y0_5))],[])
def Zjj:Int×Int→Exit×LS
 | t=>((.exit 0),Zfd t)
def Zco (P:Program) (a0:Int):Int×Int→Option (Stp (Int×Int) (Int×Int))
 | (y0_3,y0_5)=>bif decide (y0_5<a0) then (some (.more ((i64.wrap (y0_3*(12:Int))),(i64.wrap (y0_5+(1:Int))))))
  else (some (.done (y0_3,y0_5)))
theorem Zxz (N:Nat) (a0:Int):∀ t:Int×Int,Uai PZ (mkΓ []) N (cAt (codeOf Tryz.f93) [1,1,0,1,0,0]) (pAt (Uaa (codeOf Tryz.f93) [([3,5],[])]).1 [1,1,0,1,0]) [3,5] [] (Zd9 a0) (Zfd t)=mapS Zfd Zjj (Zco PZ a0 t):=by
 rintro ⟨y0_3,y0_5⟩
 refine Eq.trans (b:=(bif decide (y0_5<a0) then (some (.more ([.a (.i .i64 (i64.wrap (y0_3*(12:Int)))),.a (.i .i64 (i64.wrap (y0_5+(1:Int))))],[])))
  else (some (.done ((.exit 0),([.a (.i .i64 (y0_3)),.a (.i .i64 (y0_5))],[])))))) (by kernel_rfl) ?_
 simp only [Zco,Za3,Za4,Za6,Za5,Zfd,Zjj]
def Zid (P:Program) (N:Nat) (a0:Int) (z0_3:Int) (z0_5:Int):Option (SV×Eff×Bool):=some (.a (.i .i64 (z0_3)),.none,true)
theorem Zpu (N:Nat) (a0:Int) (z0_3:Int) (z0_5:Int):(Uab 0 (kSeq (veC PZ (mkΓ []) N (cAt (codeOf Tryz.f93) [1,1,1]) (pAt (Uaa (codeOf Tryz.f93) [([3,5],[])]).1 [1,1,1]) (SV×Eff×Bool)) (finK PZ [] [.tmp 2]))) (.exit 0) (left (writes (cAt (codeOf Tryz.f93) [1,1,0,1,0,0])) [3,5] [] (Zd9 a0) ([.a (.i .i64 (z0_3)),.a (.i .i64 (z0_5))],[]))=Zid PZ N a0 z0_3 z0_5:=by
 refine Eq.trans (b:=(some (.a (.i .i64 (z0_3)),.none,true))) (by kernel_rfl) ?_
 rfl
theorem Zvy (N:Nat) (a0:Int):Uah (Uac (Uai PZ (mkΓ []) N (cAt (codeOf Tryz.f93) [1,1,0,1,0,0]) (pAt (Uaa (codeOf Tryz.f93) [([3,5],[])]).1 [1,1,0,1,0]) [3,5] [] (Zd9 a0)) N ([.a (.i .i64 (1:Int)),.a (.i .i64 (0:Int))],[])) (fun e s=>(Uab 0 (kSeq (veC PZ (mkΓ []) N (cAt (codeOf Tryz.f93) [1,1,1]) (pAt (Uaa (codeOf Tryz.f93) [([3,5],[])]).1 [1,1,1]) (SV×Eff×Bool)) (finK PZ [] [.tmp 2]))) e (left (writes (cAt (codeOf Tryz.f93) [1,1,0,1,0,0])) [3,5] [] (Zd9 a0) s))=Uam (Uac (Zco PZ a0) N ((1:Int),(0:Int))) (fun x=>Zid PZ N a0 x.1 x.2):=by
 refine Zbm Zfd Zjj _ _ (Zxz N a0) N ((1:Int),(0:Int)) _ _ ?_
 intro x;exact Zpu N a0 x.1 x.2
theorem Zvg (N:Nat) (a0:Int):ansV PZ (mkΓ []) N Tryz.f93 [([3,5],[])] [.i .i64 (a0)] []=(Uam (Uac (Zco PZ a0) N ((1:Int),(0:Int))) (fun x=>Zid PZ N a0 x.1 x.2)):=by
 refine Eq.trans (b:=(Uah (Uac (Uai PZ (mkΓ []) N (cAt (codeOf Tryz.f93) [1,1,0,1,0,0]) (pAt (Uaa (codeOf Tryz.f93) [([3,5],[])]).1 [1,1,0,1,0]) [3,5] [] (Zd9 a0)) N ([.a (.i .i64 (1:Int)),.a (.i .i64 (0:Int))],[])) (fun e s=>(Uab 0 (kSeq (veC PZ (mkΓ []) N (cAt (codeOf Tryz.f93) [1,1,1]) (pAt (Uaa (codeOf Tryz.f93) [([3,5],[])]).1 [1,1,1]) (SV×Eff×Bool)) (finK PZ [] [.tmp 2]))) e (left (writes (cAt (codeOf Tryz.f93) [1,1,0,1,0,0])) [3,5] [] (Zd9 a0) s)))) (by kernel_rfl) ?_
 simp only [Zvy N a0]
theorem Ztr (a0:Int) (h_a0:i64.min≤a0∧a0≤i64.max) (hg:((decide (0≤a0)&&decide (a0≤14)))=true):ansV PZ (mkΓ []) 1000 Tryz.f93 [([3,5],[])] [.i .i64 (a0)] []=some (.a (.i .i64 (12^a0.toNat)),.none,true):=by
 simp only [Bool.and_eq_true,decide_eq_true_eq] at hg
 obtain ⟨h0,h14⟩:=hg
 obtain ⟨m,rfl⟩:=Int.eq_ofNat_of_zero_le h0
 refine (Zvg 1000 _).trans ?_
 have h:=Zdy (g:=Zco PZ (m:Int)) (fun k=>((12:Int)^k,(k:Int))) (m:=m) (x:=((12:Int)^m,(m:Int))) (N:=1000) (fun k hk=>by
  have h1:decide ((k:Int)<(m:Int))=true:=decide_eq_true (by omega)
  have h2:i64.wrap ((k:Int)+1)=((k+1:Nat):Int):=by rw [IntWalk.i64_in _ (by omega)];omega
  simp only [Zco,h1,cond_true,wrap12 k (by omega),h2]) (by
  have h1:decide ((m:Int)<(m:Int))=false:=decide_eq_false (by omega)
  simp only [Zco,h1,cond_false]) (by omega)
 have h':Uac (Zco PZ (m:Int)) 1000 ((1:Int),(0:Int))=some ((12:Int)^m,(m:Int)):=h
 rw [h']
 rfl
def Ziu:Con:=fun args h=>match args,h with
 | [.i .i64 a0],[]=>some (.a (.i .i64 (12^a0.toNat)),.none,(decide (0≤a0)&&decide (a0≤14)))
 | _,_=>none
theorem Zr3:EntX PZ 93:=Zag (fn:=Tryz.f93) (by kernel_rfl) (by kernel_rfl) (by kernel_rfl)
theorem Zwl:Uad mn PZ 93 Ziu:=(Zai (N:=1000) (by kernel_rfl) mkΓ_nilX (fn:=Tryz.f93) (by kernel_rfl) (by kernel_rfl) [([3,5],[])]).of (by
 intro ρ h w args vals r e hA hH hr
 unfold Ziu at hr
 split at hr
 ·rename_i a0
  obtain ⟨rfl,rfl,hg2⟩:=BQi hr
  exact Ztr a0 (hA.rng 0 rfl) hg2
 ·cases hr)
theorem Yk9 {x a b:Int} (h:Zaa x a b=true):a≤x∧x≤b:=by
 unfold Zaa at h
 cases h0:decide (x ≥ a) with
 | false=>rw [h0] at h;exact nomatch h
 | true=>rw [h0] at h;exact ⟨of_decide_eq_true h0,of_decide_eq_true h⟩
end
end Go.Proofs.YtohnggmlmglhmaaGreatDoor
