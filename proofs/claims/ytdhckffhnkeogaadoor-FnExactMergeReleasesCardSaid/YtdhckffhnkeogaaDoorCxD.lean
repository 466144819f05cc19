/- Parts of twelve, in company. -/
import Derived.Test.YtdhckffhnkeogaaDoorProg
import Derived.Test.YtdhckffhnkeogaaDoorCxC
set_option linter.unusedVariables false
set_option linter.unusedSimpArgs false
namespace Go.Proofs.YtdhckffhnkeogaaDoor
open Tryd (f7 f18 f36 f58)
open Go.ChangeShapes Go.WideShapes Go.ChangeAt Go.RowKit Ve Vc
open Tryd (prog)
open IntKind (i64)
set_option maxRecDepth 100000
noncomputable section
variable {mn:Md}
def Zdw (a0:Array Value):St:=(⟨.a (.g a0 24) :: .a (.w 0) :: .a (.w 1) :: .a (.w 2) :: .a (.i .i64 (0:Int))::us 10 ([]),[.row a0 24,.row #[.int .u8 (0:Int),.int .u8 (0:Int),.int .u8 (0:Int),.int .u8 (0:Int),.int .u8 (0:Int)] 38,.row #[.int .u8 (0:Int),.int .u8 (0:Int),.int .u8 (0:Int),.int .u8 (0:Int),.int .u8 (0:Int)] 38],[]⟩:St)
def Zet:Int×Array Value→LS
 | (y0_4,r0_2)=>([.a (.i .i64 (y0_4))],[.row r0_2 38])
def Zh7:Int×Array Value→Exit×LS
 | t=>((.exit 0),Zet t)
def Zci (P : Program) (a0 : Array Value) : Int × Array Value → Option (Stp (Int × Array Value) (Int × Array Value))
 | (y0_4, r0_2) => bif decide (y0_4 < (5 : Int)) then (bif (decide (0 ≤ y0_4) && decide (y0_4 < 5)) then (bif (decide (0 ≤ y0_4) && decide (y0_4 < 5)) then (some (.more ((i64.wrap (y0_4 + (1 : Int))), (r0_2.setIfInBounds ((y0_4).toNat * 1) (.int .u8 (num a0 ((y0_4).toNat * 1)))))))
    else (none))
   else (none))
  else (some (.done (y0_4, r0_2)))
noncomputable abbrev cKCxD58:=codeOf f58
def Uc8:=(Uaf cKCxD58 [([4],[2])]).1
theorem Zsg (N:Nat) (a0:Array Value):∀ t:Int×Array Value,Uam prog (mkΓ []) N (cAt cKCxD58 [1,1,0,1,0,0]) (pAt Uc8 [1,1,0,1,0]) [4] [2] (Zdw a0) (Zet t)=mapS Zet Zh7 (Zci prog a0 t):=by
 rintro ⟨y0_4,r0_2⟩
 refine Eq.trans (b:=(bif decide (y0_4<(5:Int)) then (bif (decide (0≤y0_4)&&decide (y0_4<5)) then (bif (decide (0≤y0_4)&&decide (y0_4<5)) then (some (.more ([.a (.i .i64 (i64.wrap (y0_4+(1:Int))))],[.row (r0_2.setIfInBounds ((y0_4).toNat*1) (.int .u8 (num a0 ((y0_4).toNat*1)))) 38])))
    else (none))
   else (none))
  else (some (.done ((.exit 0),([.a (.i .i64 (y0_4))],[.row r0_2 38])))))) (by kernel_rfl) ?_
 simp only [Zci,Zbp,Zbo,Zbm,Zbn,Zet,Zh7]
def Zgx (P:Program) (N:Nat) (a0:Array Value) (z0_4:Int) (q0_2:Array Value):Option (SV×Eff×Bool):=some (.a (.g q0_2 38),.none,true)
def Uet (N:Nat):=(Uaz 0 (kSeq (veC prog (mkΓ []) N (cAt cKCxD58 [1,1,1]) (pAt Uc8 [1,1,1]) (SV×Eff×Bool)) (finK prog [] [.cell 2 38])))
theorem Zms (N:Nat) (a0:Array Value) (z0_4:Int) (q0_2:Array Value):(Uet N) (.exit 0) (left (writes (cAt cKCxD58 [1,1,0,1,0,0])) [4] [2] (Zdw a0) ([.a (.i .i64 (z0_4))],[.row q0_2 38]))=Zgx prog N a0 z0_4 q0_2:=by
 refine Eq.trans (b:=(some (.a (.g q0_2 38),.none,true))) (by kernel_rfl) ?_
 rfl
theorem Zsh (N:Nat) (a0:Array Value):Uak (Uaa (Uam prog (mkΓ []) N (cAt cKCxD58 [1,1,0,1,0,0]) (pAt Uc8 [1,1,0,1,0]) [4] [2] (Zdw a0)) N ([.a (.i .i64 (0:Int))],[.row (#[.int .u8 (0:Int),.int .u8 (0:Int),.int .u8 (0:Int),.int .u8 (0:Int),.int .u8 (0:Int)]:Array Value) 38])) (fun e s=>(Uet N) e (left (writes (cAt cKCxD58 [1,1,0,1,0,0])) [4] [2] (Zdw a0) s))=Uan (Uaa (Zci prog a0) N ((0:Int),(#[.int .u8 (0:Int),.int .u8 (0:Int),.int .u8 (0:Int),.int .u8 (0:Int),.int .u8 (0:Int)]:Array Value))) (fun x=>Zgx prog N a0 x.1 x.2):=by
 refine Zby Zet Zh7 _ _ (Zsg N a0) N ((0:Int),(#[.int .u8 (0:Int),.int .u8 (0:Int),.int .u8 (0:Int),.int .u8 (0:Int),.int .u8 (0:Int)]:Array Value)) _ _ ?_
 intro x;exact Zms N a0 x.1 x.2
theorem Zqe (N:Nat) (a0:Array Value):ansV prog (mkΓ []) N f58 [([4],[2])] [.g a0 24] []=(Uan (Uaa (Zci prog a0) N ((0:Int),(#[.int .u8 (0:Int),.int .u8 (0:Int),.int .u8 (0:Int),.int .u8 (0:Int),.int .u8 (0:Int)]:Array Value))) (fun x=>Zgx prog N a0 x.1 x.2)):=by
 refine Eq.trans (b:=(Uak (Uaa (Uam prog (mkΓ []) N (cAt cKCxD58 [1,1,0,1,0,0]) (pAt Uc8 [1,1,0,1,0]) [4] [2] (Zdw a0)) N ([.a (.i .i64 (0:Int))],[.row (#[.int .u8 (0:Int),.int .u8 (0:Int),.int .u8 (0:Int),.int .u8 (0:Int),.int .u8 (0:Int)]:Array Value) 38])) (fun e s=>(Uet N) e (left (writes (cAt cKCxD58 [1,1,0,1,0,0])) [4] [2] (Zdw a0) s)))) (by kernel_rfl) ?_
 simp only [Zsh N a0]
theorem Zpm (a0:Array Value) (h_a0:WT prog 24 a0) (hg:(true)=true):ansV prog (mkΓ []) 1000 f58 [([4],[2])] [.g a0 24] []=some (.a (.g a0 38),.none,true):=by
 have hs:a0.size=(#[.int .u8 (0:Int),.int .u8 (0:Int),.int .u8 (0:Int),.int .u8 (0:Int),.int .u8 (0:Int)]:Array Value).size:=by rw [h_a0.layLen];kernel_rfl
 have hz:a0.size=5:=by rw [h_a0.layLen];kernel_rfl
 have hL:∀ k,k<5→(lay prog 24)[k*1]? = some 4:=by
  intro k hk
  have h:(List.range 5).all (fun k=>(lay prog 24)[k*1]? == some 4)=true:=by kernel_rfl
  exact eq_of_beq (List.all_eq_true.1 h k (List.mem_range.2 hk))
 have h:=Zeo (g:=Zci prog a0) (fun k=>((k:Int),upto a0 (#[.int .u8 (0:Int),.int .u8 (0:Int),.int .u8 (0:Int),.int .u8 (0:Int),.int .u8 (0:Int)]:Array Value) (k*1))) (m:=5) (x:=(((5:Nat):Int),upto a0 (#[.int .u8 (0:Int),.int .u8 (0:Int),.int .u8 (0:Int),.int .u8 (0:Int),.int .u8 (0:Int)]:Array Value) (5*1))) (N:=1000) (fun k hk=>by
  have h1:decide ((k:Int)<5)=true:=Q3 (by omega)
  have h0:decide (0≤(k:Int))=true:=Q3 (by omega)
  have h3:i64.wrap ((k:Int)+1)=((k+1:Nat):Int):=by rw [IntWalk.i64_in _ (by omega)];omega
  have h4:((k:Int)).toNat=k:=Q9 k
  have h5:(upto a0 (#[.int .u8 (0:Int),.int .u8 (0:Int),.int .u8 (0:Int),.int .u8 (0:Int),.int .u8 (0:Int)]:Array Value) (k*1)).setIfInBounds (k*1) (.int .u8 (num a0 (k*1)))=upto a0 (#[.int .u8 (0:Int),.int .u8 (0:Int),.int .u8 (0:Int),.int .u8 (0:Int),.int .u8 (0:Int)]:Array Value) ((k+1)*1):=by
   rw [Nat.add_mul];exact Zli hs (h_a0.int (k:=.u8) (hL k hk)).1
  simp only [Zci,h1,h0,Bool.and_self,h4,Q1,h3,h5]) (by
  have h1:decide (((5:Nat):Int)<5)=false:=by decide
  simp only [Zci,h1,Q2]) (by omega)
 simp only [Nat.zero_mul,Zko hs,Zoc hs hz] at h
 refine (Zqe 1000 a0).trans ?_
 have h':Uaa (Zci prog a0) 1000 ((0:Int),(#[.int .u8 (0:Int),.int .u8 (0:Int),.int .u8 (0:Int),.int .u8 (0:Int),.int .u8 (0:Int)]:Array Value))=some (((5:Nat):Int),a0):=h
 rw [h']
 rfl
def Zb7:Con:=fun args h=>match args,h with
 | [.g a0 24],[]=>some (.a (.g a0 38),.none,true)
 | _,_=>none
theorem Zos:EntX prog 58:=Zap (fn:=f58)
theorem Zr3:Uab mn prog 58 Zb7:=(ansY (N:=1000) mkΓ_nilX f58 [([4],[2])]).of (by
 intro ρ h w args vals r e hA hH hr
 unfold Zb7 at hr
 split at hr
 ·rename_i a0
  obtain ⟨rfl,rfl,hg2⟩:=BQi hr
  exact Zpm a0 (hA.wt 0 rfl) hg2
 ·cases hr)
def Zcs (a0:Array Value):St:=(⟨.a (.g a0 25) :: .a (.w 0) :: .a (.w 1) :: .a (.w 2) :: .a (.i .i64 (0:Int))::us 11 ([]),[.row a0 25,.row (zc prog 39) 39,.row (zc prog 39) 39],[]⟩:St)
def Zdn:Int×Array Value→LS
 | (y0_4,r0_2)=>([.a (.i .i64 (y0_4))],[.row r0_2 39])
def Zgi:Int×Array Value→Exit×LS
 | t=>((.exit 0),Zdn t)
def Zbi (P : Program) (a0 : Array Value) : Int × Array Value → Option (Stp (Int × Array Value) (Int × Array Value))
 | (y0_4, r0_2) => bif decide (y0_4 < (36 : Int)) then (bif (decide (0 ≤ y0_4) && decide (y0_4 < 36)) then (bif (decide (0 ≤ y0_4) && decide (y0_4 < 36)) then (some (.more ((i64.wrap (y0_4 + (1 : Int))), (spl r0_2 ((y0_4).toNat * 5) (a0.extract ((y0_4).toNat * 5) (((y0_4).toNat * 5) + 5)).toList))))
    else (none))
   else (none))
  else (some (.done (y0_4, r0_2)))
noncomputable abbrev cKCxD36:=codeOf f36
def Udf:=(Uaf cKCxD36 [([4],[2])]).1
theorem Zoi (N:Nat) (a0:Array Value):∀ t:Int×Array Value,Uam prog (mkΓ [(58,con Zb7)]) N (cAt cKCxD36 [1,1,0,1,0,0]) (pAt Udf [1,1,0,1,0]) [4] [2] (Zcs a0) (Zdn t)=mapS Zdn Zgi (Zbi prog a0 t):=by
 rintro ⟨y0_4,r0_2⟩
 refine Eq.trans (b:=(bif decide (y0_4<(36:Int)) then (bif (decide (0≤y0_4)&&decide (y0_4<36)) then (bif (decide (0≤y0_4)&&decide (y0_4<36)) then (some (.more ([.a (.i .i64 (i64.wrap (y0_4+(1:Int))))],[.row (spl r0_2 ((y0_4).toNat*5) (a0.extract ((y0_4).toNat*5) (((y0_4).toNat*5)+5)).toList) 39])))
    else (none))
   else (none))
  else (some (.done ((.exit 0),([.a (.i .i64 (y0_4))],[.row r0_2 39])))))) (by kernel_rfl) ?_
 simp only [Zbi,Zbp,Zbo,Zbm,Zbn,Zdn,Zgi]
def Zfj (P:Program) (N:Nat) (a0:Array Value) (z0_4:Int) (q0_2:Array Value):Option (SV×Eff×Bool):=some (.a (.g q0_2 39),.none,true)
def Ueb (N:Nat):=(Uaz 0 (kSeq (veC prog (mkΓ [(58,con Zb7)]) N (cAt cKCxD36 [1,1,1]) (pAt Udf [1,1,1]) (SV×Eff×Bool)) (finK prog [] [.cell 2 39])))
theorem Zkg (N:Nat) (a0:Array Value) (z0_4:Int) (q0_2:Array Value):(Ueb N) (.exit 0) (left (writes (cAt cKCxD36 [1,1,0,1,0,0])) [4] [2] (Zcs a0) ([.a (.i .i64 (z0_4))],[.row q0_2 39]))=Zfj prog N a0 z0_4 q0_2:=by
 refine Eq.trans (b:=(some (.a (.g q0_2 39),.none,true))) (by kernel_rfl) ?_
 rfl
theorem Zoh (N:Nat) (a0:Array Value):Uak (Uaa (Uam prog (mkΓ [(58,con Zb7)]) N (cAt cKCxD36 [1,1,0,1,0,0]) (pAt Udf [1,1,0,1,0]) [4] [2] (Zcs a0)) N ([.a (.i .i64 (0:Int))],[.row (zc prog 39) 39])) (fun e s=>(Ueb N) e (left (writes (cAt cKCxD36 [1,1,0,1,0,0])) [4] [2] (Zcs a0) s))=Uan (Uaa (Zbi prog a0) N ((0:Int),(zc prog 39))) (fun x=>Zfj prog N a0 x.1 x.2):=by
 refine Zby Zdn Zgi _ _ (Zoi N a0) N ((0:Int),(zc prog 39)) _ _ ?_
 intro x;exact Zkg N a0 x.1 x.2
theorem Zne (N:Nat) (a0:Array Value):ansV prog (mkΓ [(58,con Zb7)]) N f36 [([4],[2])] [.g a0 25] []=(Uan (Uaa (Zbi prog a0) N ((0:Int),(zc prog 39))) (fun x=>Zfj prog N a0 x.1 x.2)):=by
 refine Eq.trans (b:=(Uak (Uaa (Uam prog (mkΓ [(58,con Zb7)]) N (cAt cKCxD36 [1,1,0,1,0,0]) (pAt Udf [1,1,0,1,0]) [4] [2] (Zcs a0)) N ([.a (.i .i64 (0:Int))],[.row (zc prog 39) 39])) (fun e s=>(Ueb N) e (left (writes (cAt cKCxD36 [1,1,0,1,0,0])) [4] [2] (Zcs a0) s)))) (by kernel_rfl) ?_
 simp only [Zoh N a0]
theorem Zml (a0:Array Value) (h_a0:WT prog 25 a0) (hg:(true)=true):ansV prog (mkΓ [(58,con Zb7)]) 1000 f36 [([4],[2])] [.g a0 25] []=some (.a (.g a0 39),.none,true):=by
 have hs:a0.size=(zc prog 39).size:=by rw [h_a0.layLen];kernel_rfl
 have hz:a0.size=180:=by rw [h_a0.layLen];kernel_rfl
 have hL:∀ k,k<36→(lay prog 25)[k*5]? = some 4:=by
  intro k hk
  have h:(List.range 36).all (fun k=>(lay prog 25)[k*5]? == some 4)=true:=by kernel_rfl
  exact eq_of_beq (List.all_eq_true.1 h k (List.mem_range.2 hk))
 have h:=Zeo (g:=Zbi prog a0) (fun k=>((k:Int),upto a0 (zc prog 39) (k*5))) (m:=36) (x:=(((36:Nat):Int),upto a0 (zc prog 39) (36*5))) (N:=1000) (fun k hk=>by
  have h1:decide ((k:Int)<36)=true:=Q3 (by omega)
  have h0:decide (0≤(k:Int))=true:=Q3 (by omega)
  have h3:i64.wrap ((k:Int)+1)=((k+1:Nat):Int):=by rw [IntWalk.i64_in _ (by omega)];omega
  have h4:((k:Int)).toNat=k:=Q9 k
  have h5:spl (upto a0 (zc prog 39) (k*5)) (k*5) (a0.extract (k*5) (k*5+5)).toList=upto a0 (zc prog 39) ((k+1)*5):=by
   rw [Nat.add_mul];exact Zt1 hs (by omega) rfl
  simp only [Zbi,h1,h0,Bool.and_self,h4,Q1,h3,h5]) (by
  have h1:decide (((36:Nat):Int)<36)=false:=by decide
  simp only [Zbi,h1,Q2]) (by omega)
 simp only [Nat.zero_mul,Zko hs,Zoc hs hz] at h
 refine (Zne 1000 a0).trans ?_
 have h':Uaa (Zbi prog a0) 1000 ((0:Int),(zc prog 39))=some (((36:Nat):Int),a0):=h
 rw [h']
 rfl
def Zbd:Con:=fun args h=>match args,h with
 | [.g a0 25],[]=>some (.a (.g a0 39),.none,true)
 | _,_=>none
theorem Zl4:EntX prog 36:=Zap (fn:=f36)
theorem Zoj:Uab mn prog 36 Zbd:=(ansY (N:=1000) (mkΓ_consX (Zam Zr3) Zos mkΓ_nilX) f36 [([4],[2])]).of (by
 intro ρ h w args vals r e hA hH hr
 unfold Zbd at hr
 split at hr
 ·rename_i a0
  obtain ⟨rfl,rfl,hg2⟩:=BQi hr
  exact Zml a0 (hA.wt 0 rfl) hg2
 ·cases hr)
def Zcd (a0:Array Value):St:=(⟨.a (.g a0 26) :: .a (.w 0) :: .a (.w 1) :: .a (.w 2) :: .a (.i .i64 (0:Int))::us 11 ([]),[.row a0 26,.row (zc prog 40) 40,.row (zc prog 40) 40],[]⟩:St)
def Zc1:Int×Array Value→LS
 | (y0_4,r0_2)=>([.a (.i .i64 (y0_4))],[.row r0_2 40])
def Zfq:Int×Array Value→Exit×LS
 | t=>((.exit 0),Zc1 t)
def Zbc (P : Program) (a0 : Array Value) : Int × Array Value → Option (Stp (Int × Array Value) (Int × Array Value))
 | (y0_4, r0_2) => bif decide (y0_4 < (2 : Int)) then (bif (decide (0 ≤ y0_4) && decide (y0_4 < 2)) then (bif (decide (0 ≤ y0_4) && decide (y0_4 < 2)) then (some (.more ((i64.wrap (y0_4 + (1 : Int))), (spl r0_2 ((y0_4).toNat * 180) (a0.extract ((y0_4).toNat * 180) (((y0_4).toNat * 180) + 180)).toList))))
    else (none))
   else (none))
  else (some (.done (y0_4, r0_2)))
noncomputable abbrev cKCxD18:=codeOf f18
def Udh:=(Uaf cKCxD18 [([4],[2])]).1
theorem Zmw (N:Nat) (a0:Array Value):∀ t:Int×Array Value,Uam prog (mkΓ [(36,con Zbd)]) N (cAt cKCxD18 [1,1,0,1,0,0]) (pAt Udh [1,1,0,1,0]) [4] [2] (Zcd a0) (Zc1 t)=mapS Zc1 Zfq (Zbc prog a0 t):=by
 rintro ⟨y0_4,r0_2⟩
 refine Eq.trans (b:=(bif decide (y0_4<(2:Int)) then (bif (decide (0≤y0_4)&&decide (y0_4<2)) then (bif (decide (0≤y0_4)&&decide (y0_4<2)) then (some (.more ([.a (.i .i64 (i64.wrap (y0_4+(1:Int))))],[.row (spl r0_2 ((y0_4).toNat*180) (a0.extract ((y0_4).toNat*180) (((y0_4).toNat*180)+180)).toList) 40])))
    else (none))
   else (none))
  else (some (.done ((.exit 0),([.a (.i .i64 (y0_4))],[.row r0_2 40])))))) (by kernel_rfl) ?_
 simp only [Zbc,Zbp,Zbo,Zbm,Zbn,Zc1,Zfq]
def Zez (P:Program) (N:Nat) (a0:Array Value) (z0_4:Int) (q0_2:Array Value):Option (SV×Eff×Bool):=some (.a (.g q0_2 40),.none,true)
def Ueg (N:Nat):=(Uaz 0 (kSeq (veC prog (mkΓ [(36,con Zbd)]) N (cAt cKCxD18 [1,1,1]) (pAt Udh [1,1,1]) (SV×Eff×Bool)) (finK prog [] [.cell 2 40])))
theorem Zi3 (N:Nat) (a0:Array Value) (z0_4:Int) (q0_2:Array Value):(Ueg N) (.exit 0) (left (writes (cAt cKCxD18 [1,1,0,1,0,0])) [4] [2] (Zcd a0) ([.a (.i .i64 (z0_4))],[.row q0_2 40]))=Zez prog N a0 z0_4 q0_2:=by
 refine Eq.trans (b:=(some (.a (.g q0_2 40),.none,true))) (by kernel_rfl) ?_
 rfl
theorem Zmg (N:Nat) (a0:Array Value):Uak (Uaa (Uam prog (mkΓ [(36,con Zbd)]) N (cAt cKCxD18 [1,1,0,1,0,0]) (pAt Udh [1,1,0,1,0]) [4] [2] (Zcd a0)) N ([.a (.i .i64 (0:Int))],[.row (zc prog 40) 40])) (fun e s=>(Ueg N) e (left (writes (cAt cKCxD18 [1,1,0,1,0,0])) [4] [2] (Zcd a0) s))=Uan (Uaa (Zbc prog a0) N ((0:Int),(zc prog 40))) (fun x=>Zez prog N a0 x.1 x.2):=by
 refine Zby Zc1 Zfq _ _ (Zmw N a0) N ((0:Int),(zc prog 40)) _ _ ?_
 intro x;exact Zi3 N a0 x.1 x.2
theorem Zl1 (N:Nat) (a0:Array Value):ansV prog (mkΓ [(36,con Zbd)]) N f18 [([4],[2])] [.g a0 26] []=(Uan (Uaa (Zbc prog a0) N ((0:Int),(zc prog 40))) (fun x=>Zez prog N a0 x.1 x.2)):=by
 refine Eq.trans (b:=(Uak (Uaa (Uam prog (mkΓ [(36,con Zbd)]) N (cAt cKCxD18 [1,1,0,1,0,0]) (pAt Udh [1,1,0,1,0]) [4] [2] (Zcd a0)) N ([.a (.i .i64 (0:Int))],[.row (zc prog 40) 40])) (fun e s=>(Ueg N) e (left (writes (cAt cKCxD18 [1,1,0,1,0,0])) [4] [2] (Zcd a0) s)))) (by kernel_rfl) ?_
 simp only [Zmg N a0]
theorem Zla (a0:Array Value) (h_a0:WT prog 26 a0) (hg:(true)=true):ansV prog (mkΓ [(36,con Zbd)]) 1000 f18 [([4],[2])] [.g a0 26] []=some (.a (.g a0 40),.none,true):=by
 have hs:a0.size=(zc prog 40).size:=by rw [h_a0.layLen];kernel_rfl
 have hz:a0.size=360:=by rw [h_a0.layLen];kernel_rfl
 have hL:∀ k,k<2→(lay prog 26)[k*180]? = some 4:=by
  intro k hk
  have h:(List.range 2).all (fun k=>(lay prog 26)[k*180]? == some 4)=true:=by kernel_rfl
  exact eq_of_beq (List.all_eq_true.1 h k (List.mem_range.2 hk))
 have h:=Zeo (g:=Zbc prog a0) (fun k=>((k:Int),upto a0 (zc prog 40) (k*180))) (m:=2) (x:=(((2:Nat):Int),upto a0 (zc prog 40) (2*180))) (N:=1000) (fun k hk=>by
  have h1:decide ((k:Int)<2)=true:=Q3 (by omega)
  have h0:decide (0≤(k:Int))=true:=Q3 (by omega)
  have h3:i64.wrap ((k:Int)+1)=((k+1:Nat):Int):=by rw [IntWalk.i64_in _ (by omega)];omega
  have h4:((k:Int)).toNat=k:=Q9 k
  have h5:spl (upto a0 (zc prog 40) (k*180)) (k*180) (a0.extract (k*180) (k*180+180)).toList=upto a0 (zc prog 40) ((k+1)*180):=by
   rw [Nat.add_mul];exact Zt1 hs (by omega) rfl
  simp only [Zbc,h1,h0,Bool.and_self,h4,Q1,h3,h5]) (by
  have h1:decide (((2:Nat):Int)<2)=false:=by decide
  simp only [Zbc,h1,Q2]) (by omega)
 simp only [Nat.zero_mul,Zko hs,Zoc hs hz] at h
 refine (Zl1 1000 a0).trans ?_
 have h':Uaa (Zbc prog a0) 1000 ((0:Int),(zc prog 40))=some (((2:Nat):Int),a0):=h
 rw [h']
 rfl
def Ze5:Con:=fun args h=>match args,h with
 | [.g a0 26],[]=>some (.a (.g a0 40),.none,true)
 | _,_=>none
theorem Zkb:EntX prog 18:=Zap (fn:=f18)
theorem Zmm:Uab mn prog 18 Ze5:=(ansY (N:=1000) (mkΓ_consX (Zam Zoj) Zl4 mkΓ_nilX) f18 [([4],[2])]).of (by
 intro ρ h w args vals r e hA hH hr
 unfold Ze5 at hr
 split at hr
 ·rename_i a0
  obtain ⟨rfl,rfl,hg2⟩:=BQi hr
  exact Zla a0 (hA.wt 0 rfl) hg2
 ·cases hr)
def Zst:Cons:=(mkΓ [(18,con Ze5)])
theorem Zvz (N:Nat) (a0:Array Value):ansV prog Zst N f7 [] [.g a0 28] []=(some (.a (.g (spl ((((zc prog 42).setIfInBounds 0 (.int .i8 (num a0 0))).setIfInBounds 1 (.int .i8 (num a0 1))).setIfInBounds 2 (.int .u64 (num a0 2))) 3 (a0.extract 3 (3+360)).toList) 42),.none,true)):=by kernel_rfl
theorem Zvl (a0:Array Value) (h_a0:WT prog 28 a0) (hg:(true)=true):ansV prog Zst 1000 f7 [] [.g a0 28] []=some (.a (.g a0 42),.none,true):=by
 have hs:a0.size=(zc prog 42).size:=by rw [h_a0.layLen];kernel_rfl
 have hz:a0.size=363:=by rw [h_a0.layLen];kernel_rfl
 have e0:(upto a0 (zc prog 42) 0).setIfInBounds 0 (.int .i8 (num a0 0))=upto a0 (zc prog 42) 1:=Zli hs (h_a0.int (k:=.i8) (by kernel_rfl)).1
 rw [Zko hs] at e0
 have e1:(upto a0 (zc prog 42) 1).setIfInBounds 1 (.int .i8 (num a0 1))=upto a0 (zc prog 42) 2:=Zli hs (h_a0.int (k:=.i8) (by kernel_rfl)).1
 have e2:(upto a0 (zc prog 42) 2).setIfInBounds 2 (.int .u64 (num a0 2))=upto a0 (zc prog 42) 3:=Zli hs (h_a0.int (k:=.u64) (by kernel_rfl)).1
 have e3:spl (upto a0 (zc prog 42) 3) 3 (a0.extract 3 (3+360)).toList=upto a0 (zc prog 42) 363:=Zt1 hs (by omega) rfl
 refine (Zvz 1000 a0).trans ?_
 rw [e0,e1,e2,e3,Zoc hs hz]
def Zj3:Con:=fun args h=>match args,h with
 | [.g a0 28],[]=>some (.a (.g a0 42),.none,true)
 | _,_=>none
theorem Ztt:EntX prog 7:=Zap (fn:=f7)
theorem Zxy:Uab mn prog 7 Zj3:=(ansY (N:=1000) (mkΓ_consX (Zam Zmm) Zkb mkΓ_nilX) f7 []).of (by
 intro ρ h w args vals r e hA hH hr
 unfold Zj3 at hr
 split at hr
 ·rename_i a0
  obtain ⟨rfl,rfl,hg2⟩:=BQi hr
  exact Zvl a0 (hA.wt 0 rfl) hg2
 ·cases hr)
theorem Zxh {x a b:Int} (h:Zab x a b=true):a≤x∧x≤b:=by
 unfold Zab at h
 cases h0:decide (x ≥ a) with
 | false=>rw [h0] at h;exact nomatch h
 | true=>rw [h0] at h;exact ⟨of_decide_eq_true h0,of_decide_eq_true h⟩
end
end Go.Proofs.YtdhckffhnkeogaaDoor
