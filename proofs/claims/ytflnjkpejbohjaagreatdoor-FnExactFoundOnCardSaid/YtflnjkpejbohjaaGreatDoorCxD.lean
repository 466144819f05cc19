/- Parts of twelve, in company. -/
import Derived.Test.YtflnjkpejbohjaaGreatDoorProg
import Derived.Test.YtflnjkpejbohjaaGreatDoorCxC
namespace Go.Proofs.YtflnjkpejbohjaaGreatDoor
open Go.ChangeShapes Go.WideShapes Go.ChangeAt Go.RowKit Ve Vc
open IntKind (i64)
set_option linter.unusedVariables false
set_option linter.unusedSimpArgs false
set_option maxRecDepth 100000
noncomputable section
variable {mn:Md}
def Zeb (a0:Array Value):St:=(⟨.a (.g a0 24) :: .a (.w 0) :: .a (.w 1) :: .a (.w 2) :: .a (.i .i64 (0:Int))::us 10 ([]),[.row a0 24,.row #[.int .u8 (0:Int),.int .u8 (0:Int),.int .u8 (0:Int),.int .u8 (0:Int),.int .u8 (0:Int)] 37,.row #[.int .u8 (0:Int),.int .u8 (0:Int),.int .u8 (0:Int),.int .u8 (0:Int),.int .u8 (0:Int)] 37],[]⟩:St)
def Ze6:Int×Array Value→LS
 | (y0_4,r0_2)=>([.a (.i .i64 (y0_4))],[.row r0_2 37])
def Zi9:Int×Array Value→Exit×LS
 | t=>((.exit 0),Ze6 t)
def Zcl (P : Program) (a0 : Array Value) : Int × Array Value → Option (Stp (Int × Array Value) (Int × Array Value))
 | (y0_4, r0_2) => bif decide (y0_4 < (5 : Int)) then (bif (decide (0 ≤ y0_4) && decide (y0_4 < 5)) then (bif (decide (0 ≤ y0_4) && decide (y0_4 < 5)) then (some (.more ((i64.wrap (y0_4 + (1 : Int))), (r0_2.setIfInBounds ((y0_4).toNat * 1) (.int .u8 (num a0 ((y0_4).toNat * 1)))))))
    else (none))
   else (none))
  else (some (.done (y0_4, r0_2)))
theorem Zw5 (N:Nat) (a0:Array Value):∀ t:Int×Array Value,stepV Tryz.prog (mkΓ []) N (cAt (codeOf Tryz.f64) [1,1,0,1,0,0]) (pAt (mkPlan (codeOf Tryz.f64) [([4],[2])]).1 [1,1,0,1,0]) [4] [2] (Zeb a0) (Ze6 t)=mapS Ze6 Zi9 (Zcl Tryz.prog a0 t):=by
 rintro ⟨y0_4,r0_2⟩
 refine Eq.trans (b:=(bif decide (y0_4<(5:Int)) then (bif (decide (0≤y0_4)&&decide (y0_4<5)) then (bif (decide (0≤y0_4)&&decide (y0_4<5)) then (some (.more ([.a (.i .i64 (i64.wrap (y0_4+(1:Int))))],[.row (r0_2.setIfInBounds ((y0_4).toNat*1) (.int .u8 (num a0 ((y0_4).toNat*1)))) 37])))
    else (none))
   else (none))
  else (some (.done ((.exit 0),([.a (.i .i64 (y0_4))],[.row r0_2 37])))))) (by kernel_rfl) ?_
 simp only [Zcl,Zay,Zaz,Zax,Zaw,Ze6,Zi9]
def Zhz (P:Program) (N:Nat) (a0:Array Value) (z0_4:Int) (q0_2:Array Value):Option (SV×Eff×Bool):=some (.a (.g q0_2 37),.none,true)
theorem Zob (N:Nat) (a0:Array Value) (z0_4:Int) (q0_2:Array Value):(kBlock 0 (kSeq (veC Tryz.prog (mkΓ []) N (cAt (codeOf Tryz.f64) [1,1,1]) (pAt (mkPlan (codeOf Tryz.f64) [([4],[2])]).1 [1,1,1]) (SV×Eff×Bool)) (finK Tryz.prog [] [.cell 2 37]))) (.exit 0) (left (writes (cAt (codeOf Tryz.f64) [1,1,0,1,0,0])) [4] [2] (Zeb a0) ([.a (.i .i64 (z0_4))],[.row q0_2 37]))=Zhz Tryz.prog N a0 z0_4 q0_2:=by
 refine Eq.trans (b:=(some (.a (.g q0_2 37),.none,true))) (by kernel_rfl) ?_
 rfl
theorem Zwg (N:Nat) (a0:Array Value):bindX (iterO (stepV Tryz.prog (mkΓ []) N (cAt (codeOf Tryz.f64) [1,1,0,1,0,0]) (pAt (mkPlan (codeOf Tryz.f64) [([4],[2])]).1 [1,1,0,1,0]) [4] [2] (Zeb a0)) N ([.a (.i .i64 (0:Int))],[.row (#[.int .u8 (0:Int),.int .u8 (0:Int),.int .u8 (0:Int),.int .u8 (0:Int),.int .u8 (0:Int)]:Array Value) 37])) (fun e s=>(kBlock 0 (kSeq (veC Tryz.prog (mkΓ []) N (cAt (codeOf Tryz.f64) [1,1,1]) (pAt (mkPlan (codeOf Tryz.f64) [([4],[2])]).1 [1,1,1]) (SV×Eff×Bool)) (finK Tryz.prog [] [.cell 2 37]))) e (left (writes (cAt (codeOf Tryz.f64) [1,1,0,1,0,0])) [4] [2] (Zeb a0) s))=nodeX (iterO (Zcl Tryz.prog a0) N ((0:Int),(#[.int .u8 (0:Int),.int .u8 (0:Int),.int .u8 (0:Int),.int .u8 (0:Int),.int .u8 (0:Int)]:Array Value))) (fun x=>Zhz Tryz.prog N a0 x.1 x.2):=by
 refine Zbc Ze6 Zi9 _ _ (Zw5 N a0) N ((0:Int),(#[.int .u8 (0:Int),.int .u8 (0:Int),.int .u8 (0:Int),.int .u8 (0:Int),.int .u8 (0:Int)]:Array Value)) _ _ ?_
 intro x;exact Zob N a0 x.1 x.2
theorem Zs9 (N:Nat) (a0:Array Value):ansV Tryz.prog (mkΓ []) N Tryz.f64 [([4],[2])] [.g a0 24] []=(nodeX (iterO (Zcl Tryz.prog a0) N ((0:Int),(#[.int .u8 (0:Int),.int .u8 (0:Int),.int .u8 (0:Int),.int .u8 (0:Int),.int .u8 (0:Int)]:Array Value))) (fun x=>Zhz Tryz.prog N a0 x.1 x.2)):=by
 refine Eq.trans (b:=(bindX (iterO (stepV Tryz.prog (mkΓ []) N (cAt (codeOf Tryz.f64) [1,1,0,1,0,0]) (pAt (mkPlan (codeOf Tryz.f64) [([4],[2])]).1 [1,1,0,1,0]) [4] [2] (Zeb a0)) N ([.a (.i .i64 (0:Int))],[.row (#[.int .u8 (0:Int),.int .u8 (0:Int),.int .u8 (0:Int),.int .u8 (0:Int),.int .u8 (0:Int)]:Array Value) 37])) (fun e s=>(kBlock 0 (kSeq (veC Tryz.prog (mkΓ []) N (cAt (codeOf Tryz.f64) [1,1,1]) (pAt (mkPlan (codeOf Tryz.f64) [([4],[2])]).1 [1,1,1]) (SV×Eff×Bool)) (finK Tryz.prog [] [.cell 2 37]))) e (left (writes (cAt (codeOf Tryz.f64) [1,1,0,1,0,0])) [4] [2] (Zeb a0) s)))) (by kernel_rfl) ?_
 simp only [Zwg N a0]
theorem Zsc (a0:Array Value) (h_a0:WT Tryz.prog 24 a0) (hg:(true)=true):ansV Tryz.prog (mkΓ []) 1000 Tryz.f64 [([4],[2])] [.g a0 24] []=some (.a (.g a0 37),.none,true):=by
 have hs:a0.size=(#[.int .u8 (0:Int),.int .u8 (0:Int),.int .u8 (0:Int),.int .u8 (0:Int),.int .u8 (0:Int)]:Array Value).size:=by rw [h_a0.layLen];kernel_rfl
 have hz:a0.size=5:=by rw [h_a0.layLen];kernel_rfl
 have hL:∀ k,k<5→(lay Tryz.prog 24)[k*1]? = some 4:=by
  intro k hk
  have h:(List.range 5).all (fun k=>(lay Tryz.prog 24)[k*1]? == some 4)=true:=by kernel_rfl
  exact eq_of_beq (List.all_eq_true.1 h k (List.mem_range.2 hk))
 have h:=Zei (g:=Zcl Tryz.prog a0) (fun k=>((k:Int),upto a0 (#[.int .u8 (0:Int),.int .u8 (0:Int),.int .u8 (0:Int),.int .u8 (0:Int),.int .u8 (0:Int)]:Array Value) (k*1))) (m:=5) (x:=(((5:Nat):Int),upto a0 (#[.int .u8 (0:Int),.int .u8 (0:Int),.int .u8 (0:Int),.int .u8 (0:Int),.int .u8 (0:Int)]:Array Value) (5*1))) (N:=1000) (fun k hk=>by
  have h1:decide ((k:Int)<5)=true:=decide_eq_true (by omega)
  have h0:decide (0≤(k:Int))=true:=decide_eq_true (by omega)
  have h3:i64.wrap ((k:Int)+1)=((k+1:Nat):Int):=by rw [IntWalk.i64_in _ (by omega)];omega
  have h4:((k:Int)).toNat=k:=Int.toNat_natCast k
  have h5:(upto a0 (#[.int .u8 (0:Int),.int .u8 (0:Int),.int .u8 (0:Int),.int .u8 (0:Int),.int .u8 (0:Int)]:Array Value) (k*1)).setIfInBounds (k*1) (.int .u8 (num a0 (k*1)))=upto a0 (#[.int .u8 (0:Int),.int .u8 (0:Int),.int .u8 (0:Int),.int .u8 (0:Int),.int .u8 (0:Int)]:Array Value) ((k+1)*1):=by
   rw [Nat.add_mul];exact Zy7 hs (h_a0.int (k:=.u8) (hL k hk)).1
  simp only [Zcl,h1,h0,Bool.and_self,h4,cond_true,h3,h5]) (by
  have h1:decide (((5:Nat):Int)<5)=false:=by decide
  simp only [Zcl,h1,cond_false]) (by omega)
 simp only [Nat.zero_mul,Zp7 hs,Zu5 hs hz] at h
 refine (Zs9 1000 a0).trans ?_
 have h':iterO (Zcl Tryz.prog a0) 1000 ((0:Int),(#[.int .u8 (0:Int),.int .u8 (0:Int),.int .u8 (0:Int),.int .u8 (0:Int),.int .u8 (0:Int)]:Array Value))=some (((5:Nat):Int),a0):=h
 rw [h']
 rfl
def Zbg:Con:=fun args h=>match args,h with
 | [.g a0 24],[]=>some (.a (.g a0 37),.none,true)
 | _,_=>none
theorem Zrd:EntX Tryz.prog 64:=Zaf (fn:=Tryz.f64) (by kernel_rfl) (by kernel_rfl) (by kernel_rfl)
theorem Zw7:ConOkX mn Tryz.prog 64 Zbg:=(Zag (N:=1000) (by kernel_rfl) mkΓ_nilX (fn:=Tryz.f64) (by kernel_rfl) (by kernel_rfl) [([4],[2])]).of (by
 intro ρ h w args vals r e hA hH hr
 unfold Zbg at hr
 split at hr
 ·rename_i a0
  obtain ⟨rfl,hg⟩:=Prod.mk.inj (Option.some.inj hr)
  obtain ⟨rfl,hg2⟩:=Prod.mk.inj hg
  exact Zsc a0 (hA.wt 0 rfl) hg2
 ·cases hr)
def Zcy (a0:Array Value):St:=(⟨.a (.g a0 25) :: .a (.w 0) :: .a (.w 1) :: .a (.w 2) :: .a (.i .i64 (0:Int))::us 11 ([]),[.row a0 25,.row (zc Tryz.prog 38) 38,.row (zc Tryz.prog 38) 38],[]⟩:St)
def Zdy:Int×Array Value→LS
 | (y0_4,r0_2)=>([.a (.i .i64 (y0_4))],[.row r0_2 38])
def Zhf:Int×Array Value→Exit×LS
 | t=>((.exit 0),Zdy t)
def Zbq (P : Program) (a0 : Array Value) : Int × Array Value → Option (Stp (Int × Array Value) (Int × Array Value))
 | (y0_4, r0_2) => bif decide (y0_4 < (36 : Int)) then (bif (decide (0 ≤ y0_4) && decide (y0_4 < 36)) then (bif (decide (0 ≤ y0_4) && decide (y0_4 < 36)) then (some (.more ((i64.wrap (y0_4 + (1 : Int))), (spl r0_2 ((y0_4).toNat * 5) (a0.extract ((y0_4).toNat * 5) (((y0_4).toNat * 5) + 5)).toList))))
    else (none))
   else (none))
  else (some (.done (y0_4, r0_2)))
theorem Zrf (N:Nat) (a0:Array Value):∀ t:Int×Array Value,stepV Tryz.prog (mkΓ [(64,con Zbg)]) N (cAt (codeOf Tryz.f44) [1,1,0,1,0,0]) (pAt (mkPlan (codeOf Tryz.f44) [([4],[2])]).1 [1,1,0,1,0]) [4] [2] (Zcy a0) (Zdy t)=mapS Zdy Zhf (Zbq Tryz.prog a0 t):=by
 rintro ⟨y0_4,r0_2⟩
 refine Eq.trans (b:=(bif decide (y0_4<(36:Int)) then (bif (decide (0≤y0_4)&&decide (y0_4<36)) then (bif (decide (0≤y0_4)&&decide (y0_4<36)) then (some (.more ([.a (.i .i64 (i64.wrap (y0_4+(1:Int))))],[.row (spl r0_2 ((y0_4).toNat*5) (a0.extract ((y0_4).toNat*5) (((y0_4).toNat*5)+5)).toList) 38])))
    else (none))
   else (none))
  else (some (.done ((.exit 0),([.a (.i .i64 (y0_4))],[.row r0_2 38])))))) (by kernel_rfl) ?_
 simp only [Zbq,Zay,Zaz,Zax,Zaw,Zdy,Zhf]
def Zf9 (P:Program) (N:Nat) (a0:Array Value) (z0_4:Int) (q0_2:Array Value):Option (SV×Eff×Bool):=some (.a (.g q0_2 38),.none,true)
theorem Zl9 (N:Nat) (a0:Array Value) (z0_4:Int) (q0_2:Array Value):(kBlock 0 (kSeq (veC Tryz.prog (mkΓ [(64,con Zbg)]) N (cAt (codeOf Tryz.f44) [1,1,1]) (pAt (mkPlan (codeOf Tryz.f44) [([4],[2])]).1 [1,1,1]) (SV×Eff×Bool)) (finK Tryz.prog [] [.cell 2 38]))) (.exit 0) (left (writes (cAt (codeOf Tryz.f44) [1,1,0,1,0,0])) [4] [2] (Zcy a0) ([.a (.i .i64 (z0_4))],[.row q0_2 38]))=Zf9 Tryz.prog N a0 z0_4 q0_2:=by
 refine Eq.trans (b:=(some (.a (.g q0_2 38),.none,true))) (by kernel_rfl) ?_
 rfl
theorem Zqw (N:Nat) (a0:Array Value):bindX (iterO (stepV Tryz.prog (mkΓ [(64,con Zbg)]) N (cAt (codeOf Tryz.f44) [1,1,0,1,0,0]) (pAt (mkPlan (codeOf Tryz.f44) [([4],[2])]).1 [1,1,0,1,0]) [4] [2] (Zcy a0)) N ([.a (.i .i64 (0:Int))],[.row (zc Tryz.prog 38) 38])) (fun e s=>(kBlock 0 (kSeq (veC Tryz.prog (mkΓ [(64,con Zbg)]) N (cAt (codeOf Tryz.f44) [1,1,1]) (pAt (mkPlan (codeOf Tryz.f44) [([4],[2])]).1 [1,1,1]) (SV×Eff×Bool)) (finK Tryz.prog [] [.cell 2 38]))) e (left (writes (cAt (codeOf Tryz.f44) [1,1,0,1,0,0])) [4] [2] (Zcy a0) s))=nodeX (iterO (Zbq Tryz.prog a0) N ((0:Int),(zc Tryz.prog 38))) (fun x=>Zf9 Tryz.prog N a0 x.1 x.2):=by
 refine Zbc Zdy Zhf _ _ (Zrf N a0) N ((0:Int),(zc Tryz.prog 38)) _ _ ?_
 intro x;exact Zl9 N a0 x.1 x.2
theorem Zpi (N:Nat) (a0:Array Value):ansV Tryz.prog (mkΓ [(64,con Zbg)]) N Tryz.f44 [([4],[2])] [.g a0 25] []=(nodeX (iterO (Zbq Tryz.prog a0) N ((0:Int),(zc Tryz.prog 38))) (fun x=>Zf9 Tryz.prog N a0 x.1 x.2)):=by
 refine Eq.trans (b:=(bindX (iterO (stepV Tryz.prog (mkΓ [(64,con Zbg)]) N (cAt (codeOf Tryz.f44) [1,1,0,1,0,0]) (pAt (mkPlan (codeOf Tryz.f44) [([4],[2])]).1 [1,1,0,1,0]) [4] [2] (Zcy a0)) N ([.a (.i .i64 (0:Int))],[.row (zc Tryz.prog 38) 38])) (fun e s=>(kBlock 0 (kSeq (veC Tryz.prog (mkΓ [(64,con Zbg)]) N (cAt (codeOf Tryz.f44) [1,1,1]) (pAt (mkPlan (codeOf Tryz.f44) [([4],[2])]).1 [1,1,1]) (SV×Eff×Bool)) (finK Tryz.prog [] [.cell 2 38]))) e (left (writes (cAt (codeOf Tryz.f44) [1,1,0,1,0,0])) [4] [2] (Zcy a0) s)))) (by kernel_rfl) ?_
 simp only [Zqw N a0]
theorem Zol (a0:Array Value) (h_a0:WT Tryz.prog 25 a0) (hg:(true)=true):ansV Tryz.prog (mkΓ [(64,con Zbg)]) 1000 Tryz.f44 [([4],[2])] [.g a0 25] []=some (.a (.g a0 38),.none,true):=by
 have hs:a0.size=(zc Tryz.prog 38).size:=by rw [h_a0.layLen];kernel_rfl
 have hz:a0.size=180:=by rw [h_a0.layLen];kernel_rfl
 have hL:∀ k,k<36→(lay Tryz.prog 25)[k*5]? = some 4:=by
  intro k hk
  have h:(List.range 36).all (fun k=>(lay Tryz.prog 25)[k*5]? == some 4)=true:=by kernel_rfl
  exact eq_of_beq (List.all_eq_true.1 h k (List.mem_range.2 hk))
 have h:=Zei (g:=Zbq Tryz.prog a0) (fun k=>((k:Int),upto a0 (zc Tryz.prog 38) (k*5))) (m:=36) (x:=(((36:Nat):Int),upto a0 (zc Tryz.prog 38) (36*5))) (N:=1000) (fun k hk=>by
  have h1:decide ((k:Int)<36)=true:=decide_eq_true (by omega)
  have h0:decide (0≤(k:Int))=true:=decide_eq_true (by omega)
  have h3:i64.wrap ((k:Int)+1)=((k+1:Nat):Int):=by rw [IntWalk.i64_in _ (by omega)];omega
  have h4:((k:Int)).toNat=k:=Int.toNat_natCast k
  have h5:spl (upto a0 (zc Tryz.prog 38) (k*5)) (k*5) (a0.extract (k*5) (k*5+5)).toList=upto a0 (zc Tryz.prog 38) ((k+1)*5):=by
   rw [Nat.add_mul];exact Zy8 hs (by omega) rfl
  simp only [Zbq,h1,h0,Bool.and_self,h4,cond_true,h3,h5]) (by
  have h1:decide (((36:Nat):Int)<36)=false:=by decide
  simp only [Zbq,h1,cond_false]) (by omega)
 simp only [Nat.zero_mul,Zp7 hs,Zu5 hs hz] at h
 refine (Zpi 1000 a0).trans ?_
 have h':iterO (Zbq Tryz.prog a0) 1000 ((0:Int),(zc Tryz.prog 38))=some (((36:Nat):Int),a0):=h
 rw [h']
 rfl
def Za2:Con:=fun args h=>match args,h with
 | [.g a0 25],[]=>some (.a (.g a0 38),.none,true)
 | _,_=>none
theorem Zng:EntX Tryz.prog 44:=Zaf (fn:=Tryz.f44) (by kernel_rfl) (by kernel_rfl) (by kernel_rfl)
theorem Zq0:ConOkX mn Tryz.prog 44 Za2:=(Zag (N:=1000) (by kernel_rfl) (mkΓ_consX (Zad Zw7) Zrd mkΓ_nilX) (fn:=Tryz.f44) (by kernel_rfl) (by kernel_rfl) [([4],[2])]).of (by
 intro ρ h w args vals r e hA hH hr
 unfold Za2 at hr
 split at hr
 ·rename_i a0
  obtain ⟨rfl,hg⟩:=Prod.mk.inj (Option.some.inj hr)
  obtain ⟨rfl,hg2⟩:=Prod.mk.inj hg
  exact Zol a0 (hA.wt 0 rfl) hg2
 ·cases hr)
def Zb5 (a0:Array Value):St:=(⟨.a (.g a0 26) :: .a (.w 0) :: .a (.w 1) :: .a (.w 2) :: .a (.i .i64 (0:Int))::us 11 ([]),[.row a0 26,.row (zc Tryz.prog 39) 39,.row (zc Tryz.prog 39) 39],[]⟩:St)
def Zc8:Int×Array Value→LS
 | (y0_4,r0_2)=>([.a (.i .i64 (y0_4))],[.row r0_2 39])
def Zf6:Int×Array Value→Exit×LS
 | t=>((.exit 0),Zc8 t)
def Za9 (P : Program) (a0 : Array Value) : Int × Array Value → Option (Stp (Int × Array Value) (Int × Array Value))
 | (y0_4, r0_2) => bif decide (y0_4 < (2 : Int)) then (bif (decide (0 ≤ y0_4) && decide (y0_4 < 2)) then (bif (decide (0 ≤ y0_4) && decide (y0_4 < 2)) then (some (.more ((i64.wrap (y0_4 + (1 : Int))), (spl r0_2 ((y0_4).toNat * 180) (a0.extract ((y0_4).toNat * 180) (((y0_4).toNat * 180) + 180)).toList))))
    else (none))
   else (none))
  else (some (.done (y0_4, r0_2)))
theorem Zoj (N:Nat) (a0:Array Value):∀ t:Int×Array Value,stepV Tryz.prog (mkΓ [(44,con Za2)]) N (cAt (codeOf Tryz.f23) [1,1,0,1,0,0]) (pAt (mkPlan (codeOf Tryz.f23) [([4],[2])]).1 [1,1,0,1,0]) [4] [2] (Zb5 a0) (Zc8 t)=mapS Zc8 Zf6 (Za9 Tryz.prog a0 t):=by
 rintro ⟨y0_4,r0_2⟩
 refine Eq.trans (b:=(bif decide (y0_4<(2:Int)) then (bif (decide (0≤y0_4)&&decide (y0_4<2)) then (bif (decide (0≤y0_4)&&decide (y0_4<2)) then (some (.more ([.a (.i .i64 (i64.wrap (y0_4+(1:Int))))],[.row (spl r0_2 ((y0_4).toNat*180) (a0.extract ((y0_4).toNat*180) (((y0_4).toNat*180)+180)).toList) 39])))
    else (none))
   else (none))
  else (some (.done ((.exit 0),([.a (.i .i64 (y0_4))],[.row r0_2 39])))))) (by kernel_rfl) ?_
 simp only [Za9,Zay,Zaz,Zax,Zaw,Zc8,Zf6]
def Zfd (P:Program) (N:Nat) (a0:Array Value) (z0_4:Int) (q0_2:Array Value):Option (SV×Eff×Bool):=some (.a (.g q0_2 39),.none,true)
theorem Zlk (N:Nat) (a0:Array Value) (z0_4:Int) (q0_2:Array Value):(kBlock 0 (kSeq (veC Tryz.prog (mkΓ [(44,con Za2)]) N (cAt (codeOf Tryz.f23) [1,1,1]) (pAt (mkPlan (codeOf Tryz.f23) [([4],[2])]).1 [1,1,1]) (SV×Eff×Bool)) (finK Tryz.prog [] [.cell 2 39]))) (.exit 0) (left (writes (cAt (codeOf Tryz.f23) [1,1,0,1,0,0])) [4] [2] (Zb5 a0) ([.a (.i .i64 (z0_4))],[.row q0_2 39]))=Zfd Tryz.prog N a0 z0_4 q0_2:=by
 refine Eq.trans (b:=(some (.a (.g q0_2 39),.none,true))) (by kernel_rfl) ?_
 rfl
theorem Zoc (N:Nat) (a0:Array Value):bindX (iterO (stepV Tryz.prog (mkΓ [(44,con Za2)]) N (cAt (codeOf Tryz.f23) [1,1,0,1,0,0]) (pAt (mkPlan (codeOf Tryz.f23) [([4],[2])]).1 [1,1,0,1,0]) [4] [2] (Zb5 a0)) N ([.a (.i .i64 (0:Int))],[.row (zc Tryz.prog 39) 39])) (fun e s=>(kBlock 0 (kSeq (veC Tryz.prog (mkΓ [(44,con Za2)]) N (cAt (codeOf Tryz.f23) [1,1,1]) (pAt (mkPlan (codeOf Tryz.f23) [([4],[2])]).1 [1,1,1]) (SV×Eff×Bool)) (finK Tryz.prog [] [.cell 2 39]))) e (left (writes (cAt (codeOf Tryz.f23) [1,1,0,1,0,0])) [4] [2] (Zb5 a0) s))=nodeX (iterO (Za9 Tryz.prog a0) N ((0:Int),(zc Tryz.prog 39))) (fun x=>Zfd Tryz.prog N a0 x.1 x.2):=by
 refine Zbc Zc8 Zf6 _ _ (Zoj N a0) N ((0:Int),(zc Tryz.prog 39)) _ _ ?_
 intro x;exact Zlk N a0 x.1 x.2
theorem Znk (N:Nat) (a0:Array Value):ansV Tryz.prog (mkΓ [(44,con Za2)]) N Tryz.f23 [([4],[2])] [.g a0 26] []=(nodeX (iterO (Za9 Tryz.prog a0) N ((0:Int),(zc Tryz.prog 39))) (fun x=>Zfd Tryz.prog N a0 x.1 x.2)):=by
 refine Eq.trans (b:=(bindX (iterO (stepV Tryz.prog (mkΓ [(44,con Za2)]) N (cAt (codeOf Tryz.f23) [1,1,0,1,0,0]) (pAt (mkPlan (codeOf Tryz.f23) [([4],[2])]).1 [1,1,0,1,0]) [4] [2] (Zb5 a0)) N ([.a (.i .i64 (0:Int))],[.row (zc Tryz.prog 39) 39])) (fun e s=>(kBlock 0 (kSeq (veC Tryz.prog (mkΓ [(44,con Za2)]) N (cAt (codeOf Tryz.f23) [1,1,1]) (pAt (mkPlan (codeOf Tryz.f23) [([4],[2])]).1 [1,1,1]) (SV×Eff×Bool)) (finK Tryz.prog [] [.cell 2 39]))) e (left (writes (cAt (codeOf Tryz.f23) [1,1,0,1,0,0])) [4] [2] (Zb5 a0) s)))) (by kernel_rfl) ?_
 simp only [Zoc N a0]
theorem Zmy (a0:Array Value) (h_a0:WT Tryz.prog 26 a0) (hg:(true)=true):ansV Tryz.prog (mkΓ [(44,con Za2)]) 1000 Tryz.f23 [([4],[2])] [.g a0 26] []=some (.a (.g a0 39),.none,true):=by
 have hs:a0.size=(zc Tryz.prog 39).size:=by rw [h_a0.layLen];kernel_rfl
 have hz:a0.size=360:=by rw [h_a0.layLen];kernel_rfl
 have hL:∀ k,k<2→(lay Tryz.prog 26)[k*180]? = some 4:=by
  intro k hk
  have h:(List.range 2).all (fun k=>(lay Tryz.prog 26)[k*180]? == some 4)=true:=by kernel_rfl
  exact eq_of_beq (List.all_eq_true.1 h k (List.mem_range.2 hk))
 have h:=Zei (g:=Za9 Tryz.prog a0) (fun k=>((k:Int),upto a0 (zc Tryz.prog 39) (k*180))) (m:=2) (x:=(((2:Nat):Int),upto a0 (zc Tryz.prog 39) (2*180))) (N:=1000) (fun k hk=>by
  have h1:decide ((k:Int)<2)=true:=decide_eq_true (by omega)
  have h0:decide (0≤(k:Int))=true:=decide_eq_true (by omega)
  have h3:i64.wrap ((k:Int)+1)=((k+1:Nat):Int):=by rw [IntWalk.i64_in _ (by omega)];omega
  have h4:((k:Int)).toNat=k:=Int.toNat_natCast k
  have h5:spl (upto a0 (zc Tryz.prog 39) (k*180)) (k*180) (a0.extract (k*180) (k*180+180)).toList=upto a0 (zc Tryz.prog 39) ((k+1)*180):=by
   rw [Nat.add_mul];exact Zy8 hs (by omega) rfl
  simp only [Za9,h1,h0,Bool.and_self,h4,cond_true,h3,h5]) (by
  have h1:decide (((2:Nat):Int)<2)=false:=by decide
  simp only [Za9,h1,cond_false]) (by omega)
 simp only [Nat.zero_mul,Zp7 hs,Zu5 hs hz] at h
 refine (Znk 1000 a0).trans ?_
 have h':iterO (Za9 Tryz.prog a0) 1000 ((0:Int),(zc Tryz.prog 39))=some (((2:Nat):Int),a0):=h
 rw [h']
 rfl
def Zfr:Con:=fun args h=>match args,h with
 | [.g a0 26],[]=>some (.a (.g a0 39),.none,true)
 | _,_=>none
theorem Zmf:EntX Tryz.prog 23:=Zaf (fn:=Tryz.f23) (by kernel_rfl) (by kernel_rfl) (by kernel_rfl)
theorem Zoa:ConOkX mn Tryz.prog 23 Zfr:=(Zag (N:=1000) (by kernel_rfl) (mkΓ_consX (Zad Zq0) Zng mkΓ_nilX) (fn:=Tryz.f23) (by kernel_rfl) (by kernel_rfl) [([4],[2])]).of (by
 intro ρ h w args vals r e hA hH hr
 unfold Zfr at hr
 split at hr
 ·rename_i a0
  obtain ⟨rfl,hg⟩:=Prod.mk.inj (Option.some.inj hr)
  obtain ⟨rfl,hg2⟩:=Prod.mk.inj hg
  exact Zmy a0 (hA.wt 0 rfl) hg2
 ·cases hr)
def Zxb:Cons:=(mkΓ [(23,con Zfr)])
theorem Yb6 (N:Nat) (a0:Array Value):ansV Tryz.prog Zxb N Tryz.f8 [] [.g a0 28] []=(some (.a (.g (spl ((((zc Tryz.prog 41).setIfInBounds 0 (.int .i8 (num a0 0))).setIfInBounds 1 (.int .i8 (num a0 1))).setIfInBounds 2 (.int .u64 (num a0 2))) 3 (a0.extract 3 (3+360)).toList) 41),.none,true)):=by kernel_rfl
theorem Ybf (a0:Array Value) (h_a0:WT Tryz.prog 28 a0) (hg:(true)=true):ansV Tryz.prog Zxb 1000 Tryz.f8 [] [.g a0 28] []=some (.a (.g a0 41),.none,true):=by
 have hs:a0.size=(zc Tryz.prog 41).size:=by rw [h_a0.layLen];kernel_rfl
 have hz:a0.size=363:=by rw [h_a0.layLen];kernel_rfl
 have e0:(upto a0 (zc Tryz.prog 41) 0).setIfInBounds 0 (.int .i8 (num a0 0))=upto a0 (zc Tryz.prog 41) 1:=Zy7 hs (h_a0.int (k:=.i8) (by kernel_rfl)).1
 rw [Zp7 hs] at e0
 have e1:(upto a0 (zc Tryz.prog 41) 1).setIfInBounds 1 (.int .i8 (num a0 1))=upto a0 (zc Tryz.prog 41) 2:=Zy7 hs (h_a0.int (k:=.i8) (by kernel_rfl)).1
 have e2:(upto a0 (zc Tryz.prog 41) 2).setIfInBounds 2 (.int .u64 (num a0 2))=upto a0 (zc Tryz.prog 41) 3:=Zy7 hs (h_a0.int (k:=.u64) (by kernel_rfl)).1
 have e3:spl (upto a0 (zc Tryz.prog 41) 3) 3 (a0.extract 3 (3+360)).toList=upto a0 (zc Tryz.prog 41) 363:=Zy8 hs (by omega) rfl
 refine (Yb6 1000 a0).trans ?_
 rw [e0,e1,e2,e3,Zu5 hs hz]
def Zmk:Con:=fun args h=>match args,h with
 | [.g a0 28],[]=>some (.a (.g a0 41),.none,true)
 | _,_=>none
theorem Zyq:EntX Tryz.prog 8:=Zaf (fn:=Tryz.f8) (by kernel_rfl) (by kernel_rfl) (by kernel_rfl)
theorem Yd5:ConOkX mn Tryz.prog 8 Zmk:=(Zag (N:=1000) (by kernel_rfl) (mkΓ_consX (Zad Zoa) Zmf mkΓ_nilX) (fn:=Tryz.f8) (by kernel_rfl) (by kernel_rfl) []).of (by
 intro ρ h w args vals r e hA hH hr
 unfold Zmk at hr
 split at hr
 ·rename_i a0
  obtain ⟨rfl,hg⟩:=Prod.mk.inj (Option.some.inj hr)
  obtain ⟨rfl,hg2⟩:=Prod.mk.inj hg
  exact Ybf a0 (hA.wt 0 rfl) hg2
 ·cases hr)
theorem wrap12:∀ k,k<14→i64.wrap ((12:Int)^k*12)=12^(k+1):=by decide
def Zeq (a0:Int):St:=(⟨.a (.i .i64 (a0)) :: .a (.u) :: .a (.i .i64 (0:Int)) :: .a (.i .i64 (1:Int)) :: .a (.i .i64 (0:Int))::us 8 ([]),[],[]⟩:St)
def Zfy:Int×Int→LS
 | (y0_3,y0_4)=>([.a (.i .i64 (y0_3)),.a (.i .i64 (y0_4))],[])
def Zj1:Int×Int→Exit×LS
 | t=>((.exit 0),Zfy t)
def Zc5 (P:Program) (a0:Int):Int×Int→Option (Stp (Int×Int) (Int×Int))
 | (y0_3,y0_4)=>bif decide (y0_4<a0) then (some (.more ((i64.wrap (y0_3*(12:Int))),(i64.wrap (y0_4+(1:Int))))))
  else (some (.done (y0_3,y0_4)))
theorem Zxr (N:Nat) (a0:Int):∀ t:Int×Int,stepV Tryz.prog (mkΓ []) N (cAt (codeOf Tryz.f41) [1,1,0,1,0,0]) (pAt (mkPlan (codeOf Tryz.f41) [([3,4],[])]).1 [1,1,0,1,0]) [3,4] [] (Zeq a0) (Zfy t)=mapS Zfy Zj1 (Zc5 Tryz.prog a0 t):=by
 rintro ⟨y0_3,y0_4⟩
 refine Eq.trans (b:=(bif decide (y0_4<a0) then (some (.more ([.a (.i .i64 (i64.wrap (y0_3*(12:Int)))),.a (.i .i64 (i64.wrap (y0_4+(1:Int))))],[])))
  else (some (.done ((.exit 0),([.a (.i .i64 (y0_3)),.a (.i .i64 (y0_4))],[])))))) (by kernel_rfl) ?_
 simp only [Zc5,Zay,Zaz,Zax,Zaw,Zfy,Zj1]
def Zio (P:Program) (N:Nat) (a0:Int) (z0_3:Int) (z0_4:Int):Option (SV×Eff×Bool):=some (.a (.i .i64 (z0_3)),.none,true)
theorem Zpf (N:Nat) (a0:Int) (z0_3:Int) (z0_4:Int):(kBlock 0 (kSeq (veC Tryz.prog (mkΓ []) N (cAt (codeOf Tryz.f41) [1,1,1]) (pAt (mkPlan (codeOf Tryz.f41) [([3,4],[])]).1 [1,1,1]) (SV×Eff×Bool)) (finK Tryz.prog [] [.tmp 2]))) (.exit 0) (left (writes (cAt (codeOf Tryz.f41) [1,1,0,1,0,0])) [3,4] [] (Zeq a0) ([.a (.i .i64 (z0_3)),.a (.i .i64 (z0_4))],[]))=Zio Tryz.prog N a0 z0_3 z0_4:=by
 refine Eq.trans (b:=(some (.a (.i .i64 (z0_3)),.none,true))) (by kernel_rfl) ?_
 rfl
theorem Zyr (N:Nat) (a0:Int):bindX (iterO (stepV Tryz.prog (mkΓ []) N (cAt (codeOf Tryz.f41) [1,1,0,1,0,0]) (pAt (mkPlan (codeOf Tryz.f41) [([3,4],[])]).1 [1,1,0,1,0]) [3,4] [] (Zeq a0)) N ([.a (.i .i64 (1:Int)),.a (.i .i64 (0:Int))],[])) (fun e s=>(kBlock 0 (kSeq (veC Tryz.prog (mkΓ []) N (cAt (codeOf Tryz.f41) [1,1,1]) (pAt (mkPlan (codeOf Tryz.f41) [([3,4],[])]).1 [1,1,1]) (SV×Eff×Bool)) (finK Tryz.prog [] [.tmp 2]))) e (left (writes (cAt (codeOf Tryz.f41) [1,1,0,1,0,0])) [3,4] [] (Zeq a0) s))=nodeX (iterO (Zc5 Tryz.prog a0) N ((1:Int),(0:Int))) (fun x=>Zio Tryz.prog N a0 x.1 x.2):=by
 refine Zbc Zfy Zj1 _ _ (Zxr N a0) N ((1:Int),(0:Int)) _ _ ?_
 intro x;exact Zpf N a0 x.1 x.2
theorem Zvn (N:Nat) (a0:Int):ansV Tryz.prog (mkΓ []) N Tryz.f41 [([3,4],[])] [.i .i64 (a0)] []=(nodeX (iterO (Zc5 Tryz.prog a0) N ((1:Int),(0:Int))) (fun x=>Zio Tryz.prog N a0 x.1 x.2)):=by
 refine Eq.trans (b:=(bindX (iterO (stepV Tryz.prog (mkΓ []) N (cAt (codeOf Tryz.f41) [1,1,0,1,0,0]) (pAt (mkPlan (codeOf Tryz.f41) [([3,4],[])]).1 [1,1,0,1,0]) [3,4] [] (Zeq a0)) N ([.a (.i .i64 (1:Int)),.a (.i .i64 (0:Int))],[])) (fun e s=>(kBlock 0 (kSeq (veC Tryz.prog (mkΓ []) N (cAt (codeOf Tryz.f41) [1,1,1]) (pAt (mkPlan (codeOf Tryz.f41) [([3,4],[])]).1 [1,1,1]) (SV×Eff×Bool)) (finK Tryz.prog [] [.tmp 2]))) e (left (writes (cAt (codeOf Tryz.f41) [1,1,0,1,0,0])) [3,4] [] (Zeq a0) s)))) (by kernel_rfl) ?_
 simp only [Zyr N a0]
theorem Zud (a0:Int) (h_a0:i64.min≤a0∧a0≤i64.max) (hg:((decide (0≤a0)&&decide (a0≤14)))=true):ansV Tryz.prog (mkΓ []) 1000 Tryz.f41 [([3,4],[])] [.i .i64 (a0)] []=some (.a (.i .i64 (12^a0.toNat)),.none,true):=by
 simp only [Bool.and_eq_true,decide_eq_true_eq] at hg
 obtain ⟨h0,h14⟩:=hg
 obtain ⟨m,rfl⟩:=Int.eq_ofNat_of_zero_le h0
 refine (Zvn 1000 _).trans ?_
 have h:=Zei (g:=Zc5 Tryz.prog (m:Int)) (fun k=>((12:Int)^k,(k:Int))) (m:=m) (x:=((12:Int)^m,(m:Int))) (N:=1000) (fun k hk=>by
  have h1:decide ((k:Int)<(m:Int))=true:=decide_eq_true (by omega)
  have h2:i64.wrap ((k:Int)+1)=((k+1:Nat):Int):=by rw [IntWalk.i64_in _ (by omega)];omega
  simp only [Zc5,h1,cond_true,wrap12 k (by omega),h2]) (by
  have h1:decide ((m:Int)<(m:Int))=false:=decide_eq_false (by omega)
  simp only [Zc5,h1,cond_false]) (by omega)
 have h':iterO (Zc5 Tryz.prog (m:Int)) 1000 ((1:Int),(0:Int))=some ((12:Int)^m,(m:Int)):=h
 rw [h']
 rfl
def Zfe:Con:=fun args h=>match args,h with
 | [.i .i64 a0],[]=>some (.a (.i .i64 (12^a0.toNat)),.none,(decide (0≤a0)&&decide (a0≤14)))
 | _,_=>none
theorem Zk6:EntX Tryz.prog 41:=Zaf (fn:=Tryz.f41) (by kernel_rfl) (by kernel_rfl) (by kernel_rfl)
theorem Zn4:ConOkX mn Tryz.prog 41 Zfe:=(Zag (N:=1000) (by kernel_rfl) mkΓ_nilX (fn:=Tryz.f41) (by kernel_rfl) (by kernel_rfl) [([3,4],[])]).of (by
 intro ρ h w args vals r e hA hH hr
 unfold Zfe at hr
 split at hr
 ·rename_i a0
  obtain ⟨rfl,hg⟩:=Prod.mk.inj (Option.some.inj hr)
  obtain ⟨rfl,hg2⟩:=Prod.mk.inj hg
  exact Zud a0 (hA.rng 0 rfl) hg2
 ·cases hr)
def Zdr (a0:Int):St:=(⟨.a (.i .i64 (a0)) :: .a (.u) :: .a (.i .i64 (0:Int)) :: .a (.i .i64 (1:Int)) :: .a (.i .i64 (a0)) :: .a (.i .i64 (0:Int))::us 5 ([]),[],[]⟩:St)
def Zex:Int×Int→LS
 | (y0_3,y0_5)=>([.a (.i .i64 (y0_3)),.a (.i .i64 (y0_5))],[])
def Zir:Int×Int→Exit×LS
 | t=>((.exit 0),Zex t)
def Zb2 (P:Program) (a0:Int):Int×Int→Option (Stp (Int×Int) (Int×Int))
 | (y0_3,y0_5)=>bif decide (y0_5<a0) then (some (.more ((i64.wrap (y0_3*(12:Int))),(i64.wrap (y0_5+(1:Int))))))
  else (some (.done (y0_3,y0_5)))
theorem Ztk (N:Nat) (a0:Int):∀ t:Int×Int,stepV Tryz.prog (mkΓ []) N (cAt (codeOf Tryz.f53) [1,1,0,1,0,0]) (pAt (mkPlan (codeOf Tryz.f53) [([3,5],[])]).1 [1,1,0,1,0]) [3,5] [] (Zdr a0) (Zex t)=mapS Zex Zir (Zb2 Tryz.prog a0 t):=by
 rintro ⟨y0_3,y0_5⟩
 refine Eq.trans (b:=(bif decide (y0_5<a0) then (some (.more ([.a (.i .i64 (i64.wrap (y0_3*(12:Int)))),.a (.i .i64 (i64.wrap (y0_5+(1:Int))))],[])))
  else (some (.done ((.exit 0),([.a (.i .i64 (y0_3)),.a (.i .i64 (y0_5))],[])))))) (by kernel_rfl) ?_
 simp only [Zb2,Zay,Zaz,Zax,Zaw,Zex,Zir]
def Zg6 (P:Program) (N:Nat) (a0:Int) (z0_3:Int) (z0_5:Int):Option (SV×Eff×Bool):=some (.a (.i .i64 (z0_3)),.none,true)
theorem Znx (N:Nat) (a0:Int) (z0_3:Int) (z0_5:Int):(kBlock 0 (kSeq (veC Tryz.prog (mkΓ []) N (cAt (codeOf Tryz.f53) [1,1,1]) (pAt (mkPlan (codeOf Tryz.f53) [([3,5],[])]).1 [1,1,1]) (SV×Eff×Bool)) (finK Tryz.prog [] [.tmp 2]))) (.exit 0) (left (writes (cAt (codeOf Tryz.f53) [1,1,0,1,0,0])) [3,5] [] (Zdr a0) ([.a (.i .i64 (z0_3)),.a (.i .i64 (z0_5))],[]))=Zg6 Tryz.prog N a0 z0_3 z0_5:=by
 refine Eq.trans (b:=(some (.a (.i .i64 (z0_3)),.none,true))) (by kernel_rfl) ?_
 rfl
theorem Zs7 (N:Nat) (a0:Int):bindX (iterO (stepV Tryz.prog (mkΓ []) N (cAt (codeOf Tryz.f53) [1,1,0,1,0,0]) (pAt (mkPlan (codeOf Tryz.f53) [([3,5],[])]).1 [1,1,0,1,0]) [3,5] [] (Zdr a0)) N ([.a (.i .i64 (1:Int)),.a (.i .i64 (0:Int))],[])) (fun e s=>(kBlock 0 (kSeq (veC Tryz.prog (mkΓ []) N (cAt (codeOf Tryz.f53) [1,1,1]) (pAt (mkPlan (codeOf Tryz.f53) [([3,5],[])]).1 [1,1,1]) (SV×Eff×Bool)) (finK Tryz.prog [] [.tmp 2]))) e (left (writes (cAt (codeOf Tryz.f53) [1,1,0,1,0,0])) [3,5] [] (Zdr a0) s))=nodeX (iterO (Zb2 Tryz.prog a0) N ((1:Int),(0:Int))) (fun x=>Zg6 Tryz.prog N a0 x.1 x.2):=by
 refine Zbc Zex Zir _ _ (Ztk N a0) N ((1:Int),(0:Int)) _ _ ?_
 intro x;exact Znx N a0 x.1 x.2
theorem Zst (N:Nat) (a0:Int):ansV Tryz.prog (mkΓ []) N Tryz.f53 [([3,5],[])] [.i .i64 (a0)] []=(nodeX (iterO (Zb2 Tryz.prog a0) N ((1:Int),(0:Int))) (fun x=>Zg6 Tryz.prog N a0 x.1 x.2)):=by
 refine Eq.trans (b:=(bindX (iterO (stepV Tryz.prog (mkΓ []) N (cAt (codeOf Tryz.f53) [1,1,0,1,0,0]) (pAt (mkPlan (codeOf Tryz.f53) [([3,5],[])]).1 [1,1,0,1,0]) [3,5] [] (Zdr a0)) N ([.a (.i .i64 (1:Int)),.a (.i .i64 (0:Int))],[])) (fun e s=>(kBlock 0 (kSeq (veC Tryz.prog (mkΓ []) N (cAt (codeOf Tryz.f53) [1,1,1]) (pAt (mkPlan (codeOf Tryz.f53) [([3,5],[])]).1 [1,1,1]) (SV×Eff×Bool)) (finK Tryz.prog [] [.tmp 2]))) e (left (writes (cAt (codeOf Tryz.f53) [1,1,0,1,0,0])) [3,5] [] (Zdr a0) s)))) (by kernel_rfl) ?_
 simp only [Zs7 N a0]
theorem Zq8 (a0:Int) (h_a0:i64.min≤a0∧a0≤i64.max) (hg:((decide (0≤a0)&&decide (a0≤14)))=true):ansV Tryz.prog (mkΓ []) 1000 Tryz.f53 [([3,5],[])] [.i .i64 (a0)] []=some (.a (.i .i64 (12^a0.toNat)),.none,true):=by
 simp only [Bool.and_eq_true,decide_eq_true_eq] at hg
 obtain ⟨h0,h14⟩:=hg
 obtain ⟨m,rfl⟩:=Int.eq_ofNat_of_zero_le h0
 refine (Zst 1000 _).trans ?_
 have h:=Zei (g:=Zb2 Tryz.prog (m:Int)) (fun k=>((12:Int)^k,(k:Int))) (m:=m) (x:=((12:Int)^m,(m:Int))) (N:=1000) (fun k hk=>by
  have h1:decide ((k:Int)<(m:Int))=true:=decide_eq_true (by omega)
  have h2:i64.wrap ((k:Int)+1)=((k+1:Nat):Int):=by rw [IntWalk.i64_in _ (by omega)];omega
  simp only [Zb2,h1,cond_true,wrap12 k (by omega),h2]) (by
  have h1:decide ((m:Int)<(m:Int))=false:=decide_eq_false (by omega)
  simp only [Zb2,h1,cond_false]) (by omega)
 have h':iterO (Zb2 Tryz.prog (m:Int)) 1000 ((1:Int),(0:Int))=some ((12:Int)^m,(m:Int)):=h
 rw [h']
 rfl
def Zav:Con:=fun args h=>match args,h with
 | [.i .i64 a0],[]=>some (.a (.i .i64 (12^a0.toNat)),.none,(decide (0≤a0)&&decide (a0≤14)))
 | _,_=>none
theorem Zjk:EntX Tryz.prog 53:=Zaf (fn:=Tryz.f53) (by kernel_rfl) (by kernel_rfl) (by kernel_rfl)
theorem Zl1:ConOkX mn Tryz.prog 53 Zav:=(Zag (N:=1000) (by kernel_rfl) mkΓ_nilX (fn:=Tryz.f53) (by kernel_rfl) (by kernel_rfl) [([3,5],[])]).of (by
 intro ρ h w args vals r e hA hH hr
 unfold Zav at hr
 split at hr
 ·rename_i a0
  obtain ⟨rfl,hg⟩:=Prod.mk.inj (Option.some.inj hr)
  obtain ⟨rfl,hg2⟩:=Prod.mk.inj hg
  exact Zq8 a0 (hA.rng 0 rfl) hg2
 ·cases hr)
theorem Zl6 {x a b:Int} (h:Zaa x a b=true):a≤x∧x≤b:=by
 unfold Zaa at h
 cases h0:decide (x ≥ a) with
 | false=>rw [h0] at h;exact nomatch h
 | true=>rw [h0] at h;exact ⟨of_decide_eq_true h0,of_decide_eq_true h⟩
theorem cell_num {D:Array Value} {T:TypeId} (hz:D.size=40) (k:Nat) (hk:k<36):num (D.extract 3 (3+36)) (k*1)=num D (3+k*1):=by
 unfold num
 rw [Array.getElem?_extract,if_pos (by omega)]
end
end Go.Proofs.YtflnjkpejbohjaaGreatDoor
