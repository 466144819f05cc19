import Derived.Test.YtdofpgniogochaaDoorProg
import Derived.Test.YtdofpgniogochaaDoorCxC
namespace Go.Proofs.YtdofpgniogochaaDoor
open Go.ChangeShapes Go.WideShapes Go.ChangeAt Go.RowKit Ve Vc
open Tryd (prog)
open IntKind (i64)
set_option linter.unusedVariables false
set_option linter.unusedSimpArgs false
set_option maxRecDepth 100000
noncomputable section
variable {mn:Md}
def Zee (a0:Array Value):St:=(⟨.a (.g a0 24) :: .a (.w 0) :: .a (.w 1) :: .a (.w 2) :: .a (.i .i64 (0:Int))::us 10 ([]),[.row a0 24,.row #[.int .u8 (0:Int),.int .u8 (0:Int),.int .u8 (0:Int),.int .u8 (0:Int),.int .u8 (0:Int)] 31,.row #[.int .u8 (0:Int),.int .u8 (0:Int),.int .u8 (0:Int),.int .u8 (0:Int),.int .u8 (0:Int)] 31],[]⟩:St)
def Zfz:Int×Array Value→LS
 | (y0_4,r0_2)=>([.a (.i .i64 (y0_4))],[.row r0_2 31])
def Zlb:Int×Array Value→Exit×LS
 | t=>((.exit 0),Zfz t)
def Zcg (P : Program) (a0 : Array Value) : Int × Array Value → Option (Stp (Int × Array Value) (Int × Array Value))
 | (y0_4, r0_2) => bif decide (y0_4 < (5 : Int)) then (bif (decide (0 ≤ y0_4) && decide (y0_4 < 5)) then (bif (decide (0 ≤ y0_4) && decide (y0_4 < 5)) then (some (.more ((i64.wrap (y0_4 + (1 : Int))), (r0_2.setIfInBounds ((y0_4).toNat * 1) (.int .u8 (num a0 ((y0_4).toNat * 1)))))))
    else (none))
   else (none))
  else (some (.done (y0_4, r0_2)))
theorem Zy1 (N:Nat) (a0:Array Value):∀ t:Int×Array Value,stepV prog (mkΓ []) N (cAt (codeOf Tryd.f109) [1,1,0,1,0,0]) (pAt (mkPlan (codeOf Tryd.f109) [([4],[2])]).1 [1,1,0,1,0]) [4] [2] (Zee a0) (Zfz t)=mapS Zfz Zlb (Zcg prog a0 t):=by
 rintro ⟨y0_4,r0_2⟩
 refine Eq.trans (b:=(bif decide (y0_4<(5:Int)) then (bif (decide (0≤y0_4)&&decide (y0_4<5)) then (bif (decide (0≤y0_4)&&decide (y0_4<5)) then (some (.more ([.a (.i .i64 (i64.wrap (y0_4+(1:Int))))],[.row (r0_2.setIfInBounds ((y0_4).toNat*1) (.int .u8 (num a0 ((y0_4).toNat*1)))) 31])))
    else (none))
   else (none))
  else (some (.done ((.exit 0),([.a (.i .i64 (y0_4))],[.row r0_2 31])))))) (by kernel_rfl) ?_
 simp only [Zcg,Zav,Zat,Zau,Zas,Zfz,Zlb]
def Zjq (P:Program) (N:Nat) (a0:Array Value) (z0_4:Int) (q0_2:Array Value):Option (SV×Eff×Bool):=some (.a (.g q0_2 31),.none,true)
theorem Zqk (N:Nat) (a0:Array Value) (z0_4:Int) (q0_2:Array Value):(kBlock 0 (kSeq (veC prog (mkΓ []) N (cAt (codeOf Tryd.f109) [1,1,1]) (pAt (mkPlan (codeOf Tryd.f109) [([4],[2])]).1 [1,1,1]) (SV×Eff×Bool)) (finK prog [] [.cell 2 31]))) (.exit 0) (left (writes (cAt (codeOf Tryd.f109) [1,1,0,1,0,0])) [4] [2] (Zee a0) ([.a (.i .i64 (z0_4))],[.row q0_2 31]))=Zjq prog N a0 z0_4 q0_2:=by
 refine Eq.trans (b:=(some (.a (.g q0_2 31),.none,true))) (by kernel_rfl) ?_
 rfl
theorem Zzi (N:Nat) (a0:Array Value):bindX (iterO (stepV prog (mkΓ []) N (cAt (codeOf Tryd.f109) [1,1,0,1,0,0]) (pAt (mkPlan (codeOf Tryd.f109) [([4],[2])]).1 [1,1,0,1,0]) [4] [2] (Zee a0)) N ([.a (.i .i64 (0:Int))],[.row (#[.int .u8 (0:Int),.int .u8 (0:Int),.int .u8 (0:Int),.int .u8 (0:Int),.int .u8 (0:Int)]:Array Value) 31])) (fun e s=>(kBlock 0 (kSeq (veC prog (mkΓ []) N (cAt (codeOf Tryd.f109) [1,1,1]) (pAt (mkPlan (codeOf Tryd.f109) [([4],[2])]).1 [1,1,1]) (SV×Eff×Bool)) (finK prog [] [.cell 2 31]))) e (left (writes (cAt (codeOf Tryd.f109) [1,1,0,1,0,0])) [4] [2] (Zee a0) s))=nodeX (iterO (Zcg prog a0) N ((0:Int),(#[.int .u8 (0:Int),.int .u8 (0:Int),.int .u8 (0:Int),.int .u8 (0:Int),.int .u8 (0:Int)]:Array Value))) (fun x=>Zjq prog N a0 x.1 x.2):=by
 refine Za4 Zfz Zlb _ _ (Zy1 N a0) N ((0:Int),(#[.int .u8 (0:Int),.int .u8 (0:Int),.int .u8 (0:Int),.int .u8 (0:Int),.int .u8 (0:Int)]:Array Value)) _ _ ?_
 intro x;exact Zqk N a0 x.1 x.2
theorem Zwv (N:Nat) (a0:Array Value):ansV prog (mkΓ []) N Tryd.f109 [([4],[2])] [.g a0 24] []=(nodeX (iterO (Zcg prog a0) N ((0:Int),(#[.int .u8 (0:Int),.int .u8 (0:Int),.int .u8 (0:Int),.int .u8 (0:Int),.int .u8 (0:Int)]:Array Value))) (fun x=>Zjq prog N a0 x.1 x.2)):=by
 refine Eq.trans (b:=(bindX (iterO (stepV prog (mkΓ []) N (cAt (codeOf Tryd.f109) [1,1,0,1,0,0]) (pAt (mkPlan (codeOf Tryd.f109) [([4],[2])]).1 [1,1,0,1,0]) [4] [2] (Zee a0)) N ([.a (.i .i64 (0:Int))],[.row (#[.int .u8 (0:Int),.int .u8 (0:Int),.int .u8 (0:Int),.int .u8 (0:Int),.int .u8 (0:Int)]:Array Value) 31])) (fun e s=>(kBlock 0 (kSeq (veC prog (mkΓ []) N (cAt (codeOf Tryd.f109) [1,1,1]) (pAt (mkPlan (codeOf Tryd.f109) [([4],[2])]).1 [1,1,1]) (SV×Eff×Bool)) (finK prog [] [.cell 2 31]))) e (left (writes (cAt (codeOf Tryd.f109) [1,1,0,1,0,0])) [4] [2] (Zee a0) s)))) (by kernel_rfl) ?_
 simp only [Zzi N a0]
theorem Zug (a0:Array Value) (h_a0:WT prog 24 a0) (hg:(true)=true):ansV prog (mkΓ []) 1000 Tryd.f109 [([4],[2])] [.g a0 24] []=some (.a (.g a0 31),.none,true):=by
 have hs:a0.size=(#[.int .u8 (0:Int),.int .u8 (0:Int),.int .u8 (0:Int),.int .u8 (0:Int),.int .u8 (0:Int)]:Array Value).size:=by rw [h_a0.layLen];kernel_rfl
 have hz:a0.size=5:=by rw [h_a0.layLen];kernel_rfl
 have hL:∀ k,k<5→(lay prog 24)[k*1]? = some 4:=by
  intro k hk
  have h:(List.range 5).all (fun k=>(lay prog 24)[k*1]? == some 4)=true:=by kernel_rfl
  exact eq_of_beq (List.all_eq_true.1 h k (List.mem_range.2 hk))
 have h:=Zb5 (g:=Zcg prog a0) (fun k=>((k:Int),upto a0 (#[.int .u8 (0:Int),.int .u8 (0:Int),.int .u8 (0:Int),.int .u8 (0:Int),.int .u8 (0:Int)]:Array Value) (k*1))) (m:=5) (x:=(((5:Nat):Int),upto a0 (#[.int .u8 (0:Int),.int .u8 (0:Int),.int .u8 (0:Int),.int .u8 (0:Int),.int .u8 (0:Int)]:Array Value) (5*1))) (N:=1000) (fun k hk=>by
  have h1:decide ((k:Int)<5)=true:=decide_eq_true (by omega)
  have h0:decide (0≤(k:Int))=true:=decide_eq_true (by omega)
  have h3:i64.wrap ((k:Int)+1)=((k+1:Nat):Int):=by rw [IntWalk.i64_in _ (by omega)];omega
  have h4:((k:Int)).toNat=k:=Int.toNat_natCast k
  have h5:(upto a0 (#[.int .u8 (0:Int),.int .u8 (0:Int),.int .u8 (0:Int),.int .u8 (0:Int),.int .u8 (0:Int)]:Array Value) (k*1)).setIfInBounds (k*1) (.int .u8 (num a0 (k*1)))=upto a0 (#[.int .u8 (0:Int),.int .u8 (0:Int),.int .u8 (0:Int),.int .u8 (0:Int),.int .u8 (0:Int)]:Array Value) ((k+1)*1):=by
   rw [Nat.add_mul];exact Yb3 hs (h_a0.int (k:=.u8) (hL k hk)).1
  simp only [Zcg,h1,h0,Bool.and_self,h4,cond_true,h3,h5]) (by
  have h1:decide (((5:Nat):Int)<5)=false:=by decide
  simp only [Zcg,h1,cond_false]) (by omega)
 simp only [Nat.zero_mul,Zwn hs,Yb1 hs hz] at h
 refine (Zwv 1000 a0).trans ?_
 have h':iterO (Zcg prog a0) 1000 ((0:Int),(#[.int .u8 (0:Int),.int .u8 (0:Int),.int .u8 (0:Int),.int .u8 (0:Int),.int .u8 (0:Int)]:Array Value))=some (((5:Nat):Int),a0):=h
 rw [h']
 rfl
def Zbm:Con:=fun args h=>match args,h with
 | [.g a0 24],[]=>some (.a (.g a0 31),.none,true)
 | _,_=>none
theorem Ztv:EntX prog 109:=Zai (fn:=Tryd.f109) (by kernel_rfl) (by kernel_rfl) (by kernel_rfl)
theorem Zyg:ConOkX mn prog 109 Zbm:=(Zaj (N:=1000) (by kernel_rfl) mkΓ_nilX (fn:=Tryd.f109) (by kernel_rfl) (by kernel_rfl) [([4],[2])]).of (by
 intro ρ h w args vals r e hA hH hr
 unfold Zbm at hr
 split at hr
 ·rename_i a0
  obtain ⟨rfl,hg⟩:=Prod.mk.inj (Option.some.inj hr)
  obtain ⟨rfl,hg2⟩:=Prod.mk.inj hg
  exact Zug a0 (hA.wt 0 rfl) hg2
 ·cases hr)
def Zcx (a0:Array Value):St:=(⟨.a (.g a0 25) :: .a (.w 0) :: .a (.w 1) :: .a (.w 2) :: .a (.i .i64 (0:Int))::us 11 ([]),[.row a0 25,.row (zc prog 32) 32,.row (zc prog 32) 32],[]⟩:St)
def Zdz:Int×Array Value→LS
 | (y0_4,r0_2)=>([.a (.i .i64 (y0_4))],[.row r0_2 32])
def Zip:Int×Array Value→Exit×LS
 | t=>((.exit 0),Zdz t)
def Zbw (P : Program) (a0 : Array Value) : Int × Array Value → Option (Stp (Int × Array Value) (Int × Array Value))
 | (y0_4, r0_2) => bif decide (y0_4 < (36 : Int)) then (bif (decide (0 ≤ y0_4) && decide (y0_4 < 36)) then (bif (decide (0 ≤ y0_4) && decide (y0_4 < 36)) then (some (.more ((i64.wrap (y0_4 + (1 : Int))), (spl r0_2 ((y0_4).toNat * 5) (a0.extract ((y0_4).toNat * 5) (((y0_4).toNat * 5) + 5)).toList))))
    else (none))
   else (none))
  else (some (.done (y0_4, r0_2)))
theorem Ztc (N:Nat) (a0:Array Value):∀ t:Int×Array Value,stepV prog (mkΓ [(109,con Zbm)]) N (cAt (codeOf Tryd.f75) [1,1,0,1,0,0]) (pAt (mkPlan (codeOf Tryd.f75) [([4],[2])]).1 [1,1,0,1,0]) [4] [2] (Zcx a0) (Zdz t)=mapS Zdz Zip (Zbw prog a0 t):=by
 rintro ⟨y0_4,r0_2⟩
 refine Eq.trans (b:=(bif decide (y0_4<(36:Int)) then (bif (decide (0≤y0_4)&&decide (y0_4<36)) then (bif (decide (0≤y0_4)&&decide (y0_4<36)) then (some (.more ([.a (.i .i64 (i64.wrap (y0_4+(1:Int))))],[.row (spl r0_2 ((y0_4).toNat*5) (a0.extract ((y0_4).toNat*5) (((y0_4).toNat*5)+5)).toList) 32])))
    else (none))
   else (none))
  else (some (.done ((.exit 0),([.a (.i .i64 (y0_4))],[.row r0_2 32])))))) (by kernel_rfl) ?_
 simp only [Zbw,Zav,Zat,Zau,Zas,Zdz,Zip]
def Zg7 (P:Program) (N:Nat) (a0:Array Value) (z0_4:Int) (q0_2:Array Value):Option (SV×Eff×Bool):=some (.a (.g q0_2 32),.none,true)
theorem Zom (N:Nat) (a0:Array Value) (z0_4:Int) (q0_2:Array Value):(kBlock 0 (kSeq (veC prog (mkΓ [(109,con Zbm)]) N (cAt (codeOf Tryd.f75) [1,1,1]) (pAt (mkPlan (codeOf Tryd.f75) [([4],[2])]).1 [1,1,1]) (SV×Eff×Bool)) (finK prog [] [.cell 2 32]))) (.exit 0) (left (writes (cAt (codeOf Tryd.f75) [1,1,0,1,0,0])) [4] [2] (Zcx a0) ([.a (.i .i64 (z0_4))],[.row q0_2 32]))=Zg7 prog N a0 z0_4 q0_2:=by
 refine Eq.trans (b:=(some (.a (.g q0_2 32),.none,true))) (by kernel_rfl) ?_
 rfl
theorem Zs7 (N:Nat) (a0:Array Value):bindX (iterO (stepV prog (mkΓ [(109,con Zbm)]) N (cAt (codeOf Tryd.f75) [1,1,0,1,0,0]) (pAt (mkPlan (codeOf Tryd.f75) [([4],[2])]).1 [1,1,0,1,0]) [4] [2] (Zcx a0)) N ([.a (.i .i64 (0:Int))],[.row (zc prog 32) 32])) (fun e s=>(kBlock 0 (kSeq (veC prog (mkΓ [(109,con Zbm)]) N (cAt (codeOf Tryd.f75) [1,1,1]) (pAt (mkPlan (codeOf Tryd.f75) [([4],[2])]).1 [1,1,1]) (SV×Eff×Bool)) (finK prog [] [.cell 2 32]))) e (left (writes (cAt (codeOf Tryd.f75) [1,1,0,1,0,0])) [4] [2] (Zcx a0) s))=nodeX (iterO (Zbw prog a0) N ((0:Int),(zc prog 32))) (fun x=>Zg7 prog N a0 x.1 x.2):=by
 refine Za4 Zdz Zip _ _ (Ztc N a0) N ((0:Int),(zc prog 32)) _ _ ?_
 intro x;exact Zom N a0 x.1 x.2
theorem Zrn (N:Nat) (a0:Array Value):ansV prog (mkΓ [(109,con Zbm)]) N Tryd.f75 [([4],[2])] [.g a0 25] []=(nodeX (iterO (Zbw prog a0) N ((0:Int),(zc prog 32))) (fun x=>Zg7 prog N a0 x.1 x.2)):=by
 refine Eq.trans (b:=(bindX (iterO (stepV prog (mkΓ [(109,con Zbm)]) N (cAt (codeOf Tryd.f75) [1,1,0,1,0,0]) (pAt (mkPlan (codeOf Tryd.f75) [([4],[2])]).1 [1,1,0,1,0]) [4] [2] (Zcx a0)) N ([.a (.i .i64 (0:Int))],[.row (zc prog 32) 32])) (fun e s=>(kBlock 0 (kSeq (veC prog (mkΓ [(109,con Zbm)]) N (cAt (codeOf Tryd.f75) [1,1,1]) (pAt (mkPlan (codeOf Tryd.f75) [([4],[2])]).1 [1,1,1]) (SV×Eff×Bool)) (finK prog [] [.cell 2 32]))) e (left (writes (cAt (codeOf Tryd.f75) [1,1,0,1,0,0])) [4] [2] (Zcx a0) s)))) (by kernel_rfl) ?_
 simp only [Zs7 N a0]
theorem Zql (a0:Array Value) (h_a0:WT prog 25 a0) (hg:(true)=true):ansV prog (mkΓ [(109,con Zbm)]) 1000 Tryd.f75 [([4],[2])] [.g a0 25] []=some (.a (.g a0 32),.none,true):=by
 have hs:a0.size=(zc prog 32).size:=by rw [h_a0.layLen];kernel_rfl
 have hz:a0.size=180:=by rw [h_a0.layLen];kernel_rfl
 have hL:∀ k,k<36→(lay prog 25)[k*5]? = some 4:=by
  intro k hk
  have h:(List.range 36).all (fun k=>(lay prog 25)[k*5]? == some 4)=true:=by kernel_rfl
  exact eq_of_beq (List.all_eq_true.1 h k (List.mem_range.2 hk))
 have h:=Zb5 (g:=Zbw prog a0) (fun k=>((k:Int),upto a0 (zc prog 32) (k*5))) (m:=36) (x:=(((36:Nat):Int),upto a0 (zc prog 32) (36*5))) (N:=1000) (fun k hk=>by
  have h1:decide ((k:Int)<36)=true:=decide_eq_true (by omega)
  have h0:decide (0≤(k:Int))=true:=decide_eq_true (by omega)
  have h3:i64.wrap ((k:Int)+1)=((k+1:Nat):Int):=by rw [IntWalk.i64_in _ (by omega)];omega
  have h4:((k:Int)).toNat=k:=Int.toNat_natCast k
  have h5:spl (upto a0 (zc prog 32) (k*5)) (k*5) (a0.extract (k*5) (k*5+5)).toList=upto a0 (zc prog 32) ((k+1)*5):=by
   rw [Nat.add_mul];exact Yg2 hs (by omega) rfl
  simp only [Zbw,h1,h0,Bool.and_self,h4,cond_true,h3,h5]) (by
  have h1:decide (((36:Nat):Int)<36)=false:=by decide
  simp only [Zbw,h1,cond_false]) (by omega)
 simp only [Nat.zero_mul,Zwn hs,Yb1 hs hz] at h
 refine (Zrn 1000 a0).trans ?_
 have h':iterO (Zbw prog a0) 1000 ((0:Int),(zc prog 32))=some (((36:Nat):Int),a0):=h
 rw [h']
 rfl
def Za7:Con:=fun args h=>match args,h with
 | [.g a0 25],[]=>some (.a (.g a0 32),.none,true)
 | _,_=>none
theorem Zp8:EntX prog 75:=Zai (fn:=Tryd.f75) (by kernel_rfl) (by kernel_rfl) (by kernel_rfl)
theorem Ztg:ConOkX mn prog 75 Za7:=(Zaj (N:=1000) (by kernel_rfl) (mkΓ_consX (Zad Zyg) Ztv mkΓ_nilX) (fn:=Tryd.f75) (by kernel_rfl) (by kernel_rfl) [([4],[2])]).of (by
 intro ρ h w args vals r e hA hH hr
 unfold Za7 at hr
 split at hr
 ·rename_i a0
  obtain ⟨rfl,hg⟩:=Prod.mk.inj (Option.some.inj hr)
  obtain ⟨rfl,hg2⟩:=Prod.mk.inj hg
  exact Zql a0 (hA.wt 0 rfl) hg2
 ·cases hr)
def Zca (a0:Array Value):St:=(⟨.a (.g a0 26) :: .a (.w 0) :: .a (.w 1) :: .a (.w 2) :: .a (.i .i64 (0:Int))::us 11 ([]),[.row a0 26,.row (zc prog 33) 33,.row (zc prog 33) 33],[]⟩:St)
def Zc6:Int×Array Value→LS
 | (y0_4,r0_2)=>([.a (.i .i64 (y0_4))],[.row r0_2 33])
def Zg9:Int×Array Value→Exit×LS
 | t=>((.exit 0),Zc6 t)
def Zbg (P : Program) (a0 : Array Value) : Int × Array Value → Option (Stp (Int × Array Value) (Int × Array Value))
 | (y0_4, r0_2) => bif decide (y0_4 < (2 : Int)) then (bif (decide (0 ≤ y0_4) && decide (y0_4 < 2)) then (bif (decide (0 ≤ y0_4) && decide (y0_4 < 2)) then (some (.more ((i64.wrap (y0_4 + (1 : Int))), (spl r0_2 ((y0_4).toNat * 180) (a0.extract ((y0_4).toNat * 180) (((y0_4).toNat * 180) + 180)).toList))))
    else (none))
   else (none))
  else (some (.done (y0_4, r0_2)))
theorem Zqx (N:Nat) (a0:Array Value):∀ t:Int×Array Value,stepV prog (mkΓ [(75,con Za7)]) N (cAt (codeOf Tryd.f37) [1,1,0,1,0,0]) (pAt (mkPlan (codeOf Tryd.f37) [([4],[2])]).1 [1,1,0,1,0]) [4] [2] (Zca a0) (Zc6 t)=mapS Zc6 Zg9 (Zbg prog a0 t):=by
 rintro ⟨y0_4,r0_2⟩
 refine Eq.trans (b:=(bif decide (y0_4<(2:Int)) then (bif (decide (0≤y0_4)&&decide (y0_4<2)) then (bif (decide (0≤y0_4)&&decide (y0_4<2)) then (some (.more ([.a (.i .i64 (i64.wrap (y0_4+(1:Int))))],[.row (spl r0_2 ((y0_4).toNat*180) (a0.extract ((y0_4).toNat*180) (((y0_4).toNat*180)+180)).toList) 33])))
    else (none))
   else (none))
  else (some (.done ((.exit 0),([.a (.i .i64 (y0_4))],[.row r0_2 33])))))) (by kernel_rfl) ?_
 simp only [Zbg,Zav,Zat,Zau,Zas,Zc6,Zg9]
def Zf3 (P:Program) (N:Nat) (a0:Array Value) (z0_4:Int) (q0_2:Array Value):Option (SV×Eff×Bool):=some (.a (.g q0_2 33),.none,true)
theorem Znd (N:Nat) (a0:Array Value) (z0_4:Int) (q0_2:Array Value):(kBlock 0 (kSeq (veC prog (mkΓ [(75,con Za7)]) N (cAt (codeOf Tryd.f37) [1,1,1]) (pAt (mkPlan (codeOf Tryd.f37) [([4],[2])]).1 [1,1,1]) (SV×Eff×Bool)) (finK prog [] [.cell 2 33]))) (.exit 0) (left (writes (cAt (codeOf Tryd.f37) [1,1,0,1,0,0])) [4] [2] (Zca a0) ([.a (.i .i64 (z0_4))],[.row q0_2 33]))=Zf3 prog N a0 z0_4 q0_2:=by
 refine Eq.trans (b:=(some (.a (.g q0_2 33),.none,true))) (by kernel_rfl) ?_
 rfl
theorem Zqq (N:Nat) (a0:Array Value):bindX (iterO (stepV prog (mkΓ [(75,con Za7)]) N (cAt (codeOf Tryd.f37) [1,1,0,1,0,0]) (pAt (mkPlan (codeOf Tryd.f37) [([4],[2])]).1 [1,1,0,1,0]) [4] [2] (Zca a0)) N ([.a (.i .i64 (0:Int))],[.row (zc prog 33) 33])) (fun e s=>(kBlock 0 (kSeq (veC prog (mkΓ [(75,con Za7)]) N (cAt (codeOf Tryd.f37) [1,1,1]) (pAt (mkPlan (codeOf Tryd.f37) [([4],[2])]).1 [1,1,1]) (SV×Eff×Bool)) (finK prog [] [.cell 2 33]))) e (left (writes (cAt (codeOf Tryd.f37) [1,1,0,1,0,0])) [4] [2] (Zca a0) s))=nodeX (iterO (Zbg prog a0) N ((0:Int),(zc prog 33))) (fun x=>Zf3 prog N a0 x.1 x.2):=by
 refine Za4 Zc6 Zg9 _ _ (Zqx N a0) N ((0:Int),(zc prog 33)) _ _ ?_
 intro x;exact Znd N a0 x.1 x.2
theorem Zpr (N:Nat) (a0:Array Value):ansV prog (mkΓ [(75,con Za7)]) N Tryd.f37 [([4],[2])] [.g a0 26] []=(nodeX (iterO (Zbg prog a0) N ((0:Int),(zc prog 33))) (fun x=>Zf3 prog N a0 x.1 x.2)):=by
 refine Eq.trans (b:=(bindX (iterO (stepV prog (mkΓ [(75,con Za7)]) N (cAt (codeOf Tryd.f37) [1,1,0,1,0,0]) (pAt (mkPlan (codeOf Tryd.f37) [([4],[2])]).1 [1,1,0,1,0]) [4] [2] (Zca a0)) N ([.a (.i .i64 (0:Int))],[.row (zc prog 33) 33])) (fun e s=>(kBlock 0 (kSeq (veC prog (mkΓ [(75,con Za7)]) N (cAt (codeOf Tryd.f37) [1,1,1]) (pAt (mkPlan (codeOf Tryd.f37) [([4],[2])]).1 [1,1,1]) (SV×Eff×Bool)) (finK prog [] [.cell 2 33]))) e (left (writes (cAt (codeOf Tryd.f37) [1,1,0,1,0,0])) [4] [2] (Zca a0) s)))) (by kernel_rfl) ?_
 simp only [Zqq N a0]
theorem Zpd (a0:Array Value) (h_a0:WT prog 26 a0) (hg:(true)=true):ansV prog (mkΓ [(75,con Za7)]) 1000 Tryd.f37 [([4],[2])] [.g a0 26] []=some (.a (.g a0 33),.none,true):=by
 have hs:a0.size=(zc prog 33).size:=by rw [h_a0.layLen];kernel_rfl
 have hz:a0.size=360:=by rw [h_a0.layLen];kernel_rfl
 have hL:∀ k,k<2→(lay prog 26)[k*180]? = some 4:=by
  intro k hk
  have h:(List.range 2).all (fun k=>(lay prog 26)[k*180]? == some 4)=true:=by kernel_rfl
  exact eq_of_beq (List.all_eq_true.1 h k (List.mem_range.2 hk))
 have h:=Zb5 (g:=Zbg prog a0) (fun k=>((k:Int),upto a0 (zc prog 33) (k*180))) (m:=2) (x:=(((2:Nat):Int),upto a0 (zc prog 33) (2*180))) (N:=1000) (fun k hk=>by
  have h1:decide ((k:Int)<2)=true:=decide_eq_true (by omega)
  have h0:decide (0≤(k:Int))=true:=decide_eq_true (by omega)
  have h3:i64.wrap ((k:Int)+1)=((k+1:Nat):Int):=by rw [IntWalk.i64_in _ (by omega)];omega
  have h4:((k:Int)).toNat=k:=Int.toNat_natCast k
  have h5:spl (upto a0 (zc prog 33) (k*180)) (k*180) (a0.extract (k*180) (k*180+180)).toList=upto a0 (zc prog 33) ((k+1)*180):=by
   rw [Nat.add_mul];exact Yg2 hs (by omega) rfl
  simp only [Zbg,h1,h0,Bool.and_self,h4,cond_true,h3,h5]) (by
  have h1:decide (((2:Nat):Int)<2)=false:=by decide
  simp only [Zbg,h1,cond_false]) (by omega)
 simp only [Nat.zero_mul,Zwn hs,Yb1 hs hz] at h
 refine (Zpr 1000 a0).trans ?_
 have h':iterO (Zbg prog a0) 1000 ((0:Int),(zc prog 33))=some (((2:Nat):Int),a0):=h
 rw [h']
 rfl
def Zgg:Con:=fun args h=>match args,h with
 | [.g a0 26],[]=>some (.a (.g a0 33),.none,true)
 | _,_=>none
theorem Zos:EntX prog 37:=Zai (fn:=Tryd.f37) (by kernel_rfl) (by kernel_rfl) (by kernel_rfl)
theorem Zqy:ConOkX mn prog 37 Zgg:=(Zaj (N:=1000) (by kernel_rfl) (mkΓ_consX (Zad Ztg) Zp8 mkΓ_nilX) (fn:=Tryd.f37) (by kernel_rfl) (by kernel_rfl) [([4],[2])]).of (by
 intro ρ h w args vals r e hA hH hr
 unfold Zgg at hr
 split at hr
 ·rename_i a0
  obtain ⟨rfl,hg⟩:=Prod.mk.inj (Option.some.inj hr)
  obtain ⟨rfl,hg2⟩:=Prod.mk.inj hg
  exact Zpd a0 (hA.wt 0 rfl) hg2
 ·cases hr)
def Zz0:Cons:=(mkΓ [(37,con Zgg)])
theorem Ye8 (N:Nat) (a0:Array Value):ansV prog Zz0 N Tryd.f12 [] [.g a0 28] []=(some (.a (.g (spl ((((zc prog 35).setIfInBounds 0 (.int .i8 (num a0 0))).setIfInBounds 1 (.int .i8 (num a0 1))).setIfInBounds 2 (.int .u64 (num a0 2))) 3 (a0.extract 3 (3+360)).toList) 35),.none,true)):=by kernel_rfl
theorem Ycl (a0:Array Value) (h_a0:WT prog 28 a0) (hg:(true)=true):ansV prog Zz0 1000 Tryd.f12 [] [.g a0 28] []=some (.a (.g a0 35),.none,true):=by
 have hs:a0.size=(zc prog 35).size:=by rw [h_a0.layLen];kernel_rfl
 have hz:a0.size=363:=by rw [h_a0.layLen];kernel_rfl
 have e0:(upto a0 (zc prog 35) 0).setIfInBounds 0 (.int .i8 (num a0 0))=upto a0 (zc prog 35) 1:=Yb3 hs (h_a0.int (k:=.i8) (by kernel_rfl)).1
 rw [Zwn hs] at e0
 have e1:(upto a0 (zc prog 35) 1).setIfInBounds 1 (.int .i8 (num a0 1))=upto a0 (zc prog 35) 2:=Yb3 hs (h_a0.int (k:=.i8) (by kernel_rfl)).1
 have e2:(upto a0 (zc prog 35) 2).setIfInBounds 2 (.int .u64 (num a0 2))=upto a0 (zc prog 35) 3:=Yb3 hs (h_a0.int (k:=.u64) (by kernel_rfl)).1
 have e3:spl (upto a0 (zc prog 35) 3) 3 (a0.extract 3 (3+360)).toList=upto a0 (zc prog 35) 363:=Yg2 hs (by omega) rfl
 refine (Ye8 1000 a0).trans ?_
 rw [e0,e1,e2,e3,Yb1 hs hz]
def Zi5:Con:=fun args h=>match args,h with
 | [.g a0 28],[]=>some (.a (.g a0 35),.none,true)
 | _,_=>none
theorem Zls:EntX prog 12:=Zai (fn:=Tryd.f12) (by kernel_rfl) (by kernel_rfl) (by kernel_rfl)
theorem Zp4:ConOkX mn prog 12 Zi5:=(Zaj (N:=1000) (by kernel_rfl) (mkΓ_consX (Zad Zqy) Zos mkΓ_nilX) (fn:=Tryd.f12) (by kernel_rfl) (by kernel_rfl) []).of (by
 intro ρ h w args vals r e hA hH hr
 unfold Zi5 at hr
 split at hr
 ·rename_i a0
  obtain ⟨rfl,hg⟩:=Prod.mk.inj (Option.some.inj hr)
  obtain ⟨rfl,hg2⟩:=Prod.mk.inj hg
  exact Ycl a0 (hA.wt 0 rfl) hg2
 ·cases hr)
theorem wrap12:∀ k,k<14→i64.wrap ((12:Int)^k*12)=12^(k+1):=by decide
def Ze3 (a0:Int):St:=(⟨.a (.i .i64 (a0)) :: .a (.u) :: .a (.i .i64 (0:Int)) :: .a (.i .i64 (1:Int)) :: .a (.i .i64 (0:Int))::us 8 ([]),[],[]⟩:St)
def Zgp:Int×Int→LS
 | (y0_3,y0_4)=>([.a (.i .i64 (y0_3)),.a (.i .i64 (y0_4))],[])
def Zl9:Int×Int→Exit×LS
 | t=>((.exit 0),Zgp t)
def Zc2 (P:Program) (a0:Int):Int×Int→Option (Stp (Int×Int) (Int×Int))
 | (y0_3,y0_4)=>bif decide (y0_4<a0) then (some (.more ((i64.wrap (y0_3*(12:Int))),(i64.wrap (y0_4+(1:Int))))))
  else (some (.done (y0_3,y0_4)))
theorem Yaa (N:Nat) (a0:Int):∀ t:Int×Int,stepV prog (mkΓ []) N (cAt (codeOf Tryd.f44) [1,1,0,1,0,0]) (pAt (mkPlan (codeOf Tryd.f44) [([3,4],[])]).1 [1,1,0,1,0]) [3,4] [] (Ze3 a0) (Zgp t)=mapS Zgp Zl9 (Zc2 prog a0 t):=by
 rintro ⟨y0_3,y0_4⟩
 refine Eq.trans (b:=(bif decide (y0_4<a0) then (some (.more ([.a (.i .i64 (i64.wrap (y0_3*(12:Int)))),.a (.i .i64 (i64.wrap (y0_4+(1:Int))))],[])))
  else (some (.done ((.exit 0),([.a (.i .i64 (y0_3)),.a (.i .i64 (y0_4))],[])))))) (by kernel_rfl) ?_
 simp only [Zc2,Zav,Zat,Zau,Zas,Zgp,Zl9]
def Zka (P:Program) (N:Nat) (a0:Int) (z0_3:Int) (z0_4:Int):Option (SV×Eff×Bool):=some (.a (.i .i64 (z0_3)),.none,true)
theorem Zrd (N:Nat) (a0:Int) (z0_3:Int) (z0_4:Int):(kBlock 0 (kSeq (veC prog (mkΓ []) N (cAt (codeOf Tryd.f44) [1,1,1]) (pAt (mkPlan (codeOf Tryd.f44) [([3,4],[])]).1 [1,1,1]) (SV×Eff×Bool)) (finK prog [] [.tmp 2]))) (.exit 0) (left (writes (cAt (codeOf Tryd.f44) [1,1,0,1,0,0])) [3,4] [] (Ze3 a0) ([.a (.i .i64 (z0_3)),.a (.i .i64 (z0_4))],[]))=Zka prog N a0 z0_3 z0_4:=by
 refine Eq.trans (b:=(some (.a (.i .i64 (z0_3)),.none,true))) (by kernel_rfl) ?_
 rfl
theorem Yba (N:Nat) (a0:Int):bindX (iterO (stepV prog (mkΓ []) N (cAt (codeOf Tryd.f44) [1,1,0,1,0,0]) (pAt (mkPlan (codeOf Tryd.f44) [([3,4],[])]).1 [1,1,0,1,0]) [3,4] [] (Ze3 a0)) N ([.a (.i .i64 (1:Int)),.a (.i .i64 (0:Int))],[])) (fun e s=>(kBlock 0 (kSeq (veC prog (mkΓ []) N (cAt (codeOf Tryd.f44) [1,1,1]) (pAt (mkPlan (codeOf Tryd.f44) [([3,4],[])]).1 [1,1,1]) (SV×Eff×Bool)) (finK prog [] [.tmp 2]))) e (left (writes (cAt (codeOf Tryd.f44) [1,1,0,1,0,0])) [3,4] [] (Ze3 a0) s))=nodeX (iterO (Zc2 prog a0) N ((1:Int),(0:Int))) (fun x=>Zka prog N a0 x.1 x.2):=by
 refine Za4 Zgp Zl9 _ _ (Yaa N a0) N ((1:Int),(0:Int)) _ _ ?_
 intro x;exact Zrd N a0 x.1 x.2
theorem Zzr (N:Nat) (a0:Int):ansV prog (mkΓ []) N Tryd.f44 [([3,4],[])] [.i .i64 (a0)] []=(nodeX (iterO (Zc2 prog a0) N ((1:Int),(0:Int))) (fun x=>Zka prog N a0 x.1 x.2)):=by
 refine Eq.trans (b:=(bindX (iterO (stepV prog (mkΓ []) N (cAt (codeOf Tryd.f44) [1,1,0,1,0,0]) (pAt (mkPlan (codeOf Tryd.f44) [([3,4],[])]).1 [1,1,0,1,0]) [3,4] [] (Ze3 a0)) N ([.a (.i .i64 (1:Int)),.a (.i .i64 (0:Int))],[])) (fun e s=>(kBlock 0 (kSeq (veC prog (mkΓ []) N (cAt (codeOf Tryd.f44) [1,1,1]) (pAt (mkPlan (codeOf Tryd.f44) [([3,4],[])]).1 [1,1,1]) (SV×Eff×Bool)) (finK prog [] [.tmp 2]))) e (left (writes (cAt (codeOf Tryd.f44) [1,1,0,1,0,0])) [3,4] [] (Ze3 a0) s)))) (by kernel_rfl) ?_
 simp only [Yba N a0]
theorem Zxv (a0:Int) (h_a0:i64.min≤a0∧a0≤i64.max) (hg:((decide (0≤a0)&&decide (a0≤14)))=true):ansV prog (mkΓ []) 1000 Tryd.f44 [([3,4],[])] [.i .i64 (a0)] []=some (.a (.i .i64 (12^a0.toNat)),.none,true):=by
 simp only [Bool.and_eq_true,decide_eq_true_eq] at hg
 obtain ⟨h0,h14⟩:=hg
 obtain ⟨m,rfl⟩:=Int.eq_ofNat_of_zero_le h0
 refine (Zzr 1000 _).trans ?_
 have h:=Zb5 (g:=Zc2 prog (m:Int)) (fun k=>((12:Int)^k,(k:Int))) (m:=m) (x:=((12:Int)^m,(m:Int))) (N:=1000) (fun k hk=>by
  have h1:decide ((k:Int)<(m:Int))=true:=decide_eq_true (by omega)
  have h2:i64.wrap ((k:Int)+1)=((k+1:Nat):Int):=by rw [IntWalk.i64_in _ (by omega)];omega
  simp only [Zc2,h1,cond_true,wrap12 k (by omega),h2]) (by
  have h1:decide ((m:Int)<(m:Int))=false:=decide_eq_false (by omega)
  simp only [Zc2,h1,cond_false]) (by omega)
 have h':iterO (Zc2 prog (m:Int)) 1000 ((1:Int),(0:Int))=some ((12:Int)^m,(m:Int)):=h
 rw [h']
 rfl
def Zk8:Con:=fun args h=>match args,h with
 | [.i .i64 a0],[]=>some (.a (.i .i64 (12^a0.toNat)),.none,(decide (0≤a0)&&decide (a0≤14)))
 | _,_=>none
theorem Zup:EntX prog 44:=Zai (fn:=Tryd.f44) (by kernel_rfl) (by kernel_rfl) (by kernel_rfl)
theorem Ybu:ConOkX mn prog 44 Zk8:=(Zaj (N:=1000) (by kernel_rfl) mkΓ_nilX (fn:=Tryd.f44) (by kernel_rfl) (by kernel_rfl) [([3,4],[])]).of (by
 intro ρ h w args vals r e hA hH hr
 unfold Zk8 at hr
 split at hr
 ·rename_i a0
  obtain ⟨rfl,hg⟩:=Prod.mk.inj (Option.some.inj hr)
  obtain ⟨rfl,hg2⟩:=Prod.mk.inj hg
  exact Zxv a0 (hA.rng 0 rfl) hg2
 ·cases hr)
def Zds (a0:Int):St:=(⟨.a (.i .i64 (a0)) :: .a (.u) :: .a (.i .i64 (0:Int)) :: .a (.i .i64 (1:Int)) :: .a (.i .i64 (a0)) :: .a (.i .i64 (0:Int))::us 5 ([]),[],[]⟩:St)
def Zfm:Int×Int→LS
 | (y0_3,y0_5)=>([.a (.i .i64 (y0_3)),.a (.i .i64 (y0_5))],[])
def Zks:Int×Int→Exit×LS
 | t=>((.exit 0),Zfm t)
def Zb8 (P:Program) (a0:Int):Int×Int→Option (Stp (Int×Int) (Int×Int))
 | (y0_3,y0_5)=>bif decide (y0_5<a0) then (some (.more ((i64.wrap (y0_3*(12:Int))),(i64.wrap (y0_5+(1:Int))))))
  else (some (.done (y0_3,y0_5)))
theorem Zwd (N:Nat) (a0:Int):∀ t:Int×Int,stepV prog (mkΓ []) N (cAt (codeOf Tryd.f48) [1,1,0,1,0,0]) (pAt (mkPlan (codeOf Tryd.f48) [([3,5],[])]).1 [1,1,0,1,0]) [3,5] [] (Zds a0) (Zfm t)=mapS Zfm Zks (Zb8 prog a0 t):=by
 rintro ⟨y0_3,y0_5⟩
 refine Eq.trans (b:=(bif decide (y0_5<a0) then (some (.more ([.a (.i .i64 (i64.wrap (y0_3*(12:Int)))),.a (.i .i64 (i64.wrap (y0_5+(1:Int))))],[])))
  else (some (.done ((.exit 0),([.a (.i .i64 (y0_3)),.a (.i .i64 (y0_5))],[])))))) (by kernel_rfl) ?_
 simp only [Zb8,Zav,Zat,Zau,Zas,Zfm,Zks]
def Ziy (P:Program) (N:Nat) (a0:Int) (z0_3:Int) (z0_5:Int):Option (SV×Eff×Bool):=some (.a (.i .i64 (z0_3)),.none,true)
theorem Zp0 (N:Nat) (a0:Int) (z0_3:Int) (z0_5:Int):(kBlock 0 (kSeq (veC prog (mkΓ []) N (cAt (codeOf Tryd.f48) [1,1,1]) (pAt (mkPlan (codeOf Tryd.f48) [([3,5],[])]).1 [1,1,1]) (SV×Eff×Bool)) (finK prog [] [.tmp 2]))) (.exit 0) (left (writes (cAt (codeOf Tryd.f48) [1,1,0,1,0,0])) [3,5] [] (Zds a0) ([.a (.i .i64 (z0_3)),.a (.i .i64 (z0_5))],[]))=Ziy prog N a0 z0_3 z0_5:=by
 refine Eq.trans (b:=(some (.a (.i .i64 (z0_3)),.none,true))) (by kernel_rfl) ?_
 rfl
theorem Zxf (N:Nat) (a0:Int):bindX (iterO (stepV prog (mkΓ []) N (cAt (codeOf Tryd.f48) [1,1,0,1,0,0]) (pAt (mkPlan (codeOf Tryd.f48) [([3,5],[])]).1 [1,1,0,1,0]) [3,5] [] (Zds a0)) N ([.a (.i .i64 (1:Int)),.a (.i .i64 (0:Int))],[])) (fun e s=>(kBlock 0 (kSeq (veC prog (mkΓ []) N (cAt (codeOf Tryd.f48) [1,1,1]) (pAt (mkPlan (codeOf Tryd.f48) [([3,5],[])]).1 [1,1,1]) (SV×Eff×Bool)) (finK prog [] [.tmp 2]))) e (left (writes (cAt (codeOf Tryd.f48) [1,1,0,1,0,0])) [3,5] [] (Zds a0) s))=nodeX (iterO (Zb8 prog a0) N ((1:Int),(0:Int))) (fun x=>Ziy prog N a0 x.1 x.2):=by
 refine Za4 Zfm Zks _ _ (Zwd N a0) N ((1:Int),(0:Int)) _ _ ?_
 intro x;exact Zp0 N a0 x.1 x.2
theorem Zui (N:Nat) (a0:Int):ansV prog (mkΓ []) N Tryd.f48 [([3,5],[])] [.i .i64 (a0)] []=(nodeX (iterO (Zb8 prog a0) N ((1:Int),(0:Int))) (fun x=>Ziy prog N a0 x.1 x.2)):=by
 refine Eq.trans (b:=(bindX (iterO (stepV prog (mkΓ []) N (cAt (codeOf Tryd.f48) [1,1,0,1,0,0]) (pAt (mkPlan (codeOf Tryd.f48) [([3,5],[])]).1 [1,1,0,1,0]) [3,5] [] (Zds a0)) N ([.a (.i .i64 (1:Int)),.a (.i .i64 (0:Int))],[])) (fun e s=>(kBlock 0 (kSeq (veC prog (mkΓ []) N (cAt (codeOf Tryd.f48) [1,1,1]) (pAt (mkPlan (codeOf Tryd.f48) [([3,5],[])]).1 [1,1,1]) (SV×Eff×Bool)) (finK prog [] [.tmp 2]))) e (left (writes (cAt (codeOf Tryd.f48) [1,1,0,1,0,0])) [3,5] [] (Zds a0) s)))) (by kernel_rfl) ?_
 simp only [Zxf N a0]
theorem Zt3 (a0:Int) (h_a0:i64.min≤a0∧a0≤i64.max) (hg:((decide (0≤a0)&&decide (a0≤14)))=true):ansV prog (mkΓ []) 1000 Tryd.f48 [([3,5],[])] [.i .i64 (a0)] []=some (.a (.i .i64 (12^a0.toNat)),.none,true):=by
 simp only [Bool.and_eq_true,decide_eq_true_eq] at hg
 obtain ⟨h0,h14⟩:=hg
 obtain ⟨m,rfl⟩:=Int.eq_ofNat_of_zero_le h0
 refine (Zui 1000 _).trans ?_
 have h:=Zb5 (g:=Zb8 prog (m:Int)) (fun k=>((12:Int)^k,(k:Int))) (m:=m) (x:=((12:Int)^m,(m:Int))) (N:=1000) (fun k hk=>by
  have h1:decide ((k:Int)<(m:Int))=true:=decide_eq_true (by omega)
  have h2:i64.wrap ((k:Int)+1)=((k+1:Nat):Int):=by rw [IntWalk.i64_in _ (by omega)];omega
  simp only [Zb8,h1,cond_true,wrap12 k (by omega),h2]) (by
  have h1:decide ((m:Int)<(m:Int))=false:=decide_eq_false (by omega)
  simp only [Zb8,h1,cond_false]) (by omega)
 have h':iterO (Zb8 prog (m:Int)) 1000 ((1:Int),(0:Int))=some ((12:Int)^m,(m:Int)):=h
 rw [h']
 rfl
def Za9:Con:=fun args h=>match args,h with
 | [.i .i64 a0],[]=>some (.a (.i .i64 (12^a0.toNat)),.none,(decide (0≤a0)&&decide (a0≤14)))
 | _,_=>none
theorem Zlo:EntX prog 48:=Zai (fn:=Tryd.f48) (by kernel_rfl) (by kernel_rfl) (by kernel_rfl)
theorem Zoa:ConOkX mn prog 48 Za9:=(Zaj (N:=1000) (by kernel_rfl) mkΓ_nilX (fn:=Tryd.f48) (by kernel_rfl) (by kernel_rfl) [([3,5],[])]).of (by
 intro ρ h w args vals r e hA hH hr
 unfold Za9 at hr
 split at hr
 ·rename_i a0
  obtain ⟨rfl,hg⟩:=Prod.mk.inj (Option.some.inj hr)
  obtain ⟨rfl,hg2⟩:=Prod.mk.inj hg
  exact Zt3 a0 (hA.rng 0 rfl) hg2
 ·cases hr)
theorem Zft {x a b:Int} (h:Zaa x a b=true):a≤x∧x≤b:=by
 unfold Zaa at h
 cases h0:decide (x ≥ a) with
 | false=>rw [h0] at h;exact nomatch h
 | true=>rw [h0] at h;exact ⟨of_decide_eq_true h0,of_decide_eq_true h⟩
theorem cell_num {D:Array Value} {T:TypeId} (hz:D.size=40) (k:Nat) (hk:k<36):num (D.extract 3 (3+36)) (k*1)=num D (3+k*1):=by
 unfold num
 rw [Array.getElem?_extract,if_pos (by omega)]
end
end Go.Proofs.YtdofpgniogochaaDoor
