import Derived.Test.YtdofpgniogochaaDoorProg
import Derived.Test.YtdofpgniogochaaDoorCxC
namespace Go.Proofs.YtdofpgniogochaaDoor
open Go.ChangeShapes Go.WideShapes Go.ChangeAt Go.RowKit Ve Vc
open Tryd (prog)
open IntKind (i64)
set_option linter.unusedVariables false
set_option linter.unusedSimpArgs false
set_option maxRecDepth 100000
noncomputable section
variable {mn:Md}
def Zd1 (a0:Array Value):St:=(⟨.a (.g a0 24) :: .a (.w 0) :: .a (.w 1) :: .a (.w 2) :: .a (.i .i64 (0:Int))::us 10 ([]),[.row a0 24,.row #[.int .u8 (0:Int),.int .u8 (0:Int),.int .u8 (0:Int),.int .u8 (0:Int),.int .u8 (0:Int)] 31,.row #[.int .u8 (0:Int),.int .u8 (0:Int),.int .u8 (0:Int),.int .u8 (0:Int),.int .u8 (0:Int)] 31],[]⟩:St)
def Zfd:Int×Array Value→LS
 | (y0_4,r0_2)=>([.a (.i .i64 (y0_4))],[.row r0_2 31])
def Zj5:Int×Array Value→Exit×LS
 | t=>((.exit 0),Zfd t)
def Zb7 (P : Program) (a0 : Array Value) : Int × Array Value → Option (Stp (Int × Array Value) (Int × Array Value))
 | (y0_4, r0_2) => bif decide (y0_4 < (5 : Int)) then (bif (decide (0 ≤ y0_4) && decide (y0_4 < 5)) then (bif (decide (0 ≤ y0_4) && decide (y0_4 < 5)) then (some (.more ((i64.wrap (y0_4 + (1 : Int))), (r0_2.setIfInBounds ((y0_4).toNat * 1) (.int .u8 (num a0 ((y0_4).toNat * 1)))))))
    else (none))
   else (none))
  else (some (.done (y0_4, r0_2)))
theorem Zxq (N:Nat) (a0:Array Value):∀ t:Int×Array Value,stepV prog (mkΓ []) N (cAt (codeOf Tryd.f109) [1,1,0,1,0,0]) (pAt (mkPlan (codeOf Tryd.f109) [([4],[2])]).1 [1,1,0,1,0]) [4] [2] (Zd1 a0) (Zfd t)=mapS Zfd Zj5 (Zb7 prog a0 t):=by
 rintro ⟨y0_4,r0_2⟩
 refine Eq.trans (b:=(bif decide (y0_4<(5:Int)) then (bif (decide (0≤y0_4)&&decide (y0_4<5)) then (bif (decide (0≤y0_4)&&decide (y0_4<5)) then (some (.more ([.a (.i .i64 (i64.wrap (y0_4+(1:Int))))],[.row (r0_2.setIfInBounds ((y0_4).toNat*1) (.int .u8 (num a0 ((y0_4).toNat*1)))) 31])))
    else (none))
   else (none))
  else (some (.done ((.exit 0),([.a (.i .i64 (y0_4))],[.row r0_2 31])))))) (by kernel_rfl) ?_
 simp only [Zb7,Zav,Zas,Zat,Zau,Zfd,Zj5]
def Zir (P:Program) (N:Nat) (a0:Array Value) (z0_4:Int) (q0_2:Array Value):Option (SV×Eff×Bool):=some (.a (.g q0_2 31),.none,true)
theorem Zph (N:Nat) (a0:Array Value) (z0_4:Int) (q0_2:Array Value):(kBlock 0 (kSeq (veC prog (mkΓ []) N (cAt (codeOf Tryd.f109) [1,1,1]) (pAt (mkPlan (codeOf Tryd.f109) [([4],[2])]).1 [1,1,1]) (SV×Eff×Bool)) (finK prog [] [.cell 2 31]))) (.exit 0) (left (writes (cAt (codeOf Tryd.f109) [1,1,0,1,0,0])) [4] [2] (Zd1 a0) ([.a (.i .i64 (z0_4))],[.row q0_2 31]))=Zir prog N a0 z0_4 q0_2:=by
 refine Eq.trans (b:=(some (.a (.g q0_2 31),.none,true))) (by kernel_rfl) ?_
 rfl
theorem Zxw (N:Nat) (a0:Array Value):bindX (iterO (stepV prog (mkΓ []) N (cAt (codeOf Tryd.f109) [1,1,0,1,0,0]) (pAt (mkPlan (codeOf Tryd.f109) [([4],[2])]).1 [1,1,0,1,0]) [4] [2] (Zd1 a0)) N ([.a (.i .i64 (0:Int))],[.row (#[.int .u8 (0:Int),.int .u8 (0:Int),.int .u8 (0:Int),.int .u8 (0:Int),.int .u8 (0:Int)]:Array Value) 31])) (fun e s=>(kBlock 0 (kSeq (veC prog (mkΓ []) N (cAt (codeOf Tryd.f109) [1,1,1]) (pAt (mkPlan (codeOf Tryd.f109) [([4],[2])]).1 [1,1,1]) (SV×Eff×Bool)) (finK prog [] [.cell 2 31]))) e (left (writes (cAt (codeOf Tryd.f109) [1,1,0,1,0,0])) [4] [2] (Zd1 a0) s))=nodeX (iterO (Zb7 prog a0) N ((0:Int),(#[.int .u8 (0:Int),.int .u8 (0:Int),.int .u8 (0:Int),.int .u8 (0:Int),.int .u8 (0:Int)]:Array Value))) (fun x=>Zir prog N a0 x.1 x.2):=by
 refine Za9 Zfd Zj5 _ _ (Zxq N a0) N ((0:Int),(#[.int .u8 (0:Int),.int .u8 (0:Int),.int .u8 (0:Int),.int .u8 (0:Int),.int .u8 (0:Int)]:Array Value)) _ _ ?_
 intro x;exact Zph N a0 x.1 x.2
theorem Zwd (N:Nat) (a0:Array Value):ansV prog (mkΓ []) N Tryd.f109 [([4],[2])] [.g a0 24] []=(nodeX (iterO (Zb7 prog a0) N ((0:Int),(#[.int .u8 (0:Int),.int .u8 (0:Int),.int .u8 (0:Int),.int .u8 (0:Int),.int .u8 (0:Int)]:Array Value))) (fun x=>Zir prog N a0 x.1 x.2)):=by
 refine Eq.trans (b:=(bindX (iterO (stepV prog (mkΓ []) N (cAt (codeOf Tryd.f109) [1,1,0,1,0,0]) (pAt (mkPlan (codeOf Tryd.f109) [([4],[2])]).1 [1,1,0,1,0]) [4] [2] (Zd1 a0)) N ([.a (.i .i64 (0:Int))],[.row (#[.int .u8 (0:Int),.int .u8 (0:Int),.int .u8 (0:Int),.int .u8 (0:Int),.int .u8 (0:Int)]:Array Value) 31])) (fun e s=>(kBlock 0 (kSeq (veC prog (mkΓ []) N (cAt (codeOf Tryd.f109) [1,1,1]) (pAt (mkPlan (codeOf Tryd.f109) [([4],[2])]).1 [1,1,1]) (SV×Eff×Bool)) (finK prog [] [.cell 2 31]))) e (left (writes (cAt (codeOf Tryd.f109) [1,1,0,1,0,0])) [4] [2] (Zd1 a0) s)))) (by kernel_rfl) ?_
 simp only [Zxw N a0]
theorem Zto (a0:Array Value) (h_a0:WT prog 24 a0) (hg:(true)=true):ansV prog (mkΓ []) 1000 Tryd.f109 [([4],[2])] [.g a0 24] []=some (.a (.g a0 31),.none,true):=by
 have hs:a0.size=(#[.int .u8 (0:Int),.int .u8 (0:Int),.int .u8 (0:Int),.int .u8 (0:Int),.int .u8 (0:Int)]:Array Value).size:=by rw [h_a0.layLen];kernel_rfl
 have hz:a0.size=5:=by rw [h_a0.layLen];kernel_rfl
 have hL:∀ k,k<5→(lay prog 24)[k*1]? = some 4:=by
  intro k hk
  have h:(List.range 5).all (fun k=>(lay prog 24)[k*1]? == some 4)=true:=by kernel_rfl
  exact eq_of_beq (List.all_eq_true.1 h k (List.mem_range.2 hk))
 have h:=Zb9 (g:=Zb7 prog a0) (fun k=>((k:Int),upto a0 (#[.int .u8 (0:Int),.int .u8 (0:Int),.int .u8 (0:Int),.int .u8 (0:Int),.int .u8 (0:Int)]:Array Value) (k*1))) (m:=5) (x:=(((5:Nat):Int),upto a0 (#[.int .u8 (0:Int),.int .u8 (0:Int),.int .u8 (0:Int),.int .u8 (0:Int),.int .u8 (0:Int)]:Array Value) (5*1))) (N:=1000) (fun k hk=>by
  have h1:decide ((k:Int)<5)=true:=decide_eq_true (by omega)
  have h0:decide (0≤(k:Int))=true:=decide_eq_true (by omega)
  have h3:i64.wrap ((k:Int)+1)=((k+1:Nat):Int):=by rw [IntWalk.i64_in _ (by omega)];omega
  have h4:((k:Int)).toNat=k:=Int.toNat_natCast k
  have h5:(upto a0 (#[.int .u8 (0:Int),.int .u8 (0:Int),.int .u8 (0:Int),.int .u8 (0:Int),.int .u8 (0:Int)]:Array Value) (k*1)).setIfInBounds (k*1) (.int .u8 (num a0 (k*1)))=upto a0 (#[.int .u8 (0:Int),.int .u8 (0:Int),.int .u8 (0:Int),.int .u8 (0:Int),.int .u8 (0:Int)]:Array Value) ((k+1)*1):=by
   rw [Nat.add_mul];exact Yam hs (h_a0.int (k:=.u8) (hL k hk)).1
  simp only [Zb7,h1,h0,Bool.and_self,h4,cond_true,h3,h5]) (by
  have h1:decide (((5:Nat):Int)<5)=false:=by decide
  simp only [Zb7,h1,cond_false]) (by omega)
 simp only [Nat.zero_mul,Zvy hs,Yak hs hz] at h
 refine (Zwd 1000 a0).trans ?_
 have h':iterO (Zb7 prog a0) 1000 ((0:Int),(#[.int .u8 (0:Int),.int .u8 (0:Int),.int .u8 (0:Int),.int .u8 (0:Int),.int .u8 (0:Int)]:Array Value))=some (((5:Nat):Int),a0):=h
 rw [h']
 rfl
def Zbk:Con:=fun args h=>match args,h with
 | [.g a0 24],[]=>some (.a (.g a0 31),.none,true)
 | _,_=>none
theorem Zsl:EntX prog 109:=Zai (fn:=Tryd.f109) (by kernel_rfl) (by kernel_rfl) (by kernel_rfl)
theorem Zx6:ConOkX mn prog 109 Zbk:=(Zaj (N:=1000) (by kernel_rfl) mkΓ_nilX (fn:=Tryd.f109) (by kernel_rfl) (by kernel_rfl) [([4],[2])]).of (by
 intro ρ h w args vals r e hA hH hr
 unfold Zbk at hr
 split at hr
 ·rename_i a0
  obtain ⟨rfl,hg⟩:=Prod.mk.inj (Option.some.inj hr)
  obtain ⟨rfl,hg2⟩:=Prod.mk.inj hg
  exact Zto a0 (hA.wt 0 rfl) hg2
 ·cases hr)
def Zco (a0:Array Value):St:=(⟨.a (.g a0 25) :: .a (.w 0) :: .a (.w 1) :: .a (.w 2) :: .a (.i .i64 (0:Int))::us 11 ([]),[.row a0 25,.row (zc prog 32) 32,.row (zc prog 32) 32],[]⟩:St)
def Zdn:Int×Array Value→LS
 | (y0_4,r0_2)=>([.a (.i .i64 (y0_4))],[.row r0_2 32])
def Zh7:Int×Array Value→Exit×LS
 | t=>((.exit 0),Zdn t)
def Zbs (P : Program) (a0 : Array Value) : Int × Array Value → Option (Stp (Int × Array Value) (Int × Array Value))
 | (y0_4, r0_2) => bif decide (y0_4 < (36 : Int)) then (bif (decide (0 ≤ y0_4) && decide (y0_4 < 36)) then (bif (decide (0 ≤ y0_4) && decide (y0_4 < 36)) then (some (.more ((i64.wrap (y0_4 + (1 : Int))), (spl r0_2 ((y0_4).toNat * 5) (a0.extract ((y0_4).toNat * 5) (((y0_4).toNat * 5) + 5)).toList))))
    else (none))
   else (none))
  else (some (.done (y0_4, r0_2)))
theorem Zse (N:Nat) (a0:Array Value):∀ t:Int×Array Value,stepV prog (mkΓ [(109,con Zbk)]) N (cAt (codeOf Tryd.f75) [1,1,0,1,0,0]) (pAt (mkPlan (codeOf Tryd.f75) [([4],[2])]).1 [1,1,0,1,0]) [4] [2] (Zco a0) (Zdn t)=mapS Zdn Zh7 (Zbs prog a0 t):=by
 rintro ⟨y0_4,r0_2⟩
 refine Eq.trans (b:=(bif decide (y0_4<(36:Int)) then (bif (decide (0≤y0_4)&&decide (y0_4<36)) then (bif (decide (0≤y0_4)&&decide (y0_4<36)) then (some (.more ([.a (.i .i64 (i64.wrap (y0_4+(1:Int))))],[.row (spl r0_2 ((y0_4).toNat*5) (a0.extract ((y0_4).toNat*5) (((y0_4).toNat*5)+5)).toList) 32])))
    else (none))
   else (none))
  else (some (.done ((.exit 0),([.a (.i .i64 (y0_4))],[.row r0_2 32])))))) (by kernel_rfl) ?_
 simp only [Zbs,Zav,Zas,Zat,Zau,Zdn,Zh7]
def Zgr (P:Program) (N:Nat) (a0:Array Value) (z0_4:Int) (q0_2:Array Value):Option (SV×Eff×Bool):=some (.a (.g q0_2 32),.none,true)
theorem Zno (N:Nat) (a0:Array Value) (z0_4:Int) (q0_2:Array Value):(kBlock 0 (kSeq (veC prog (mkΓ [(109,con Zbk)]) N (cAt (codeOf Tryd.f75) [1,1,1]) (pAt (mkPlan (codeOf Tryd.f75) [([4],[2])]).1 [1,1,1]) (SV×Eff×Bool)) (finK prog [] [.cell 2 32]))) (.exit 0) (left (writes (cAt (codeOf Tryd.f75) [1,1,0,1,0,0])) [4] [2] (Zco a0) ([.a (.i .i64 (z0_4))],[.row q0_2 32]))=Zgr prog N a0 z0_4 q0_2:=by
 refine Eq.trans (b:=(some (.a (.g q0_2 32),.none,true))) (by kernel_rfl) ?_
 rfl
theorem Zsd (N:Nat) (a0:Array Value):bindX (iterO (stepV prog (mkΓ [(109,con Zbk)]) N (cAt (codeOf Tryd.f75) [1,1,0,1,0,0]) (pAt (mkPlan (codeOf Tryd.f75) [([4],[2])]).1 [1,1,0,1,0]) [4] [2] (Zco a0)) N ([.a (.i .i64 (0:Int))],[.row (zc prog 32) 32])) (fun e s=>(kBlock 0 (kSeq (veC prog (mkΓ [(109,con Zbk)]) N (cAt (codeOf Tryd.f75) [1,1,1]) (pAt (mkPlan (codeOf Tryd.f75) [([4],[2])]).1 [1,1,1]) (SV×Eff×Bool)) (finK prog [] [.cell 2 32]))) e (left (writes (cAt (codeOf Tryd.f75) [1,1,0,1,0,0])) [4] [2] (Zco a0) s))=nodeX (iterO (Zbs prog a0) N ((0:Int),(zc prog 32))) (fun x=>Zgr prog N a0 x.1 x.2):=by
 refine Za9 Zdn Zh7 _ _ (Zse N a0) N ((0:Int),(zc prog 32)) _ _ ?_
 intro x;exact Zno N a0 x.1 x.2
theorem Zpt (N:Nat) (a0:Array Value):ansV prog (mkΓ [(109,con Zbk)]) N Tryd.f75 [([4],[2])] [.g a0 25] []=(nodeX (iterO (Zbs prog a0) N ((0:Int),(zc prog 32))) (fun x=>Zgr prog N a0 x.1 x.2)):=by
 refine Eq.trans (b:=(bindX (iterO (stepV prog (mkΓ [(109,con Zbk)]) N (cAt (codeOf Tryd.f75) [1,1,0,1,0,0]) (pAt (mkPlan (codeOf Tryd.f75) [([4],[2])]).1 [1,1,0,1,0]) [4] [2] (Zco a0)) N ([.a (.i .i64 (0:Int))],[.row (zc prog 32) 32])) (fun e s=>(kBlock 0 (kSeq (veC prog (mkΓ [(109,con Zbk)]) N (cAt (codeOf Tryd.f75) [1,1,1]) (pAt (mkPlan (codeOf Tryd.f75) [([4],[2])]).1 [1,1,1]) (SV×Eff×Bool)) (finK prog [] [.cell 2 32]))) e (left (writes (cAt (codeOf Tryd.f75) [1,1,0,1,0,0])) [4] [2] (Zco a0) s)))) (by kernel_rfl) ?_
 simp only [Zsd N a0]
theorem Zpf (a0:Array Value) (h_a0:WT prog 25 a0) (hg:(true)=true):ansV prog (mkΓ [(109,con Zbk)]) 1000 Tryd.f75 [([4],[2])] [.g a0 25] []=some (.a (.g a0 32),.none,true):=by
 have hs:a0.size=(zc prog 32).size:=by rw [h_a0.layLen];kernel_rfl
 have hz:a0.size=180:=by rw [h_a0.layLen];kernel_rfl
 have hL:∀ k,k<36→(lay prog 25)[k*5]? = some 4:=by
  intro k hk
  have h:(List.range 36).all (fun k=>(lay prog 25)[k*5]? == some 4)=true:=by kernel_rfl
  exact eq_of_beq (List.all_eq_true.1 h k (List.mem_range.2 hk))
 have h:=Zb9 (g:=Zbs prog a0) (fun k=>((k:Int),upto a0 (zc prog 32) (k*5))) (m:=36) (x:=(((36:Nat):Int),upto a0 (zc prog 32) (36*5))) (N:=1000) (fun k hk=>by
  have h1:decide ((k:Int)<36)=true:=decide_eq_true (by omega)
  have h0:decide (0≤(k:Int))=true:=decide_eq_true (by omega)
  have h3:i64.wrap ((k:Int)+1)=((k+1:Nat):Int):=by rw [IntWalk.i64_in _ (by omega)];omega
  have h4:((k:Int)).toNat=k:=Int.toNat_natCast k
  have h5:spl (upto a0 (zc prog 32) (k*5)) (k*5) (a0.extract (k*5) (k*5+5)).toList=upto a0 (zc prog 32) ((k+1)*5):=by
   rw [Nat.add_mul];exact Ye1 hs (by omega) rfl
  simp only [Zbs,h1,h0,Bool.and_self,h4,cond_true,h3,h5]) (by
  have h1:decide (((36:Nat):Int)<36)=false:=by decide
  simp only [Zbs,h1,cond_false]) (by omega)
 simp only [Nat.zero_mul,Zvy hs,Yak hs hz] at h
 refine (Zpt 1000 a0).trans ?_
 have h':iterO (Zbs prog a0) 1000 ((0:Int),(zc prog 32))=some (((36:Nat):Int),a0):=h
 rw [h']
 rfl
def Za3:Con:=fun args h=>match args,h with
 | [.g a0 25],[]=>some (.a (.g a0 32),.none,true)
 | _,_=>none
theorem Zo0:EntX prog 75:=Zai (fn:=Tryd.f75) (by kernel_rfl) (by kernel_rfl) (by kernel_rfl)
theorem Zr9:ConOkX mn prog 75 Za3:=(Zaj (N:=1000) (by kernel_rfl) (mkΓ_consX (Zad Zx6) Zsl mkΓ_nilX) (fn:=Tryd.f75) (by kernel_rfl) (by kernel_rfl) [([4],[2])]).of (by
 intro ρ h w args vals r e hA hH hr
 unfold Za3 at hr
 split at hr
 ·rename_i a0
  obtain ⟨rfl,hg⟩:=Prod.mk.inj (Option.some.inj hr)
  obtain ⟨rfl,hg2⟩:=Prod.mk.inj hg
  exact Zpf a0 (hA.wt 0 rfl) hg2
 ·cases hr)
def Zb0 (a0:Array Value):St:=(⟨.a (.g a0 26) :: .a (.w 0) :: .a (.w 1) :: .a (.w 2) :: .a (.i .i64 (0:Int))::us 11 ([]),[.row a0 26,.row (zc prog 33) 33,.row (zc prog 33) 33],[]⟩:St)
def Zcx:Int×Array Value→LS
 | (y0_4,r0_2)=>([.a (.i .i64 (y0_4))],[.row r0_2 33])
def Zgu:Int×Array Value→Exit×LS
 | t=>((.exit 0),Zcx t)
def Zbd (P : Program) (a0 : Array Value) : Int × Array Value → Option (Stp (Int × Array Value) (Int × Array Value))
 | (y0_4, r0_2) => bif decide (y0_4 < (2 : Int)) then (bif (decide (0 ≤ y0_4) && decide (y0_4 < 2)) then (bif (decide (0 ≤ y0_4) && decide (y0_4 < 2)) then (some (.more ((i64.wrap (y0_4 + (1 : Int))), (spl r0_2 ((y0_4).toNat * 180) (a0.extract ((y0_4).toNat * 180) (((y0_4).toNat * 180) + 180)).toList))))
    else (none))
   else (none))
  else (some (.done (y0_4, r0_2)))
theorem Zpi (N:Nat) (a0:Array Value):∀ t:Int×Array Value,stepV prog (mkΓ [(75,con Za3)]) N (cAt (codeOf Tryd.f37) [1,1,0,1,0,0]) (pAt (mkPlan (codeOf Tryd.f37) [([4],[2])]).1 [1,1,0,1,0]) [4] [2] (Zb0 a0) (Zcx t)=mapS Zcx Zgu (Zbd prog a0 t):=by
 rintro ⟨y0_4,r0_2⟩
 refine Eq.trans (b:=(bif decide (y0_4<(2:Int)) then (bif (decide (0≤y0_4)&&decide (y0_4<2)) then (bif (decide (0≤y0_4)&&decide (y0_4<2)) then (some (.more ([.a (.i .i64 (i64.wrap (y0_4+(1:Int))))],[.row (spl r0_2 ((y0_4).toNat*180) (a0.extract ((y0_4).toNat*180) (((y0_4).toNat*180)+180)).toList) 33])))
    else (none))
   else (none))
  else (some (.done ((.exit 0),([.a (.i .i64 (y0_4))],[.row r0_2 33])))))) (by kernel_rfl) ?_
 simp only [Zbd,Zav,Zas,Zat,Zau,Zcx,Zgu]
def Zfm (P:Program) (N:Nat) (a0:Array Value) (z0_4:Int) (q0_2:Array Value):Option (SV×Eff×Bool):=some (.a (.g q0_2 33),.none,true)
theorem Zl6 (N:Nat) (a0:Array Value) (z0_4:Int) (q0_2:Array Value):(kBlock 0 (kSeq (veC prog (mkΓ [(75,con Za3)]) N (cAt (codeOf Tryd.f37) [1,1,1]) (pAt (mkPlan (codeOf Tryd.f37) [([4],[2])]).1 [1,1,1]) (SV×Eff×Bool)) (finK prog [] [.cell 2 33]))) (.exit 0) (left (writes (cAt (codeOf Tryd.f37) [1,1,0,1,0,0])) [4] [2] (Zb0 a0) ([.a (.i .i64 (z0_4))],[.row q0_2 33]))=Zfm prog N a0 z0_4 q0_2:=by
 refine Eq.trans (b:=(some (.a (.g q0_2 33),.none,true))) (by kernel_rfl) ?_
 rfl
theorem Zpo (N:Nat) (a0:Array Value):bindX (iterO (stepV prog (mkΓ [(75,con Za3)]) N (cAt (codeOf Tryd.f37) [1,1,0,1,0,0]) (pAt (mkPlan (codeOf Tryd.f37) [([4],[2])]).1 [1,1,0,1,0]) [4] [2] (Zb0 a0)) N ([.a (.i .i64 (0:Int))],[.row (zc prog 33) 33])) (fun e s=>(kBlock 0 (kSeq (veC prog (mkΓ [(75,con Za3)]) N (cAt (codeOf Tryd.f37) [1,1,1]) (pAt (mkPlan (codeOf Tryd.f37) [([4],[2])]).1 [1,1,1]) (SV×Eff×Bool)) (finK prog [] [.cell 2 33]))) e (left (writes (cAt (codeOf Tryd.f37) [1,1,0,1,0,0])) [4] [2] (Zb0 a0) s))=nodeX (iterO (Zbd prog a0) N ((0:Int),(zc prog 33))) (fun x=>Zfm prog N a0 x.1 x.2):=by
 refine Za9 Zcx Zgu _ _ (Zpi N a0) N ((0:Int),(zc prog 33)) _ _ ?_
 intro x;exact Zl6 N a0 x.1 x.2
theorem Zov (N:Nat) (a0:Array Value):ansV prog (mkΓ [(75,con Za3)]) N Tryd.f37 [([4],[2])] [.g a0 26] []=(nodeX (iterO (Zbd prog a0) N ((0:Int),(zc prog 33))) (fun x=>Zfm prog N a0 x.1 x.2)):=by
 refine Eq.trans (b:=(bindX (iterO (stepV prog (mkΓ [(75,con Za3)]) N (cAt (codeOf Tryd.f37) [1,1,0,1,0,0]) (pAt (mkPlan (codeOf Tryd.f37) [([4],[2])]).1 [1,1,0,1,0]) [4] [2] (Zb0 a0)) N ([.a (.i .i64 (0:Int))],[.row (zc prog 33) 33])) (fun e s=>(kBlock 0 (kSeq (veC prog (mkΓ [(75,con Za3)]) N (cAt (codeOf Tryd.f37) [1,1,1]) (pAt (mkPlan (codeOf Tryd.f37) [([4],[2])]).1 [1,1,1]) (SV×Eff×Bool)) (finK prog [] [.cell 2 33]))) e (left (writes (cAt (codeOf Tryd.f37) [1,1,0,1,0,0])) [4] [2] (Zb0 a0) s)))) (by kernel_rfl) ?_
 simp only [Zpo N a0]
theorem Zn5 (a0:Array Value) (h_a0:WT prog 26 a0) (hg:(true)=true):ansV prog (mkΓ [(75,con Za3)]) 1000 Tryd.f37 [([4],[2])] [.g a0 26] []=some (.a (.g a0 33),.none,true):=by
 have hs:a0.size=(zc prog 33).size:=by rw [h_a0.layLen];kernel_rfl
 have hz:a0.size=360:=by rw [h_a0.layLen];kernel_rfl
 have hL:∀ k,k<2→(lay prog 26)[k*180]? = some 4:=by
  intro k hk
  have h:(List.range 2).all (fun k=>(lay prog 26)[k*180]? == some 4)=true:=by kernel_rfl
  exact eq_of_beq (List.all_eq_true.1 h k (List.mem_range.2 hk))
 have h:=Zb9 (g:=Zbd prog a0) (fun k=>((k:Int),upto a0 (zc prog 33) (k*180))) (m:=2) (x:=(((2:Nat):Int),upto a0 (zc prog 33) (2*180))) (N:=1000) (fun k hk=>by
  have h1:decide ((k:Int)<2)=true:=decide_eq_true (by omega)
  have h0:decide (0≤(k:Int))=true:=decide_eq_true (by omega)
  have h3:i64.wrap ((k:Int)+1)=((k+1:Nat):Int):=by rw [IntWalk.i64_in _ (by omega)];omega
  have h4:((k:Int)).toNat=k:=Int.toNat_natCast k
  have h5:spl (upto a0 (zc prog 33) (k*180)) (k*180) (a0.extract (k*180) (k*180+180)).toList=upto a0 (zc prog 33) ((k+1)*180):=by
   rw [Nat.add_mul];exact Ye1 hs (by omega) rfl
  simp only [Zbd,h1,h0,Bool.and_self,h4,cond_true,h3,h5]) (by
  have h1:decide (((2:Nat):Int)<2)=false:=by decide
  simp only [Zbd,h1,cond_false]) (by omega)
 simp only [Nat.zero_mul,Zvy hs,Yak hs hz] at h
 refine (Zov 1000 a0).trans ?_
 have h':iterO (Zbd prog a0) 1000 ((0:Int),(zc prog 33))=some (((2:Nat):Int),a0):=h
 rw [h']
 rfl
def Zfu:Con:=fun args h=>match args,h with
 | [.g a0 26],[]=>some (.a (.g a0 33),.none,true)
 | _,_=>none
theorem Zns:EntX prog 37:=Zai (fn:=Tryd.f37) (by kernel_rfl) (by kernel_rfl) (by kernel_rfl)
theorem Zpn:ConOkX mn prog 37 Zfu:=(Zaj (N:=1000) (by kernel_rfl) (mkΓ_consX (Zad Zr9) Zo0 mkΓ_nilX) (fn:=Tryd.f37) (by kernel_rfl) (by kernel_rfl) [([4],[2])]).of (by
 intro ρ h w args vals r e hA hH hr
 unfold Zfu at hr
 split at hr
 ·rename_i a0
  obtain ⟨rfl,hg⟩:=Prod.mk.inj (Option.some.inj hr)
  obtain ⟨rfl,hg2⟩:=Prod.mk.inj hg
  exact Zn5 a0 (hA.wt 0 rfl) hg2
 ·cases hr)
def Zyk:Cons:=(mkΓ [(37,con Zfu)])
theorem Ydh (N:Nat) (a0:Array Value):ansV prog Zyk N Tryd.f12 [] [.g a0 28] []=(some (.a (.g (spl ((((zc prog 35).setIfInBounds 0 (.int .i8 (num a0 0))).setIfInBounds 1 (.int .i8 (num a0 1))).setIfInBounds 2 (.int .u64 (num a0 2))) 3 (a0.extract 3 (3+360)).toList) 35),.none,true)):=by kernel_rfl
theorem Yar (a0:Array Value) (h_a0:WT prog 28 a0) (hg:(true)=true):ansV prog Zyk 1000 Tryd.f12 [] [.g a0 28] []=some (.a (.g a0 35),.none,true):=by
 have hs:a0.size=(zc prog 35).size:=by rw [h_a0.layLen];kernel_rfl
 have hz:a0.size=363:=by rw [h_a0.layLen];kernel_rfl
 have e0:(upto a0 (zc prog 35) 0).setIfInBounds 0 (.int .i8 (num a0 0))=upto a0 (zc prog 35) 1:=Yam hs (h_a0.int (k:=.i8) (by kernel_rfl)).1
 rw [Zvy hs] at e0
 have e1:(upto a0 (zc prog 35) 1).setIfInBounds 1 (.int .i8 (num a0 1))=upto a0 (zc prog 35) 2:=Yam hs (h_a0.int (k:=.i8) (by kernel_rfl)).1
 have e2:(upto a0 (zc prog 35) 2).setIfInBounds 2 (.int .u64 (num a0 2))=upto a0 (zc prog 35) 3:=Yam hs (h_a0.int (k:=.u64) (by kernel_rfl)).1
 have e3:spl (upto a0 (zc prog 35) 3) 3 (a0.extract 3 (3+360)).toList=upto a0 (zc prog 35) 363:=Ye1 hs (by omega) rfl
 refine (Ydh 1000 a0).trans ?_
 rw [e0,e1,e2,e3,Yak hs hz]
def Zkl:Con:=fun args h=>match args,h with
 | [.g a0 28],[]=>some (.a (.g a0 35),.none,true)
 | _,_=>none
theorem Zo9:EntX prog 12:=Zai (fn:=Tryd.f12) (by kernel_rfl) (by kernel_rfl) (by kernel_rfl)
theorem Zuj:ConOkX mn prog 12 Zkl:=(Zaj (N:=1000) (by kernel_rfl) (mkΓ_consX (Zad Zpn) Zns mkΓ_nilX) (fn:=Tryd.f12) (by kernel_rfl) (by kernel_rfl) []).of (by
 intro ρ h w args vals r e hA hH hr
 unfold Zkl at hr
 split at hr
 ·rename_i a0
  obtain ⟨rfl,hg⟩:=Prod.mk.inj (Option.some.inj hr)
  obtain ⟨rfl,hg2⟩:=Prod.mk.inj hg
  exact Yar a0 (hA.wt 0 rfl) hg2
 ·cases hr)
theorem wrap12:∀ k,k<14→i64.wrap ((12:Int)^k*12)=12^(k+1):=by decide
def Zee (a0:Int):St:=(⟨.a (.i .i64 (a0)) :: .a (.u) :: .a (.i .i64 (0:Int)) :: .a (.i .i64 (1:Int)) :: .a (.i .i64 (0:Int))::us 8 ([]),[],[]⟩:St)
def Zgf:Int×Int→LS
 | (y0_3,y0_4)=>([.a (.i .i64 (y0_3)),.a (.i .i64 (y0_4))],[])
def Zlm:Int×Int→Exit×LS
 | t=>((.exit 0),Zgf t)
def Zcq (P:Program) (a0:Int):Int×Int→Option (Stp (Int×Int) (Int×Int))
 | (y0_3,y0_4)=>bif decide (y0_4<a0) then (some (.more ((i64.wrap (y0_3*(12:Int))),(i64.wrap (y0_4+(1:Int))))))
  else (some (.done (y0_3,y0_4)))
theorem Zy7 (N:Nat) (a0:Int):∀ t:Int×Int,stepV prog (mkΓ []) N (cAt (codeOf Tryd.f44) [1,1,0,1,0,0]) (pAt (mkPlan (codeOf Tryd.f44) [([3,4],[])]).1 [1,1,0,1,0]) [3,4] [] (Zee a0) (Zgf t)=mapS Zgf Zlm (Zcq prog a0 t):=by
 rintro ⟨y0_3,y0_4⟩
 refine Eq.trans (b:=(bif decide (y0_4<a0) then (some (.more ([.a (.i .i64 (i64.wrap (y0_3*(12:Int)))),.a (.i .i64 (i64.wrap (y0_4+(1:Int))))],[])))
  else (some (.done ((.exit 0),([.a (.i .i64 (y0_3)),.a (.i .i64 (y0_4))],[])))))) (by kernel_rfl) ?_
 simp only [Zcq,Zav,Zas,Zat,Zau,Zgf,Zlm]
def Zjx (P:Program) (N:Nat) (a0:Int) (z0_3:Int) (z0_4:Int):Option (SV×Eff×Bool):=some (.a (.i .i64 (z0_3)),.none,true)
theorem Zqr (N:Nat) (a0:Int) (z0_3:Int) (z0_4:Int):(kBlock 0 (kSeq (veC prog (mkΓ []) N (cAt (codeOf Tryd.f44) [1,1,1]) (pAt (mkPlan (codeOf Tryd.f44) [([3,4],[])]).1 [1,1,1]) (SV×Eff×Bool)) (finK prog [] [.tmp 2]))) (.exit 0) (left (writes (cAt (codeOf Tryd.f44) [1,1,0,1,0,0])) [3,4] [] (Zee a0) ([.a (.i .i64 (z0_3)),.a (.i .i64 (z0_4))],[]))=Zjx prog N a0 z0_3 z0_4:=by
 refine Eq.trans (b:=(some (.a (.i .i64 (z0_3)),.none,true))) (by kernel_rfl) ?_
 rfl
theorem Zzi (N:Nat) (a0:Int):bindX (iterO (stepV prog (mkΓ []) N (cAt (codeOf Tryd.f44) [1,1,0,1,0,0]) (pAt (mkPlan (codeOf Tryd.f44) [([3,4],[])]).1 [1,1,0,1,0]) [3,4] [] (Zee a0)) N ([.a (.i .i64 (1:Int)),.a (.i .i64 (0:Int))],[])) (fun e s=>(kBlock 0 (kSeq (veC prog (mkΓ []) N (cAt (codeOf Tryd.f44) [1,1,1]) (pAt (mkPlan (codeOf Tryd.f44) [([3,4],[])]).1 [1,1,1]) (SV×Eff×Bool)) (finK prog [] [.tmp 2]))) e (left (writes (cAt (codeOf Tryd.f44) [1,1,0,1,0,0])) [3,4] [] (Zee a0) s))=nodeX (iterO (Zcq prog a0) N ((1:Int),(0:Int))) (fun x=>Zjx prog N a0 x.1 x.2):=by
 refine Za9 Zgf Zlm _ _ (Zy7 N a0) N ((1:Int),(0:Int)) _ _ ?_
 intro x;exact Zqr N a0 x.1 x.2
theorem Zw3 (N:Nat) (a0:Int):ansV prog (mkΓ []) N Tryd.f44 [([3,4],[])] [.i .i64 (a0)] []=(nodeX (iterO (Zcq prog a0) N ((1:Int),(0:Int))) (fun x=>Zjx prog N a0 x.1 x.2)):=by
 refine Eq.trans (b:=(bindX (iterO (stepV prog (mkΓ []) N (cAt (codeOf Tryd.f44) [1,1,0,1,0,0]) (pAt (mkPlan (codeOf Tryd.f44) [([3,4],[])]).1 [1,1,0,1,0]) [3,4] [] (Zee a0)) N ([.a (.i .i64 (1:Int)),.a (.i .i64 (0:Int))],[])) (fun e s=>(kBlock 0 (kSeq (veC prog (mkΓ []) N (cAt (codeOf Tryd.f44) [1,1,1]) (pAt (mkPlan (codeOf Tryd.f44) [([3,4],[])]).1 [1,1,1]) (SV×Eff×Bool)) (finK prog [] [.tmp 2]))) e (left (writes (cAt (codeOf Tryd.f44) [1,1,0,1,0,0])) [3,4] [] (Zee a0) s)))) (by kernel_rfl) ?_
 simp only [Zzi N a0]
theorem Zuc (a0:Int) (h_a0:i64.min≤a0∧a0≤i64.max) (hg:((decide (0≤a0)&&decide (a0≤14)))=true):ansV prog (mkΓ []) 1000 Tryd.f44 [([3,4],[])] [.i .i64 (a0)] []=some (.a (.i .i64 (12^a0.toNat)),.none,true):=by
 simp only [Bool.and_eq_true,decide_eq_true_eq] at hg
 obtain ⟨h0,h14⟩:=hg
 obtain ⟨m,rfl⟩:=Int.eq_ofNat_of_zero_le h0
 refine (Zw3 1000 _).trans ?_
 have h:=Zb9 (g:=Zcq prog (m:Int)) (fun k=>((12:Int)^k,(k:Int))) (m:=m) (x:=((12:Int)^m,(m:Int))) (N:=1000) (fun k hk=>by
  have h1:decide ((k:Int)<(m:Int))=true:=decide_eq_true (by omega)
  have h2:i64.wrap ((k:Int)+1)=((k+1:Nat):Int):=by rw [IntWalk.i64_in _ (by omega)];omega
  simp only [Zcq,h1,cond_true,wrap12 k (by omega),h2]) (by
  have h1:decide ((m:Int)<(m:Int))=false:=decide_eq_false (by omega)
  simp only [Zcq,h1,cond_false]) (by omega)
 have h':iterO (Zcq prog (m:Int)) 1000 ((1:Int),(0:Int))=some ((12:Int)^m,(m:Int)):=h
 rw [h']
 rfl
def Zki:Con:=fun args h=>match args,h with
 | [.i .i64 a0],[]=>some (.a (.i .i64 (12^a0.toNat)),.none,(decide (0≤a0)&&decide (a0≤14)))
 | _,_=>none
theorem Zs9:EntX prog 44:=Zai (fn:=Tryd.f44) (by kernel_rfl) (by kernel_rfl) (by kernel_rfl)
theorem Yab:ConOkX mn prog 44 Zki:=(Zaj (N:=1000) (by kernel_rfl) mkΓ_nilX (fn:=Tryd.f44) (by kernel_rfl) (by kernel_rfl) [([3,4],[])]).of (by
 intro ρ h w args vals r e hA hH hr
 unfold Zki at hr
 split at hr
 ·rename_i a0
  obtain ⟨rfl,hg⟩:=Prod.mk.inj (Option.some.inj hr)
  obtain ⟨rfl,hg2⟩:=Prod.mk.inj hg
  exact Zuc a0 (hA.rng 0 rfl) hg2
 ·cases hr)
def Zdg (a0:Int):St:=(⟨.a (.i .i64 (a0)) :: .a (.u) :: .a (.i .i64 (0:Int)) :: .a (.i .i64 (1:Int)) :: .a (.i .i64 (a0)) :: .a (.i .i64 (0:Int))::us 5 ([]),[],[]⟩:St)
def Zey:Int×Int→LS
 | (y0_3,y0_5)=>([.a (.i .i64 (y0_3)),.a (.i .i64 (y0_5))],[])
def Zje:Int×Int→Exit×LS
 | t=>((.exit 0),Zey t)
def Zbz (P:Program) (a0:Int):Int×Int→Option (Stp (Int×Int) (Int×Int))
 | (y0_3,y0_5)=>bif decide (y0_5<a0) then (some (.more ((i64.wrap (y0_3*(12:Int))),(i64.wrap (y0_5+(1:Int))))))
  else (some (.done (y0_3,y0_5)))
theorem Zv1 (N:Nat) (a0:Int):∀ t:Int×Int,stepV prog (mkΓ []) N (cAt (codeOf Tryd.f48) [1,1,0,1,0,0]) (pAt (mkPlan (codeOf Tryd.f48) [([3,5],[])]).1 [1,1,0,1,0]) [3,5] [] (Zdg a0) (Zey t)=mapS Zey Zje (Zbz prog a0 t):=by
 rintro ⟨y0_3,y0_5⟩
 refine Eq.trans (b:=(bif decide (y0_5<a0) then (some (.more ([.a (.i .i64 (i64.wrap (y0_3*(12:Int)))),.a (.i .i64 (i64.wrap (y0_5+(1:Int))))],[])))
  else (some (.done ((.exit 0),([.a (.i .i64 (y0_3)),.a (.i .i64 (y0_5))],[])))))) (by kernel_rfl) ?_
 simp only [Zbz,Zav,Zas,Zat,Zau,Zey,Zje]
def Zh1 (P:Program) (N:Nat) (a0:Int) (z0_3:Int) (z0_5:Int):Option (SV×Eff×Bool):=some (.a (.i .i64 (z0_3)),.none,true)
theorem Zo7 (N:Nat) (a0:Int) (z0_3:Int) (z0_5:Int):(kBlock 0 (kSeq (veC prog (mkΓ []) N (cAt (codeOf Tryd.f48) [1,1,1]) (pAt (mkPlan (codeOf Tryd.f48) [([3,5],[])]).1 [1,1,1]) (SV×Eff×Bool)) (finK prog [] [.tmp 2]))) (.exit 0) (left (writes (cAt (codeOf Tryd.f48) [1,1,0,1,0,0])) [3,5] [] (Zdg a0) ([.a (.i .i64 (z0_3)),.a (.i .i64 (z0_5))],[]))=Zh1 prog N a0 z0_3 z0_5:=by
 refine Eq.trans (b:=(some (.a (.i .i64 (z0_3)),.none,true))) (by kernel_rfl) ?_
 rfl
theorem Zu9 (N:Nat) (a0:Int):bindX (iterO (stepV prog (mkΓ []) N (cAt (codeOf Tryd.f48) [1,1,0,1,0,0]) (pAt (mkPlan (codeOf Tryd.f48) [([3,5],[])]).1 [1,1,0,1,0]) [3,5] [] (Zdg a0)) N ([.a (.i .i64 (1:Int)),.a (.i .i64 (0:Int))],[])) (fun e s=>(kBlock 0 (kSeq (veC prog (mkΓ []) N (cAt (codeOf Tryd.f48) [1,1,1]) (pAt (mkPlan (codeOf Tryd.f48) [([3,5],[])]).1 [1,1,1]) (SV×Eff×Bool)) (finK prog [] [.tmp 2]))) e (left (writes (cAt (codeOf Tryd.f48) [1,1,0,1,0,0])) [3,5] [] (Zdg a0) s))=nodeX (iterO (Zbz prog a0) N ((1:Int),(0:Int))) (fun x=>Zh1 prog N a0 x.1 x.2):=by
 refine Za9 Zey Zje _ _ (Zv1 N a0) N ((1:Int),(0:Int)) _ _ ?_
 intro x;exact Zo7 N a0 x.1 x.2
theorem Ztr (N:Nat) (a0:Int):ansV prog (mkΓ []) N Tryd.f48 [([3,5],[])] [.i .i64 (a0)] []=(nodeX (iterO (Zbz prog a0) N ((1:Int),(0:Int))) (fun x=>Zh1 prog N a0 x.1 x.2)):=by
 refine Eq.trans (b:=(bindX (iterO (stepV prog (mkΓ []) N (cAt (codeOf Tryd.f48) [1,1,0,1,0,0]) (pAt (mkPlan (codeOf Tryd.f48) [([3,5],[])]).1 [1,1,0,1,0]) [3,5] [] (Zdg a0)) N ([.a (.i .i64 (1:Int)),.a (.i .i64 (0:Int))],[])) (fun e s=>(kBlock 0 (kSeq (veC prog (mkΓ []) N (cAt (codeOf Tryd.f48) [1,1,1]) (pAt (mkPlan (codeOf Tryd.f48) [([3,5],[])]).1 [1,1,1]) (SV×Eff×Bool)) (finK prog [] [.tmp 2]))) e (left (writes (cAt (codeOf Tryd.f48) [1,1,0,1,0,0])) [3,5] [] (Zdg a0) s)))) (by kernel_rfl) ?_
 simp only [Zu9 N a0]
theorem Zsa (a0:Int) (h_a0:i64.min≤a0∧a0≤i64.max) (hg:((decide (0≤a0)&&decide (a0≤14)))=true):ansV prog (mkΓ []) 1000 Tryd.f48 [([3,5],[])] [.i .i64 (a0)] []=some (.a (.i .i64 (12^a0.toNat)),.none,true):=by
 simp only [Bool.and_eq_true,decide_eq_true_eq] at hg
 obtain ⟨h0,h14⟩:=hg
 obtain ⟨m,rfl⟩:=Int.eq_ofNat_of_zero_le h0
 refine (Ztr 1000 _).trans ?_
 have h:=Zb9 (g:=Zbz prog (m:Int)) (fun k=>((12:Int)^k,(k:Int))) (m:=m) (x:=((12:Int)^m,(m:Int))) (N:=1000) (fun k hk=>by
  have h1:decide ((k:Int)<(m:Int))=true:=decide_eq_true (by omega)
  have h2:i64.wrap ((k:Int)+1)=((k+1:Nat):Int):=by rw [IntWalk.i64_in _ (by omega)];omega
  simp only [Zbz,h1,cond_true,wrap12 k (by omega),h2]) (by
  have h1:decide ((m:Int)<(m:Int))=false:=decide_eq_false (by omega)
  simp only [Zbz,h1,cond_false]) (by omega)
 have h':iterO (Zbz prog (m:Int)) 1000 ((1:Int),(0:Int))=some ((12:Int)^m,(m:Int)):=h
 rw [h']
 rfl
def Za6:Con:=fun args h=>match args,h with
 | [.i .i64 a0],[]=>some (.a (.i .i64 (12^a0.toNat)),.none,(decide (0≤a0)&&decide (a0≤14)))
 | _,_=>none
theorem Zkt:EntX prog 48:=Zai (fn:=Tryd.f48) (by kernel_rfl) (by kernel_rfl) (by kernel_rfl)
theorem Znb:ConOkX mn prog 48 Za6:=(Zaj (N:=1000) (by kernel_rfl) mkΓ_nilX (fn:=Tryd.f48) (by kernel_rfl) (by kernel_rfl) [([3,5],[])]).of (by
 intro ρ h w args vals r e hA hH hr
 unfold Za6 at hr
 split at hr
 ·rename_i a0
  obtain ⟨rfl,hg⟩:=Prod.mk.inj (Option.some.inj hr)
  obtain ⟨rfl,hg2⟩:=Prod.mk.inj hg
  exact Zsa a0 (hA.rng 0 rfl) hg2
 ·cases hr)
theorem Zgv {x a b:Int} (h:Zaa x a b=true):a≤x∧x≤b:=by
 unfold Zaa at h
 cases h0:decide (x ≥ a) with
 | false=>rw [h0] at h;exact nomatch h
 | true=>rw [h0] at h;exact ⟨of_decide_eq_true h0,of_decide_eq_true h⟩
theorem cell_num {D:Array Value} {T:TypeId} (hz:D.size=40) (k:Nat) (hk:k<36):num (D.extract 3 (3+36)) (k*1)=num D (3+k*1):=by
 unfold num
 rw [Array.getElem?_extract,if_pos (by omega)]
end
end Go.Proofs.YtdofpgniogochaaDoor
