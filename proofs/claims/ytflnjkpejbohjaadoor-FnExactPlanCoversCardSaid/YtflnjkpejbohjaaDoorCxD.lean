/- Parts of twelve, in company. -/
import Derived.Test.YtflnjkpejbohjaaDoorProg
import Derived.Test.YtflnjkpejbohjaaDoorCxC
namespace Go.Proofs.YtflnjkpejbohjaaDoor
open Go.ChangeShapes Go.WideShapes Go.ChangeAt Go.RowKit Ve Vc
open Tryd (prog)
open IntKind (i64)
set_option linter.unusedVariables false
set_option linter.unusedSimpArgs false
set_option maxRecDepth 100000
noncomputable section
variable {mn:Md}
def Zef (a0:Array Value):St:=(⟨.a (.g a0 24) :: .a (.w 0) :: .a (.w 1) :: .a (.w 2) :: .a (.i .i64 (0:Int))::us 10 ([]),[.row a0 24,.row #[.int .u8 (0:Int),.int .u8 (0:Int),.int .u8 (0:Int),.int .u8 (0:Int),.int .u8 (0:Int)] 38,.row #[.int .u8 (0:Int),.int .u8 (0:Int),.int .u8 (0:Int),.int .u8 (0:Int),.int .u8 (0:Int)] 38],[]⟩:St)
def Zfj:Int×Array Value→LS
 | (y0_4,r0_2)=>([.a (.i .i64 (y0_4))],[.row r0_2 38])
def Zjt:Int×Array Value→Exit×LS
 | t=>((.exit 0),Zfj t)
def Zcu (P : Program) (a0 : Array Value) : Int × Array Value → Option (Stp (Int × Array Value) (Int × Array Value))
 | (y0_4, r0_2) => bif decide (y0_4 < (5 : Int)) then (bif (decide (0 ≤ y0_4) && decide (y0_4 < 5)) then (bif (decide (0 ≤ y0_4) && decide (y0_4 < 5)) then (some (.more ((i64.wrap (y0_4 + (1 : Int))), (r0_2.setIfInBounds ((y0_4).toNat * 1) (.int .u8 (num a0 ((y0_4).toNat * 1)))))))
    else (none))
   else (none))
  else (some (.done (y0_4, r0_2)))
theorem Zyk (N:Nat) (a0:Array Value):∀ t:Int×Array Value,stepV prog (mkΓ []) N (cAt (codeOf Tryd.f71) [1,1,0,1,0,0]) (pAt (mkPlan (codeOf Tryd.f71) [([4],[2])]).1 [1,1,0,1,0]) [4] [2] (Zef a0) (Zfj t)=mapS Zfj Zjt (Zcu prog a0 t):=by
 rintro ⟨y0_4,r0_2⟩
 refine Eq.trans (b:=(bif decide (y0_4<(5:Int)) then (bif (decide (0≤y0_4)&&decide (y0_4<5)) then (bif (decide (0≤y0_4)&&decide (y0_4<5)) then (some (.more ([.a (.i .i64 (i64.wrap (y0_4+(1:Int))))],[.row (r0_2.setIfInBounds ((y0_4).toNat*1) (.int .u8 (num a0 ((y0_4).toNat*1)))) 38])))
    else (none))
   else (none))
  else (some (.done ((.exit 0),([.a (.i .i64 (y0_4))],[.row r0_2 38])))))) (by kernel_rfl) ?_
 simp only [Zcu,Za0,Zay,Za1,Zaz,Zfj,Zjt]
def Zie (P:Program) (N:Nat) (a0:Array Value) (z0_4:Int) (q0_2:Array Value):Option (SV×Eff×Bool):=some (.a (.g q0_2 38),.none,true)
theorem Zpi (N:Nat) (a0:Array Value) (z0_4:Int) (q0_2:Array Value):(kBlock 0 (kSeq (veC prog (mkΓ []) N (cAt (codeOf Tryd.f71) [1,1,1]) (pAt (mkPlan (codeOf Tryd.f71) [([4],[2])]).1 [1,1,1]) (SV×Eff×Bool)) (finK prog [] [.cell 2 38]))) (.exit 0) (left (writes (cAt (codeOf Tryd.f71) [1,1,0,1,0,0])) [4] [2] (Zef a0) ([.a (.i .i64 (z0_4))],[.row q0_2 38]))=Zie prog N a0 z0_4 q0_2:=by
 refine Eq.trans (b:=(some (.a (.g q0_2 38),.none,true))) (by kernel_rfl) ?_
 rfl
theorem Zxt (N:Nat) (a0:Array Value):bindX (iterO (stepV prog (mkΓ []) N (cAt (codeOf Tryd.f71) [1,1,0,1,0,0]) (pAt (mkPlan (codeOf Tryd.f71) [([4],[2])]).1 [1,1,0,1,0]) [4] [2] (Zef a0)) N ([.a (.i .i64 (0:Int))],[.row (#[.int .u8 (0:Int),.int .u8 (0:Int),.int .u8 (0:Int),.int .u8 (0:Int),.int .u8 (0:Int)]:Array Value) 38])) (fun e s=>(kBlock 0 (kSeq (veC prog (mkΓ []) N (cAt (codeOf Tryd.f71) [1,1,1]) (pAt (mkPlan (codeOf Tryd.f71) [([4],[2])]).1 [1,1,1]) (SV×Eff×Bool)) (finK prog [] [.cell 2 38]))) e (left (writes (cAt (codeOf Tryd.f71) [1,1,0,1,0,0])) [4] [2] (Zef a0) s))=nodeX (iterO (Zcu prog a0) N ((0:Int),(#[.int .u8 (0:Int),.int .u8 (0:Int),.int .u8 (0:Int),.int .u8 (0:Int),.int .u8 (0:Int)]:Array Value))) (fun x=>Zie prog N a0 x.1 x.2):=by
 refine Zbg Zfj Zjt _ _ (Zyk N a0) N ((0:Int),(#[.int .u8 (0:Int),.int .u8 (0:Int),.int .u8 (0:Int),.int .u8 (0:Int),.int .u8 (0:Int)]:Array Value)) _ _ ?_
 intro x;exact Zpi N a0 x.1 x.2
theorem Zuu (N:Nat) (a0:Array Value):ansV prog (mkΓ []) N Tryd.f71 [([4],[2])] [.g a0 24] []=(nodeX (iterO (Zcu prog a0) N ((0:Int),(#[.int .u8 (0:Int),.int .u8 (0:Int),.int .u8 (0:Int),.int .u8 (0:Int),.int .u8 (0:Int)]:Array Value))) (fun x=>Zie prog N a0 x.1 x.2)):=by
 refine Eq.trans (b:=(bindX (iterO (stepV prog (mkΓ []) N (cAt (codeOf Tryd.f71) [1,1,0,1,0,0]) (pAt (mkPlan (codeOf Tryd.f71) [([4],[2])]).1 [1,1,0,1,0]) [4] [2] (Zef a0)) N ([.a (.i .i64 (0:Int))],[.row (#[.int .u8 (0:Int),.int .u8 (0:Int),.int .u8 (0:Int),.int .u8 (0:Int),.int .u8 (0:Int)]:Array Value) 38])) (fun e s=>(kBlock 0 (kSeq (veC prog (mkΓ []) N (cAt (codeOf Tryd.f71) [1,1,1]) (pAt (mkPlan (codeOf Tryd.f71) [([4],[2])]).1 [1,1,1]) (SV×Eff×Bool)) (finK prog [] [.cell 2 38]))) e (left (writes (cAt (codeOf Tryd.f71) [1,1,0,1,0,0])) [4] [2] (Zef a0) s)))) (by kernel_rfl) ?_
 simp only [Zxt N a0]
theorem Zti (a0:Array Value) (h_a0:WT prog 24 a0) (hg:(true)=true):ansV prog (mkΓ []) 1000 Tryd.f71 [([4],[2])] [.g a0 24] []=some (.a (.g a0 38),.none,true):=by
 have hs:a0.size=(#[.int .u8 (0:Int),.int .u8 (0:Int),.int .u8 (0:Int),.int .u8 (0:Int),.int .u8 (0:Int)]:Array Value).size:=by rw [h_a0.layLen];kernel_rfl
 have hz:a0.size=5:=by rw [h_a0.layLen];kernel_rfl
 have hL:∀ k,k<5→(lay prog 24)[k*1]? = some 4:=by
  intro k hk
  have h:(List.range 5).all (fun k=>(lay prog 24)[k*1]? == some 4)=true:=by kernel_rfl
  exact eq_of_beq (List.all_eq_true.1 h k (List.mem_range.2 hk))
 have h:=Zfd (g:=Zcu prog a0) (fun k=>((k:Int),upto a0 (#[.int .u8 (0:Int),.int .u8 (0:Int),.int .u8 (0:Int),.int .u8 (0:Int),.int .u8 (0:Int)]:Array Value) (k*1))) (m:=5) (x:=(((5:Nat):Int),upto a0 (#[.int .u8 (0:Int),.int .u8 (0:Int),.int .u8 (0:Int),.int .u8 (0:Int),.int .u8 (0:Int)]:Array Value) (5*1))) (N:=1000) (fun k hk=>by
  have h1:decide ((k:Int)<5)=true:=decide_eq_true (by omega)
  have h0:decide (0≤(k:Int))=true:=decide_eq_true (by omega)
  have h3:i64.wrap ((k:Int)+1)=((k+1:Nat):Int):=by rw [IntWalk.i64_in _ (by omega)];omega
  have h4:((k:Int)).toNat=k:=Int.toNat_natCast k
  have h5:(upto a0 (#[.int .u8 (0:Int),.int .u8 (0:Int),.int .u8 (0:Int),.int .u8 (0:Int),.int .u8 (0:Int)]:Array Value) (k*1)).setIfInBounds (k*1) (.int .u8 (num a0 (k*1)))=upto a0 (#[.int .u8 (0:Int),.int .u8 (0:Int),.int .u8 (0:Int),.int .u8 (0:Int),.int .u8 (0:Int)]:Array Value) ((k+1)*1):=by
   rw [Nat.add_mul];exact Zz8 hs (h_a0.int (k:=.u8) (hL k hk)).1
  simp only [Zcu,h1,h0,Bool.and_self,h4,cond_true,h3,h5]) (by
  have h1:decide (((5:Nat):Int)<5)=false:=by decide
  simp only [Zcu,h1,cond_false]) (by omega)
 simp only [Nat.zero_mul,Zq4 hs,Zvw hs hz] at h
 refine (Zuu 1000 a0).trans ?_
 have h':iterO (Zcu prog a0) 1000 ((0:Int),(#[.int .u8 (0:Int),.int .u8 (0:Int),.int .u8 (0:Int),.int .u8 (0:Int),.int .u8 (0:Int)]:Array Value))=some (((5:Nat):Int),a0):=h
 rw [h']
 rfl
def Zbm:Con:=fun args h=>match args,h with
 | [.g a0 24],[]=>some (.a (.g a0 38),.none,true)
 | _,_=>none
theorem Zsf:EntX prog 71:=Zag (fn:=Tryd.f71) (by kernel_rfl) (by kernel_rfl) (by kernel_rfl)
theorem Zx2:ConOkX mn prog 71 Zbm:=(Zah (N:=1000) (by kernel_rfl) mkΓ_nilX (fn:=Tryd.f71) (by kernel_rfl) (by kernel_rfl) [([4],[2])]).of (by
 intro ρ h w args vals r e hA hH hr
 unfold Zbm at hr
 split at hr
 ·rename_i a0
  obtain ⟨rfl,hg⟩:=Prod.mk.inj (Option.some.inj hr)
  obtain ⟨rfl,hg2⟩:=Prod.mk.inj hg
  exact Zti a0 (hA.wt 0 rfl) hg2
 ·cases hr)
def Zc8 (a0:Array Value):St:=(⟨.a (.g a0 25) :: .a (.w 0) :: .a (.w 1) :: .a (.w 2) :: .a (.i .i64 (0:Int))::us 11 ([]),[.row a0 25,.row (zc prog 39) 39,.row (zc prog 39) 39],[]⟩:St)
def Zd4:Int×Array Value→LS
 | (y0_4,r0_2)=>([.a (.i .i64 (y0_4))],[.row r0_2 39])
def Zhu:Int×Array Value→Exit×LS
 | t=>((.exit 0),Zd4 t)
def Zby (P : Program) (a0 : Array Value) : Int × Array Value → Option (Stp (Int × Array Value) (Int × Array Value))
 | (y0_4, r0_2) => bif decide (y0_4 < (36 : Int)) then (bif (decide (0 ≤ y0_4) && decide (y0_4 < 36)) then (bif (decide (0 ≤ y0_4) && decide (y0_4 < 36)) then (some (.more ((i64.wrap (y0_4 + (1 : Int))), (spl r0_2 ((y0_4).toNat * 5) (a0.extract ((y0_4).toNat * 5) (((y0_4).toNat * 5) + 5)).toList))))
    else (none))
   else (none))
  else (some (.done (y0_4, r0_2)))
theorem Zr7 (N:Nat) (a0:Array Value):∀ t:Int×Array Value,stepV prog (mkΓ [(71,con Zbm)]) N (cAt (codeOf Tryd.f45) [1,1,0,1,0,0]) (pAt (mkPlan (codeOf Tryd.f45) [([4],[2])]).1 [1,1,0,1,0]) [4] [2] (Zc8 a0) (Zd4 t)=mapS Zd4 Zhu (Zby prog a0 t):=by
 rintro ⟨y0_4,r0_2⟩
 refine Eq.trans (b:=(bif decide (y0_4<(36:Int)) then (bif (decide (0≤y0_4)&&decide (y0_4<36)) then (bif (decide (0≤y0_4)&&decide (y0_4<36)) then (some (.more ([.a (.i .i64 (i64.wrap (y0_4+(1:Int))))],[.row (spl r0_2 ((y0_4).toNat*5) (a0.extract ((y0_4).toNat*5) (((y0_4).toNat*5)+5)).toList) 39])))
    else (none))
   else (none))
  else (some (.done ((.exit 0),([.a (.i .i64 (y0_4))],[.row r0_2 39])))))) (by kernel_rfl) ?_
 simp only [Zby,Za0,Zay,Za1,Zaz,Zd4,Zhu]
def Zgj (P:Program) (N:Nat) (a0:Array Value) (z0_4:Int) (q0_2:Array Value):Option (SV×Eff×Bool):=some (.a (.g q0_2 39),.none,true)
theorem Zm6 (N:Nat) (a0:Array Value) (z0_4:Int) (q0_2:Array Value):(kBlock 0 (kSeq (veC prog (mkΓ [(71,con Zbm)]) N (cAt (codeOf Tryd.f45) [1,1,1]) (pAt (mkPlan (codeOf Tryd.f45) [([4],[2])]).1 [1,1,1]) (SV×Eff×Bool)) (finK prog [] [.cell 2 39]))) (.exit 0) (left (writes (cAt (codeOf Tryd.f45) [1,1,0,1,0,0])) [4] [2] (Zc8 a0) ([.a (.i .i64 (z0_4))],[.row q0_2 39]))=Zgj prog N a0 z0_4 q0_2:=by
 refine Eq.trans (b:=(some (.a (.g q0_2 39),.none,true))) (by kernel_rfl) ?_
 rfl
theorem Zsq (N:Nat) (a0:Array Value):bindX (iterO (stepV prog (mkΓ [(71,con Zbm)]) N (cAt (codeOf Tryd.f45) [1,1,0,1,0,0]) (pAt (mkPlan (codeOf Tryd.f45) [([4],[2])]).1 [1,1,0,1,0]) [4] [2] (Zc8 a0)) N ([.a (.i .i64 (0:Int))],[.row (zc prog 39) 39])) (fun e s=>(kBlock 0 (kSeq (veC prog (mkΓ [(71,con Zbm)]) N (cAt (codeOf Tryd.f45) [1,1,1]) (pAt (mkPlan (codeOf Tryd.f45) [([4],[2])]).1 [1,1,1]) (SV×Eff×Bool)) (finK prog [] [.cell 2 39]))) e (left (writes (cAt (codeOf Tryd.f45) [1,1,0,1,0,0])) [4] [2] (Zc8 a0) s))=nodeX (iterO (Zby prog a0) N ((0:Int),(zc prog 39))) (fun x=>Zgj prog N a0 x.1 x.2):=by
 refine Zbg Zd4 Zhu _ _ (Zr7 N a0) N ((0:Int),(zc prog 39)) _ _ ?_
 intro x;exact Zm6 N a0 x.1 x.2
theorem Zqf (N:Nat) (a0:Array Value):ansV prog (mkΓ [(71,con Zbm)]) N Tryd.f45 [([4],[2])] [.g a0 25] []=(nodeX (iterO (Zby prog a0) N ((0:Int),(zc prog 39))) (fun x=>Zgj prog N a0 x.1 x.2)):=by
 refine Eq.trans (b:=(bindX (iterO (stepV prog (mkΓ [(71,con Zbm)]) N (cAt (codeOf Tryd.f45) [1,1,0,1,0,0]) (pAt (mkPlan (codeOf Tryd.f45) [([4],[2])]).1 [1,1,0,1,0]) [4] [2] (Zc8 a0)) N ([.a (.i .i64 (0:Int))],[.row (zc prog 39) 39])) (fun e s=>(kBlock 0 (kSeq (veC prog (mkΓ [(71,con Zbm)]) N (cAt (codeOf Tryd.f45) [1,1,1]) (pAt (mkPlan (codeOf Tryd.f45) [([4],[2])]).1 [1,1,1]) (SV×Eff×Bool)) (finK prog [] [.cell 2 39]))) e (left (writes (cAt (codeOf Tryd.f45) [1,1,0,1,0,0])) [4] [2] (Zc8 a0) s)))) (by kernel_rfl) ?_
 simp only [Zsq N a0]
theorem Zpc (a0:Array Value) (h_a0:WT prog 25 a0) (hg:(true)=true):ansV prog (mkΓ [(71,con Zbm)]) 1000 Tryd.f45 [([4],[2])] [.g a0 25] []=some (.a (.g a0 39),.none,true):=by
 have hs:a0.size=(zc prog 39).size:=by rw [h_a0.layLen];kernel_rfl
 have hz:a0.size=180:=by rw [h_a0.layLen];kernel_rfl
 have hL:∀ k,k<36→(lay prog 25)[k*5]? = some 4:=by
  intro k hk
  have h:(List.range 36).all (fun k=>(lay prog 25)[k*5]? == some 4)=true:=by kernel_rfl
  exact eq_of_beq (List.all_eq_true.1 h k (List.mem_range.2 hk))
 have h:=Zfd (g:=Zby prog a0) (fun k=>((k:Int),upto a0 (zc prog 39) (k*5))) (m:=36) (x:=(((36:Nat):Int),upto a0 (zc prog 39) (36*5))) (N:=1000) (fun k hk=>by
  have h1:decide ((k:Int)<36)=true:=decide_eq_true (by omega)
  have h0:decide (0≤(k:Int))=true:=decide_eq_true (by omega)
  have h3:i64.wrap ((k:Int)+1)=((k+1:Nat):Int):=by rw [IntWalk.i64_in _ (by omega)];omega
  have h4:((k:Int)).toNat=k:=Int.toNat_natCast k
  have h5:spl (upto a0 (zc prog 39) (k*5)) (k*5) (a0.extract (k*5) (k*5+5)).toList=upto a0 (zc prog 39) ((k+1)*5):=by
   rw [Nat.add_mul];exact Zz5 hs (by omega) rfl
  simp only [Zby,h1,h0,Bool.and_self,h4,cond_true,h3,h5]) (by
  have h1:decide (((36:Nat):Int)<36)=false:=by decide
  simp only [Zby,h1,cond_false]) (by omega)
 simp only [Nat.zero_mul,Zq4 hs,Zvw hs hz] at h
 refine (Zqf 1000 a0).trans ?_
 have h':iterO (Zby prog a0) 1000 ((0:Int),(zc prog 39))=some (((36:Nat):Int),a0):=h
 rw [h']
 rfl
def Za3:Con:=fun args h=>match args,h with
 | [.g a0 25],[]=>some (.a (.g a0 39),.none,true)
 | _,_=>none
theorem Zon:EntX prog 45:=Zag (fn:=Tryd.f45) (by kernel_rfl) (by kernel_rfl) (by kernel_rfl)
theorem Zsw:ConOkX mn prog 45 Za3:=(Zah (N:=1000) (by kernel_rfl) (mkΓ_consX (Zad Zx2) Zsf mkΓ_nilX) (fn:=Tryd.f45) (by kernel_rfl) (by kernel_rfl) [([4],[2])]).of (by
 intro ρ h w args vals r e hA hH hr
 unfold Za3 at hr
 split at hr
 ·rename_i a0
  obtain ⟨rfl,hg⟩:=Prod.mk.inj (Option.some.inj hr)
  obtain ⟨rfl,hg2⟩:=Prod.mk.inj hg
  exact Zpc a0 (hA.wt 0 rfl) hg2
 ·cases hr)
def Zci (a0:Array Value):St:=(⟨.a (.g a0 26) :: .a (.w 0) :: .a (.w 1) :: .a (.w 2) :: .a (.i .i64 (0:Int))::us 11 ([]),[.row a0 26,.row (zc prog 40) 40,.row (zc prog 40) 40],[]⟩:St)
def Zdg:Int×Array Value→LS
 | (y0_4,r0_2)=>([.a (.i .i64 (y0_4))],[.row r0_2 40])
def Zgo:Int×Array Value→Exit×LS
 | t=>((.exit 0),Zdg t)
def Zbc (P : Program) (a0 : Array Value) : Int × Array Value → Option (Stp (Int × Array Value) (Int × Array Value))
 | (y0_4, r0_2) => bif decide (y0_4 < (2 : Int)) then (bif (decide (0 ≤ y0_4) && decide (y0_4 < 2)) then (bif (decide (0 ≤ y0_4) && decide (y0_4 < 2)) then (some (.more ((i64.wrap (y0_4 + (1 : Int))), (spl r0_2 ((y0_4).toNat * 180) (a0.extract ((y0_4).toNat * 180) (((y0_4).toNat * 180) + 180)).toList))))
    else (none))
   else (none))
  else (some (.done (y0_4, r0_2)))
theorem Zpk (N:Nat) (a0:Array Value):∀ t:Int×Array Value,stepV prog (mkΓ [(45,con Za3)]) N (cAt (codeOf Tryd.f23) [1,1,0,1,0,0]) (pAt (mkPlan (codeOf Tryd.f23) [([4],[2])]).1 [1,1,0,1,0]) [4] [2] (Zci a0) (Zdg t)=mapS Zdg Zgo (Zbc prog a0 t):=by
 rintro ⟨y0_4,r0_2⟩
 refine Eq.trans (b:=(bif decide (y0_4<(2:Int)) then (bif (decide (0≤y0_4)&&decide (y0_4<2)) then (bif (decide (0≤y0_4)&&decide (y0_4<2)) then (some (.more ([.a (.i .i64 (i64.wrap (y0_4+(1:Int))))],[.row (spl r0_2 ((y0_4).toNat*180) (a0.extract ((y0_4).toNat*180) (((y0_4).toNat*180)+180)).toList) 40])))
    else (none))
   else (none))
  else (some (.done ((.exit 0),([.a (.i .i64 (y0_4))],[.row r0_2 40])))))) (by kernel_rfl) ?_
 simp only [Zbc,Za0,Zay,Za1,Zaz,Zdg,Zgo]
def Zfs (P:Program) (N:Nat) (a0:Array Value) (z0_4:Int) (q0_2:Array Value):Option (SV×Eff×Bool):=some (.a (.g q0_2 40),.none,true)
theorem Zlr (N:Nat) (a0:Array Value) (z0_4:Int) (q0_2:Array Value):(kBlock 0 (kSeq (veC prog (mkΓ [(45,con Za3)]) N (cAt (codeOf Tryd.f23) [1,1,1]) (pAt (mkPlan (codeOf Tryd.f23) [([4],[2])]).1 [1,1,1]) (SV×Eff×Bool)) (finK prog [] [.cell 2 40]))) (.exit 0) (left (writes (cAt (codeOf Tryd.f23) [1,1,0,1,0,0])) [4] [2] (Zci a0) ([.a (.i .i64 (z0_4))],[.row q0_2 40]))=Zfs prog N a0 z0_4 q0_2:=by
 refine Eq.trans (b:=(some (.a (.g q0_2 40),.none,true))) (by kernel_rfl) ?_
 rfl
theorem Zpr (N:Nat) (a0:Array Value):bindX (iterO (stepV prog (mkΓ [(45,con Za3)]) N (cAt (codeOf Tryd.f23) [1,1,0,1,0,0]) (pAt (mkPlan (codeOf Tryd.f23) [([4],[2])]).1 [1,1,0,1,0]) [4] [2] (Zci a0)) N ([.a (.i .i64 (0:Int))],[.row (zc prog 40) 40])) (fun e s=>(kBlock 0 (kSeq (veC prog (mkΓ [(45,con Za3)]) N (cAt (codeOf Tryd.f23) [1,1,1]) (pAt (mkPlan (codeOf Tryd.f23) [([4],[2])]).1 [1,1,1]) (SV×Eff×Bool)) (finK prog [] [.cell 2 40]))) e (left (writes (cAt (codeOf Tryd.f23) [1,1,0,1,0,0])) [4] [2] (Zci a0) s))=nodeX (iterO (Zbc prog a0) N ((0:Int),(zc prog 40))) (fun x=>Zfs prog N a0 x.1 x.2):=by
 refine Zbg Zdg Zgo _ _ (Zpk N a0) N ((0:Int),(zc prog 40)) _ _ ?_
 intro x;exact Zlr N a0 x.1 x.2
theorem Zo1 (N:Nat) (a0:Array Value):ansV prog (mkΓ [(45,con Za3)]) N Tryd.f23 [([4],[2])] [.g a0 26] []=(nodeX (iterO (Zbc prog a0) N ((0:Int),(zc prog 40))) (fun x=>Zfs prog N a0 x.1 x.2)):=by
 refine Eq.trans (b:=(bindX (iterO (stepV prog (mkΓ [(45,con Za3)]) N (cAt (codeOf Tryd.f23) [1,1,0,1,0,0]) (pAt (mkPlan (codeOf Tryd.f23) [([4],[2])]).1 [1,1,0,1,0]) [4] [2] (Zci a0)) N ([.a (.i .i64 (0:Int))],[.row (zc prog 40) 40])) (fun e s=>(kBlock 0 (kSeq (veC prog (mkΓ [(45,con Za3)]) N (cAt (codeOf Tryd.f23) [1,1,1]) (pAt (mkPlan (codeOf Tryd.f23) [([4],[2])]).1 [1,1,1]) (SV×Eff×Bool)) (finK prog [] [.cell 2 40]))) e (left (writes (cAt (codeOf Tryd.f23) [1,1,0,1,0,0])) [4] [2] (Zci a0) s)))) (by kernel_rfl) ?_
 simp only [Zpr N a0]
theorem Znx (a0:Array Value) (h_a0:WT prog 26 a0) (hg:(true)=true):ansV prog (mkΓ [(45,con Za3)]) 1000 Tryd.f23 [([4],[2])] [.g a0 26] []=some (.a (.g a0 40),.none,true):=by
 have hs:a0.size=(zc prog 40).size:=by rw [h_a0.layLen];kernel_rfl
 have hz:a0.size=360:=by rw [h_a0.layLen];kernel_rfl
 have hL:∀ k,k<2→(lay prog 26)[k*180]? = some 4:=by
  intro k hk
  have h:(List.range 2).all (fun k=>(lay prog 26)[k*180]? == some 4)=true:=by kernel_rfl
  exact eq_of_beq (List.all_eq_true.1 h k (List.mem_range.2 hk))
 have h:=Zfd (g:=Zbc prog a0) (fun k=>((k:Int),upto a0 (zc prog 40) (k*180))) (m:=2) (x:=(((2:Nat):Int),upto a0 (zc prog 40) (2*180))) (N:=1000) (fun k hk=>by
  have h1:decide ((k:Int)<2)=true:=decide_eq_true (by omega)
  have h0:decide (0≤(k:Int))=true:=decide_eq_true (by omega)
  have h3:i64.wrap ((k:Int)+1)=((k+1:Nat):Int):=by rw [IntWalk.i64_in _ (by omega)];omega
  have h4:((k:Int)).toNat=k:=Int.toNat_natCast k
  have h5:spl (upto a0 (zc prog 40) (k*180)) (k*180) (a0.extract (k*180) (k*180+180)).toList=upto a0 (zc prog 40) ((k+1)*180):=by
   rw [Nat.add_mul];exact Zz5 hs (by omega) rfl
  simp only [Zbc,h1,h0,Bool.and_self,h4,cond_true,h3,h5]) (by
  have h1:decide (((2:Nat):Int)<2)=false:=by decide
  simp only [Zbc,h1,cond_false]) (by omega)
 simp only [Nat.zero_mul,Zq4 hs,Zvw hs hz] at h
 refine (Zo1 1000 a0).trans ?_
 have h':iterO (Zbc prog a0) 1000 ((0:Int),(zc prog 40))=some (((2:Nat):Int),a0):=h
 rw [h']
 rfl
def Zfx:Con:=fun args h=>match args,h with
 | [.g a0 26],[]=>some (.a (.g a0 40),.none,true)
 | _,_=>none
theorem Zm0:EntX prog 23:=Zag (fn:=Tryd.f23) (by kernel_rfl) (by kernel_rfl) (by kernel_rfl)
theorem Zpb:ConOkX mn prog 23 Zfx:=(Zah (N:=1000) (by kernel_rfl) (mkΓ_consX (Zad Zsw) Zon mkΓ_nilX) (fn:=Tryd.f23) (by kernel_rfl) (by kernel_rfl) [([4],[2])]).of (by
 intro ρ h w args vals r e hA hH hr
 unfold Zfx at hr
 split at hr
 ·rename_i a0
  obtain ⟨rfl,hg⟩:=Prod.mk.inj (Option.some.inj hr)
  obtain ⟨rfl,hg2⟩:=Prod.mk.inj hg
  exact Znx a0 (hA.wt 0 rfl) hg2
 ·cases hr)
def Zys:Cons:=(mkΓ [(23,con Zfx)])
theorem Ycw (N:Nat) (a0:Array Value):ansV prog Zys N Tryd.f9 [] [.g a0 28] []=(some (.a (.g (spl ((((zc prog 42).setIfInBounds 0 (.int .i8 (num a0 0))).setIfInBounds 1 (.int .i8 (num a0 1))).setIfInBounds 2 (.int .u64 (num a0 2))) 3 (a0.extract 3 (3+360)).toList) 42),.none,true)):=by kernel_rfl
theorem Ybu (a0:Array Value) (h_a0:WT prog 28 a0) (hg:(true)=true):ansV prog Zys 1000 Tryd.f9 [] [.g a0 28] []=some (.a (.g a0 42),.none,true):=by
 have hs:a0.size=(zc prog 42).size:=by rw [h_a0.layLen];kernel_rfl
 have hz:a0.size=363:=by rw [h_a0.layLen];kernel_rfl
 have e0:(upto a0 (zc prog 42) 0).setIfInBounds 0 (.int .i8 (num a0 0))=upto a0 (zc prog 42) 1:=Zz8 hs (h_a0.int (k:=.i8) (by kernel_rfl)).1
 rw [Zq4 hs] at e0
 have e1:(upto a0 (zc prog 42) 1).setIfInBounds 1 (.int .i8 (num a0 1))=upto a0 (zc prog 42) 2:=Zz8 hs (h_a0.int (k:=.i8) (by kernel_rfl)).1
 have e2:(upto a0 (zc prog 42) 2).setIfInBounds 2 (.int .u64 (num a0 2))=upto a0 (zc prog 42) 3:=Zz8 hs (h_a0.int (k:=.u64) (by kernel_rfl)).1
 have e3:spl (upto a0 (zc prog 42) 3) 3 (a0.extract 3 (3+360)).toList=upto a0 (zc prog 42) 363:=Zz5 hs (by omega) rfl
 refine (Ycw 1000 a0).trans ?_
 rw [e0,e1,e2,e3,Zvw hs hz]
def Zhz:Con:=fun args h=>match args,h with
 | [.g a0 28],[]=>some (.a (.g a0 42),.none,true)
 | _,_=>none
theorem Zk0:EntX prog 9:=Zag (fn:=Tryd.f9) (by kernel_rfl) (by kernel_rfl) (by kernel_rfl)
theorem Zog:ConOkX mn prog 9 Zhz:=(Zah (N:=1000) (by kernel_rfl) (mkΓ_consX (Zad Zpb) Zm0 mkΓ_nilX) (fn:=Tryd.f9) (by kernel_rfl) (by kernel_rfl) []).of (by
 intro ρ h w args vals r e hA hH hr
 unfold Zhz at hr
 split at hr
 ·rename_i a0
  obtain ⟨rfl,hg⟩:=Prod.mk.inj (Option.some.inj hr)
  obtain ⟨rfl,hg2⟩:=Prod.mk.inj hg
  exact Ybu a0 (hA.wt 0 rfl) hg2
 ·cases hr)
theorem wrap12:∀ k,k<14→i64.wrap ((12:Int)^k*12)=12^(k+1):=by decide
def Zet (a0:Int):St:=(⟨.a (.i .i64 (a0)) :: .a (.u) :: .a (.i .i64 (0:Int)) :: .a (.i .i64 (1:Int)) :: .a (.i .i64 (0:Int))::us 8 ([]),[],[]⟩:St)
def Zgc:Int×Int→LS
 | (y0_3,y0_4)=>([.a (.i .i64 (y0_3)),.a (.i .i64 (y0_4))],[])
def Zkj:Int×Int→Exit×LS
 | t=>((.exit 0),Zgc t)
def Zdd (P:Program) (a0:Int):Int×Int→Option (Stp (Int×Int) (Int×Int))
 | (y0_3,y0_4)=>bif decide (y0_4<a0) then (some (.more ((i64.wrap (y0_3*(12:Int))),(i64.wrap (y0_4+(1:Int))))))
  else (some (.done (y0_3,y0_4)))
theorem Zz1 (N:Nat) (a0:Int):∀ t:Int×Int,stepV prog (mkΓ []) N (cAt (codeOf Tryd.f43) [1,1,0,1,0,0]) (pAt (mkPlan (codeOf Tryd.f43) [([3,4],[])]).1 [1,1,0,1,0]) [3,4] [] (Zet a0) (Zgc t)=mapS Zgc Zkj (Zdd prog a0 t):=by
 rintro ⟨y0_3,y0_4⟩
 refine Eq.trans (b:=(bif decide (y0_4<a0) then (some (.more ([.a (.i .i64 (i64.wrap (y0_3*(12:Int)))),.a (.i .i64 (i64.wrap (y0_4+(1:Int))))],[])))
  else (some (.done ((.exit 0),([.a (.i .i64 (y0_3)),.a (.i .i64 (y0_4))],[])))))) (by kernel_rfl) ?_
 simp only [Zdd,Za0,Zay,Za1,Zaz,Zgc,Zkj]
def Zi7 (P:Program) (N:Nat) (a0:Int) (z0_3:Int) (z0_4:Int):Option (SV×Eff×Bool):=some (.a (.i .i64 (z0_3)),.none,true)
theorem Zqd (N:Nat) (a0:Int) (z0_3:Int) (z0_4:Int):(kBlock 0 (kSeq (veC prog (mkΓ []) N (cAt (codeOf Tryd.f43) [1,1,1]) (pAt (mkPlan (codeOf Tryd.f43) [([3,4],[])]).1 [1,1,1]) (SV×Eff×Bool)) (finK prog [] [.tmp 2]))) (.exit 0) (left (writes (cAt (codeOf Tryd.f43) [1,1,0,1,0,0])) [3,4] [] (Zet a0) ([.a (.i .i64 (z0_3)),.a (.i .i64 (z0_4))],[]))=Zi7 prog N a0 z0_3 z0_4:=by
 refine Eq.trans (b:=(some (.a (.i .i64 (z0_3)),.none,true))) (by kernel_rfl) ?_
 rfl
theorem Zy4 (N:Nat) (a0:Int):bindX (iterO (stepV prog (mkΓ []) N (cAt (codeOf Tryd.f43) [1,1,0,1,0,0]) (pAt (mkPlan (codeOf Tryd.f43) [([3,4],[])]).1 [1,1,0,1,0]) [3,4] [] (Zet a0)) N ([.a (.i .i64 (1:Int)),.a (.i .i64 (0:Int))],[])) (fun e s=>(kBlock 0 (kSeq (veC prog (mkΓ []) N (cAt (codeOf Tryd.f43) [1,1,1]) (pAt (mkPlan (codeOf Tryd.f43) [([3,4],[])]).1 [1,1,1]) (SV×Eff×Bool)) (finK prog [] [.tmp 2]))) e (left (writes (cAt (codeOf Tryd.f43) [1,1,0,1,0,0])) [3,4] [] (Zet a0) s))=nodeX (iterO (Zdd prog a0) N ((1:Int),(0:Int))) (fun x=>Zi7 prog N a0 x.1 x.2):=by
 refine Zbg Zgc Zkj _ _ (Zz1 N a0) N ((1:Int),(0:Int)) _ _ ?_
 intro x;exact Zqd N a0 x.1 x.2
theorem Zxa (N:Nat) (a0:Int):ansV prog (mkΓ []) N Tryd.f43 [([3,4],[])] [.i .i64 (a0)] []=(nodeX (iterO (Zdd prog a0) N ((1:Int),(0:Int))) (fun x=>Zi7 prog N a0 x.1 x.2)):=by
 refine Eq.trans (b:=(bindX (iterO (stepV prog (mkΓ []) N (cAt (codeOf Tryd.f43) [1,1,0,1,0,0]) (pAt (mkPlan (codeOf Tryd.f43) [([3,4],[])]).1 [1,1,0,1,0]) [3,4] [] (Zet a0)) N ([.a (.i .i64 (1:Int)),.a (.i .i64 (0:Int))],[])) (fun e s=>(kBlock 0 (kSeq (veC prog (mkΓ []) N (cAt (codeOf Tryd.f43) [1,1,1]) (pAt (mkPlan (codeOf Tryd.f43) [([3,4],[])]).1 [1,1,1]) (SV×Eff×Bool)) (finK prog [] [.tmp 2]))) e (left (writes (cAt (codeOf Tryd.f43) [1,1,0,1,0,0])) [3,4] [] (Zet a0) s)))) (by kernel_rfl) ?_
 simp only [Zy4 N a0]
theorem Zu0 (a0:Int) (h_a0:i64.min≤a0∧a0≤i64.max) (hg:((decide (0≤a0)&&decide (a0≤14)))=true):ansV prog (mkΓ []) 1000 Tryd.f43 [([3,4],[])] [.i .i64 (a0)] []=some (.a (.i .i64 (12^a0.toNat)),.none,true):=by
 simp only [Bool.and_eq_true,decide_eq_true_eq] at hg
 obtain ⟨h0,h14⟩:=hg
 obtain ⟨m,rfl⟩:=Int.eq_ofNat_of_zero_le h0
 refine (Zxa 1000 _).trans ?_
 have h:=Zfd (g:=Zdd prog (m:Int)) (fun k=>((12:Int)^k,(k:Int))) (m:=m) (x:=((12:Int)^m,(m:Int))) (N:=1000) (fun k hk=>by
  have h1:decide ((k:Int)<(m:Int))=true:=decide_eq_true (by omega)
  have h2:i64.wrap ((k:Int)+1)=((k+1:Nat):Int):=by rw [IntWalk.i64_in _ (by omega)];omega
  simp only [Zdd,h1,cond_true,wrap12 k (by omega),h2]) (by
  have h1:decide ((m:Int)<(m:Int))=false:=decide_eq_false (by omega)
  simp only [Zdd,h1,cond_false]) (by omega)
 have h':iterO (Zdd prog (m:Int)) 1000 ((1:Int),(0:Int))=some ((12:Int)^m,(m:Int)):=h
 rw [h']
 rfl
def Zj0:Con:=fun args h=>match args,h with
 | [.i .i64 a0],[]=>some (.a (.i .i64 (12^a0.toNat)),.none,(decide (0≤a0)&&decide (a0≤14)))
 | _,_=>none
theorem Ztx:EntX prog 43:=Zag (fn:=Tryd.f43) (by kernel_rfl) (by kernel_rfl) (by kernel_rfl)
theorem Zy7:ConOkX mn prog 43 Zj0:=(Zah (N:=1000) (by kernel_rfl) mkΓ_nilX (fn:=Tryd.f43) (by kernel_rfl) (by kernel_rfl) [([3,4],[])]).of (by
 intro ρ h w args vals r e hA hH hr
 unfold Zj0 at hr
 split at hr
 ·rename_i a0
  obtain ⟨rfl,hg⟩:=Prod.mk.inj (Option.some.inj hr)
  obtain ⟨rfl,hg2⟩:=Prod.mk.inj hg
  exact Zu0 a0 (hA.rng 0 rfl) hg2
 ·cases hr)
def Zd0 (a0:Int):St:=(⟨.a (.i .i64 (a0)) :: .a (.u) :: .a (.i .i64 (0:Int)) :: .a (.i .i64 (1:Int)) :: .a (.i .i64 (a0)) :: .a (.i .i64 (0:Int))::us 5 ([]),[],[]⟩:St)
def Ze7:Int×Int→LS
 | (y0_3,y0_5)=>([.a (.i .i64 (y0_3)),.a (.i .i64 (y0_5))],[])
def Zi8:Int×Int→Exit×LS
 | t=>((.exit 0),Ze7 t)
def Zcd (P:Program) (a0:Int):Int×Int→Option (Stp (Int×Int) (Int×Int))
 | (y0_3,y0_5)=>bif decide (y0_5<a0) then (some (.more ((i64.wrap (y0_3*(12:Int))),(i64.wrap (y0_5+(1:Int))))))
  else (some (.done (y0_3,y0_5)))
theorem Zwf (N:Nat) (a0:Int):∀ t:Int×Int,stepV prog (mkΓ []) N (cAt (codeOf Tryd.f83) [1,1,0,1,0,0]) (pAt (mkPlan (codeOf Tryd.f83) [([3,5],[])]).1 [1,1,0,1,0]) [3,5] [] (Zd0 a0) (Ze7 t)=mapS Ze7 Zi8 (Zcd prog a0 t):=by
 rintro ⟨y0_3,y0_5⟩
 refine Eq.trans (b:=(bif decide (y0_5<a0) then (some (.more ([.a (.i .i64 (i64.wrap (y0_3*(12:Int)))),.a (.i .i64 (i64.wrap (y0_5+(1:Int))))],[])))
  else (some (.done ((.exit 0),([.a (.i .i64 (y0_3)),.a (.i .i64 (y0_5))],[])))))) (by kernel_rfl) ?_
 simp only [Zcd,Za0,Zay,Za1,Zaz,Ze7,Zi8]
def Zhs (P:Program) (N:Nat) (a0:Int) (z0_3:Int) (z0_5:Int):Option (SV×Eff×Bool):=some (.a (.i .i64 (z0_3)),.none,true)
theorem Zoy (N:Nat) (a0:Int) (z0_3:Int) (z0_5:Int):(kBlock 0 (kSeq (veC prog (mkΓ []) N (cAt (codeOf Tryd.f83) [1,1,1]) (pAt (mkPlan (codeOf Tryd.f83) [([3,5],[])]).1 [1,1,1]) (SV×Eff×Bool)) (finK prog [] [.tmp 2]))) (.exit 0) (left (writes (cAt (codeOf Tryd.f83) [1,1,0,1,0,0])) [3,5] [] (Zd0 a0) ([.a (.i .i64 (z0_3)),.a (.i .i64 (z0_5))],[]))=Zhs prog N a0 z0_3 z0_5:=by
 refine Eq.trans (b:=(some (.a (.i .i64 (z0_3)),.none,true))) (by kernel_rfl) ?_
 rfl
theorem Zw4 (N:Nat) (a0:Int):bindX (iterO (stepV prog (mkΓ []) N (cAt (codeOf Tryd.f83) [1,1,0,1,0,0]) (pAt (mkPlan (codeOf Tryd.f83) [([3,5],[])]).1 [1,1,0,1,0]) [3,5] [] (Zd0 a0)) N ([.a (.i .i64 (1:Int)),.a (.i .i64 (0:Int))],[])) (fun e s=>(kBlock 0 (kSeq (veC prog (mkΓ []) N (cAt (codeOf Tryd.f83) [1,1,1]) (pAt (mkPlan (codeOf Tryd.f83) [([3,5],[])]).1 [1,1,1]) (SV×Eff×Bool)) (finK prog [] [.tmp 2]))) e (left (writes (cAt (codeOf Tryd.f83) [1,1,0,1,0,0])) [3,5] [] (Zd0 a0) s))=nodeX (iterO (Zcd prog a0) N ((1:Int),(0:Int))) (fun x=>Zhs prog N a0 x.1 x.2):=by
 refine Zbg Ze7 Zi8 _ _ (Zwf N a0) N ((1:Int),(0:Int)) _ _ ?_
 intro x;exact Zoy N a0 x.1 x.2
theorem Zte (N:Nat) (a0:Int):ansV prog (mkΓ []) N Tryd.f83 [([3,5],[])] [.i .i64 (a0)] []=(nodeX (iterO (Zcd prog a0) N ((1:Int),(0:Int))) (fun x=>Zhs prog N a0 x.1 x.2)):=by
 refine Eq.trans (b:=(bindX (iterO (stepV prog (mkΓ []) N (cAt (codeOf Tryd.f83) [1,1,0,1,0,0]) (pAt (mkPlan (codeOf Tryd.f83) [([3,5],[])]).1 [1,1,0,1,0]) [3,5] [] (Zd0 a0)) N ([.a (.i .i64 (1:Int)),.a (.i .i64 (0:Int))],[])) (fun e s=>(kBlock 0 (kSeq (veC prog (mkΓ []) N (cAt (codeOf Tryd.f83) [1,1,1]) (pAt (mkPlan (codeOf Tryd.f83) [([3,5],[])]).1 [1,1,1]) (SV×Eff×Bool)) (finK prog [] [.tmp 2]))) e (left (writes (cAt (codeOf Tryd.f83) [1,1,0,1,0,0])) [3,5] [] (Zd0 a0) s)))) (by kernel_rfl) ?_
 simp only [Zw4 N a0]
theorem Zr4 (a0:Int) (h_a0:i64.min≤a0∧a0≤i64.max) (hg:((decide (0≤a0)&&decide (a0≤14)))=true):ansV prog (mkΓ []) 1000 Tryd.f83 [([3,5],[])] [.i .i64 (a0)] []=some (.a (.i .i64 (12^a0.toNat)),.none,true):=by
 simp only [Bool.and_eq_true,decide_eq_true_eq] at hg
 obtain ⟨h0,h14⟩:=hg
 obtain ⟨m,rfl⟩:=Int.eq_ofNat_of_zero_le h0
 refine (Zte 1000 _).trans ?_
 have h:=Zfd (g:=Zcd prog (m:Int)) (fun k=>((12:Int)^k,(k:Int))) (m:=m) (x:=((12:Int)^m,(m:Int))) (N:=1000) (fun k hk=>by
  have h1:decide ((k:Int)<(m:Int))=true:=decide_eq_true (by omega)
  have h2:i64.wrap ((k:Int)+1)=((k+1:Nat):Int):=by rw [IntWalk.i64_in _ (by omega)];omega
  simp only [Zcd,h1,cond_true,wrap12 k (by omega),h2]) (by
  have h1:decide ((m:Int)<(m:Int))=false:=decide_eq_false (by omega)
  simp only [Zcd,h1,cond_false]) (by omega)
 have h':iterO (Zcd prog (m:Int)) 1000 ((1:Int),(0:Int))=some ((12:Int)^m,(m:Int)):=h
 rw [h']
 rfl
def Za9:Con:=fun args h=>match args,h with
 | [.i .i64 a0],[]=>some (.a (.i .i64 (12^a0.toNat)),.none,(decide (0≤a0)&&decide (a0≤14)))
 | _,_=>none
theorem Zqu:EntX prog 83:=Zag (fn:=Tryd.f83) (by kernel_rfl) (by kernel_rfl) (by kernel_rfl)
theorem Zue:ConOkX mn prog 83 Za9:=(Zah (N:=1000) (by kernel_rfl) mkΓ_nilX (fn:=Tryd.f83) (by kernel_rfl) (by kernel_rfl) [([3,5],[])]).of (by
 intro ρ h w args vals r e hA hH hr
 unfold Za9 at hr
 split at hr
 ·rename_i a0
  obtain ⟨rfl,hg⟩:=Prod.mk.inj (Option.some.inj hr)
  obtain ⟨rfl,hg2⟩:=Prod.mk.inj hg
  exact Zr4 a0 (hA.rng 0 rfl) hg2
 ·cases hr)
theorem Yad {x a b:Int} (h:Zaa x a b=true):a≤x∧x≤b:=by
 unfold Zaa at h
 cases h0:decide (x ≥ a) with
 | false=>rw [h0] at h;exact nomatch h
 | true=>rw [h0] at h;exact ⟨of_decide_eq_true h0,of_decide_eq_true h⟩
theorem cell_num {D:Array Value} {T:TypeId} (hz:D.size=40) (k:Nat) (hk:k<36):num (D.extract 3 (3+36)) (k*1)=num D (3+k*1):=by
 unfold num
 rw [Array.getElem?_extract,if_pos (by omega)]
end
end Go.Proofs.YtflnjkpejbohjaaDoor
