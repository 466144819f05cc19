/- Parts of twelve, in company. -/
import Derived.Test.YtflnjkpejbohjaaGreatDoorProg
import Derived.Test.YtflnjkpejbohjaaGreatDoorCxC
namespace Go.Proofs.YtflnjkpejbohjaaGreatDoor
open Go.ChangeShapes Go.WideShapes Go.ChangeAt Go.RowKit Ve Vc
open Tryz renaming prog → PZ
open IntKind (i64)
set_option linter.unusedVariables false
set_option linter.unusedSimpArgs false
set_option maxRecDepth 100000
noncomputable section
variable {mn:Md}
def Zei (a0:Array Value):St:=(⟨.a (.g a0 24) :: .a (.w 0) :: .a (.w 1) :: .a (.w 2) :: .a (.i .i64 (0:Int))::us 10 ([]),[.row a0 24,.row #[.int .u8 (0:Int),.int .u8 (0:Int),.int .u8 (0:Int),.int .u8 (0:Int),.int .u8 (0:Int)] 37,.row #[.int .u8 (0:Int),.int .u8 (0:Int),.int .u8 (0:Int),.int .u8 (0:Int),.int .u8 (0:Int)] 37],[]⟩:St)
def Zfq:Int×Array Value→LS
 | (y0_4,r0_2)=>([.a (.i .i64 (y0_4))],[.row r0_2 37])
def Zjh:Int×Array Value→Exit×LS
 | t=>((.exit 0),Zfq t)
def Zcp (P : Program) (a0 : Array Value) : Int × Array Value → Option (Stp (Int × Array Value) (Int × Array Value))
 | (y0_4, r0_2) => bif decide (y0_4 < (5 : Int)) then (bif (decide (0 ≤ y0_4) && decide (y0_4 < 5)) then (bif (decide (0 ≤ y0_4) && decide (y0_4 < 5)) then (some (.more ((i64.wrap (y0_4 + (1 : Int))), (r0_2.setIfInBounds ((y0_4).toNat * 1) (.int .u8 (num a0 ((y0_4).toNat * 1)))))))
    else (none))
   else (none))
  else (some (.done (y0_4, r0_2)))
theorem Zw6 (N:Nat) (a0:Array Value):∀ t:Int×Array Value,Uah PZ (mkΓ []) N (cAt (codeOf Tryz.f64) [1,1,0,1,0,0]) (pAt (Uaa (codeOf Tryz.f64) [([4],[2])]).1 [1,1,0,1,0]) [4] [2] (Zei a0) (Zfq t)=mapS Zfq Zjh (Zcp PZ a0 t):=by
 rintro ⟨y0_4,r0_2⟩
 refine Eq.trans (b:=(bif decide (y0_4<(5:Int)) then (bif (decide (0≤y0_4)&&decide (y0_4<5)) then (bif (decide (0≤y0_4)&&decide (y0_4<5)) then (some (.more ([.a (.i .i64 (i64.wrap (y0_4+(1:Int))))],[.row (r0_2.setIfInBounds ((y0_4).toNat*1) (.int .u8 (num a0 ((y0_4).toNat*1)))) 37])))
    else (none))
   else (none))
  else (some (.done ((.exit 0),([.a (.i .i64 (y0_4))],[.row r0_2 37])))))) (by kernel_rfl) ?_
 simp only [Zcp,Zax,Za0,Zay,Zaz,Zfq,Zjh]
def Zh9 (P:Program) (N:Nat) (a0:Array Value) (z0_4:Int) (q0_2:Array Value):Option (SV×Eff×Bool):=some (.a (.g q0_2 37),.none,true)
theorem Zow (N:Nat) (a0:Array Value) (z0_4:Int) (q0_2:Array Value):(Uac 0 (kSeq (veC PZ (mkΓ []) N (cAt (codeOf Tryz.f64) [1,1,1]) (pAt (Uaa (codeOf Tryz.f64) [([4],[2])]).1 [1,1,1]) (SV×Eff×Bool)) (finK PZ [] [.cell 2 37]))) (.exit 0) (left (writes (cAt (codeOf Tryz.f64) [1,1,0,1,0,0])) [4] [2] (Zei a0) ([.a (.i .i64 (z0_4))],[.row q0_2 37]))=Zh9 PZ N a0 z0_4 q0_2:=by
 refine Eq.trans (b:=(some (.a (.g q0_2 37),.none,true))) (by kernel_rfl) ?_
 rfl
theorem Zw2 (N:Nat) (a0:Array Value):Uaj (Uab (Uah PZ (mkΓ []) N (cAt (codeOf Tryz.f64) [1,1,0,1,0,0]) (pAt (Uaa (codeOf Tryz.f64) [([4],[2])]).1 [1,1,0,1,0]) [4] [2] (Zei a0)) N ([.a (.i .i64 (0:Int))],[.row (#[.int .u8 (0:Int),.int .u8 (0:Int),.int .u8 (0:Int),.int .u8 (0:Int),.int .u8 (0:Int)]:Array Value) 37])) (fun e s=>(Uac 0 (kSeq (veC PZ (mkΓ []) N (cAt (codeOf Tryz.f64) [1,1,1]) (pAt (Uaa (codeOf Tryz.f64) [([4],[2])]).1 [1,1,1]) (SV×Eff×Bool)) (finK PZ [] [.cell 2 37]))) e (left (writes (cAt (codeOf Tryz.f64) [1,1,0,1,0,0])) [4] [2] (Zei a0) s))=Uak (Uab (Zcp PZ a0) N ((0:Int),(#[.int .u8 (0:Int),.int .u8 (0:Int),.int .u8 (0:Int),.int .u8 (0:Int),.int .u8 (0:Int)]:Array Value))) (fun x=>Zh9 PZ N a0 x.1 x.2):=by
 refine Zbk Zfq Zjh _ _ (Zw6 N a0) N ((0:Int),(#[.int .u8 (0:Int),.int .u8 (0:Int),.int .u8 (0:Int),.int .u8 (0:Int),.int .u8 (0:Int)]:Array Value)) _ _ ?_
 intro x;exact Zow N a0 x.1 x.2
theorem Zv3 (N:Nat) (a0:Array Value):ansV PZ (mkΓ []) N Tryz.f64 [([4],[2])] [.g a0 24] []=(Uak (Uab (Zcp PZ a0) N ((0:Int),(#[.int .u8 (0:Int),.int .u8 (0:Int),.int .u8 (0:Int),.int .u8 (0:Int),.int .u8 (0:Int)]:Array Value))) (fun x=>Zh9 PZ N a0 x.1 x.2)):=by
 refine Eq.trans (b:=(Uaj (Uab (Uah PZ (mkΓ []) N (cAt (codeOf Tryz.f64) [1,1,0,1,0,0]) (pAt (Uaa (codeOf Tryz.f64) [([4],[2])]).1 [1,1,0,1,0]) [4] [2] (Zei a0)) N ([.a (.i .i64 (0:Int))],[.row (#[.int .u8 (0:Int),.int .u8 (0:Int),.int .u8 (0:Int),.int .u8 (0:Int),.int .u8 (0:Int)]:Array Value) 37])) (fun e s=>(Uac 0 (kSeq (veC PZ (mkΓ []) N (cAt (codeOf Tryz.f64) [1,1,1]) (pAt (Uaa (codeOf Tryz.f64) [([4],[2])]).1 [1,1,1]) (SV×Eff×Bool)) (finK PZ [] [.cell 2 37]))) e (left (writes (cAt (codeOf Tryz.f64) [1,1,0,1,0,0])) [4] [2] (Zei a0) s)))) (by kernel_rfl) ?_
 simp only [Zw2 N a0]
theorem Ztf (a0:Array Value) (h_a0:WT PZ 24 a0) (hg:(true)=true):ansV PZ (mkΓ []) 1000 Tryz.f64 [([4],[2])] [.g a0 24] []=some (.a (.g a0 37),.none,true):=by
 have hs:a0.size=(#[.int .u8 (0:Int),.int .u8 (0:Int),.int .u8 (0:Int),.int .u8 (0:Int),.int .u8 (0:Int)]:Array Value).size:=by rw [h_a0.layLen];kernel_rfl
 have hz:a0.size=5:=by rw [h_a0.layLen];kernel_rfl
 have hL:∀ k,k<5→(lay PZ 24)[k*1]? = some 4:=by
  intro k hk
  have h:(List.range 5).all (fun k=>(lay PZ 24)[k*1]? == some 4)=true:=by kernel_rfl
  exact eq_of_beq (List.all_eq_true.1 h k (List.mem_range.2 hk))
 have h:=Ze3 (g:=Zcp PZ a0) (fun k=>((k:Int),upto a0 (#[.int .u8 (0:Int),.int .u8 (0:Int),.int .u8 (0:Int),.int .u8 (0:Int),.int .u8 (0:Int)]:Array Value) (k*1))) (m:=5) (x:=(((5:Nat):Int),upto a0 (#[.int .u8 (0:Int),.int .u8 (0:Int),.int .u8 (0:Int),.int .u8 (0:Int),.int .u8 (0:Int)]:Array Value) (5*1))) (N:=1000) (fun k hk=>by
  have h1:decide ((k:Int)<5)=true:=decide_eq_true (by omega)
  have h0:decide (0≤(k:Int))=true:=decide_eq_true (by omega)
  have h3:i64.wrap ((k:Int)+1)=((k+1:Nat):Int):=by rw [IntWalk.i64_in _ (by omega)];omega
  have h4:((k:Int)).toNat=k:=Int.toNat_natCast k
  have h5:(upto a0 (#[.int .u8 (0:Int),.int .u8 (0:Int),.int .u8 (0:Int),.int .u8 (0:Int),.int .u8 (0:Int)]:Array Value) (k*1)).setIfInBounds (k*1) (.int .u8 (num a0 (k*1)))=upto a0 (#[.int .u8 (0:Int),.int .u8 (0:Int),.int .u8 (0:Int),.int .u8 (0:Int),.int .u8 (0:Int)]:Array Value) ((k+1)*1):=by
   rw [Nat.add_mul];exact Zzo hs (h_a0.int (k:=.u8) (hL k hk)).1
  simp only [Zcp,h1,h0,Bool.and_self,h4,cond_true,h3,h5]) (by
  have h1:decide (((5:Nat):Int)<5)=false:=by decide
  simp only [Zcp,h1,cond_false]) (by omega)
 simp only [Nat.zero_mul,Zqw hs,Zvc hs hz] at h
 refine (Zv3 1000 a0).trans ?_
 have h':Uab (Zcp PZ a0) 1000 ((0:Int),(#[.int .u8 (0:Int),.int .u8 (0:Int),.int .u8 (0:Int),.int .u8 (0:Int),.int .u8 (0:Int)]:Array Value))=some (((5:Nat):Int),a0):=h
 rw [h']
 rfl
def Zbi:Con:=fun args h=>match args,h with
 | [.g a0 24],[]=>some (.a (.g a0 37),.none,true)
 | _,_=>none
theorem Zrm:EntX PZ 64:=Zaf (fn:=Tryz.f64) (by kernel_rfl) (by kernel_rfl) (by kernel_rfl)
theorem Zw5:Uad mn PZ 64 Zbi:=(Zah (N:=1000) (by kernel_rfl) mkΓ_nilX (fn:=Tryz.f64) (by kernel_rfl) (by kernel_rfl) [([4],[2])]).of (by
 intro ρ h w args vals r e hA hH hr
 unfold Zbi at hr
 split at hr
 ·rename_i a0
  obtain ⟨rfl,hg⟩:=Prod.mk.inj (Option.some.inj hr)
  obtain ⟨rfl,hg2⟩:=Prod.mk.inj hg
  exact Ztf a0 (hA.wt 0 rfl) hg2
 ·cases hr)
def Zc5 (a0:Array Value):St:=(⟨.a (.g a0 25) :: .a (.w 0) :: .a (.w 1) :: .a (.w 2) :: .a (.i .i64 (0:Int))::us 11 ([]),[.row a0 25,.row (zc PZ 38) 38,.row (zc PZ 38) 38],[]⟩:St)
def Zd3:Int×Array Value→LS
 | (y0_4,r0_2)=>([.a (.i .i64 (y0_4))],[.row r0_2 38])
def Zhg:Int×Array Value→Exit×LS
 | t=>((.exit 0),Zd3 t)
def Zbw (P : Program) (a0 : Array Value) : Int × Array Value → Option (Stp (Int × Array Value) (Int × Array Value))
 | (y0_4, r0_2) => bif decide (y0_4 < (36 : Int)) then (bif (decide (0 ≤ y0_4) && decide (y0_4 < 36)) then (bif (decide (0 ≤ y0_4) && decide (y0_4 < 36)) then (some (.more ((i64.wrap (y0_4 + (1 : Int))), (spl r0_2 ((y0_4).toNat * 5) (a0.extract ((y0_4).toNat * 5) (((y0_4).toNat * 5) + 5)).toList))))
    else (none))
   else (none))
  else (some (.done (y0_4, r0_2)))
theorem Zr6 (N:Nat) (a0:Array Value):∀ t:Int×Array Value,Uah PZ (mkΓ [(64,con Zbi)]) N (cAt (codeOf Tryz.f44) [1,1,0,1,0,0]) (pAt (Uaa (codeOf Tryz.f44) [([4],[2])]).1 [1,1,0,1,0]) [4] [2] (Zc5 a0) (Zd3 t)=mapS Zd3 Zhg (Zbw PZ a0 t):=by
 rintro ⟨y0_4,r0_2⟩
 refine Eq.trans (b:=(bif decide (y0_4<(36:Int)) then (bif (decide (0≤y0_4)&&decide (y0_4<36)) then (bif (decide (0≤y0_4)&&decide (y0_4<36)) then (some (.more ([.a (.i .i64 (i64.wrap (y0_4+(1:Int))))],[.row (spl r0_2 ((y0_4).toNat*5) (a0.extract ((y0_4).toNat*5) (((y0_4).toNat*5)+5)).toList) 38])))
    else (none))
   else (none))
  else (some (.done ((.exit 0),([.a (.i .i64 (y0_4))],[.row r0_2 38])))))) (by kernel_rfl) ?_
 simp only [Zbw,Zax,Za0,Zay,Zaz,Zd3,Zhg]
def Zgj (P:Program) (N:Nat) (a0:Array Value) (z0_4:Int) (q0_2:Array Value):Option (SV×Eff×Bool):=some (.a (.g q0_2 38),.none,true)
theorem Zmo (N:Nat) (a0:Array Value) (z0_4:Int) (q0_2:Array Value):(Uac 0 (kSeq (veC PZ (mkΓ [(64,con Zbi)]) N (cAt (codeOf Tryz.f44) [1,1,1]) (pAt (Uaa (codeOf Tryz.f44) [([4],[2])]).1 [1,1,1]) (SV×Eff×Bool)) (finK PZ [] [.cell 2 38]))) (.exit 0) (left (writes (cAt (codeOf Tryz.f44) [1,1,0,1,0,0])) [4] [2] (Zc5 a0) ([.a (.i .i64 (z0_4))],[.row q0_2 38]))=Zgj PZ N a0 z0_4 q0_2:=by
 refine Eq.trans (b:=(some (.a (.g q0_2 38),.none,true))) (by kernel_rfl) ?_
 rfl
theorem Zr5 (N:Nat) (a0:Array Value):Uaj (Uab (Uah PZ (mkΓ [(64,con Zbi)]) N (cAt (codeOf Tryz.f44) [1,1,0,1,0,0]) (pAt (Uaa (codeOf Tryz.f44) [([4],[2])]).1 [1,1,0,1,0]) [4] [2] (Zc5 a0)) N ([.a (.i .i64 (0:Int))],[.row (zc PZ 38) 38])) (fun e s=>(Uac 0 (kSeq (veC PZ (mkΓ [(64,con Zbi)]) N (cAt (codeOf Tryz.f44) [1,1,1]) (pAt (Uaa (codeOf Tryz.f44) [([4],[2])]).1 [1,1,1]) (SV×Eff×Bool)) (finK PZ [] [.cell 2 38]))) e (left (writes (cAt (codeOf Tryz.f44) [1,1,0,1,0,0])) [4] [2] (Zc5 a0) s))=Uak (Uab (Zbw PZ a0) N ((0:Int),(zc PZ 38))) (fun x=>Zgj PZ N a0 x.1 x.2):=by
 refine Zbk Zd3 Zhg _ _ (Zr6 N a0) N ((0:Int),(zc PZ 38)) _ _ ?_
 intro x;exact Zmo N a0 x.1 x.2
theorem Zp9 (N:Nat) (a0:Array Value):ansV PZ (mkΓ [(64,con Zbi)]) N Tryz.f44 [([4],[2])] [.g a0 25] []=(Uak (Uab (Zbw PZ a0) N ((0:Int),(zc PZ 38))) (fun x=>Zgj PZ N a0 x.1 x.2)):=by
 refine Eq.trans (b:=(Uaj (Uab (Uah PZ (mkΓ [(64,con Zbi)]) N (cAt (codeOf Tryz.f44) [1,1,0,1,0,0]) (pAt (Uaa (codeOf Tryz.f44) [([4],[2])]).1 [1,1,0,1,0]) [4] [2] (Zc5 a0)) N ([.a (.i .i64 (0:Int))],[.row (zc PZ 38) 38])) (fun e s=>(Uac 0 (kSeq (veC PZ (mkΓ [(64,con Zbi)]) N (cAt (codeOf Tryz.f44) [1,1,1]) (pAt (Uaa (codeOf Tryz.f44) [([4],[2])]).1 [1,1,1]) (SV×Eff×Bool)) (finK PZ [] [.cell 2 38]))) e (left (writes (cAt (codeOf Tryz.f44) [1,1,0,1,0,0])) [4] [2] (Zc5 a0) s)))) (by kernel_rfl) ?_
 simp only [Zr5 N a0]
theorem Zox (a0:Array Value) (h_a0:WT PZ 25 a0) (hg:(true)=true):ansV PZ (mkΓ [(64,con Zbi)]) 1000 Tryz.f44 [([4],[2])] [.g a0 25] []=some (.a (.g a0 38),.none,true):=by
 have hs:a0.size=(zc PZ 38).size:=by rw [h_a0.layLen];kernel_rfl
 have hz:a0.size=180:=by rw [h_a0.layLen];kernel_rfl
 have hL:∀ k,k<36→(lay PZ 25)[k*5]? = some 4:=by
  intro k hk
  have h:(List.range 36).all (fun k=>(lay PZ 25)[k*5]? == some 4)=true:=by kernel_rfl
  exact eq_of_beq (List.all_eq_true.1 h k (List.mem_range.2 hk))
 have h:=Ze3 (g:=Zbw PZ a0) (fun k=>((k:Int),upto a0 (zc PZ 38) (k*5))) (m:=36) (x:=(((36:Nat):Int),upto a0 (zc PZ 38) (36*5))) (N:=1000) (fun k hk=>by
  have h1:decide ((k:Int)<36)=true:=decide_eq_true (by omega)
  have h0:decide (0≤(k:Int))=true:=decide_eq_true (by omega)
  have h3:i64.wrap ((k:Int)+1)=((k+1:Nat):Int):=by rw [IntWalk.i64_in _ (by omega)];omega
  have h4:((k:Int)).toNat=k:=Int.toNat_natCast k
  have h5:spl (upto a0 (zc PZ 38) (k*5)) (k*5) (a0.extract (k*5) (k*5+5)).toList=upto a0 (zc PZ 38) ((k+1)*5):=by
   rw [Nat.add_mul];exact Zzv hs (by omega) rfl
  simp only [Zbw,h1,h0,Bool.and_self,h4,cond_true,h3,h5]) (by
  have h1:decide (((36:Nat):Int)<36)=false:=by decide
  simp only [Zbw,h1,cond_false]) (by omega)
 simp only [Nat.zero_mul,Zqw hs,Zvc hs hz] at h
 refine (Zp9 1000 a0).trans ?_
 have h':Uab (Zbw PZ a0) 1000 ((0:Int),(zc PZ 38))=some (((36:Nat):Int),a0):=h
 rw [h']
 rfl
def Za3:Con:=fun args h=>match args,h with
 | [.g a0 25],[]=>some (.a (.g a0 38),.none,true)
 | _,_=>none
theorem Zny:EntX PZ 44:=Zaf (fn:=Tryz.f44) (by kernel_rfl) (by kernel_rfl) (by kernel_rfl)
theorem Zrl:Uad mn PZ 44 Za3:=(Zah (N:=1000) (by kernel_rfl) (mkΓ_consX (Zad Zw5) Zrm mkΓ_nilX) (fn:=Tryz.f44) (by kernel_rfl) (by kernel_rfl) [([4],[2])]).of (by
 intro ρ h w args vals r e hA hH hr
 unfold Za3 at hr
 split at hr
 ·rename_i a0
  obtain ⟨rfl,hg⟩:=Prod.mk.inj (Option.some.inj hr)
  obtain ⟨rfl,hg2⟩:=Prod.mk.inj hg
  exact Zox a0 (hA.wt 0 rfl) hg2
 ·cases hr)
def Zce (a0:Array Value):St:=(⟨.a (.g a0 26) :: .a (.w 0) :: .a (.w 1) :: .a (.w 2) :: .a (.i .i64 (0:Int))::us 11 ([]),[.row a0 26,.row (zc PZ 39) 39,.row (zc PZ 39) 39],[]⟩:St)
def Zde:Int×Array Value→LS
 | (y0_4,r0_2)=>([.a (.i .i64 (y0_4))],[.row r0_2 39])
def Zgg:Int×Array Value→Exit×LS
 | t=>((.exit 0),Zde t)
def Zba (P : Program) (a0 : Array Value) : Int × Array Value → Option (Stp (Int × Array Value) (Int × Array Value))
 | (y0_4, r0_2) => bif decide (y0_4 < (2 : Int)) then (bif (decide (0 ≤ y0_4) && decide (y0_4 < 2)) then (bif (decide (0 ≤ y0_4) && decide (y0_4 < 2)) then (some (.more ((i64.wrap (y0_4 + (1 : Int))), (spl r0_2 ((y0_4).toNat * 180) (a0.extract ((y0_4).toNat * 180) (((y0_4).toNat * 180) + 180)).toList))))
    else (none))
   else (none))
  else (some (.done (y0_4, r0_2)))
theorem Zov (N:Nat) (a0:Array Value):∀ t:Int×Array Value,Uah PZ (mkΓ [(44,con Za3)]) N (cAt (codeOf Tryz.f23) [1,1,0,1,0,0]) (pAt (Uaa (codeOf Tryz.f23) [([4],[2])]).1 [1,1,0,1,0]) [4] [2] (Zce a0) (Zde t)=mapS Zde Zgg (Zba PZ a0 t):=by
 rintro ⟨y0_4,r0_2⟩
 refine Eq.trans (b:=(bif decide (y0_4<(2:Int)) then (bif (decide (0≤y0_4)&&decide (y0_4<2)) then (bif (decide (0≤y0_4)&&decide (y0_4<2)) then (some (.more ([.a (.i .i64 (i64.wrap (y0_4+(1:Int))))],[.row (spl r0_2 ((y0_4).toNat*180) (a0.extract ((y0_4).toNat*180) (((y0_4).toNat*180)+180)).toList) 39])))
    else (none))
   else (none))
  else (some (.done ((.exit 0),([.a (.i .i64 (y0_4))],[.row r0_2 39])))))) (by kernel_rfl) ?_
 simp only [Zba,Zax,Za0,Zay,Zaz,Zde,Zgg]
def Zfn (P:Program) (N:Nat) (a0:Array Value) (z0_4:Int) (q0_2:Array Value):Option (SV×Eff×Bool):=some (.a (.g q0_2 39),.none,true)
theorem Zlr (N:Nat) (a0:Array Value) (z0_4:Int) (q0_2:Array Value):(Uac 0 (kSeq (veC PZ (mkΓ [(44,con Za3)]) N (cAt (codeOf Tryz.f23) [1,1,1]) (pAt (Uaa (codeOf Tryz.f23) [([4],[2])]).1 [1,1,1]) (SV×Eff×Bool)) (finK PZ [] [.cell 2 39]))) (.exit 0) (left (writes (cAt (codeOf Tryz.f23) [1,1,0,1,0,0])) [4] [2] (Zce a0) ([.a (.i .i64 (z0_4))],[.row q0_2 39]))=Zfn PZ N a0 z0_4 q0_2:=by
 refine Eq.trans (b:=(some (.a (.g q0_2 39),.none,true))) (by kernel_rfl) ?_
 rfl
theorem Zot (N:Nat) (a0:Array Value):Uaj (Uab (Uah PZ (mkΓ [(44,con Za3)]) N (cAt (codeOf Tryz.f23) [1,1,0,1,0,0]) (pAt (Uaa (codeOf Tryz.f23) [([4],[2])]).1 [1,1,0,1,0]) [4] [2] (Zce a0)) N ([.a (.i .i64 (0:Int))],[.row (zc PZ 39) 39])) (fun e s=>(Uac 0 (kSeq (veC PZ (mkΓ [(44,con Za3)]) N (cAt (codeOf Tryz.f23) [1,1,1]) (pAt (Uaa (codeOf Tryz.f23) [([4],[2])]).1 [1,1,1]) (SV×Eff×Bool)) (finK PZ [] [.cell 2 39]))) e (left (writes (cAt (codeOf Tryz.f23) [1,1,0,1,0,0])) [4] [2] (Zce a0) s))=Uak (Uab (Zba PZ a0) N ((0:Int),(zc PZ 39))) (fun x=>Zfn PZ N a0 x.1 x.2):=by
 refine Zbk Zde Zgg _ _ (Zov N a0) N ((0:Int),(zc PZ 39)) _ _ ?_
 intro x;exact Zlr N a0 x.1 x.2
theorem Zn2 (N:Nat) (a0:Array Value):ansV PZ (mkΓ [(44,con Za3)]) N Tryz.f23 [([4],[2])] [.g a0 26] []=(Uak (Uab (Zba PZ a0) N ((0:Int),(zc PZ 39))) (fun x=>Zfn PZ N a0 x.1 x.2)):=by
 refine Eq.trans (b:=(Uaj (Uab (Uah PZ (mkΓ [(44,con Za3)]) N (cAt (codeOf Tryz.f23) [1,1,0,1,0,0]) (pAt (Uaa (codeOf Tryz.f23) [([4],[2])]).1 [1,1,0,1,0]) [4] [2] (Zce a0)) N ([.a (.i .i64 (0:Int))],[.row (zc PZ 39) 39])) (fun e s=>(Uac 0 (kSeq (veC PZ (mkΓ [(44,con Za3)]) N (cAt (codeOf Tryz.f23) [1,1,1]) (pAt (Uaa (codeOf Tryz.f23) [([4],[2])]).1 [1,1,1]) (SV×Eff×Bool)) (finK PZ [] [.cell 2 39]))) e (left (writes (cAt (codeOf Tryz.f23) [1,1,0,1,0,0])) [4] [2] (Zce a0) s)))) (by kernel_rfl) ?_
 simp only [Zot N a0]
theorem Zm8 (a0:Array Value) (h_a0:WT PZ 26 a0) (hg:(true)=true):ansV PZ (mkΓ [(44,con Za3)]) 1000 Tryz.f23 [([4],[2])] [.g a0 26] []=some (.a (.g a0 39),.none,true):=by
 have hs:a0.size=(zc PZ 39).size:=by rw [h_a0.layLen];kernel_rfl
 have hz:a0.size=360:=by rw [h_a0.layLen];kernel_rfl
 have hL:∀ k,k<2→(lay PZ 26)[k*180]? = some 4:=by
  intro k hk
  have h:(List.range 2).all (fun k=>(lay PZ 26)[k*180]? == some 4)=true:=by kernel_rfl
  exact eq_of_beq (List.all_eq_true.1 h k (List.mem_range.2 hk))
 have h:=Ze3 (g:=Zba PZ a0) (fun k=>((k:Int),upto a0 (zc PZ 39) (k*180))) (m:=2) (x:=(((2:Nat):Int),upto a0 (zc PZ 39) (2*180))) (N:=1000) (fun k hk=>by
  have h1:decide ((k:Int)<2)=true:=decide_eq_true (by omega)
  have h0:decide (0≤(k:Int))=true:=decide_eq_true (by omega)
  have h3:i64.wrap ((k:Int)+1)=((k+1:Nat):Int):=by rw [IntWalk.i64_in _ (by omega)];omega
  have h4:((k:Int)).toNat=k:=Int.toNat_natCast k
  have h5:spl (upto a0 (zc PZ 39) (k*180)) (k*180) (a0.extract (k*180) (k*180+180)).toList=upto a0 (zc PZ 39) ((k+1)*180):=by
   rw [Nat.add_mul];exact Zzv hs (by omega) rfl
  simp only [Zba,h1,h0,Bool.and_self,h4,cond_true,h3,h5]) (by
  have h1:decide (((2:Nat):Int)<2)=false:=by decide
  simp only [Zba,h1,cond_false]) (by omega)
 simp only [Nat.zero_mul,Zqw hs,Zvc hs hz] at h
 refine (Zn2 1000 a0).trans ?_
 have h':Uab (Zba PZ a0) 1000 ((0:Int),(zc PZ 39))=some (((2:Nat):Int),a0):=h
 rw [h']
 rfl
def Zfw:Con:=fun args h=>match args,h with
 | [.g a0 26],[]=>some (.a (.g a0 39),.none,true)
 | _,_=>none
theorem Zmv:EntX PZ 23:=Zaf (fn:=Tryz.f23) (by kernel_rfl) (by kernel_rfl) (by kernel_rfl)
theorem Zo8:Uad mn PZ 23 Zfw:=(Zah (N:=1000) (by kernel_rfl) (mkΓ_consX (Zad Zrl) Zny mkΓ_nilX) (fn:=Tryz.f23) (by kernel_rfl) (by kernel_rfl) [([4],[2])]).of (by
 intro ρ h w args vals r e hA hH hr
 unfold Zfw at hr
 split at hr
 ·rename_i a0
  obtain ⟨rfl,hg⟩:=Prod.mk.inj (Option.some.inj hr)
  obtain ⟨rfl,hg2⟩:=Prod.mk.inj hg
  exact Zm8 a0 (hA.wt 0 rfl) hg2
 ·cases hr)
def Zx4:Cons:=(mkΓ [(23,con Zfw)])
theorem Yc0 (N:Nat) (a0:Array Value):ansV PZ Zx4 N Tryz.f8 [] [.g a0 28] []=(some (.a (.g (spl ((((zc PZ 41).setIfInBounds 0 (.int .i8 (num a0 0))).setIfInBounds 1 (.int .i8 (num a0 1))).setIfInBounds 2 (.int .u64 (num a0 2))) 3 (a0.extract 3 (3+360)).toList) 41),.none,true)):=by kernel_rfl
theorem Zzy (a0:Array Value) (h_a0:WT PZ 28 a0) (hg:(true)=true):ansV PZ Zx4 1000 Tryz.f8 [] [.g a0 28] []=some (.a (.g a0 41),.none,true):=by
 have hs:a0.size=(zc PZ 41).size:=by rw [h_a0.layLen];kernel_rfl
 have hz:a0.size=363:=by rw [h_a0.layLen];kernel_rfl
 have e0:(upto a0 (zc PZ 41) 0).setIfInBounds 0 (.int .i8 (num a0 0))=upto a0 (zc PZ 41) 1:=Zzo hs (h_a0.int (k:=.i8) (by kernel_rfl)).1
 rw [Zqw hs] at e0
 have e1:(upto a0 (zc PZ 41) 1).setIfInBounds 1 (.int .i8 (num a0 1))=upto a0 (zc PZ 41) 2:=Zzo hs (h_a0.int (k:=.i8) (by kernel_rfl)).1
 have e2:(upto a0 (zc PZ 41) 2).setIfInBounds 2 (.int .u64 (num a0 2))=upto a0 (zc PZ 41) 3:=Zzo hs (h_a0.int (k:=.u64) (by kernel_rfl)).1
 have e3:spl (upto a0 (zc PZ 41) 3) 3 (a0.extract 3 (3+360)).toList=upto a0 (zc PZ 41) 363:=Zzv hs (by omega) rfl
 refine (Yc0 1000 a0).trans ?_
 rw [e0,e1,e2,e3,Zvc hs hz]
def Zmx:Con:=fun args h=>match args,h with
 | [.g a0 28],[]=>some (.a (.g a0 41),.none,true)
 | _,_=>none
theorem Zyn:EntX PZ 8:=Zaf (fn:=Tryz.f8) (by kernel_rfl) (by kernel_rfl) (by kernel_rfl)
theorem Yew:Uad mn PZ 8 Zmx:=(Zah (N:=1000) (by kernel_rfl) (mkΓ_consX (Zad Zo8) Zmv mkΓ_nilX) (fn:=Tryz.f8) (by kernel_rfl) (by kernel_rfl) []).of (by
 intro ρ h w args vals r e hA hH hr
 unfold Zmx at hr
 split at hr
 ·rename_i a0
  obtain ⟨rfl,hg⟩:=Prod.mk.inj (Option.some.inj hr)
  obtain ⟨rfl,hg2⟩:=Prod.mk.inj hg
  exact Zzy a0 (hA.wt 0 rfl) hg2
 ·cases hr)
theorem wrap12:∀ k,k<14→i64.wrap ((12:Int)^k*12)=12^(k+1):=by decide
def Zex (a0:Int):St:=(⟨.a (.i .i64 (a0)) :: .a (.u) :: .a (.i .i64 (0:Int)) :: .a (.i .i64 (1:Int)) :: .a (.i .i64 (0:Int))::us 8 ([]),[],[]⟩:St)
def Zf6:Int×Int→LS
 | (y0_3,y0_4)=>([.a (.i .i64 (y0_3)),.a (.i .i64 (y0_4))],[])
def Zki:Int×Int→Exit×LS
 | t=>((.exit 0),Zf6 t)
def Zc7 (P:Program) (a0:Int):Int×Int→Option (Stp (Int×Int) (Int×Int))
 | (y0_3,y0_4)=>bif decide (y0_4<a0) then (some (.more ((i64.wrap (y0_3*(12:Int))),(i64.wrap (y0_4+(1:Int))))))
  else (some (.done (y0_3,y0_4)))
theorem Zya (N:Nat) (a0:Int):∀ t:Int×Int,Uah PZ (mkΓ []) N (cAt (codeOf Tryz.f41) [1,1,0,1,0,0]) (pAt (Uaa (codeOf Tryz.f41) [([3,4],[])]).1 [1,1,0,1,0]) [3,4] [] (Zex a0) (Zf6 t)=mapS Zf6 Zki (Zc7 PZ a0 t):=by
 rintro ⟨y0_3,y0_4⟩
 refine Eq.trans (b:=(bif decide (y0_4<a0) then (some (.more ([.a (.i .i64 (i64.wrap (y0_3*(12:Int)))),.a (.i .i64 (i64.wrap (y0_4+(1:Int))))],[])))
  else (some (.done ((.exit 0),([.a (.i .i64 (y0_3)),.a (.i .i64 (y0_4))],[])))))) (by kernel_rfl) ?_
 simp only [Zc7,Zax,Za0,Zay,Zaz,Zf6,Zki]
def Zit (P:Program) (N:Nat) (a0:Int) (z0_3:Int) (z0_4:Int):Option (SV×Eff×Bool):=some (.a (.i .i64 (z0_3)),.none,true)
theorem Zqj (N:Nat) (a0:Int) (z0_3:Int) (z0_4:Int):(Uac 0 (kSeq (veC PZ (mkΓ []) N (cAt (codeOf Tryz.f41) [1,1,1]) (pAt (Uaa (codeOf Tryz.f41) [([3,4],[])]).1 [1,1,1]) (SV×Eff×Bool)) (finK PZ [] [.tmp 2]))) (.exit 0) (left (writes (cAt (codeOf Tryz.f41) [1,1,0,1,0,0])) [3,4] [] (Zex a0) ([.a (.i .i64 (z0_3)),.a (.i .i64 (z0_4))],[]))=Zit PZ N a0 z0_3 z0_4:=by
 refine Eq.trans (b:=(some (.a (.i .i64 (z0_3)),.none,true))) (by kernel_rfl) ?_
 rfl
theorem Zzj (N:Nat) (a0:Int):Uaj (Uab (Uah PZ (mkΓ []) N (cAt (codeOf Tryz.f41) [1,1,0,1,0,0]) (pAt (Uaa (codeOf Tryz.f41) [([3,4],[])]).1 [1,1,0,1,0]) [3,4] [] (Zex a0)) N ([.a (.i .i64 (1:Int)),.a (.i .i64 (0:Int))],[])) (fun e s=>(Uac 0 (kSeq (veC PZ (mkΓ []) N (cAt (codeOf Tryz.f41) [1,1,1]) (pAt (Uaa (codeOf Tryz.f41) [([3,4],[])]).1 [1,1,1]) (SV×Eff×Bool)) (finK PZ [] [.tmp 2]))) e (left (writes (cAt (codeOf Tryz.f41) [1,1,0,1,0,0])) [3,4] [] (Zex a0) s))=Uak (Uab (Zc7 PZ a0) N ((1:Int),(0:Int))) (fun x=>Zit PZ N a0 x.1 x.2):=by
 refine Zbk Zf6 Zki _ _ (Zya N a0) N ((1:Int),(0:Int)) _ _ ?_
 intro x;exact Zqj N a0 x.1 x.2
theorem Zxd (N:Nat) (a0:Int):ansV PZ (mkΓ []) N Tryz.f41 [([3,4],[])] [.i .i64 (a0)] []=(Uak (Uab (Zc7 PZ a0) N ((1:Int),(0:Int))) (fun x=>Zit PZ N a0 x.1 x.2)):=by
 refine Eq.trans (b:=(Uaj (Uab (Uah PZ (mkΓ []) N (cAt (codeOf Tryz.f41) [1,1,0,1,0,0]) (pAt (Uaa (codeOf Tryz.f41) [([3,4],[])]).1 [1,1,0,1,0]) [3,4] [] (Zex a0)) N ([.a (.i .i64 (1:Int)),.a (.i .i64 (0:Int))],[])) (fun e s=>(Uac 0 (kSeq (veC PZ (mkΓ []) N (cAt (codeOf Tryz.f41) [1,1,1]) (pAt (Uaa (codeOf Tryz.f41) [([3,4],[])]).1 [1,1,1]) (SV×Eff×Bool)) (finK PZ [] [.tmp 2]))) e (left (writes (cAt (codeOf Tryz.f41) [1,1,0,1,0,0])) [3,4] [] (Zex a0) s)))) (by kernel_rfl) ?_
 simp only [Zzj N a0]
theorem Zvx (a0:Int) (h_a0:i64.min≤a0∧a0≤i64.max) (hg:((decide (0≤a0)&&decide (a0≤14)))=true):ansV PZ (mkΓ []) 1000 Tryz.f41 [([3,4],[])] [.i .i64 (a0)] []=some (.a (.i .i64 (12^a0.toNat)),.none,true):=by
 simp only [Bool.and_eq_true,decide_eq_true_eq] at hg
 obtain ⟨h0,h14⟩:=hg
 obtain ⟨m,rfl⟩:=Int.eq_ofNat_of_zero_le h0
 refine (Zxd 1000 _).trans ?_
 have h:=Ze3 (g:=Zc7 PZ (m:Int)) (fun k=>((12:Int)^k,(k:Int))) (m:=m) (x:=((12:Int)^m,(m:Int))) (N:=1000) (fun k hk=>by
  have h1:decide ((k:Int)<(m:Int))=true:=decide_eq_true (by omega)
  have h2:i64.wrap ((k:Int)+1)=((k+1:Nat):Int):=by rw [IntWalk.i64_in _ (by omega)];omega
  simp only [Zc7,h1,cond_true,wrap12 k (by omega),h2]) (by
  have h1:decide ((m:Int)<(m:Int))=false:=decide_eq_false (by omega)
  simp only [Zc7,h1,cond_false]) (by omega)
 have h':Uab (Zc7 PZ (m:Int)) 1000 ((1:Int),(0:Int))=some ((12:Int)^m,(m:Int)):=h
 rw [h']
 rfl
def Zfh:Con:=fun args h=>match args,h with
 | [.i .i64 a0],[]=>some (.a (.i .i64 (12^a0.toNat)),.none,(decide (0≤a0)&&decide (a0≤14)))
 | _,_=>none
theorem Zli:EntX PZ 41:=Zaf (fn:=Tryz.f41) (by kernel_rfl) (by kernel_rfl) (by kernel_rfl)
theorem Zor:Uad mn PZ 41 Zfh:=(Zah (N:=1000) (by kernel_rfl) mkΓ_nilX (fn:=Tryz.f41) (by kernel_rfl) (by kernel_rfl) [([3,4],[])]).of (by
 intro ρ h w args vals r e hA hH hr
 unfold Zfh at hr
 split at hr
 ·rename_i a0
  obtain ⟨rfl,hg⟩:=Prod.mk.inj (Option.some.inj hr)
  obtain ⟨rfl,hg2⟩:=Prod.mk.inj hg
  exact Zvx a0 (hA.rng 0 rfl) hg2
 ·cases hr)
def Zdx (a0:Int):St:=(⟨.a (.i .i64 (a0)) :: .a (.u) :: .a (.i .i64 (0:Int)) :: .a (.i .i64 (1:Int)) :: .a (.i .i64 (a0)) :: .a (.i .i64 (0:Int))::us 5 ([]),[],[]⟩:St)
def Ze6:Int×Int→LS
 | (y0_3,y0_5)=>([.a (.i .i64 (y0_3)),.a (.i .i64 (y0_5))],[])
def Zi4:Int×Int→Exit×LS
 | t=>((.exit 0),Ze6 t)
def Zca (P:Program) (a0:Int):Int×Int→Option (Stp (Int×Int) (Int×Int))
 | (y0_3,y0_5)=>bif decide (y0_5<a0) then (some (.more ((i64.wrap (y0_3*(12:Int))),(i64.wrap (y0_5+(1:Int))))))
  else (some (.done (y0_3,y0_5)))
theorem Zt2 (N:Nat) (a0:Int):∀ t:Int×Int,Uah PZ (mkΓ []) N (cAt (codeOf Tryz.f53) [1,1,0,1,0,0]) (pAt (Uaa (codeOf Tryz.f53) [([3,5],[])]).1 [1,1,0,1,0]) [3,5] [] (Zdx a0) (Ze6 t)=mapS Ze6 Zi4 (Zca PZ a0 t):=by
 rintro ⟨y0_3,y0_5⟩
 refine Eq.trans (b:=(bif decide (y0_5<a0) then (some (.more ([.a (.i .i64 (i64.wrap (y0_3*(12:Int)))),.a (.i .i64 (i64.wrap (y0_5+(1:Int))))],[])))
  else (some (.done ((.exit 0),([.a (.i .i64 (y0_3)),.a (.i .i64 (y0_5))],[])))))) (by kernel_rfl) ?_
 simp only [Zca,Zax,Za0,Zay,Zaz,Ze6,Zi4]
def Zhr (P:Program) (N:Nat) (a0:Int) (z0_3:Int) (z0_5:Int):Option (SV×Eff×Bool):=some (.a (.i .i64 (z0_3)),.none,true)
theorem Znt (N:Nat) (a0:Int) (z0_3:Int) (z0_5:Int):(Uac 0 (kSeq (veC PZ (mkΓ []) N (cAt (codeOf Tryz.f53) [1,1,1]) (pAt (Uaa (codeOf Tryz.f53) [([3,5],[])]).1 [1,1,1]) (SV×Eff×Bool)) (finK PZ [] [.tmp 2]))) (.exit 0) (left (writes (cAt (codeOf Tryz.f53) [1,1,0,1,0,0])) [3,5] [] (Zdx a0) ([.a (.i .i64 (z0_3)),.a (.i .i64 (z0_5))],[]))=Zhr PZ N a0 z0_3 z0_5:=by
 refine Eq.trans (b:=(some (.a (.i .i64 (z0_3)),.none,true))) (by kernel_rfl) ?_
 rfl
theorem Zvb (N:Nat) (a0:Int):Uaj (Uab (Uah PZ (mkΓ []) N (cAt (codeOf Tryz.f53) [1,1,0,1,0,0]) (pAt (Uaa (codeOf Tryz.f53) [([3,5],[])]).1 [1,1,0,1,0]) [3,5] [] (Zdx a0)) N ([.a (.i .i64 (1:Int)),.a (.i .i64 (0:Int))],[])) (fun e s=>(Uac 0 (kSeq (veC PZ (mkΓ []) N (cAt (codeOf Tryz.f53) [1,1,1]) (pAt (Uaa (codeOf Tryz.f53) [([3,5],[])]).1 [1,1,1]) (SV×Eff×Bool)) (finK PZ [] [.tmp 2]))) e (left (writes (cAt (codeOf Tryz.f53) [1,1,0,1,0,0])) [3,5] [] (Zdx a0) s))=Uak (Uab (Zca PZ a0) N ((1:Int),(0:Int))) (fun x=>Zhr PZ N a0 x.1 x.2):=by
 refine Zbk Ze6 Zi4 _ _ (Zt2 N a0) N ((1:Int),(0:Int)) _ _ ?_
 intro x;exact Znt N a0 x.1 x.2
theorem Zsx (N:Nat) (a0:Int):ansV PZ (mkΓ []) N Tryz.f53 [([3,5],[])] [.i .i64 (a0)] []=(Uak (Uab (Zca PZ a0) N ((1:Int),(0:Int))) (fun x=>Zhr PZ N a0 x.1 x.2)):=by
 refine Eq.trans (b:=(Uaj (Uab (Uah PZ (mkΓ []) N (cAt (codeOf Tryz.f53) [1,1,0,1,0,0]) (pAt (Uaa (codeOf Tryz.f53) [([3,5],[])]).1 [1,1,0,1,0]) [3,5] [] (Zdx a0)) N ([.a (.i .i64 (1:Int)),.a (.i .i64 (0:Int))],[])) (fun e s=>(Uac 0 (kSeq (veC PZ (mkΓ []) N (cAt (codeOf Tryz.f53) [1,1,1]) (pAt (Uaa (codeOf Tryz.f53) [([3,5],[])]).1 [1,1,1]) (SV×Eff×Bool)) (finK PZ [] [.tmp 2]))) e (left (writes (cAt (codeOf Tryz.f53) [1,1,0,1,0,0])) [3,5] [] (Zdx a0) s)))) (by kernel_rfl) ?_
 simp only [Zvb N a0]
theorem Zrk (a0:Int) (h_a0:i64.min≤a0∧a0≤i64.max) (hg:((decide (0≤a0)&&decide (a0≤14)))=true):ansV PZ (mkΓ []) 1000 Tryz.f53 [([3,5],[])] [.i .i64 (a0)] []=some (.a (.i .i64 (12^a0.toNat)),.none,true):=by
 simp only [Bool.and_eq_true,decide_eq_true_eq] at hg
 obtain ⟨h0,h14⟩:=hg
 obtain ⟨m,rfl⟩:=Int.eq_ofNat_of_zero_le h0
 refine (Zsx 1000 _).trans ?_
 have h:=Ze3 (g:=Zca PZ (m:Int)) (fun k=>((12:Int)^k,(k:Int))) (m:=m) (x:=((12:Int)^m,(m:Int))) (N:=1000) (fun k hk=>by
  have h1:decide ((k:Int)<(m:Int))=true:=decide_eq_true (by omega)
  have h2:i64.wrap ((k:Int)+1)=((k+1:Nat):Int):=by rw [IntWalk.i64_in _ (by omega)];omega
  simp only [Zca,h1,cond_true,wrap12 k (by omega),h2]) (by
  have h1:decide ((m:Int)<(m:Int))=false:=decide_eq_false (by omega)
  simp only [Zca,h1,cond_false]) (by omega)
 have h':Uab (Zca PZ (m:Int)) 1000 ((1:Int),(0:Int))=some ((12:Int)^m,(m:Int)):=h
 rw [h']
 rfl
def Zav:Con:=fun args h=>match args,h with
 | [.i .i64 a0],[]=>some (.a (.i .i64 (12^a0.toNat)),.none,(decide (0≤a0)&&decide (a0≤14)))
 | _,_=>none
theorem Zj2:EntX PZ 53:=Zaf (fn:=Tryz.f53) (by kernel_rfl) (by kernel_rfl) (by kernel_rfl)
theorem Zme:Uad mn PZ 53 Zav:=(Zah (N:=1000) (by kernel_rfl) mkΓ_nilX (fn:=Tryz.f53) (by kernel_rfl) (by kernel_rfl) [([3,5],[])]).of (by
 intro ρ h w args vals r e hA hH hr
 unfold Zav at hr
 split at hr
 ·rename_i a0
  obtain ⟨rfl,hg⟩:=Prod.mk.inj (Option.some.inj hr)
  obtain ⟨rfl,hg2⟩:=Prod.mk.inj hg
  exact Zrk a0 (hA.rng 0 rfl) hg2
 ·cases hr)
theorem Zl9 {x a b:Int} (h:Zaa x a b=true):a≤x∧x≤b:=by
 unfold Zaa at h
 cases h0:decide (x ≥ a) with
 | false=>rw [h0] at h;exact nomatch h
 | true=>rw [h0] at h;exact ⟨of_decide_eq_true h0,of_decide_eq_true h⟩
theorem cell_num {D:Array Value} {T:TypeId} (hz:D.size=40) (k:Nat) (hk:k<36):num (D.extract 3 (3+36)) (k*1)=num D (3+k*1):=by
 unfold num
 rw [Array.getElem?_extract,if_pos (by omega)]
end
end Go.Proofs.YtflnjkpejbohjaaGreatDoor
