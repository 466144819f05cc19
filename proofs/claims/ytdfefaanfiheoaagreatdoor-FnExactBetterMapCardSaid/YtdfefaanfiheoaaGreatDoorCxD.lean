/- Parts of twelve, in company. -/
import Derived.Test.YtdfefaanfiheoaaGreatDoorProg
import Derived.Test.YtdfefaanfiheoaaGreatDoorCxC
set_option linter.unusedVariables false
set_option linter.unusedSimpArgs false
namespace Go.Proofs.YtdfefaanfiheoaaGreatDoor
open Tryz (f11 f36 f54 f76 f117)
open Go.ChangeShapes Go.WideShapes Go.ChangeAt Go.RowKit Ve Vc
open Tryz renaming prog -> PZ
open IntKind (i64)
set_option maxRecDepth 100000
noncomputable section
variable {mn:Md}
def Zd9 (a0:Array Value):St:=(⟨.a (.g a0 24) :: .a (.w 0) :: .a (.w 1) :: .a (.w 2) :: .a (.i .i64 (0:Int))::us 10 ([]),[.row a0 24,.row #[.int .u8 (0:Int),.int .u8 (0:Int),.int .u8 (0:Int),.int .u8 (0:Int),.int .u8 (0:Int)] 33,.row #[.int .u8 (0:Int),.int .u8 (0:Int),.int .u8 (0:Int),.int .u8 (0:Int),.int .u8 (0:Int)] 33],[]⟩:St)
def Zfw:Int×Array Value->LS
 | (y0_4,r0_2)=>([.a (.i .i64 (y0_4))],[.row r0_2 33])
def Zks:Int×Array Value->Exit×LS
 | t=>((.exit 0),Zfw t)
def Zce (P : Program) (a0 : Array Value) : Int × Array Value → Option (Stp (Int × Array Value) (Int × Array Value))
 | (y0_4, r0_2) => bif decide (y0_4 < (5 : Int)) then (bif (decide (0 ≤ y0_4) && decide (y0_4 < 5)) then (bif (decide (0 ≤ y0_4) && decide (y0_4 < 5)) then (some (.more ((i64.wrap (y0_4 + (1 : Int))), (r0_2.setIfInBounds ((y0_4).toNat * 1) (.int .u8 (num a0 ((y0_4).toNat * 1)))))))
    else (none))
   else (none))
  else (some (.done (y0_4,r0_2)))
noncomputable abbrev cKCxD76:=codeOf f76
def Udv:=(Uaa cKCxD76 [([4],[2])]).1
theorem Zzt (N:Nat) (a0:Array Value):∀ t:Int×Array Value,Uag PZ (mkΓ []) N (cAt cKCxD76 [1,1,0,1,0,0]) (pAt Udv [1,1,0,1,0]) [4] [2] (Zd9 a0) (Zfw t)=mapS Zfw Zks (Zce PZ a0 t):=by
 rintro ⟨y0_4,r0_2⟩
 refine Eq.trans (b:=(bif decide (y0_4<(5:Int)) then (bif (decide (0<=y0_4)&&decide (y0_4<5)) then (bif (decide (0<=y0_4)&&decide (y0_4<5)) then (some (.more ([.a (.i .i64 (i64.wrap (y0_4+(1:Int))))],[.row (r0_2.setIfInBounds ((y0_4).toNat*1) (.int .u8 (num a0 ((y0_4).toNat*1)))) 33])))
    else (none))
   else (none))
  else (some (.done ((.exit 0),([.a (.i .i64 (y0_4))],[.row r0_2 33])))))) (by kernel_rfl) ?_
 simp only [Zce,Zar,Zap,Zas,Zaq,Zfw,Zks]
def Zi3 (P:Program) (N:Nat) (a0:Array Value) (z0_4:Int) (q0_2:Array Value):Option (SV×Eff×Bool):=some (.a (.g q0_2 33),.none,true)
def Ue4 (N:Nat):=(Uad 0 (kSeq (veC PZ (mkΓ []) N (cAt cKCxD76 [1,1,1]) (pAt Udv [1,1,1]) (SV×Eff×Bool)) (finK PZ [] [.cell 2 33])))
theorem Zqc (N:Nat) (a0:Array Value) (z0_4:Int) (q0_2:Array Value):(Ue4 N) (.exit 0) (left (writes (cAt cKCxD76 [1,1,0,1,0,0])) [4] [2] (Zd9 a0) ([.a (.i .i64 (z0_4))],[.row q0_2 33]))=Zi3 PZ N a0 z0_4 q0_2:=by
 refine Eq.trans (b:=(some (.a (.g q0_2 33),.none,true))) (by kernel_rfl) ?_
 rfl
theorem Zzd (N:Nat) (a0:Array Value):Uah (Uab (Uag PZ (mkΓ []) N (cAt cKCxD76 [1,1,0,1,0,0]) (pAt Udv [1,1,0,1,0]) [4] [2] (Zd9 a0)) N ([.a (.i .i64 (0:Int))],[.row (#[.int .u8 (0:Int),.int .u8 (0:Int),.int .u8 (0:Int),.int .u8 (0:Int),.int .u8 (0:Int)]:Array Value) 33])) (λ e s=>(Ue4 N) e (left (writes (cAt cKCxD76 [1,1,0,1,0,0])) [4] [2] (Zd9 a0) s))=Uai (Uab (Zce PZ a0) N ((0:Int),(#[.int .u8 (0:Int),.int .u8 (0:Int),.int .u8 (0:Int),.int .u8 (0:Int),.int .u8 (0:Int)]:Array Value))) (λ x=>Zi3 PZ N a0 x.1 x.2):=by
 refine Zau Zfw Zks _ _ (Zzt N a0) N ((0:Int),(#[.int .u8 (0:Int),.int .u8 (0:Int),.int .u8 (0:Int),.int .u8 (0:Int),.int .u8 (0:Int)]:Array Value)) _ _ ?_
 intro x;exact Zqc N a0 x.1 x.2
theorem Zv5 (N:Nat) (a0:Array Value):ansV PZ (mkΓ []) N f76 [([4],[2])] [.g a0 24] []=(Uai (Uab (Zce PZ a0) N ((0:Int),(#[.int .u8 (0:Int),.int .u8 (0:Int),.int .u8 (0:Int),.int .u8 (0:Int),.int .u8 (0:Int)]:Array Value))) (λ x=>Zi3 PZ N a0 x.1 x.2)):=by
 refine Eq.trans (b:=(Uah (Uab (Uag PZ (mkΓ []) N (cAt cKCxD76 [1,1,0,1,0,0]) (pAt Udv [1,1,0,1,0]) [4] [2] (Zd9 a0)) N ([.a (.i .i64 (0:Int))],[.row (#[.int .u8 (0:Int),.int .u8 (0:Int),.int .u8 (0:Int),.int .u8 (0:Int),.int .u8 (0:Int)]:Array Value) 33])) (λ e s=>(Ue4 N) e (left (writes (cAt cKCxD76 [1,1,0,1,0,0])) [4] [2] (Zd9 a0) s)))) (by kernel_rfl) ?_
 simp only [Zzd N a0]
theorem Zu5 (a0:Array Value) (h_a0:WT PZ 24 a0) (hg:(true)=true):ansV PZ (mkΓ []) 1000 f76 [([4],[2])] [.g a0 24] []=some (.a (.g a0 33),.none,true):=by
 have hs:a0.size=(#[.int .u8 (0:Int),.int .u8 (0:Int),.int .u8 (0:Int),.int .u8 (0:Int),.int .u8 (0:Int)]:Array Value).size:=by rw [h_a0.layLen];kernel_rfl
 have hz:a0.size=5:=by rw [h_a0.layLen];kernel_rfl
 have hL:∀ k,k<5->(lay PZ 24)[k*1]?=some 4:=by
  intro k hk
  have h:(List.range 5).all (λ k=>(lay PZ 24)[k*1]?==some 4)=true:=by kernel_rfl
  exact eq_of_beq (List.all_eq_true.1 h k (List.mem_range.2 hk))
 have h:=Zdg (g:=Zce PZ a0) (λ k=>((k:Int),upto a0 (#[.int .u8 (0:Int),.int .u8 (0:Int),.int .u8 (0:Int),.int .u8 (0:Int),.int .u8 (0:Int)]:Array Value) (k*1))) (m:=5) (x:=(((5:Nat):Int),upto a0 (#[.int .u8 (0:Int),.int .u8 (0:Int),.int .u8 (0:Int),.int .u8 (0:Int),.int .u8 (0:Int)]:Array Value) (5*1))) (N:=1000) (λ k hk=>by
  have h1:decide ((k:Int)<5)=true:=Q3 (by omega)
  have h0:decide (0<=(k:Int))=true:=Q3 (by omega)
  have h3:i64.wrap ((k:Int)+1)=((k+1:Nat):Int):=by rw [IntWalk.i64_in _ (by omega)];omega
  have h4:((k:Int)).toNat=k:=Q9 k
  have h5:(upto a0 (#[.int .u8 (0:Int),.int .u8 (0:Int),.int .u8 (0:Int),.int .u8 (0:Int),.int .u8 (0:Int)]:Array Value) (k*1)).setIfInBounds (k*1) (.int .u8 (num a0 (k*1)))=upto a0 (#[.int .u8 (0:Int),.int .u8 (0:Int),.int .u8 (0:Int),.int .u8 (0:Int),.int .u8 (0:Int)]:Array Value) ((k+1)*1):=by
   rw [Nat.add_mul];exact Zwq hs (h_a0.int (k:=.u8) (hL k hk)).1
  simp only [Zce,h1,h0,Bool.and_self,h4,Q1,h3,h5]) (by
  have h1:decide (((5:Nat):Int)<5)=false:=by decide
  simp only [Zce,h1,Q2]) (by omega)
 simp only [Nat.zero_mul,Zoq hs,Zsf hs hz] at h
 refine (Zv5 1000 a0).trans ?_
 have h':Uab (Zce PZ a0) 1000 ((0:Int),(#[.int .u8 (0:Int),.int .u8 (0:Int),.int .u8 (0:Int),.int .u8 (0:Int),.int .u8 (0:Int)]:Array Value))=some (((5:Nat):Int),a0):=h
 rw [h']
 rfl
def Zb0:Con:=λ args h=>match args,h with
 | [.g a0 24],[]=>some (.a (.g a0 33),.none,true)
 | _,_=>none
theorem Zsx:EntX PZ 76:=Zah (fn:=f76)
theorem Zyk:Uac mn PZ 76 Zb0:=(ansY (N:=1000) mKn f76 [([4],[2])]).of (by
 intro ρ h w args vals r e hA hH hr
 unfold Zb0 at hr
 split at hr
 ·rename_i a0
  obtain ⟨rfl,rfl,hg2⟩:=BQi hr
  exact Zu5 a0 (hA.wt 0 rfl) hg2
 ·cases hr)
def Zcu (a0:Array Value):St:=(⟨.a (.g a0 25) :: .a (.w 0) :: .a (.w 1) :: .a (.w 2) :: .a (.i .i64 (0:Int))::us 11 ([]),[.row a0 25,.row (zc PZ 34) 34,.row (zc PZ 34) 34],[]⟩:St)
def Zds:Int×Array Value->LS
 | (y0_4,r0_2)=>([.a (.i .i64 (y0_4))],[.row r0_2 34])
def Zib:Int×Array Value->Exit×LS
 | t=>((.exit 0),Zds t)
def Zbl (P : Program) (a0 : Array Value) : Int × Array Value → Option (Stp (Int × Array Value) (Int × Array Value))
 | (y0_4, r0_2) => bif decide (y0_4 < (36 : Int)) then (bif (decide (0 ≤ y0_4) && decide (y0_4 < 36)) then (bif (decide (0 ≤ y0_4) && decide (y0_4 < 36)) then (some (.more ((i64.wrap (y0_4 + (1 : Int))), (spl r0_2 ((y0_4).toNat * 5) (a0.extract ((y0_4).toNat * 5) (((y0_4).toNat * 5) + 5)).toList))))
    else (none))
   else (none))
  else (some (.done (y0_4,r0_2)))
noncomputable abbrev cKCxD54:=codeOf f54
def Ud7:=(Uaa cKCxD54 [([4],[2])]).1
theorem Zs1 (N:Nat) (a0:Array Value):∀ t:Int×Array Value,Uag PZ (mkΓ [(76,con Zb0)]) N (cAt cKCxD54 [1,1,0,1,0,0]) (pAt Ud7 [1,1,0,1,0]) [4] [2] (Zcu a0) (Zds t)=mapS Zds Zib (Zbl PZ a0 t):=by
 rintro ⟨y0_4,r0_2⟩
 refine Eq.trans (b:=(bif decide (y0_4<(36:Int)) then (bif (decide (0<=y0_4)&&decide (y0_4<36)) then (bif (decide (0<=y0_4)&&decide (y0_4<36)) then (some (.more ([.a (.i .i64 (i64.wrap (y0_4+(1:Int))))],[.row (spl r0_2 ((y0_4).toNat*5) (a0.extract ((y0_4).toNat*5) (((y0_4).toNat*5)+5)).toList) 34])))
    else (none))
   else (none))
  else (some (.done ((.exit 0),([.a (.i .i64 (y0_4))],[.row r0_2 34])))))) (by kernel_rfl) ?_
 simp only [Zbl,Zar,Zap,Zas,Zaq,Zds,Zib]
def Zg5 (P:Program) (N:Nat) (a0:Array Value) (z0_4:Int) (q0_2:Array Value):Option (SV×Eff×Bool):=some (.a (.g q0_2 34),.none,true)
def Ue0 (N:Nat):=(Uad 0 (kSeq (veC PZ (mkΓ [(76,con Zb0)]) N (cAt cKCxD54 [1,1,1]) (pAt Ud7 [1,1,1]) (SV×Eff×Bool)) (finK PZ [] [.cell 2 34])))
theorem Zn9 (N:Nat) (a0:Array Value) (z0_4:Int) (q0_2:Array Value):(Ue0 N) (.exit 0) (left (writes (cAt cKCxD54 [1,1,0,1,0,0])) [4] [2] (Zcu a0) ([.a (.i .i64 (z0_4))],[.row q0_2 34]))=Zg5 PZ N a0 z0_4 q0_2:=by
 refine Eq.trans (b:=(some (.a (.g q0_2 34),.none,true))) (by kernel_rfl) ?_
 rfl
theorem Zsz (N:Nat) (a0:Array Value):Uah (Uab (Uag PZ (mkΓ [(76,con Zb0)]) N (cAt cKCxD54 [1,1,0,1,0,0]) (pAt Ud7 [1,1,0,1,0]) [4] [2] (Zcu a0)) N ([.a (.i .i64 (0:Int))],[.row (zc PZ 34) 34])) (λ e s=>(Ue0 N) e (left (writes (cAt cKCxD54 [1,1,0,1,0,0])) [4] [2] (Zcu a0) s))=Uai (Uab (Zbl PZ a0) N ((0:Int),(zc PZ 34))) (λ x=>Zg5 PZ N a0 x.1 x.2):=by
 refine Zau Zds Zib _ _ (Zs1 N a0) N ((0:Int),(zc PZ 34)) _ _ ?_
 intro x;exact Zn9 N a0 x.1 x.2
theorem Zq9 (N:Nat) (a0:Array Value):ansV PZ (mkΓ [(76,con Zb0)]) N f54 [([4],[2])] [.g a0 25] []=(Uai (Uab (Zbl PZ a0) N ((0:Int),(zc PZ 34))) (λ x=>Zg5 PZ N a0 x.1 x.2)):=by
 refine Eq.trans (b:=(Uah (Uab (Uag PZ (mkΓ [(76,con Zb0)]) N (cAt cKCxD54 [1,1,0,1,0,0]) (pAt Ud7 [1,1,0,1,0]) [4] [2] (Zcu a0)) N ([.a (.i .i64 (0:Int))],[.row (zc PZ 34) 34])) (λ e s=>(Ue0 N) e (left (writes (cAt cKCxD54 [1,1,0,1,0,0])) [4] [2] (Zcu a0) s)))) (by kernel_rfl) ?_
 simp only [Zsz N a0]
theorem Zqe (a0:Array Value) (h_a0:WT PZ 25 a0) (hg:(true)=true):ansV PZ (mkΓ [(76,con Zb0)]) 1000 f54 [([4],[2])] [.g a0 25] []=some (.a (.g a0 34),.none,true):=by
 have hs:a0.size=(zc PZ 34).size:=by rw [h_a0.layLen];kernel_rfl
 have hz:a0.size=180:=by rw [h_a0.layLen];kernel_rfl
 have hL:∀ k,k<36->(lay PZ 25)[k*5]?=some 4:=by
  intro k hk
  have h:(List.range 36).all (λ k=>(lay PZ 25)[k*5]?==some 4)=true:=by kernel_rfl
  exact eq_of_beq (List.all_eq_true.1 h k (List.mem_range.2 hk))
 have h:=Zdg (g:=Zbl PZ a0) (λ k=>((k:Int),upto a0 (zc PZ 34) (k*5))) (m:=36) (x:=(((36:Nat):Int),upto a0 (zc PZ 34) (36*5))) (N:=1000) (λ k hk=>by
  have h1:decide ((k:Int)<36)=true:=Q3 (by omega)
  have h0:decide (0<=(k:Int))=true:=Q3 (by omega)
  have h3:i64.wrap ((k:Int)+1)=((k+1:Nat):Int):=by rw [IntWalk.i64_in _ (by omega)];omega
  have h4:((k:Int)).toNat=k:=Q9 k
  have h5:spl (upto a0 (zc PZ 34) (k*5)) (k*5) (a0.extract (k*5) (k*5+5)).toList=upto a0 (zc PZ 34) ((k+1)*5):=by
   rw [Nat.add_mul];exact Ycu hs (by omega) rfl
  simp only [Zbl,h1,h0,Bool.and_self,h4,Q1,h3,h5]) (by
  have h1:decide (((36:Nat):Int)<36)=false:=by decide
  simp only [Zbl,h1,Q2]) (by omega)
 simp only [Nat.zero_mul,Zoq hs,Zsf hs hz] at h
 refine (Zq9 1000 a0).trans ?_
 have h':Uab (Zbl PZ a0) 1000 ((0:Int),(zc PZ 34))=some (((36:Nat):Int),a0):=h
 rw [h']
 rfl
def Zbh:Con:=λ args h=>match args,h with
 | [.g a0 25],[]=>some (.a (.g a0 34),.none,true)
 | _,_=>none
theorem Zpb:EntX PZ 54:=Zah (fn:=f54)
theorem Ztl:Uac mn PZ 54 Zbh:=(ansY (N:=1000) (mKc (Zae Zyk) Zsx mKn) f54 [([4],[2])]).of (by
 intro ρ h w args vals r e hA hH hr
 unfold Zbh at hr
 split at hr
 ·rename_i a0
  obtain ⟨rfl,rfl,hg2⟩:=BQi hr
  exact Zqe a0 (hA.wt 0 rfl) hg2
 ·cases hr)
def Zb1 (a0:Array Value):St:=(⟨.a (.g a0 26) :: .a (.w 0) :: .a (.w 1) :: .a (.w 2) :: .a (.i .i64 (0:Int))::us 11 ([]),[.row a0 26,.row (zc PZ 35) 35,.row (zc PZ 35) 35],[]⟩:St)
def Zc4:Int×Array Value->LS
 | (y0_4,r0_2)=>([.a (.i .i64 (y0_4))],[.row r0_2 35])
def Zgy:Int×Array Value->Exit×LS
 | t=>((.exit 0),Zc4 t)
def Zba (P : Program) (a0 : Array Value) : Int × Array Value → Option (Stp (Int × Array Value) (Int × Array Value))
 | (y0_4, r0_2) => bif decide (y0_4 < (2 : Int)) then (bif (decide (0 ≤ y0_4) && decide (y0_4 < 2)) then (bif (decide (0 ≤ y0_4) && decide (y0_4 < 2)) then (some (.more ((i64.wrap (y0_4 + (1 : Int))), (spl r0_2 ((y0_4).toNat * 180) (a0.extract ((y0_4).toNat * 180) (((y0_4).toNat * 180) + 180)).toList))))
    else (none))
   else (none))
  else (some (.done (y0_4,r0_2)))
noncomputable abbrev cKCxD36:=codeOf f36
def Ud4:=(Uaa cKCxD36 [([4],[2])]).1
theorem Zqa (N:Nat) (a0:Array Value):∀ t:Int×Array Value,Uag PZ (mkΓ [(54,con Zbh)]) N (cAt cKCxD36 [1,1,0,1,0,0]) (pAt Ud4 [1,1,0,1,0]) [4] [2] (Zb1 a0) (Zc4 t)=mapS Zc4 Zgy (Zba PZ a0 t):=by
 rintro ⟨y0_4,r0_2⟩
 refine Eq.trans (b:=(bif decide (y0_4<(2:Int)) then (bif (decide (0<=y0_4)&&decide (y0_4<2)) then (bif (decide (0<=y0_4)&&decide (y0_4<2)) then (some (.more ([.a (.i .i64 (i64.wrap (y0_4+(1:Int))))],[.row (spl r0_2 ((y0_4).toNat*180) (a0.extract ((y0_4).toNat*180) (((y0_4).toNat*180)+180)).toList) 35])))
    else (none))
   else (none))
  else (some (.done ((.exit 0),([.a (.i .i64 (y0_4))],[.row r0_2 35])))))) (by kernel_rfl) ?_
 simp only [Zba,Zar,Zap,Zas,Zaq,Zc4,Zgy]
def Zfl (P:Program) (N:Nat) (a0:Array Value) (z0_4:Int) (q0_2:Array Value):Option (SV×Eff×Bool):=some (.a (.g q0_2 35),.none,true)
def Ue3 (N:Nat):=(Uad 0 (kSeq (veC PZ (mkΓ [(54,con Zbh)]) N (cAt cKCxD36 [1,1,1]) (pAt Ud4 [1,1,1]) (SV×Eff×Bool)) (finK PZ [] [.cell 2 35])))
theorem Zmz (N:Nat) (a0:Array Value) (z0_4:Int) (q0_2:Array Value):(Ue3 N) (.exit 0) (left (writes (cAt cKCxD36 [1,1,0,1,0,0])) [4] [2] (Zb1 a0) ([.a (.i .i64 (z0_4))],[.row q0_2 35]))=Zfl PZ N a0 z0_4 q0_2:=by
 refine Eq.trans (b:=(some (.a (.g q0_2 35),.none,true))) (by kernel_rfl) ?_
 rfl
theorem Zqg (N:Nat) (a0:Array Value):Uah (Uab (Uag PZ (mkΓ [(54,con Zbh)]) N (cAt cKCxD36 [1,1,0,1,0,0]) (pAt Ud4 [1,1,0,1,0]) [4] [2] (Zb1 a0)) N ([.a (.i .i64 (0:Int))],[.row (zc PZ 35) 35])) (λ e s=>(Ue3 N) e (left (writes (cAt cKCxD36 [1,1,0,1,0,0])) [4] [2] (Zb1 a0) s))=Uai (Uab (Zba PZ a0) N ((0:Int),(zc PZ 35))) (λ x=>Zfl PZ N a0 x.1 x.2):=by
 refine Zau Zc4 Zgy _ _ (Zqa N a0) N ((0:Int),(zc PZ 35)) _ _ ?_
 intro x;exact Zmz N a0 x.1 x.2
theorem Zo8 (N:Nat) (a0:Array Value):ansV PZ (mkΓ [(54,con Zbh)]) N f36 [([4],[2])] [.g a0 26] []=(Uai (Uab (Zba PZ a0) N ((0:Int),(zc PZ 35))) (λ x=>Zfl PZ N a0 x.1 x.2)):=by
 refine Eq.trans (b:=(Uah (Uab (Uag PZ (mkΓ [(54,con Zbh)]) N (cAt cKCxD36 [1,1,0,1,0,0]) (pAt Ud4 [1,1,0,1,0]) [4] [2] (Zb1 a0)) N ([.a (.i .i64 (0:Int))],[.row (zc PZ 35) 35])) (λ e s=>(Ue3 N) e (left (writes (cAt cKCxD36 [1,1,0,1,0,0])) [4] [2] (Zb1 a0) s)))) (by kernel_rfl) ?_
 simp only [Zqg N a0]
theorem Zon (a0:Array Value) (h_a0:WT PZ 26 a0) (hg:(true)=true):ansV PZ (mkΓ [(54,con Zbh)]) 1000 f36 [([4],[2])] [.g a0 26] []=some (.a (.g a0 35),.none,true):=by
 have hs:a0.size=(zc PZ 35).size:=by rw [h_a0.layLen];kernel_rfl
 have hz:a0.size=360:=by rw [h_a0.layLen];kernel_rfl
 have hL:∀ k,k<2->(lay PZ 26)[k*180]?=some 4:=by
  intro k hk
  have h:(List.range 2).all (λ k=>(lay PZ 26)[k*180]?==some 4)=true:=by kernel_rfl
  exact eq_of_beq (List.all_eq_true.1 h k (List.mem_range.2 hk))
 have h:=Zdg (g:=Zba PZ a0) (λ k=>((k:Int),upto a0 (zc PZ 35) (k*180))) (m:=2) (x:=(((2:Nat):Int),upto a0 (zc PZ 35) (2*180))) (N:=1000) (λ k hk=>by
  have h1:decide ((k:Int)<2)=true:=Q3 (by omega)
  have h0:decide (0<=(k:Int))=true:=Q3 (by omega)
  have h3:i64.wrap ((k:Int)+1)=((k+1:Nat):Int):=by rw [IntWalk.i64_in _ (by omega)];omega
  have h4:((k:Int)).toNat=k:=Q9 k
  have h5:spl (upto a0 (zc PZ 35) (k*180)) (k*180) (a0.extract (k*180) (k*180+180)).toList=upto a0 (zc PZ 35) ((k+1)*180):=by
   rw [Nat.add_mul];exact Ycu hs (by omega) rfl
  simp only [Zba,h1,h0,Bool.and_self,h4,Q1,h3,h5]) (by
  have h1:decide (((2:Nat):Int)<2)=false:=by decide
  simp only [Zba,h1,Q2]) (by omega)
 simp only [Nat.zero_mul,Zoq hs,Zsf hs hz] at h
 refine (Zo8 1000 a0).trans ?_
 have h':Uab (Zba PZ a0) 1000 ((0:Int),(zc PZ 35))=some (((2:Nat):Int),a0):=h
 rw [h']
 rfl
def Zf9:Con:=λ args h=>match args,h with
 | [.g a0 26],[]=>some (.a (.g a0 35),.none,true)
 | _,_=>none
theorem Zoe:EntX PZ 36:=Zah (fn:=f36)
theorem Zp7:Uac mn PZ 36 Zf9:=(ansY (N:=1000) (mKc (Zae Ztl) Zpb mKn) f36 [([4],[2])]).of (by
 intro ρ h w args vals r e hA hH hr
 unfold Zf9 at hr
 split at hr
 ·rename_i a0
  obtain ⟨rfl,rfl,hg2⟩:=BQi hr
  exact Zon a0 (hA.wt 0 rfl) hg2
 ·cases hr)
def Yam:Cons:=(mkΓ [(36,con Zf9)])
theorem Yfz (N:Nat) (a0:Array Value):ansV PZ Yam N f11 [] [.g a0 28] []=(some (.a (.g (spl ((((zc PZ 37).setIfInBounds 0 (.int .i8 (num a0 0))).setIfInBounds 1 (.int .i8 (num a0 1))).setIfInBounds 2 (.int .u64 (num a0 2))) 3 (a0.extract 3 (3+360)).toList) 37),.none,true)):=by kernel_rfl
theorem Yec (a0:Array Value) (h_a0:WT PZ 28 a0) (hg:(true)=true):ansV PZ Yam 1000 f11 [] [.g a0 28] []=some (.a (.g a0 37),.none,true):=by
 have hs:a0.size=(zc PZ 37).size:=by rw [h_a0.layLen];kernel_rfl
 have hz:a0.size=363:=by rw [h_a0.layLen];kernel_rfl
 have e0:(upto a0 (zc PZ 37) 0).setIfInBounds 0 (.int .i8 (num a0 0))=upto a0 (zc PZ 37) 1:=Zwq hs (h_a0.int (k:=.i8) (by kernel_rfl)).1
 rw [Zoq hs] at e0
 have e1:(upto a0 (zc PZ 37) 1).setIfInBounds 1 (.int .i8 (num a0 1))=upto a0 (zc PZ 37) 2:=Zwq hs (h_a0.int (k:=.i8) (by kernel_rfl)).1
 have e2:(upto a0 (zc PZ 37) 2).setIfInBounds 2 (.int .u64 (num a0 2))=upto a0 (zc PZ 37) 3:=Zwq hs (h_a0.int (k:=.u64) (by kernel_rfl)).1
 have e3:spl (upto a0 (zc PZ 37) 3) 3 (a0.extract 3 (3+360)).toList=upto a0 (zc PZ 37) 363:=Ycu hs (by omega) rfl
 refine (Yfz 1000 a0).trans ?_
 rw [e0,e1,e2,e3,Zsf hs hz]
def Zn5:Con:=λ args h=>match args,h with
 | [.g a0 28],[]=>some (.a (.g a0 37),.none,true)
 | _,_=>none
theorem Yas:EntX PZ 11:=Zah (fn:=f11)
theorem Yhm:Uac mn PZ 11 Zn5:=(ansY (N:=1000) (mKc (Zae Zp7) Zoe mKn) f11 []).of (by
 intro ρ h w args vals r e hA hH hr
 unfold Zn5 at hr
 split at hr
 ·rename_i a0
  obtain ⟨rfl,rfl,hg2⟩:=BQi hr
  exact Yec a0 (hA.wt 0 rfl) hg2
 ·cases hr)
theorem wrap12:∀ k,k<14->i64.wrap ((12:Int)^k*12)=12^(k+1):=by decide
def Zdi (a0:Int):St:=(⟨.a (.i .i64 (a0)) :: .a (.u) :: .a (.i .i64 (0:Int)) :: .a (.i .i64 (1:Int)) :: .a (.i .i64 (a0)) :: .a (.i .i64 (0:Int))::us 5 ([]),[],[]⟩:St)
def Zfa:Int×Int->LS
 | (y0_3,y0_5)=>([.a (.i .i64 (y0_3)),.a (.i .i64 (y0_5))],[])
def Zjx:Int×Int->Exit×LS
 | t=>((.exit 0),Zfa t)
def Zby (P:Program) (a0:Int):Int×Int->Option (Stp (Int×Int) (Int×Int))
 | (y0_3,y0_5)=>bif decide (y0_5<a0) then (some (.more ((i64.wrap (y0_3*(12:Int))),(i64.wrap (y0_5+(1:Int))))))
  else (some (.done (y0_3,y0_5)))
noncomputable abbrev cKCxD117:=codeOf f117
def Udw:=(Uaa cKCxD117 [([3,5],[])]).1
theorem Zv0 (N:Nat) (a0:Int):∀ t:Int×Int,Uag PZ (mkΓ []) N (cAt cKCxD117 [1,1,0,1,0,0]) (pAt Udw [1,1,0,1,0]) [3,5] [] (Zdi a0) (Zfa t)=mapS Zfa Zjx (Zby PZ a0 t):=by
 rintro ⟨y0_3,y0_5⟩
 refine Eq.trans (b:=(bif decide (y0_5<a0) then (some (.more ([.a (.i .i64 (i64.wrap (y0_3*(12:Int)))),.a (.i .i64 (i64.wrap (y0_5+(1:Int))))],[])))
  else (some (.done ((.exit 0),([.a (.i .i64 (y0_3)),.a (.i .i64 (y0_5))],[])))))) (by kernel_rfl) ?_
 simp only [Zby,Zar,Zap,Zas,Zaq,Zfa,Zjx]
def Zil (P:Program) (N:Nat) (a0:Int) (z0_3:Int) (z0_5:Int):Option (SV×Eff×Bool):=some (.a (.i .i64 (z0_3)),.none,true)
def Ufh (N:Nat):=(Uad 0 (kSeq (veC PZ (mkΓ []) N (cAt cKCxD117 [1,1,1]) (pAt Udw [1,1,1]) (SV×Eff×Bool)) (finK PZ [] [.tmp 2])))
theorem Zo6 (N:Nat) (a0:Int) (z0_3:Int) (z0_5:Int):(Ufh N) (.exit 0) (left (writes (cAt cKCxD117 [1,1,0,1,0,0])) [3,5] [] (Zdi a0) ([.a (.i .i64 (z0_3)),.a (.i .i64 (z0_5))],[]))=Zil PZ N a0 z0_3 z0_5:=by
 refine Eq.trans (b:=(some (.a (.i .i64 (z0_3)),.none,true))) (by kernel_rfl) ?_
 rfl
theorem Zvw (N:Nat) (a0:Int):Uah (Uab (Uag PZ (mkΓ []) N (cAt cKCxD117 [1,1,0,1,0,0]) (pAt Udw [1,1,0,1,0]) [3,5] [] (Zdi a0)) N ([.a (.i .i64 (1:Int)),.a (.i .i64 (0:Int))],[])) (λ e s=>(Ufh N) e (left (writes (cAt cKCxD117 [1,1,0,1,0,0])) [3,5] [] (Zdi a0) s))=Uai (Uab (Zby PZ a0) N ((1:Int),(0:Int))) (λ x=>Zil PZ N a0 x.1 x.2):=by
 refine Zau Zfa Zjx _ _ (Zv0 N a0) N ((1:Int),(0:Int)) _ _ ?_
 intro x;exact Zo6 N a0 x.1 x.2
theorem Zup (N:Nat) (a0:Int):ansV PZ (mkΓ []) N f117 [([3,5],[])] [.i .i64 (a0)] []=(Uai (Uab (Zby PZ a0) N ((1:Int),(0:Int))) (λ x=>Zil PZ N a0 x.1 x.2)):=by
 refine Eq.trans (b:=(Uah (Uab (Uag PZ (mkΓ []) N (cAt cKCxD117 [1,1,0,1,0,0]) (pAt Udw [1,1,0,1,0]) [3,5] [] (Zdi a0)) N ([.a (.i .i64 (1:Int)),.a (.i .i64 (0:Int))],[])) (λ e s=>(Ufh N) e (left (writes (cAt cKCxD117 [1,1,0,1,0,0])) [3,5] [] (Zdi a0) s)))) (by kernel_rfl) ?_
 simp only [Zvw N a0]
theorem Zs2 (a0:Int) (h_a0:i64.min<=a0/\a0<=i64.max) (hg:((decide (0<=a0)&&decide (a0<=14)))=true):ansV PZ (mkΓ []) 1000 f117 [([3,5],[])] [.i .i64 (a0)] []=some (.a (.i .i64 (12^a0.toNat)),.none,true):=by
 simp only [Q7,decide_eq_true_eq] at hg
 obtain ⟨h0,h14⟩:=hg
 obtain ⟨m,rfl⟩:=Int.eq_ofNat_of_zero_le h0
 refine (Zup 1000 _).trans ?_
 have h:=Zdg (g:=Zby PZ (m:Int)) (λ k=>((12:Int)^k,(k:Int))) (m:=m) (x:=((12:Int)^m,(m:Int))) (N:=1000) (λ k hk=>by
  have h1:decide ((k:Int)<(m:Int))=true:=Q3 (by omega)
  have h2:i64.wrap ((k:Int)+1)=((k+1:Nat):Int):=by rw [IntWalk.i64_in _ (by omega)];omega
  simp only [Zby,h1,Q1,wrap12 k (by omega),h2]) (by
  have h1:decide ((m:Int)<(m:Int))=false:=Q4 (by omega)
  simp only [Zby,h1,Q2]) (by omega)
 have h':Uab (Zby PZ (m:Int)) 1000 ((1:Int),(0:Int))=some ((12:Int)^m,(m:Int)):=h
 rw [h']
 rfl
def Za8:Con:=λ args h=>match args,h with
 | [.i .i64 a0],[]=>some (.a (.i .i64 (12^a0.toNat)),.none,(decide (0<=a0)&&decide (a0<=14)))
 | _,_=>none
theorem Zqq:EntX PZ 117:=Zah (fn:=f117)
theorem Zwj:Uac mn PZ 117 Za8:=(ansY (N:=1000) mKn f117 [([3,5],[])]).of (by
 intro ρ h w args vals r e hA hH hr
 unfold Za8 at hr
 split at hr
 ·rename_i a0
  obtain ⟨rfl,rfl,hg2⟩:=BQi hr
  exact Zs2 a0 (hA.rng 0 rfl) hg2
 ·cases hr)
theorem Ziw {x a b:Int} (h:Zaa x a b=true):a<=x/\x<=b:=by
 unfold Zaa at h
 cases h0:decide (x>=a) with
 | false=>rw [h0] at h;exact nomatch h
 | true=>rw [h0] at h;exact ⟨of_decide_eq_true h0,of_decide_eq_true h⟩
theorem cell_num {D:Array Value} {T:TypeId} (hz:D.size=40) (k:Nat) (hk:k<36):num (D.extract 3 (3+36)) (k*1)=num D (3+k*1):=by
 unfold num
 rw [Array.getElem?_extract,if_pos (by omega)]
end
end Go.Proofs.YtdfefaanfiheoaaGreatDoor
