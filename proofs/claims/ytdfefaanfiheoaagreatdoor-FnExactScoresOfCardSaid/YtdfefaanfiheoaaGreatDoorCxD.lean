/- Parts of twelve, in company. -/
import Derived.Test.YtdfefaanfiheoaaGreatDoorProg
import Derived.Test.YtdfefaanfiheoaaGreatDoorCxC
set_option linter.unusedVariables false
set_option linter.unusedSimpArgs false
namespace Go.Proofs.YtdfefaanfiheoaaGreatDoor
open Tryz (f11 f36 f54 f76 f117)
open Go.ChangeShapes Go.WideShapes Go.ChangeAt Go.RowKit Ve Vc
open Tryz renaming prog -> PZ
open IntKind (i64)
set_option maxRecDepth 100000
noncomputable section
variable {mn:Md}
def Zei(a0:Array Value):St:=(⟨.a (.g a0 24) :: .a (.w 0) :: .a (.w 1) :: .a (.w 2) :: .a (.i .i64 (0:Int))::us 10 ([]),[.row a0 24,.row #[.int .u8 (0:Int),.int .u8 (0:Int),.int .u8 (0:Int),.int .u8 (0:Int),.int .u8 (0:Int)] 33,.row #[.int .u8 (0:Int),.int .u8 (0:Int),.int .u8 (0:Int),.int .u8 (0:Int),.int .u8 (0:Int)] 33],[]⟩:St)
def Zfy:Int×Array Value->LS
 |(y0_4,r0_2)=>([.a (.i .i64 (y0_4))],[.row r0_2 33])
def Zlh:Int×Array Value->Exit×LS
 |t=>((.exit 0),Zfy t)
def Zce(P:Program)(a0:Array Value):Int×Array Value->Option (Stp (Int×Array Value) (Int×Array Value))
 |(y0_4,r0_2)=>bif decide (y0_4<(5:Int)) then (bif (decide (0<=y0_4)&&decide (y0_4<5)) then (bif (decide (0<=y0_4)&&decide (y0_4<5)) then (some (.more ((i64.wrap (y0_4+(1:Int))),(r0_2.setIfInBounds ((y0_4).toNat*1) (.int .u8 (num a0 ((y0_4).toNat*1)))))))
    else (none))
   else (none))
  else (some (.done (y0_4,r0_2)))
noncomputable abbrev cKCxD76:=codeOf f76
def Ud5:=(Uaa cKCxD76 [([4],[2])]).1
theorem Zzk(N:Nat)(a0:Array Value):∀t:Int×Array Value,Uag PZ (mkΓ []) N (cAt cKCxD76 [1,1,0,1,0,0]) (pAt Ud5 [1,1,0,1,0]) [4] [2] (Zei a0) (Zfy t)=mapS Zfy Zlh (Zce PZ a0 t):=by
 rintro⟨y0_4,r0_2⟩;refine Eq.trans (b:=(bif decide (y0_4<(5:Int)) then (bif (decide (0<=y0_4)&&decide (y0_4<5)) then (bif (decide (0<=y0_4)&&decide (y0_4<5)) then (some (.more ([.a (.i .i64 (i64.wrap (y0_4+(1:Int))))],[.row (r0_2.setIfInBounds ((y0_4).toNat*1) (.int .u8 (num a0 ((y0_4).toNat*1)))) 33])))
    else (none))
   else (none))
  else (some (.done ((.exit 0),([.a (.i .i64 (y0_4))],[.row r0_2 33])))))) (by kernel_rfl) ?_
 simp only[Zce,Zao,Zap,Zam,Zan,Zfy,Zlh]
def Zjn(P:Program)(N:Nat)(a0:Array Value)(z0_4:Int)(q0_2:Array Value):Option (SV×Eff×Bool):=some (.a (.g q0_2 33),.none,true)
def Ufj(N:Nat):=(Uad 0 (kSeq (veC PZ (mkΓ []) N (cAt cKCxD76 [1,1,1]) (pAt Ud5 [1,1,1]) (SV×Eff×Bool)) (finK PZ [] [.cell 2 33])))
theorem Zqq(N:Nat)(a0:Array Value)(z0_4:Int)(q0_2:Array Value):(Ufj N) (.exit 0) (left (writes (cAt cKCxD76 [1,1,0,1,0,0])) [4] [2] (Zei a0) ([.a (.i .i64 (z0_4))],[.row q0_2 33]))=Zjn PZ N a0 z0_4 q0_2:=by refine Eq.trans (b:=(some (.a (.g q0_2 33),.none,true))) (by kernel_rfl) ?_;rfl
theorem Zzx(N:Nat)(a0:Array Value):Uaj (Uab (Uag PZ (mkΓ []) N (cAt cKCxD76 [1,1,0,1,0,0]) (pAt Ud5 [1,1,0,1,0]) [4] [2] (Zei a0)) N ([.a (.i .i64 (0:Int))],[.row (#[.int .u8 (0:Int),.int .u8 (0:Int),.int .u8 (0:Int),.int .u8 (0:Int),.int .u8 (0:Int)]:Array Value) 33])) (λe s=>(Ufj N) e (left (writes (cAt cKCxD76 [1,1,0,1,0,0])) [4] [2] (Zei a0) s))=Uak (Uab (Zce PZ a0) N ((0:Int),(#[.int .u8 (0:Int),.int .u8 (0:Int),.int .u8 (0:Int),.int .u8 (0:Int),.int .u8 (0:Int)]:Array Value))) (λx=>Zjn PZ N a0 x.1 x.2):=by refine Zau Zfy Zlh _ _ (Zzk N a0) N ((0:Int),(#[.int .u8 (0:Int),.int .u8 (0:Int),.int .u8 (0:Int),.int .u8 (0:Int),.int .u8 (0:Int)]:Array Value)) _ _ ?_;intro x;exact Zqq N a0 x.1 x.2
theorem Zx8(N:Nat)(a0:Array Value):ansV PZ (mkΓ []) N f76 [([4],[2])] [.g a0 24] []=(Uak (Uab (Zce PZ a0) N ((0:Int),(#[.int .u8 (0:Int),.int .u8 (0:Int),.int .u8 (0:Int),.int .u8 (0:Int),.int .u8 (0:Int)]:Array Value))) (λx=>Zjn PZ N a0 x.1 x.2)):=by refine Eq.trans (b:=(Uaj (Uab (Uag PZ (mkΓ []) N (cAt cKCxD76 [1,1,0,1,0,0]) (pAt Ud5 [1,1,0,1,0]) [4] [2] (Zei a0)) N ([.a (.i .i64 (0:Int))],[.row (#[.int .u8 (0:Int),.int .u8 (0:Int),.int .u8 (0:Int),.int .u8 (0:Int),.int .u8 (0:Int)]:Array Value) 33])) (λe s=>(Ufj N) e (left (writes (cAt cKCxD76 [1,1,0,1,0,0])) [4] [2] (Zei a0) s)))) (by kernel_rfl) ?_;simp only[Zzx N a0]
theorem Zvj(a0:Array Value)(h_a0:WT PZ 24 a0)(hg:(true)=true):ansV PZ (mkΓ []) 1000 f76 [([4],[2])] [.g a0 24] []=some (.a (.g a0 33),.none,true):=by
 have hs:a0.size=(#[.int .u8 (0:Int),.int .u8 (0:Int),.int .u8 (0:Int),.int .u8 (0:Int),.int .u8 (0:Int)]:Array Value).size:=by rw[h_a0.layLen];kernel_rfl
 have hz:a0.size=5:=by rw[h_a0.layLen];kernel_rfl
 have hL:∀k,k<5->(lay PZ 24)[k*1]?=some 4:=by
  intro k hk;have h:(List.range 5).all (λk=>(lay PZ 24)[k*1]?==some 4)=true:=by kernel_rfl
  exact eq_of_beq (List.all_eq_true.1 h k (List.mem_range.2 hk))
 have h:=Zcu (g:=Zce PZ a0) (λk=>((k:Int),upto a0 (#[.int .u8 (0:Int),.int .u8 (0:Int),.int .u8 (0:Int),.int .u8 (0:Int),.int .u8 (0:Int)]:Array Value) (k*1))) (m:=5) (x:=(((5:Nat):Int),upto a0 (#[.int .u8 (0:Int),.int .u8 (0:Int),.int .u8 (0:Int),.int .u8 (0:Int),.int .u8 (0:Int)]:Array Value) (5*1))) (N:=1000) (λk hk=>by
  have h1:decide ((k:Int)<5)=true:=Q3 (by omega);have h0:decide (0<=(k:Int))=true:=Q3 (by omega);have h3:i64.wrap ((k:Int)+1)=((k+1:Nat):Int):=by rw[IntWalk.i64_in _ (by omega)];omega
  have h4:((k:Int)).toNat=k:=Q9 k;have h5:(upto a0 (#[.int .u8 (0:Int),.int .u8 (0:Int),.int .u8 (0:Int),.int .u8 (0:Int),.int .u8 (0:Int)]:Array Value) (k*1)).setIfInBounds (k*1) (.int .u8 (num a0 (k*1)))=upto a0 (#[.int .u8 (0:Int),.int .u8 (0:Int),.int .u8 (0:Int),.int .u8 (0:Int),.int .u8 (0:Int)]:Array Value) ((k+1)*1):=by rw[Nat.add_mul];exact Zlq hs (h_a0.int (k:=.u8) (hL k hk)).1
  simp only[Zce,h1,h0,Bool.and_self,h4,Q1,h3,h5]) (by
  have h1:decide (((5:Nat):Int)<5)=false:=by decide
  simp only[Zce,h1,Q2]) (by omega)
 simp only[Nat.zero_mul,Zi4 hs,Zlr hs hz]at h;refine(Zx8 1000 a0).trans ?_;have h':Uab (Zce PZ a0) 1000 ((0:Int),(#[.int .u8 (0:Int),.int .u8 (0:Int),.int .u8 (0:Int),.int .u8 (0:Int),.int .u8 (0:Int)]:Array Value))=some (((5:Nat):Int),a0):=h;rw[h'];rfl
def Zbw:Con:=λargs h=>match args,h with
 |[.g a0 24],[]=>some (.a (.g a0 33),.none,true)
 |_,_=>none
theorem Zt0:EntX PZ 76:=Zah (fn:=f76)
theorem Yaq:Uac mn PZ 76 Zbw:=(ansY (N:=1000) mKn f76 [([4],[2])]).of (by
 intro ρ h w args vals r e hA hH hr;unfold Zbw at hr;split at hr
 ·rename_i a0
  obtain⟨rfl,rfl,hg2⟩:=BQi hr;exact Zvj a0 (hA.wt 0 rfl) hg2
 ·cases hr)
def Zcy(a0:Array Value):St:=(⟨.a (.g a0 25) :: .a (.w 0) :: .a (.w 1) :: .a (.w 2) :: .a (.i .i64 (0:Int))::us 11 ([]),[.row a0 25,.row (zc PZ 34) 34,.row (zc PZ 34) 34],[]⟩:St)
def Zd0:Int×Array Value->LS
 |(y0_4,r0_2)=>([.a (.i .i64 (y0_4))],[.row r0_2 34])
def Zi0:Int×Array Value->Exit×LS
 |t=>((.exit 0),Zd0 t)
def Zbj(P:Program)(a0:Array Value):Int×Array Value->Option (Stp (Int×Array Value) (Int×Array Value))
 |(y0_4,r0_2)=>bif decide (y0_4<(36:Int)) then (bif (decide (0<=y0_4)&&decide (y0_4<36)) then (bif (decide (0<=y0_4)&&decide (y0_4<36)) then (some (.more ((i64.wrap (y0_4+(1:Int))),(spl r0_2 ((y0_4).toNat*5) (a0.extract ((y0_4).toNat*5) (((y0_4).toNat*5)+5)).toList))))
    else (none))
   else (none))
  else (some (.done (y0_4,r0_2)))
noncomputable abbrev cKCxD54:=codeOf f54
def Udw:=(Uaa cKCxD54 [([4],[2])]).1
theorem Ztm(N:Nat)(a0:Array Value):∀t:Int×Array Value,Uag PZ (mkΓ [(76,con Zbw)]) N (cAt cKCxD54 [1,1,0,1,0,0]) (pAt Udw [1,1,0,1,0]) [4] [2] (Zcy a0) (Zd0 t)=mapS Zd0 Zi0 (Zbj PZ a0 t):=by
 rintro⟨y0_4,r0_2⟩;refine Eq.trans (b:=(bif decide (y0_4<(36:Int)) then (bif (decide (0<=y0_4)&&decide (y0_4<36)) then (bif (decide (0<=y0_4)&&decide (y0_4<36)) then (some (.more ([.a (.i .i64 (i64.wrap (y0_4+(1:Int))))],[.row (spl r0_2 ((y0_4).toNat*5) (a0.extract ((y0_4).toNat*5) (((y0_4).toNat*5)+5)).toList) 34])))
    else (none))
   else (none))
  else (some (.done ((.exit 0),([.a (.i .i64 (y0_4))],[.row r0_2 34])))))) (by kernel_rfl) ?_
 simp only[Zbj,Zao,Zap,Zam,Zan,Zd0,Zi0]
def Zhe(P:Program)(N:Nat)(a0:Array Value)(z0_4:Int)(q0_2:Array Value):Option (SV×Eff×Bool):=some (.a (.g q0_2 34),.none,true)
def Ufa(N:Nat):=(Uad 0 (kSeq (veC PZ (mkΓ [(76,con Zbw)]) N (cAt cKCxD54 [1,1,1]) (pAt Udw [1,1,1]) (SV×Eff×Bool)) (finK PZ [] [.cell 2 34])))
theorem Zof(N:Nat)(a0:Array Value)(z0_4:Int)(q0_2:Array Value):(Ufa N) (.exit 0) (left (writes (cAt cKCxD54 [1,1,0,1,0,0])) [4] [2] (Zcy a0) ([.a (.i .i64 (z0_4))],[.row q0_2 34]))=Zhe PZ N a0 z0_4 q0_2:=by refine Eq.trans (b:=(some (.a (.g q0_2 34),.none,true))) (by kernel_rfl) ?_;rfl
theorem Zuc(N:Nat)(a0:Array Value):Uaj (Uab (Uag PZ (mkΓ [(76,con Zbw)]) N (cAt cKCxD54 [1,1,0,1,0,0]) (pAt Udw [1,1,0,1,0]) [4] [2] (Zcy a0)) N ([.a (.i .i64 (0:Int))],[.row (zc PZ 34) 34])) (λe s=>(Ufa N) e (left (writes (cAt cKCxD54 [1,1,0,1,0,0])) [4] [2] (Zcy a0) s))=Uak (Uab (Zbj PZ a0) N ((0:Int),(zc PZ 34))) (λx=>Zhe PZ N a0 x.1 x.2):=by refine Zau Zd0 Zi0 _ _ (Ztm N a0) N ((0:Int),(zc PZ 34)) _ _ ?_;intro x;exact Zof N a0 x.1 x.2
theorem Zq9(N:Nat)(a0:Array Value):ansV PZ (mkΓ [(76,con Zbw)]) N f54 [([4],[2])] [.g a0 25] []=(Uak (Uab (Zbj PZ a0) N ((0:Int),(zc PZ 34))) (λx=>Zhe PZ N a0 x.1 x.2)):=by refine Eq.trans (b:=(Uaj (Uab (Uag PZ (mkΓ [(76,con Zbw)]) N (cAt cKCxD54 [1,1,0,1,0,0]) (pAt Udw [1,1,0,1,0]) [4] [2] (Zcy a0)) N ([.a (.i .i64 (0:Int))],[.row (zc PZ 34) 34])) (λe s=>(Ufa N) e (left (writes (cAt cKCxD54 [1,1,0,1,0,0])) [4] [2] (Zcy a0) s)))) (by kernel_rfl) ?_;simp only[Zuc N a0]
theorem Zqr(a0:Array Value)(h_a0:WT PZ 25 a0)(hg:(true)=true):ansV PZ (mkΓ [(76,con Zbw)]) 1000 f54 [([4],[2])] [.g a0 25] []=some (.a (.g a0 34),.none,true):=by
 have hs:a0.size=(zc PZ 34).size:=by rw[h_a0.layLen];kernel_rfl
 have hz:a0.size=180:=by rw[h_a0.layLen];kernel_rfl
 have hL:∀k,k<36->(lay PZ 25)[k*5]?=some 4:=by
  intro k hk;have h:(List.range 36).all (λk=>(lay PZ 25)[k*5]?==some 4)=true:=by kernel_rfl
  exact eq_of_beq (List.all_eq_true.1 h k (List.mem_range.2 hk))
 have h:=Zcu (g:=Zbj PZ a0) (λk=>((k:Int),upto a0 (zc PZ 34) (k*5))) (m:=36) (x:=(((36:Nat):Int),upto a0 (zc PZ 34) (36*5))) (N:=1000) (λk hk=>by
  have h1:decide ((k:Int)<36)=true:=Q3 (by omega);have h0:decide (0<=(k:Int))=true:=Q3 (by omega);have h3:i64.wrap ((k:Int)+1)=((k+1:Nat):Int):=by rw[IntWalk.i64_in _ (by omega)];omega
  have h4:((k:Int)).toNat=k:=Q9 k;have h5:spl (upto a0 (zc PZ 34) (k*5)) (k*5) (a0.extract (k*5) (k*5+5)).toList=upto a0 (zc PZ 34) ((k+1)*5):=by rw[Nat.add_mul];exact Ydf hs (by omega) rfl
  simp only[Zbj,h1,h0,Bool.and_self,h4,Q1,h3,h5]) (by
  have h1:decide (((36:Nat):Int)<36)=false:=by decide
  simp only[Zbj,h1,Q2]) (by omega)
 simp only[Nat.zero_mul,Zi4 hs,Zlr hs hz]at h;refine(Zq9 1000 a0).trans ?_;have h':Uab (Zbj PZ a0) 1000 ((0:Int),(zc PZ 34))=some (((36:Nat):Int),a0):=h;rw[h'];rfl
def Zbg:Con:=λargs h=>match args,h with
 |[.g a0 25],[]=>some (.a (.g a0 34),.none,true)
 |_,_=>none
theorem Zpc:EntX PZ 54:=Zah (fn:=f54)
theorem Ztr:Uac mn PZ 54 Zbg:=(ansY (N:=1000) (mKc (Zae Yaq) Zt0 mKn) f54 [([4],[2])]).of (by
 intro ρ h w args vals r e hA hH hr;unfold Zbg at hr;split at hr
 ·rename_i a0
  obtain⟨rfl,rfl,hg2⟩:=BQi hr;exact Zqr a0 (hA.wt 0 rfl) hg2
 ·cases hr)
def Zb2(a0:Array Value):St:=(⟨.a (.g a0 26) :: .a (.w 0) :: .a (.w 1) :: .a (.w 2) :: .a (.i .i64 (0:Int))::us 11 ([]),[.row a0 26,.row (zc PZ 35) 35,.row (zc PZ 35) 35],[]⟩:St)
def Zc8:Int×Array Value->LS
 |(y0_4,r0_2)=>([.a (.i .i64 (y0_4))],[.row r0_2 35])
def Zhd:Int×Array Value->Exit×LS
 |t=>((.exit 0),Zc8 t)
def Za9(P:Program)(a0:Array Value):Int×Array Value->Option (Stp (Int×Array Value) (Int×Array Value))
 |(y0_4,r0_2)=>bif decide (y0_4<(2:Int)) then (bif (decide (0<=y0_4)&&decide (y0_4<2)) then (bif (decide (0<=y0_4)&&decide (y0_4<2)) then (some (.more ((i64.wrap (y0_4+(1:Int))),(spl r0_2 ((y0_4).toNat*180) (a0.extract ((y0_4).toNat*180) (((y0_4).toNat*180)+180)).toList))))
    else (none))
   else (none))
  else (some (.done (y0_4,r0_2)))
noncomputable abbrev cKCxD36:=codeOf f36
def Ud1:=(Uaa cKCxD36 [([4],[2])]).1
theorem Zqh(N:Nat)(a0:Array Value):∀t:Int×Array Value,Uag PZ (mkΓ [(54,con Zbg)]) N (cAt cKCxD36 [1,1,0,1,0,0]) (pAt Ud1 [1,1,0,1,0]) [4] [2] (Zb2 a0) (Zc8 t)=mapS Zc8 Zhd (Za9 PZ a0 t):=by
 rintro⟨y0_4,r0_2⟩;refine Eq.trans (b:=(bif decide (y0_4<(2:Int)) then (bif (decide (0<=y0_4)&&decide (y0_4<2)) then (bif (decide (0<=y0_4)&&decide (y0_4<2)) then (some (.more ([.a (.i .i64 (i64.wrap (y0_4+(1:Int))))],[.row (spl r0_2 ((y0_4).toNat*180) (a0.extract ((y0_4).toNat*180) (((y0_4).toNat*180)+180)).toList) 35])))
    else (none))
   else (none))
  else (some (.done ((.exit 0),([.a (.i .i64 (y0_4))],[.row r0_2 35])))))) (by kernel_rfl) ?_
 simp only[Za9,Zao,Zap,Zam,Zan,Zc8,Zhd]
def Zfv(P:Program)(N:Nat)(a0:Array Value)(z0_4:Int)(q0_2:Array Value):Option (SV×Eff×Bool):=some (.a (.g q0_2 35),.none,true)
def Ufd(N:Nat):=(Uad 0 (kSeq (veC PZ (mkΓ [(54,con Zbg)]) N (cAt cKCxD36 [1,1,1]) (pAt Ud1 [1,1,1]) (SV×Eff×Bool)) (finK PZ [] [.cell 2 35])))
theorem Zns(N:Nat)(a0:Array Value)(z0_4:Int)(q0_2:Array Value):(Ufd N) (.exit 0) (left (writes (cAt cKCxD36 [1,1,0,1,0,0])) [4] [2] (Zb2 a0) ([.a (.i .i64 (z0_4))],[.row q0_2 35]))=Zfv PZ N a0 z0_4 q0_2:=by refine Eq.trans (b:=(some (.a (.g q0_2 35),.none,true))) (by kernel_rfl) ?_;rfl
theorem Zql(N:Nat)(a0:Array Value):Uaj (Uab (Uag PZ (mkΓ [(54,con Zbg)]) N (cAt cKCxD36 [1,1,0,1,0,0]) (pAt Ud1 [1,1,0,1,0]) [4] [2] (Zb2 a0)) N ([.a (.i .i64 (0:Int))],[.row (zc PZ 35) 35])) (λe s=>(Ufd N) e (left (writes (cAt cKCxD36 [1,1,0,1,0,0])) [4] [2] (Zb2 a0) s))=Uak (Uab (Za9 PZ a0) N ((0:Int),(zc PZ 35))) (λx=>Zfv PZ N a0 x.1 x.2):=by refine Zau Zc8 Zhd _ _ (Zqh N a0) N ((0:Int),(zc PZ 35)) _ _ ?_;intro x;exact Zns N a0 x.1 x.2
theorem Zp2(N:Nat)(a0:Array Value):ansV PZ (mkΓ [(54,con Zbg)]) N f36 [([4],[2])] [.g a0 26] []=(Uak (Uab (Za9 PZ a0) N ((0:Int),(zc PZ 35))) (λx=>Zfv PZ N a0 x.1 x.2)):=by refine Eq.trans (b:=(Uaj (Uab (Uag PZ (mkΓ [(54,con Zbg)]) N (cAt cKCxD36 [1,1,0,1,0,0]) (pAt Ud1 [1,1,0,1,0]) [4] [2] (Zb2 a0)) N ([.a (.i .i64 (0:Int))],[.row (zc PZ 35) 35])) (λe s=>(Ufd N) e (left (writes (cAt cKCxD36 [1,1,0,1,0,0])) [4] [2] (Zb2 a0) s)))) (by kernel_rfl) ?_;simp only[Zql N a0]
theorem Zow(a0:Array Value)(h_a0:WT PZ 26 a0)(hg:(true)=true):ansV PZ (mkΓ [(54,con Zbg)]) 1000 f36 [([4],[2])] [.g a0 26] []=some (.a (.g a0 35),.none,true):=by
 have hs:a0.size=(zc PZ 35).size:=by rw[h_a0.layLen];kernel_rfl
 have hz:a0.size=360:=by rw[h_a0.layLen];kernel_rfl
 have hL:∀k,k<2->(lay PZ 26)[k*180]?=some 4:=by
  intro k hk;have h:(List.range 2).all (λk=>(lay PZ 26)[k*180]?==some 4)=true:=by kernel_rfl
  exact eq_of_beq (List.all_eq_true.1 h k (List.mem_range.2 hk))
 have h:=Zcu (g:=Za9 PZ a0) (λk=>((k:Int),upto a0 (zc PZ 35) (k*180))) (m:=2) (x:=(((2:Nat):Int),upto a0 (zc PZ 35) (2*180))) (N:=1000) (λk hk=>by
  have h1:decide ((k:Int)<2)=true:=Q3 (by omega);have h0:decide (0<=(k:Int))=true:=Q3 (by omega);have h3:i64.wrap ((k:Int)+1)=((k+1:Nat):Int):=by rw[IntWalk.i64_in _ (by omega)];omega
  have h4:((k:Int)).toNat=k:=Q9 k;have h5:spl (upto a0 (zc PZ 35) (k*180)) (k*180) (a0.extract (k*180) (k*180+180)).toList=upto a0 (zc PZ 35) ((k+1)*180):=by rw[Nat.add_mul];exact Ydf hs (by omega) rfl
  simp only[Za9,h1,h0,Bool.and_self,h4,Q1,h3,h5]) (by
  have h1:decide (((2:Nat):Int)<2)=false:=by decide
  simp only[Za9,h1,Q2]) (by omega)
 simp only[Nat.zero_mul,Zi4 hs,Zlr hs hz]at h;refine(Zp2 1000 a0).trans ?_;have h':Uab (Za9 PZ a0) 1000 ((0:Int),(zc PZ 35))=some (((2:Nat):Int),a0):=h;rw[h'];rfl
def Zgk:Con:=λargs h=>match args,h with
 |[.g a0 26],[]=>some (.a (.g a0 35),.none,true)
 |_,_=>none
theorem Zok:EntX PZ 36:=Zah (fn:=f36)
theorem Zqo:Uac mn PZ 36 Zgk:=(ansY (N:=1000) (mKc (Zae Ztr) Zpc mKn) f36 [([4],[2])]).of (by
 intro ρ h w args vals r e hA hH hr;unfold Zgk at hr;split at hr
 ·rename_i a0
  obtain⟨rfl,rfl,hg2⟩:=BQi hr;exact Zow a0 (hA.wt 0 rfl) hg2
 ·cases hr)
def Ya1:Cons:=(mkΓ [(36,con Zgk)])
theorem Ygt(N:Nat)(a0:Array Value):ansV PZ Ya1 N f11 [] [.g a0 28] []=(some (.a (.g (spl ((((zc PZ 37).setIfInBounds 0 (.int .i8 (num a0 0))).setIfInBounds 1 (.int .i8 (num a0 1))).setIfInBounds 2 (.int .u64 (num a0 2))) 3 (a0.extract 3 (3+360)).toList) 37),.none,true)):=by kernel_rfl
theorem Yem(a0:Array Value)(h_a0:WT PZ 28 a0)(hg:(true)=true):ansV PZ Ya1 1000 f11 [] [.g a0 28] []=some (.a (.g a0 37),.none,true):=by
 have hs:a0.size=(zc PZ 37).size:=by rw[h_a0.layLen];kernel_rfl
 have hz:a0.size=363:=by rw[h_a0.layLen];kernel_rfl
 have e0:(upto a0 (zc PZ 37) 0).setIfInBounds 0 (.int .i8 (num a0 0))=upto a0 (zc PZ 37) 1:=Zlq hs (h_a0.int (k:=.i8) (by kernel_rfl)).1;rw[Zi4 hs]at e0;have e1:(upto a0 (zc PZ 37) 1).setIfInBounds 1 (.int .i8 (num a0 1))=upto a0 (zc PZ 37) 2:=Zlq hs (h_a0.int (k:=.i8) (by kernel_rfl)).1;have e2:(upto a0 (zc PZ 37) 2).setIfInBounds 2 (.int .u64 (num a0 2))=upto a0 (zc PZ 37) 3:=Zlq hs (h_a0.int (k:=.u64) (by kernel_rfl)).1;have e3:spl (upto a0 (zc PZ 37) 3) 3 (a0.extract 3 (3+360)).toList=upto a0 (zc PZ 37) 363:=Ydf hs (by omega) rfl;refine(Ygt 1000 a0).trans ?_;rw[e0,e1,e2,e3,Zlr hs hz]
def Zoo:Con:=λargs h=>match args,h with
 |[.g a0 28],[]=>some (.a (.g a0 37),.none,true)
 |_,_=>none
theorem Yb4:EntX PZ 11:=Zah (fn:=f11)
theorem Yi8:Uac mn PZ 11 Zoo:=(ansY (N:=1000) (mKc (Zae Zqo) Zok mKn) f11 []).of (by
 intro ρ h w args vals r e hA hH hr;unfold Zoo at hr;split at hr
 ·rename_i a0
  obtain⟨rfl,rfl,hg2⟩:=BQi hr;exact Yem a0 (hA.wt 0 rfl) hg2
 ·cases hr)
theorem wrap12:∀k,k<14->i64.wrap ((12:Int)^k*12)=12^(k+1):=by decide
def Zdn(a0:Int):St:=(⟨.a (.i .i64 (a0)) :: .a (.u) :: .a (.i .i64 (0:Int)) :: .a (.i .i64 (1:Int)) :: .a (.i .i64 (a0)) :: .a (.i .i64 (0:Int))::us 5 ([]),[],[]⟩:St)
def Zfb:Int×Int->LS
 |(y0_3,y0_5)=>([.a (.i .i64 (y0_3)),.a (.i .i64 (y0_5))],[])
def Zkp:Int×Int->Exit×LS
 |t=>((.exit 0),Zfb t)
def Zbv(P:Program)(a0:Int):Int×Int->Option (Stp (Int×Int) (Int×Int))
 |(y0_3,y0_5)=>bif decide (y0_5<a0) then (some (.more ((i64.wrap (y0_3*(12:Int))),(i64.wrap (y0_5+(1:Int))))))
  else (some (.done (y0_3,y0_5)))
noncomputable abbrev cKCxD117:=codeOf f117
def Ud8:=(Uaa cKCxD117 [([3,5],[])]).1
theorem Zwk(N:Nat)(a0:Int):∀t:Int×Int,Uag PZ (mkΓ []) N (cAt cKCxD117 [1,1,0,1,0,0]) (pAt Ud8 [1,1,0,1,0]) [3,5] [] (Zdn a0) (Zfb t)=mapS Zfb Zkp (Zbv PZ a0 t):=by
 rintro⟨y0_3,y0_5⟩;refine Eq.trans (b:=(bif decide (y0_5<a0) then (some (.more ([.a (.i .i64 (i64.wrap (y0_3*(12:Int)))),.a (.i .i64 (i64.wrap (y0_5+(1:Int))))],[])))
  else (some (.done ((.exit 0),([.a (.i .i64 (y0_3)),.a (.i .i64 (y0_5))],[])))))) (by kernel_rfl) ?_
 simp only[Zbv,Zao,Zap,Zam,Zan,Zfb,Zkp]
def Ziu(P:Program)(N:Nat)(a0:Int)(z0_3:Int)(z0_5:Int):Option (SV×Eff×Bool):=some (.a (.i .i64 (z0_3)),.none,true)
def Ue0(N:Nat):=(Uad 0 (kSeq (veC PZ (mkΓ []) N (cAt cKCxD117 [1,1,1]) (pAt Ud8 [1,1,1]) (SV×Eff×Bool)) (finK PZ [] [.tmp 2])))
theorem Zpe(N:Nat)(a0:Int)(z0_3:Int)(z0_5:Int):(Ue0 N) (.exit 0) (left (writes (cAt cKCxD117 [1,1,0,1,0,0])) [3,5] [] (Zdn a0) ([.a (.i .i64 (z0_3)),.a (.i .i64 (z0_5))],[]))=Ziu PZ N a0 z0_3 z0_5:=by refine Eq.trans (b:=(some (.a (.i .i64 (z0_3)),.none,true))) (by kernel_rfl) ?_;rfl
theorem Zxb(N:Nat)(a0:Int):Uaj (Uab (Uag PZ (mkΓ []) N (cAt cKCxD117 [1,1,0,1,0,0]) (pAt Ud8 [1,1,0,1,0]) [3,5] [] (Zdn a0)) N ([.a (.i .i64 (1:Int)),.a (.i .i64 (0:Int))],[])) (λe s=>(Ue0 N) e (left (writes (cAt cKCxD117 [1,1,0,1,0,0])) [3,5] [] (Zdn a0) s))=Uak (Uab (Zbv PZ a0) N ((1:Int),(0:Int))) (λx=>Ziu PZ N a0 x.1 x.2):=by refine Zau Zfb Zkp _ _ (Zwk N a0) N ((1:Int),(0:Int)) _ _ ?_;intro x;exact Zpe N a0 x.1 x.2
theorem Zvp(N:Nat)(a0:Int):ansV PZ (mkΓ []) N f117 [([3,5],[])] [.i .i64 (a0)] []=(Uak (Uab (Zbv PZ a0) N ((1:Int),(0:Int))) (λx=>Ziu PZ N a0 x.1 x.2)):=by refine Eq.trans (b:=(Uaj (Uab (Uag PZ (mkΓ []) N (cAt cKCxD117 [1,1,0,1,0,0]) (pAt Ud8 [1,1,0,1,0]) [3,5] [] (Zdn a0)) N ([.a (.i .i64 (1:Int)),.a (.i .i64 (0:Int))],[])) (λe s=>(Ue0 N) e (left (writes (cAt cKCxD117 [1,1,0,1,0,0])) [3,5] [] (Zdn a0) s)))) (by kernel_rfl) ?_;simp only[Zxb N a0]
theorem Ztw(a0:Int)(h_a0:i64.min<=a0/\a0<=i64.max)(hg:((decide (0<=a0)&&decide (a0<=14)))=true):ansV PZ (mkΓ []) 1000 f117 [([3,5],[])] [.i .i64 (a0)] []=some (.a (.i .i64 (12^a0.toNat)),.none,true):=by
 simp only[Q7,decide_eq_true_eq]at hg;obtain⟨h0,h14⟩:=hg;obtain⟨m,rfl⟩:=Int.eq_ofNat_of_zero_le h0;refine(Zvp 1000 _).trans ?_;have h:=Zcu (g:=Zbv PZ (m:Int)) (λk=>((12:Int)^k,(k:Int))) (m:=m) (x:=((12:Int)^m,(m:Int))) (N:=1000) (λk hk=>by
  have h1:decide ((k:Int)<(m:Int))=true:=Q3 (by omega);have h2:i64.wrap ((k:Int)+1)=((k+1:Nat):Int):=by rw[IntWalk.i64_in _ (by omega)];omega
  simp only[Zbv,h1,Q1,wrap12 k (by omega),h2]) (by
  have h1:decide ((m:Int)<(m:Int))=false:=Q4 (by omega);simp only[Zbv,h1,Q2]) (by omega)
 have h':Uab (Zbv PZ (m:Int)) 1000 ((1:Int),(0:Int))=some ((12:Int)^m,(m:Int)):=h;rw[h'];rfl
def Za8:Con:=λargs h=>match args,h with
 |[.i .i64 a0],[]=>some (.a (.i .i64 (12^a0.toNat)),.none,(decide (0<=a0)&&decide (a0<=14)))
 |_,_=>none
theorem Zr4:EntX PZ 117:=Zah (fn:=f117)
theorem Zxs:Uac mn PZ 117 Za8:=(ansY (N:=1000) mKn f117 [([3,5],[])]).of (by
 intro ρ h w args vals r e hA hH hr;unfold Za8 at hr;split at hr
 ·rename_i a0
  obtain⟨rfl,rfl,hg2⟩:=BQi hr;exact Ztw a0 (hA.rng 0 rfl) hg2
 ·cases hr)
theorem Zjb{x a b:Int}(h:Zaa x a b=true):a<=x/\x<=b:=by
 unfold Zaa at h;cases h0:decide (x>=a) with
 |false=>rw[h0]at h;exact nomatch h
 |true=>rw[h0]at h;exact⟨of_decide_eq_true h0,of_decide_eq_true h⟩
theorem cell_num{D:Array Value}{T:TypeId}(hz:D.size=40)(k:Nat)(hk:k<36):num (D.extract 3 (3+36)) (k*1)=num D (3+k*1):=by unfold num;rw[Array.getElem?_extract,if_pos (by omega)]
end
end Go.Proofs.YtdfefaanfiheoaaGreatDoor
