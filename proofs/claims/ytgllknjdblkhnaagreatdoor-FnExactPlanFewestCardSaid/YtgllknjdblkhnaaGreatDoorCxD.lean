/- Parts of twelve, in company. -/
import Derived.Test.YtgllknjdblkhnaaGreatDoorProg
import Derived.Test.YtgllknjdblkhnaaGreatDoorCxC
set_option linter.unusedVariables false
set_option linter.unusedSimpArgs false
namespace Go.Proofs.YtgllknjdblkhnaaGreatDoor
open Tryz (f5 f11 f22 f41 f81)
open Go.ChangeShapes Go.WideShapes Go.ChangeAt Go.RowKit Ve Vc
open Tryz renaming prog -> PZ
open IntKind (i64)
set_option maxRecDepth 100000
noncomputable section
variable {mn:Md}
def Ze6(a0:Array Value):St:=(⟨.a (.g a0 24)::.a (.w 0)::.a (.w 1)::.a (.w 2)::.a (.i .i64 0)::us 10 ([]),[.row a0 24,.row #[.int .u8 0,.int .u8 0,.int .u8 0,.int .u8 0,.int .u8 0] 34,.row #[.int .u8 0,.int .u8 0,.int .u8 0,.int .u8 0,.int .u8 0] 34],[]⟩:St)
def Zgx:Int×Array Value->LS
 |(y0_4,r0_2)=>([.a (.i .i64 y0_4)],[.row r0_2 34])
def Zlx:Int×Array Value->Exit×LS
 |t=>((.exit 0),Zgx t)
def Zde(P:Program)(a0:Array Value):Int×Array Value->Option (Stp (Int×Array Value) (Int×Array Value))
 |(y0_4,r0_2)=>bif decide (y0_4<(5:Int)) then (bif (decide (0<=y0_4)&&decide (y0_4<5)) then (bif (decide (0<=y0_4)&&decide (y0_4<5)) then (some (.more ((i64.wrap (y0_4+(1:Int))),(r0_2.setIfInBounds ((y0_4).toNat*1) (.int .u8 (num a0 ((y0_4).toNat*1))))))) else (none)) else (none)) else (some (.done (y0_4,r0_2)))
noncomputable abbrev cKCxD41:=codeOf f41
def Uei:=(Uaa cKCxD41 [([4],[2])]).1
theorem Zzx(N:Nat)(a0:Array Value):∀t:Int×Array Value,Ual PZ (mkΓ []) N (cAt cKCxD41 [1,1,0,1,0,0]) (pAt Uei [1,1,0,1,0]) [4] [2] (Ze6 a0) (Zgx t)=mapS Zgx Zlx (Zde PZ a0 t):=by
 rintro⟨y0_4,r0_2⟩
 conv=>rhs;simp only[Zde,Zax,Zay,Zaw,Zaz,Zgx,Zlx]
 kernel_rfl
def Zj0(P:Program)(N:Nat)(a0:Array Value)(z0_4:Int)(q0_2:Array Value):Option (SV×Eff×Bool):=some (.a (.g q0_2 34),.none,true)
def Ufk(N:Nat):=(Uad 0 (kSeq (veC PZ (mkΓ []) N (cAt cKCxD41 [1,1,1]) (pAt Uei [1,1,1]) (SV×Eff×Bool)) (finK PZ [] [.cell 2 34])))
theorem Zrb(N:Nat)(a0:Array Value)(z0_4:Int)(q0_2:Array Value):(Ufk N) (.exit 0) (left (writes (cAt cKCxD41 [1,1,0,1,0,0])) [4] [2] (Ze6 a0) ([.a (.i .i64 z0_4)],[.row q0_2 34]))=Zj0 PZ N a0 z0_4 q0_2:=by kernel_rfl
theorem Zz3(N:Nat)(a0:Array Value):Uah (Uab (Ual PZ (mkΓ []) N (cAt cKCxD41 [1,1,0,1,0,0]) (pAt Uei [1,1,0,1,0]) [4] [2] (Ze6 a0)) N ([.a (.i .i64 0)],[.row (#[.int .u8 0,.int .u8 0,.int .u8 0,.int .u8 0,.int .u8 0]:Array Value) 34])) (λe s=>(Ufk N) e (left (writes (cAt cKCxD41 [1,1,0,1,0,0])) [4] [2] (Ze6 a0) s))=Uao (Uab (Zde PZ a0) N ((0:Int),(#[.int .u8 0,.int .u8 0,.int .u8 0,.int .u8 0,.int .u8 0]:Array Value))) (λx=>Zj0 PZ N a0 x.1 x.2):=by refine Za2 Zgx Zlx _ _ (Zzx N a0) N ((0:Int),(#[.int .u8 0,.int .u8 0,.int .u8 0,.int .u8 0,.int .u8 0]:Array Value)) _ _ ?_;intro x;exact Zrb N a0 x.1 x.2
theorem Zxm(N:Nat)(a0:Array Value):ansV PZ (mkΓ []) N f41 [([4],[2])] [.g a0 24] []=(Uao (Uab (Zde PZ a0) N ((0:Int),(#[.int .u8 0,.int .u8 0,.int .u8 0,.int .u8 0,.int .u8 0]:Array Value))) (λx=>Zj0 PZ N a0 x.1 x.2)):=by
 conv=>rhs;simp only[<- Zz3 N a0]
 kernel_rfl
theorem Zwf(a0:Array Value)(h_a0:WT PZ 24 a0)(hg:(true)=true):ansV PZ (mkΓ []) 1000 f41 [([4],[2])] [.g a0 24] []=some (.a (.g a0 34),.none,true):=by
 have hs:a0.size=(#[.int .u8 0,.int .u8 0,.int .u8 0,.int .u8 0,.int .u8 0]:Array Value).size:=by rw[h_a0.layLen];kernel_rfl
 have hz:a0.size=5:=by rw[h_a0.layLen];kernel_rfl
 have hL:∀k,k<5->(lay PZ 24)[k*1]?=some 4:=by
  intro k hk;have h:(List.range 5).all (λk=>(lay PZ 24)[k*1]?==some 4)=true:=by kernel_rfl
  exact eq_of_beq (List.all_eq_true.1 h k (List.mem_range.2 hk))
 have h:=Ze0 (g:=Zde PZ a0) (λk=>((k:Int),upto a0 (#[.int .u8 0,.int .u8 0,.int .u8 0,.int .u8 0,.int .u8 0]:Array Value) (k*1))) (m:=5) (x:=(((5:Nat):Int),upto a0 (#[.int .u8 0,.int .u8 0,.int .u8 0,.int .u8 0,.int .u8 0]:Array Value) (5*1))) (N:=1000) (λk hk=>by
  have h1:decide ((k:Int)<5)=true:=Q3 (by omega);have h0:decide (0<=(k:Int))=true:=Q3 (by omega);have h3:i64.wrap ((k:Int)+1)=((k+1:Nat):Int):=by rw[IntWalk.i64_in _ (by omega)];omega
  have h4:((k:Int)).toNat=k:=Q9 k;have h5:(upto a0 (#[.int .u8 0,.int .u8 0,.int .u8 0,.int .u8 0,.int .u8 0]:Array Value) (k*1)).setIfInBounds (k*1) (.int .u8 (num a0 (k*1)))=upto a0 (#[.int .u8 0,.int .u8 0,.int .u8 0,.int .u8 0,.int .u8 0]:Array Value) ((k+1)*1):=by rw[Nat.add_mul];exact Zqt hs (h_a0.int (k:=.u8) (hL k hk)).1
  simp only[Zde,h1,h0,Bool.and_self,h4,Q1,h3,h5]) (by
  have h1:decide (((5:Nat):Int)<5)=false:=by decide
  simp only[Zde,h1,Q2]) (by omega)
 simp only[Nat.zero_mul,Zrp hs,Zwo hs hz]at h;refine(Zxm 1000 a0).trans ?_;have h':Uab (Zde PZ a0) 1000 ((0:Int),(#[.int .u8 0,.int .u8 0,.int .u8 0,.int .u8 0,.int .u8 0]:Array Value))=some (((5:Nat):Int),a0):=h;rw[h'];rfl
def Zc0:Con:=λargs h=>match args,h with|[.g a0 24],[]=>some (.a (.g a0 34),.none,true)|_,_=>none
theorem Zt7:EntX PZ 41:=Zak (fn:=f41)
theorem Yam:Uac mn PZ 41 Zc0:=(ansY (N:=1000) mKn f41 [([4],[2])]).of (by
 intro ρ h w args vals r e hA hH hr;unfold Zc0 at hr;split at hr
 ·rename_i a0;obtain⟨rfl,rfl,hg2⟩:=BQi hr;exact Zwf a0 (hA.wt 0 rfl) hg2
 ·cases hr)
def Zdu(a0:Array Value):St:=(⟨.a (.g a0 25)::.a (.w 0)::.a (.w 1)::.a (.w 2)::.a (.i .i64 0)::us 11 ([]),[.row a0 25,.row (zc PZ 35) 35,.row (zc PZ 35) 35],[]⟩:St)
def Zev:Int×Array Value->LS
 |(y0_4,r0_2)=>([.a (.i .i64 y0_4)],[.row r0_2 35])
def Zix:Int×Array Value->Exit×LS
 |t=>((.exit 0),Zev t)
def Zb6(P:Program)(a0:Array Value):Int×Array Value->Option (Stp (Int×Array Value) (Int×Array Value))
 |(y0_4,r0_2)=>bif decide (y0_4<(36:Int)) then (bif (decide (0<=y0_4)&&decide (y0_4<36)) then (bif (decide (0<=y0_4)&&decide (y0_4<36)) then (some (.more ((i64.wrap (y0_4+(1:Int))),(spl r0_2 ((y0_4).toNat*5) (a0.extract ((y0_4).toNat*5) (((y0_4).toNat*5)+5)).toList)))) else (none)) else (none)) else (some (.done (y0_4,r0_2)))
noncomputable abbrev cKCxD22:=codeOf f22
def Ud8:=(Uaa cKCxD22 [([4],[2])]).1
theorem Zuo(N:Nat)(a0:Array Value):∀t:Int×Array Value,Ual PZ (mkΓ [(41,con Zc0)]) N (cAt cKCxD22 [1,1,0,1,0,0]) (pAt Ud8 [1,1,0,1,0]) [4] [2] (Zdu a0) (Zev t)=mapS Zev Zix (Zb6 PZ a0 t):=by
 rintro⟨y0_4,r0_2⟩
 conv=>rhs;simp only[Zb6,Zax,Zay,Zaw,Zaz,Zev,Zix]
 kernel_rfl
def Zhs(P:Program)(N:Nat)(a0:Array Value)(z0_4:Int)(q0_2:Array Value):Option (SV×Eff×Bool):=some (.a (.g q0_2 35),.none,true)
def Ufv(N:Nat):=(Uad 0 (kSeq (veC PZ (mkΓ [(41,con Zc0)]) N (cAt cKCxD22 [1,1,1]) (pAt Ud8 [1,1,1]) (SV×Eff×Bool)) (finK PZ [] [.cell 2 35])))
theorem Zop(N:Nat)(a0:Array Value)(z0_4:Int)(q0_2:Array Value):(Ufv N) (.exit 0) (left (writes (cAt cKCxD22 [1,1,0,1,0,0])) [4] [2] (Zdu a0) ([.a (.i .i64 z0_4)],[.row q0_2 35]))=Zhs PZ N a0 z0_4 q0_2:=by kernel_rfl
theorem Zuc(N:Nat)(a0:Array Value):Uah (Uab (Ual PZ (mkΓ [(41,con Zc0)]) N (cAt cKCxD22 [1,1,0,1,0,0]) (pAt Ud8 [1,1,0,1,0]) [4] [2] (Zdu a0)) N ([.a (.i .i64 0)],[.row (zc PZ 35) 35])) (λe s=>(Ufv N) e (left (writes (cAt cKCxD22 [1,1,0,1,0,0])) [4] [2] (Zdu a0) s))=Uao (Uab (Zb6 PZ a0) N ((0:Int),(zc PZ 35))) (λx=>Zhs PZ N a0 x.1 x.2):=by refine Za2 Zev Zix _ _ (Zuo N a0) N ((0:Int),(zc PZ 35)) _ _ ?_;intro x;exact Zop N a0 x.1 x.2
theorem Zr0(N:Nat)(a0:Array Value):ansV PZ (mkΓ [(41,con Zc0)]) N f22 [([4],[2])] [.g a0 25] []=(Uao (Uab (Zb6 PZ a0) N ((0:Int),(zc PZ 35))) (λx=>Zhs PZ N a0 x.1 x.2)):=by
 conv=>rhs;simp only[<- Zuc N a0]
 kernel_rfl
theorem Zq9(a0:Array Value)(h_a0:WT PZ 25 a0)(hg:(true)=true):ansV PZ (mkΓ [(41,con Zc0)]) 1000 f22 [([4],[2])] [.g a0 25] []=some (.a (.g a0 35),.none,true):=by
 have hs:a0.size=(zc PZ 35).size:=by rw[h_a0.layLen];kernel_rfl
 have hz:a0.size=180:=by rw[h_a0.layLen];kernel_rfl
 have hL:∀k,k<36->(lay PZ 25)[k*5]?=some 4:=by
  intro k hk;have h:(List.range 36).all (λk=>(lay PZ 25)[k*5]?==some 4)=true:=by kernel_rfl
  exact eq_of_beq (List.all_eq_true.1 h k (List.mem_range.2 hk))
 have h:=Ze0 (g:=Zb6 PZ a0) (λk=>((k:Int),upto a0 (zc PZ 35) (k*5))) (m:=36) (x:=(((36:Nat):Int),upto a0 (zc PZ 35) (36*5))) (N:=1000) (λk hk=>by
  have h1:decide ((k:Int)<36)=true:=Q3 (by omega);have h0:decide (0<=(k:Int))=true:=Q3 (by omega);have h3:i64.wrap ((k:Int)+1)=((k+1:Nat):Int):=by rw[IntWalk.i64_in _ (by omega)];omega
  have h4:((k:Int)).toNat=k:=Q9 k;have h5:spl (upto a0 (zc PZ 35) (k*5)) (k*5) (a0.extract (k*5) (k*5+5)).toList=upto a0 (zc PZ 35) ((k+1)*5):=by rw[Nat.add_mul];exact Yha hs (by omega) rfl
  simp only[Zb6,h1,h0,Bool.and_self,h4,Q1,h3,h5]) (by
  have h1:decide (((36:Nat):Int)<36)=false:=by decide
  simp only[Zb6,h1,Q2]) (by omega)
 simp only[Nat.zero_mul,Zrp hs,Zwo hs hz]at h;refine(Zr0 1000 a0).trans ?_;have h':Uab (Zb6 PZ a0) 1000 ((0:Int),(zc PZ 35))=some (((36:Nat):Int),a0):=h;rw[h'];rfl
def Zbt:Con:=λargs h=>match args,h with|[.g a0 25],[]=>some (.a (.g a0 35),.none,true)|_,_=>none
theorem Zql:EntX PZ 22:=Zak (fn:=f22)
theorem Zt4:Uac mn PZ 22 Zbt:=(ansY (N:=1000) (mKc (Zag Yam) Zt7 mKn) f22 [([4],[2])]).of (by
 intro ρ h w args vals r e hA hH hr;unfold Zbt at hr;split at hr
 ·rename_i a0;obtain⟨rfl,rfl,hg2⟩:=BQi hr;exact Zq9 a0 (hA.wt 0 rfl) hg2
 ·cases hr)
def Zc1(a0:Array Value):St:=(⟨.a (.g a0 26)::.a (.w 0)::.a (.w 1)::.a (.w 2)::.a (.i .i64 0)::us 11 ([]),[.row a0 26,.row (zc PZ 36) 36,.row (zc PZ 36) 36],[]⟩:St)
def Zd0:Int×Array Value->LS
 |(y0_4,r0_2)=>([.a (.i .i64 y0_4)],[.row r0_2 36])
def Zhr:Int×Array Value->Exit×LS
 |t=>((.exit 0),Zd0 t)
def Zbq(P:Program)(a0:Array Value):Int×Array Value->Option (Stp (Int×Array Value) (Int×Array Value))
 |(y0_4,r0_2)=>bif decide (y0_4<(2:Int)) then (bif (decide (0<=y0_4)&&decide (y0_4<2)) then (bif (decide (0<=y0_4)&&decide (y0_4<2)) then (some (.more ((i64.wrap (y0_4+(1:Int))),(spl r0_2 ((y0_4).toNat*180) (a0.extract ((y0_4).toNat*180) (((y0_4).toNat*180)+180)).toList)))) else (none)) else (none)) else (some (.done (y0_4,r0_2)))
noncomputable abbrev cKCxD11:=codeOf f11
def Ud9:=(Uaa cKCxD11 [([4],[2])]).1
theorem Zrd(N:Nat)(a0:Array Value):∀t:Int×Array Value,Ual PZ (mkΓ [(22,con Zbt)]) N (cAt cKCxD11 [1,1,0,1,0,0]) (pAt Ud9 [1,1,0,1,0]) [4] [2] (Zc1 a0) (Zd0 t)=mapS Zd0 Zhr (Zbq PZ a0 t):=by
 rintro⟨y0_4,r0_2⟩
 conv=>rhs;simp only[Zbq,Zax,Zay,Zaw,Zaz,Zd0,Zhr]
 kernel_rfl
def Zgj(P:Program)(N:Nat)(a0:Array Value)(z0_4:Int)(q0_2:Array Value):Option (SV×Eff×Bool):=some (.a (.g q0_2 36),.none,true)
def Ufs(N:Nat):=(Uad 0 (kSeq (veC PZ (mkΓ [(22,con Zbt)]) N (cAt cKCxD11 [1,1,1]) (pAt Ud9 [1,1,1]) (SV×Eff×Bool)) (finK PZ [] [.cell 2 36])))
theorem Znn(N:Nat)(a0:Array Value)(z0_4:Int)(q0_2:Array Value):(Ufs N) (.exit 0) (left (writes (cAt cKCxD11 [1,1,0,1,0,0])) [4] [2] (Zc1 a0) ([.a (.i .i64 z0_4)],[.row q0_2 36]))=Zgj PZ N a0 z0_4 q0_2:=by kernel_rfl
theorem Zrh(N:Nat)(a0:Array Value):Uah (Uab (Ual PZ (mkΓ [(22,con Zbt)]) N (cAt cKCxD11 [1,1,0,1,0,0]) (pAt Ud9 [1,1,0,1,0]) [4] [2] (Zc1 a0)) N ([.a (.i .i64 0)],[.row (zc PZ 36) 36])) (λe s=>(Ufs N) e (left (writes (cAt cKCxD11 [1,1,0,1,0,0])) [4] [2] (Zc1 a0) s))=Uao (Uab (Zbq PZ a0) N ((0:Int),(zc PZ 36))) (λx=>Zgj PZ N a0 x.1 x.2):=by refine Za2 Zd0 Zhr _ _ (Zrd N a0) N ((0:Int),(zc PZ 36)) _ _ ?_;intro x;exact Znn N a0 x.1 x.2
theorem Zqm(N:Nat)(a0:Array Value):ansV PZ (mkΓ [(22,con Zbt)]) N f11 [([4],[2])] [.g a0 26] []=(Uao (Uab (Zbq PZ a0) N ((0:Int),(zc PZ 36))) (λx=>Zgj PZ N a0 x.1 x.2)):=by
 conv=>rhs;simp only[<- Zrh N a0]
 kernel_rfl
theorem Zpx(a0:Array Value)(h_a0:WT PZ 26 a0)(hg:(true)=true):ansV PZ (mkΓ [(22,con Zbt)]) 1000 f11 [([4],[2])] [.g a0 26] []=some (.a (.g a0 36),.none,true):=by
 have hs:a0.size=(zc PZ 36).size:=by rw[h_a0.layLen];kernel_rfl
 have hz:a0.size=360:=by rw[h_a0.layLen];kernel_rfl
 have hL:∀k,k<2->(lay PZ 26)[k*180]?=some 4:=by
  intro k hk;have h:(List.range 2).all (λk=>(lay PZ 26)[k*180]?==some 4)=true:=by kernel_rfl
  exact eq_of_beq (List.all_eq_true.1 h k (List.mem_range.2 hk))
 have h:=Ze0 (g:=Zbq PZ a0) (λk=>((k:Int),upto a0 (zc PZ 36) (k*180))) (m:=2) (x:=(((2:Nat):Int),upto a0 (zc PZ 36) (2*180))) (N:=1000) (λk hk=>by
  have h1:decide ((k:Int)<2)=true:=Q3 (by omega);have h0:decide (0<=(k:Int))=true:=Q3 (by omega);have h3:i64.wrap ((k:Int)+1)=((k+1:Nat):Int):=by rw[IntWalk.i64_in _ (by omega)];omega
  have h4:((k:Int)).toNat=k:=Q9 k;have h5:spl (upto a0 (zc PZ 36) (k*180)) (k*180) (a0.extract (k*180) (k*180+180)).toList=upto a0 (zc PZ 36) ((k+1)*180):=by rw[Nat.add_mul];exact Yha hs (by omega) rfl
  simp only[Zbq,h1,h0,Bool.and_self,h4,Q1,h3,h5]) (by
  have h1:decide (((2:Nat):Int)<2)=false:=by decide
  simp only[Zbq,h1,Q2]) (by omega)
 simp only[Nat.zero_mul,Zrp hs,Zwo hs hz]at h;refine(Zqm 1000 a0).trans ?_;have h':Uab (Zbq PZ a0) 1000 ((0:Int),(zc PZ 36))=some (((2:Nat):Int),a0):=h;rw[h'];rfl
def Zhi:Con:=λargs h=>match args,h with|[.g a0 26],[]=>some (.a (.g a0 36),.none,true)|_,_=>none
theorem Zo2:EntX PZ 11:=Zak (fn:=f11)
theorem Zra:Uac mn PZ 11 Zhi:=(ansY (N:=1000) (mKc (Zag Zt4) Zql mKn) f11 [([4],[2])]).of (by
 intro ρ h w args vals r e hA hH hr;unfold Zhi at hr;split at hr
 ·rename_i a0;obtain⟨rfl,rfl,hg2⟩:=BQi hr;exact Zpx a0 (hA.wt 0 rfl) hg2
 ·cases hr)
def Ya1:Cons:=(mkΓ [(11,con Zhi)])
theorem Ye4(N:Nat)(a0:Array Value):ansV PZ Ya1 N f5 [] [.g a0 28] []=(some (.a (.g (spl ((((zc PZ 38).setIfInBounds 0 (.int .i8 (num a0 0))).setIfInBounds 1 (.int .i8 (num a0 1))).setIfInBounds 2 (.int .u64 (num a0 2))) 3 (a0.extract 3 (3+360)).toList) 38),.none,true)):=by kernel_rfl
theorem Ycu(a0:Array Value)(h_a0:WT PZ 28 a0)(hg:(true)=true):ansV PZ Ya1 1000 f5 [] [.g a0 28] []=some (.a (.g a0 38),.none,true):=by
 have hs:a0.size=(zc PZ 38).size:=by rw[h_a0.layLen];kernel_rfl
 have hz:a0.size=363:=by rw[h_a0.layLen];kernel_rfl
 have e0:(upto a0 (zc PZ 38) 0).setIfInBounds 0 (.int .i8 (num a0 0))=upto a0 (zc PZ 38) 1:=Zqt hs (h_a0.int (k:=.i8) (by kernel_rfl)).1;rw[Zrp hs]at e0;have e1:(upto a0 (zc PZ 38) 1).setIfInBounds 1 (.int .i8 (num a0 1))=upto a0 (zc PZ 38) 2:=Zqt hs (h_a0.int (k:=.i8) (by kernel_rfl)).1;have e2:(upto a0 (zc PZ 38) 2).setIfInBounds 2 (.int .u64 (num a0 2))=upto a0 (zc PZ 38) 3:=Zqt hs (h_a0.int (k:=.u64) (by kernel_rfl)).1;have e3:spl (upto a0 (zc PZ 38) 3) 3 (a0.extract 3 (3+360)).toList=upto a0 (zc PZ 38) 363:=Yha hs (by omega) rfl;refine(Ye4 1000 a0).trans ?_;rw[e0,e1,e2,e3,Zwo hs hz]
def Zow:Con:=λargs h=>match args,h with|[.g a0 28],[]=>some (.a (.g a0 38),.none,true)|_,_=>none
theorem Yby:EntX PZ 5:=Zak (fn:=f5)
theorem Yh4:Uac mn PZ 5 Zow:=(ansY (N:=1000) (mKc (Zag Zra) Zo2 mKn) f5 []).of (by
 intro ρ h w args vals r e hA hH hr;unfold Zow at hr;split at hr
 ·rename_i a0;obtain⟨rfl,rfl,hg2⟩:=BQi hr;exact Ycu a0 (hA.wt 0 rfl) hg2
 ·cases hr)
theorem wrap12:∀k,k<14->i64.wrap ((12:Int)^k*12)=12^(k+1):=by decide
def Zft(a0:Int):St:=(⟨.a (.i .i64 a0)::.a (.u)::.a (.i .i64 0)::.a (.i .i64 1)::.a (.i .i64 0)::us 8 ([]),[],[]⟩:St)
def Zhk:Int×Int->LS
 |(y0_3,y0_4)=>([.a (.i .i64 y0_3),.a (.i .i64 y0_4)],[])
def Zmt:Int×Int->Exit×LS
 |t=>((.exit 0),Zhk t)
def Zdy(P:Program)(a0:Int):Int×Int->Option (Stp (Int×Int) (Int×Int))
 |(y0_3,y0_4)=>bif decide (y0_4<a0) then (some (.more ((i64.wrap (y0_3*(12:Int))),(i64.wrap (y0_4+(1:Int)))))) else (some (.done (y0_3,y0_4)))
noncomputable abbrev cKCxD81:=codeOf f81
def Uev:=(Uaa cKCxD81 [([3,4],[])]).1
theorem Yb2(N:Nat)(a0:Int):∀t:Int×Int,Ual PZ (mkΓ []) N (cAt cKCxD81 [1,1,0,1,0,0]) (pAt Uev [1,1,0,1,0]) [3,4] [] (Zft a0) (Zhk t)=mapS Zhk Zmt (Zdy PZ a0 t):=by
 rintro⟨y0_3,y0_4⟩
 conv=>rhs;simp only[Zdy,Zax,Zay,Zaw,Zaz,Zhk,Zmt]
 kernel_rfl
def Zko(P:Program)(N:Nat)(a0:Int)(z0_3:Int)(z0_4:Int):Option (SV×Eff×Bool):=some (.a (.i .i64 z0_3),.none,true)
def Ufo(N:Nat):=(Uad 0 (kSeq (veC PZ (mkΓ []) N (cAt cKCxD81 [1,1,1]) (pAt Uev [1,1,1]) (SV×Eff×Bool)) (finK PZ [] [.tmp 2])))
theorem Zsw(N:Nat)(a0:Int)(z0_3:Int)(z0_4:Int):(Ufo N) (.exit 0) (left (writes (cAt cKCxD81 [1,1,0,1,0,0])) [3,4] [] (Zft a0) ([.a (.i .i64 z0_3),.a (.i .i64 z0_4)],[]))=Zko PZ N a0 z0_3 z0_4:=by kernel_rfl
theorem Ybl(N:Nat)(a0:Int):Uah (Uab (Ual PZ (mkΓ []) N (cAt cKCxD81 [1,1,0,1,0,0]) (pAt Uev [1,1,0,1,0]) [3,4] [] (Zft a0)) N ([.a (.i .i64 1),.a (.i .i64 0)],[])) (λe s=>(Ufo N) e (left (writes (cAt cKCxD81 [1,1,0,1,0,0])) [3,4] [] (Zft a0) s))=Uao (Uab (Zdy PZ a0) N ((1:Int),(0:Int))) (λx=>Zko PZ N a0 x.1 x.2):=by refine Za2 Zhk Zmt _ _ (Yb2 N a0) N ((1:Int),(0:Int)) _ _ ?_;intro x;exact Zsw N a0 x.1 x.2
theorem Yag(N:Nat)(a0:Int):ansV PZ (mkΓ []) N f81 [([3,4],[])] [.i .i64 a0] []=(Uao (Uab (Zdy PZ a0) N ((1:Int),(0:Int))) (λx=>Zko PZ N a0 x.1 x.2)):=by
 conv=>rhs;simp only[<- Ybl N a0]
 kernel_rfl
theorem Zxj(a0:Int)(h_a0:i64.min<=a0/\a0<=i64.max)(hg:((decide (0<=a0)&&decide (a0<=14)))=true):ansV PZ (mkΓ []) 1000 f81 [([3,4],[])] [.i .i64 a0] []=some (.a (.i .i64 (12^a0.toNat)),.none,true):=by
 simp only[Q7,decide_eq_true_eq]at hg;obtain⟨h0,h14⟩:=hg;obtain⟨m,rfl⟩:=Int.eq_ofNat_of_zero_le h0;refine(Yag 1000 _).trans ?_;have h:=Ze0 (g:=Zdy PZ (m:Int)) (λk=>((12:Int)^k,(k:Int))) (m:=m) (x:=((12:Int)^m,(m:Int))) (N:=1000) (λk hk=>by
  have h1:decide ((k:Int)<(m:Int))=true:=Q3 (by omega);have h2:i64.wrap ((k:Int)+1)=((k+1:Nat):Int):=by rw[IntWalk.i64_in _ (by omega)];omega
  simp only[Zdy,h1,Q1,wrap12 k (by omega),h2]) (by
  have h1:decide ((m:Int)<(m:Int))=false:=Q4 (by omega);simp only[Zdy,h1,Q2]) (by omega)
 have h':Uab (Zdy PZ (m:Int)) 1000 ((1:Int),(0:Int))=some ((12:Int)^m,(m:Int)):=h;rw[h'];rfl
def Zll:Con:=λargs h=>match args,h with|[.i .i64 a0],[]=>some (.a (.i .i64 (12^a0.toNat)),.none,(decide (0<=a0)&&decide (a0<=14)))|_,_=>none
theorem Zwd:EntX PZ 81:=Zak (fn:=f81)
theorem Yb1:Uac mn PZ 81 Zll:=(ansY (N:=1000) mKn f81 [([3,4],[])]).of (by
 intro ρ h w args vals r e hA hH hr;unfold Zll at hr;split at hr
 ·rename_i a0;obtain⟨rfl,rfl,hg2⟩:=BQi hr;exact Zxj a0 (hA.rng 0 rfl) hg2
 ·cases hr)
theorem Zoi{x a b:Int}(h:Zaa x a b=true):a<=x/\x<=b:=by unfold Zaa at h;cases h0:decide (x>=a) with|false=>rw[h0]at h;exact nomatch h|true=>rw[h0]at h;exact⟨of_decide_eq_true h0,of_decide_eq_true h⟩
end
end Go.Proofs.YtgllknjdblkhnaaGreatDoor
