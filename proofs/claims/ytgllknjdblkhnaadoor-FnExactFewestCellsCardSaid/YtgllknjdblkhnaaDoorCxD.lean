/- Parts of twelve, in company. -/
import Derived.Test.YtgllknjdblkhnaaDoorProg
import Derived.Test.YtgllknjdblkhnaaDoorCxC
set_option linter.unusedVariables false
set_option linter.unusedSimpArgs false
namespace Go.Proofs.YtgllknjdblkhnaaDoor
open Tryd (f6 f17 f37 f59 f91)
open Go.ChangeShapes Go.WideShapes Go.ChangeAt Go.RowKit Ve Vc
open Tryd (prog)
open IntKind (i64)
set_option maxRecDepth 100000
noncomputable section
variable {mn:Md}
def Zeq(a0:Array Value):St:=(⟨.a (.g a0 24)::.a (.w 0)::.a (.w 1)::.a (.w 2)::.a (.i .i64 0)::us 10 ([]),[.row a0 24,.row #[.int .u8 0,.int .u8 0,.int .u8 0,.int .u8 0,.int .u8 0] 31,.row #[.int .u8 0,.int .u8 0,.int .u8 0,.int .u8 0,.int .u8 0] 31],[]⟩:St)
def Zf0:Int×Array Value->LS
 |(y0_4,r0_2)=>([.a (.i .i64 y0_4)],[.row r0_2 31])
def Zj6:Int×Array Value->Exit×LS
 |t=>((.exit 0),Zf0 t)
def Zc3(P:Program)(a0:Array Value):Int×Array Value->Option (Stp (Int×Array Value) (Int×Array Value))
 |(y0_4,r0_2)=>bif decide (y0_4<(5:Int)) then (bif (decide (0<=y0_4)&&decide (y0_4<5)) then (bif (decide (0<=y0_4)&&decide (y0_4<5)) then (some (.more ((i64.wrap (y0_4+(1:Int))),(r0_2.setIfInBounds ((y0_4).toNat*1) (.int .u8 (num a0 ((y0_4).toNat*1))))))) else (none)) else (none)) else (some (.done (y0_4,r0_2)))
noncomputable abbrev cKCxD59:=codeOf f59
theorem Zwq(N:Nat)(a0:Array Value):∀t:Int×Array Value,Uao prog (mkΓ []) N (cAt cKCxD59 [1,1,0,1,0,0]) (pAt (Uaa cKCxD59 [([4],[2])]).1 [1,1,0,1,0]) [4] [2] (Zeq a0) (Zf0 t)=mapS Zf0 Zj6 (Zc3 prog a0 t):=by
 rintro⟨y0_4,r0_2⟩
 conv=>rhs;simp only[Zc3,Za3,Za8,Za6,Za7,Zf0,Zj6]
 kernel_rfl
def Zix(P:Program)(N:Nat)(a0:Array Value)(z0_4:Int)(q0_2:Array Value):Option (SV×Eff×Bool):=some (.a (.g q0_2 31),.none,true)
theorem Zo1(N:Nat)(a0:Array Value)(z0_4:Int)(q0_2:Array Value):(Uac 0 (kSeq (veC prog (mkΓ []) N (cAt cKCxD59 [1,1,1]) (pAt (Uaa cKCxD59 [([4],[2])]).1 [1,1,1]) (SV×Eff×Bool)) (finK prog [] [.cell 2 31]))) (.exit 0) (left (writes (cAt cKCxD59 [1,1,0,1,0,0])) [4] [2] (Zeq a0) ([.a (.i .i64 z0_4)],[.row q0_2 31]))=Zix prog N a0 z0_4 q0_2:=by kernel_rfl
theorem Zw1(N:Nat)(a0:Array Value):Uaj (Uab (Uao prog (mkΓ []) N (cAt cKCxD59 [1,1,0,1,0,0]) (pAt (Uaa cKCxD59 [([4],[2])]).1 [1,1,0,1,0]) [4] [2] (Zeq a0)) N ([.a (.i .i64 0)],[.row (#[.int .u8 0,.int .u8 0,.int .u8 0,.int .u8 0,.int .u8 0]:Array Value) 31])) (λe s=>(Uac 0 (kSeq (veC prog (mkΓ []) N (cAt cKCxD59 [1,1,1]) (pAt (Uaa cKCxD59 [([4],[2])]).1 [1,1,1]) (SV×Eff×Bool)) (finK prog [] [.cell 2 31]))) e (left (writes (cAt cKCxD59 [1,1,0,1,0,0])) [4] [2] (Zeq a0) s))=Uas (Uab (Zc3 prog a0) N ((0:Int),(#[.int .u8 0,.int .u8 0,.int .u8 0,.int .u8 0,.int .u8 0]:Array Value))) (λx=>Zix prog N a0 x.1 x.2):=by refine Zbe Zf0 Zj6 _ _ (Zwq N a0) N ((0:Int),(#[.int .u8 0,.int .u8 0,.int .u8 0,.int .u8 0,.int .u8 0]:Array Value)) _ _ ?_;intro x;exact Zo1 N a0 x.1 x.2
theorem Zt2(N:Nat)(a0:Array Value):ansV prog (mkΓ []) N f59 [([4],[2])] [.g a0 24] []=(Uas (Uab (Zc3 prog a0) N ((0:Int),(#[.int .u8 0,.int .u8 0,.int .u8 0,.int .u8 0,.int .u8 0]:Array Value))) (λx=>Zix prog N a0 x.1 x.2)):=by
 conv=>rhs;simp only[<- Zw1 N a0]
 kernel_rfl
theorem Ztc(a0:Array Value)(h_a0:WT prog 24 a0)(hg:(true)=true):ansV prog (mkΓ []) 1000 f59 [([4],[2])] [.g a0 24] []=some (.a (.g a0 31),.none,true):=by
 have hs:a0.size=(#[.int .u8 0,.int .u8 0,.int .u8 0,.int .u8 0,.int .u8 0]:Array Value).size:=by rw[h_a0.layLen];kernel_rfl
 have hz:a0.size=5:=by rw[h_a0.layLen];kernel_rfl
 have hL:∀k,k<5->(lay prog 24)[k*1]?=some 4:=by
  intro k hk;have h:(List.range 5).all (λk=>(lay prog 24)[k*1]?==some 4)=true:=by kernel_rfl
  exact eq_of_beq (List.all_eq_true.1 h k (List.mem_range.2 hk))
 have h:=Zhn (g:=Zc3 prog a0) (λk=>((k:Int),upto a0 (#[.int .u8 0,.int .u8 0,.int .u8 0,.int .u8 0,.int .u8 0]:Array Value) (k*1))) (m:=5) (x:=(((5:Nat):Int),upto a0 (#[.int .u8 0,.int .u8 0,.int .u8 0,.int .u8 0,.int .u8 0]:Array Value) (5*1))) (N:=1000) (λk hk=>by
  have h1:decide ((k:Int)<5)=true:=Q3 (by omega);have h0:decide (0<=(k:Int))=true:=Q3 (by omega);have h3:i64.wrap ((k:Int)+1)=((k+1:Nat):Int):=by rw[IntWalk.i64_in _ (by omega)];omega
  have h4:((k:Int)).toNat=k:=Q9 k;have h5:(upto a0 (#[.int .u8 0,.int .u8 0,.int .u8 0,.int .u8 0,.int .u8 0]:Array Value) (k*1)).setIfInBounds (k*1) (.int .u8 (num a0 (k*1)))=upto a0 (#[.int .u8 0,.int .u8 0,.int .u8 0,.int .u8 0,.int .u8 0]:Array Value) ((k+1)*1):=by rw[Nat.add_mul];exact Zy4 hs (h_a0.int (k:=.u8) (hL k hk)).1
  simp only[Zc3,h1,h0,Bool.and_self,h4,Q1,h3,h5]) (by
  have h1:decide (((5:Nat):Int)<5)=false:=by decide
  simp only[Zc3,h1,Q2]) (by omega)
 simp only[Nat.zero_mul,Zvl hs,Zza hs hz]at h;refine(Zt2 1000 a0).trans ?_;have h':Uab (Zc3 prog a0) 1000 ((0:Int),(#[.int .u8 0,.int .u8 0,.int .u8 0,.int .u8 0,.int .u8 0]:Array Value))=some (((5:Nat):Int),a0):=h;rw[h'];rfl
def Zbp:Con:=λargs h=>match args,h with|[.g a0 24],[]=>some (.a (.g a0 31),.none,true)|_,_=>none
theorem Zrx:EntX prog 59:=Zao (fn:=f59)
theorem Zwy:Uad mn prog 59 Zbp:=(ansY (N:=1000) mKn f59 [([4],[2])]).of (by
 intro ρ h w args vals r e hA hH hr;unfold Zbp at hr;split at hr
 ·rename_i a0;obtain⟨rfl,rfl,hg2⟩:=BQi hr;exact Ztc a0 (hA.wt 0 rfl) hg2
 ·cases hr)
def Zdj(a0:Array Value):St:=(⟨.a (.g a0 25)::.a (.w 0)::.a (.w 1)::.a (.w 2)::.a (.i .i64 0)::us 11 ([]),[.row a0 25,.row (zc prog 32) 32,.row (zc prog 32) 32],[]⟩:St)
def Zeg:Int×Array Value->LS
 |(y0_4,r0_2)=>([.a (.i .i64 y0_4)],[.row r0_2 32])
def Zhx:Int×Array Value->Exit×LS
 |t=>((.exit 0),Zeg t)
def Zb3(P:Program)(a0:Array Value):Int×Array Value->Option (Stp (Int×Array Value) (Int×Array Value))
 |(y0_4,r0_2)=>bif decide (y0_4<(36:Int)) then (bif (decide (0<=y0_4)&&decide (y0_4<36)) then (bif (decide (0<=y0_4)&&decide (y0_4<36)) then (some (.more ((i64.wrap (y0_4+(1:Int))),(spl r0_2 ((y0_4).toNat*5) (a0.extract ((y0_4).toNat*5) (((y0_4).toNat*5)+5)).toList)))) else (none)) else (none)) else (some (.done (y0_4,r0_2)))
noncomputable abbrev cKCxD37:=codeOf f37
theorem Zsc(N:Nat)(a0:Array Value):∀t:Int×Array Value,Uao prog (mkΓ [(59,con Zbp)]) N (cAt cKCxD37 [1,1,0,1,0,0]) (pAt (Uaa cKCxD37 [([4],[2])]).1 [1,1,0,1,0]) [4] [2] (Zdj a0) (Zeg t)=mapS Zeg Zhx (Zb3 prog a0 t):=by
 rintro⟨y0_4,r0_2⟩
 conv=>rhs;simp only[Zb3,Za3,Za8,Za6,Za7,Zeg,Zhx]
 kernel_rfl
def Zgu(P:Program)(N:Nat)(a0:Array Value)(z0_4:Int)(q0_2:Array Value):Option (SV×Eff×Bool):=some (.a (.g q0_2 32),.none,true)
theorem Zmv(N:Nat)(a0:Array Value)(z0_4:Int)(q0_2:Array Value):(Uac 0 (kSeq (veC prog (mkΓ [(59,con Zbp)]) N (cAt cKCxD37 [1,1,1]) (pAt (Uaa cKCxD37 [([4],[2])]).1 [1,1,1]) (SV×Eff×Bool)) (finK prog [] [.cell 2 32]))) (.exit 0) (left (writes (cAt cKCxD37 [1,1,0,1,0,0])) [4] [2] (Zdj a0) ([.a (.i .i64 z0_4)],[.row q0_2 32]))=Zgu prog N a0 z0_4 q0_2:=by kernel_rfl
theorem Zr4(N:Nat)(a0:Array Value):Uaj (Uab (Uao prog (mkΓ [(59,con Zbp)]) N (cAt cKCxD37 [1,1,0,1,0,0]) (pAt (Uaa cKCxD37 [([4],[2])]).1 [1,1,0,1,0]) [4] [2] (Zdj a0)) N ([.a (.i .i64 0)],[.row (zc prog 32) 32])) (λe s=>(Uac 0 (kSeq (veC prog (mkΓ [(59,con Zbp)]) N (cAt cKCxD37 [1,1,1]) (pAt (Uaa cKCxD37 [([4],[2])]).1 [1,1,1]) (SV×Eff×Bool)) (finK prog [] [.cell 2 32]))) e (left (writes (cAt cKCxD37 [1,1,0,1,0,0])) [4] [2] (Zdj a0) s))=Uas (Uab (Zb3 prog a0) N ((0:Int),(zc prog 32))) (λx=>Zgu prog N a0 x.1 x.2):=by refine Zbe Zeg Zhx _ _ (Zsc N a0) N ((0:Int),(zc prog 32)) _ _ ?_;intro x;exact Zmv N a0 x.1 x.2
theorem Zqj(N:Nat)(a0:Array Value):ansV prog (mkΓ [(59,con Zbp)]) N f37 [([4],[2])] [.g a0 25] []=(Uas (Uab (Zb3 prog a0) N ((0:Int),(zc prog 32))) (λx=>Zgu prog N a0 x.1 x.2)):=by
 conv=>rhs;simp only[<- Zr4 N a0]
 kernel_rfl
theorem Zo7(a0:Array Value)(h_a0:WT prog 25 a0)(hg:(true)=true):ansV prog (mkΓ [(59,con Zbp)]) 1000 f37 [([4],[2])] [.g a0 25] []=some (.a (.g a0 32),.none,true):=by
 have hs:a0.size=(zc prog 32).size:=by rw[h_a0.layLen];kernel_rfl
 have hz:a0.size=180:=by rw[h_a0.layLen];kernel_rfl
 have hL:∀k,k<36->(lay prog 25)[k*5]?=some 4:=by
  intro k hk;have h:(List.range 36).all (λk=>(lay prog 25)[k*5]?==some 4)=true:=by kernel_rfl
  exact eq_of_beq (List.all_eq_true.1 h k (List.mem_range.2 hk))
 have h:=Zhn (g:=Zb3 prog a0) (λk=>((k:Int),upto a0 (zc prog 32) (k*5))) (m:=36) (x:=(((36:Nat):Int),upto a0 (zc prog 32) (36*5))) (N:=1000) (λk hk=>by
  have h1:decide ((k:Int)<36)=true:=Q3 (by omega);have h0:decide (0<=(k:Int))=true:=Q3 (by omega);have h3:i64.wrap ((k:Int)+1)=((k+1:Nat):Int):=by rw[IntWalk.i64_in _ (by omega)];omega
  have h4:((k:Int)).toNat=k:=Q9 k;have h5:spl (upto a0 (zc prog 32) (k*5)) (k*5) (a0.extract (k*5) (k*5+5)).toList=upto a0 (zc prog 32) ((k+1)*5):=by rw[Nat.add_mul];exact Yeg hs (by omega) rfl
  simp only[Zb3,h1,h0,Bool.and_self,h4,Q1,h3,h5]) (by
  have h1:decide (((36:Nat):Int)<36)=false:=by decide
  simp only[Zb3,h1,Q2]) (by omega)
 simp only[Nat.zero_mul,Zvl hs,Zza hs hz]at h;refine(Zqj 1000 a0).trans ?_;have h':Uab (Zb3 prog a0) 1000 ((0:Int),(zc prog 32))=some (((36:Nat):Int),a0):=h;rw[h'];rfl
def Za5:Con:=λargs h=>match args,h with|[.g a0 25],[]=>some (.a (.g a0 32),.none,true)|_,_=>none
theorem Zoe:EntX prog 37:=Zao (fn:=f37)
theorem Zrp:Uad mn prog 37 Za5:=(ansY (N:=1000) (mKc (Zai Zwy) Zrx mKn) f37 [([4],[2])]).of (by
 intro ρ h w args vals r e hA hH hr;unfold Za5 at hr;split at hr
 ·rename_i a0;obtain⟨rfl,rfl,hg2⟩:=BQi hr;exact Zo7 a0 (hA.wt 0 rfl) hg2
 ·cases hr)
def Zcr(a0:Array Value):St:=(⟨.a (.g a0 26)::.a (.w 0)::.a (.w 1)::.a (.w 2)::.a (.i .i64 0)::us 11 ([]),[.row a0 26,.row (zc prog 33) 33,.row (zc prog 33) 33],[]⟩:St)
def Zdp:Int×Array Value->LS
 |(y0_4,r0_2)=>([.a (.i .i64 y0_4)],[.row r0_2 33])
def Zgy:Int×Array Value->Exit×LS
 |t=>((.exit 0),Zdp t)
def Zbm(P:Program)(a0:Array Value):Int×Array Value->Option (Stp (Int×Array Value) (Int×Array Value))
 |(y0_4,r0_2)=>bif decide (y0_4<(2:Int)) then (bif (decide (0<=y0_4)&&decide (y0_4<2)) then (bif (decide (0<=y0_4)&&decide (y0_4<2)) then (some (.more ((i64.wrap (y0_4+(1:Int))),(spl r0_2 ((y0_4).toNat*180) (a0.extract ((y0_4).toNat*180) (((y0_4).toNat*180)+180)).toList)))) else (none)) else (none)) else (some (.done (y0_4,r0_2)))
noncomputable abbrev cKCxD17:=codeOf f17
theorem Zo0(N:Nat)(a0:Array Value):∀t:Int×Array Value,Uao prog (mkΓ [(37,con Za5)]) N (cAt cKCxD17 [1,1,0,1,0,0]) (pAt (Uaa cKCxD17 [([4],[2])]).1 [1,1,0,1,0]) [4] [2] (Zcr a0) (Zdp t)=mapS Zdp Zgy (Zbm prog a0 t):=by
 rintro⟨y0_4,r0_2⟩
 conv=>rhs;simp only[Zbm,Za3,Za8,Za6,Za7,Zdp,Zgy]
 kernel_rfl
def Zfu(P:Program)(N:Nat)(a0:Array Value)(z0_4:Int)(q0_2:Array Value):Option (SV×Eff×Bool):=some (.a (.g q0_2 33),.none,true)
theorem Zlz(N:Nat)(a0:Array Value)(z0_4:Int)(q0_2:Array Value):(Uac 0 (kSeq (veC prog (mkΓ [(37,con Za5)]) N (cAt cKCxD17 [1,1,1]) (pAt (Uaa cKCxD17 [([4],[2])]).1 [1,1,1]) (SV×Eff×Bool)) (finK prog [] [.cell 2 33]))) (.exit 0) (left (writes (cAt cKCxD17 [1,1,0,1,0,0])) [4] [2] (Zcr a0) ([.a (.i .i64 z0_4)],[.row q0_2 33]))=Zfu prog N a0 z0_4 q0_2:=by kernel_rfl
theorem Zoy(N:Nat)(a0:Array Value):Uaj (Uab (Uao prog (mkΓ [(37,con Za5)]) N (cAt cKCxD17 [1,1,0,1,0,0]) (pAt (Uaa cKCxD17 [([4],[2])]).1 [1,1,0,1,0]) [4] [2] (Zcr a0)) N ([.a (.i .i64 0)],[.row (zc prog 33) 33])) (λe s=>(Uac 0 (kSeq (veC prog (mkΓ [(37,con Za5)]) N (cAt cKCxD17 [1,1,1]) (pAt (Uaa cKCxD17 [([4],[2])]).1 [1,1,1]) (SV×Eff×Bool)) (finK prog [] [.cell 2 33]))) e (left (writes (cAt cKCxD17 [1,1,0,1,0,0])) [4] [2] (Zcr a0) s))=Uas (Uab (Zbm prog a0) N ((0:Int),(zc prog 33))) (λx=>Zfu prog N a0 x.1 x.2):=by refine Zbe Zdp Zgy _ _ (Zo0 N a0) N ((0:Int),(zc prog 33)) _ _ ?_;intro x;exact Zlz N a0 x.1 x.2
theorem Zoj(N:Nat)(a0:Array Value):ansV prog (mkΓ [(37,con Za5)]) N f17 [([4],[2])] [.g a0 26] []=(Uas (Uab (Zbm prog a0) N ((0:Int),(zc prog 33))) (λx=>Zfu prog N a0 x.1 x.2)):=by
 conv=>rhs;simp only[<- Zoy N a0]
 kernel_rfl
theorem Znu(a0:Array Value)(h_a0:WT prog 26 a0)(hg:(true)=true):ansV prog (mkΓ [(37,con Za5)]) 1000 f17 [([4],[2])] [.g a0 26] []=some (.a (.g a0 33),.none,true):=by
 have hs:a0.size=(zc prog 33).size:=by rw[h_a0.layLen];kernel_rfl
 have hz:a0.size=360:=by rw[h_a0.layLen];kernel_rfl
 have hL:∀k,k<2->(lay prog 26)[k*180]?=some 4:=by
  intro k hk;have h:(List.range 2).all (λk=>(lay prog 26)[k*180]?==some 4)=true:=by kernel_rfl
  exact eq_of_beq (List.all_eq_true.1 h k (List.mem_range.2 hk))
 have h:=Zhn (g:=Zbm prog a0) (λk=>((k:Int),upto a0 (zc prog 33) (k*180))) (m:=2) (x:=(((2:Nat):Int),upto a0 (zc prog 33) (2*180))) (N:=1000) (λk hk=>by
  have h1:decide ((k:Int)<2)=true:=Q3 (by omega);have h0:decide (0<=(k:Int))=true:=Q3 (by omega);have h3:i64.wrap ((k:Int)+1)=((k+1:Nat):Int):=by rw[IntWalk.i64_in _ (by omega)];omega
  have h4:((k:Int)).toNat=k:=Q9 k;have h5:spl (upto a0 (zc prog 33) (k*180)) (k*180) (a0.extract (k*180) (k*180+180)).toList=upto a0 (zc prog 33) ((k+1)*180):=by rw[Nat.add_mul];exact Yeg hs (by omega) rfl
  simp only[Zbm,h1,h0,Bool.and_self,h4,Q1,h3,h5]) (by
  have h1:decide (((2:Nat):Int)<2)=false:=by decide
  simp only[Zbm,h1,Q2]) (by omega)
 simp only[Nat.zero_mul,Zvl hs,Zza hs hz]at h;refine(Zoj 1000 a0).trans ?_;have h':Uab (Zbm prog a0) 1000 ((0:Int),(zc prog 33))=some (((2:Nat):Int),a0):=h;rw[h'];rfl
def Zgg:Con:=λargs h=>match args,h with|[.g a0 26],[]=>some (.a (.g a0 33),.none,true)|_,_=>none
theorem Zmu:EntX prog 17:=Zao (fn:=f17)
theorem Zo2:Uad mn prog 17 Zgg:=(ansY (N:=1000) (mKc (Zai Zrp) Zoe mKn) f17 [([4],[2])]).of (by
 intro ρ h w args vals r e hA hH hr;unfold Zgg at hr;split at hr
 ·rename_i a0;obtain⟨rfl,rfl,hg2⟩:=BQi hr;exact Znu a0 (hA.wt 0 rfl) hg2
 ·cases hr)
def Zxy:Cons:=(mkΓ [(17,con Zgg)])
theorem Yb3(N:Nat)(a0:Array Value):ansV prog Zxy N f6 [] [.g a0 28] []=(some (.a (.g (spl ((((zc prog 35).setIfInBounds 0 (.int .i8 (num a0 0))).setIfInBounds 1 (.int .i8 (num a0 1))).setIfInBounds 2 (.int .u64 (num a0 2))) 3 (a0.extract 3 (3+360)).toList) 35),.none,true)):=by kernel_rfl
theorem Zz2(a0:Array Value)(h_a0:WT prog 28 a0)(hg:(true)=true):ansV prog Zxy 1000 f6 [] [.g a0 28] []=some (.a (.g a0 35),.none,true):=by
 have hs:a0.size=(zc prog 35).size:=by rw[h_a0.layLen];kernel_rfl
 have hz:a0.size=363:=by rw[h_a0.layLen];kernel_rfl
 have e0:(upto a0 (zc prog 35) 0).setIfInBounds 0 (.int .i8 (num a0 0))=upto a0 (zc prog 35) 1:=Zy4 hs (h_a0.int (k:=.i8) (by kernel_rfl)).1;rw[Zvl hs]at e0;have e1:(upto a0 (zc prog 35) 1).setIfInBounds 1 (.int .i8 (num a0 1))=upto a0 (zc prog 35) 2:=Zy4 hs (h_a0.int (k:=.i8) (by kernel_rfl)).1;have e2:(upto a0 (zc prog 35) 2).setIfInBounds 2 (.int .u64 (num a0 2))=upto a0 (zc prog 35) 3:=Zy4 hs (h_a0.int (k:=.u64) (by kernel_rfl)).1;have e3:spl (upto a0 (zc prog 35) 3) 3 (a0.extract 3 (3+360)).toList=upto a0 (zc prog 35) 363:=Yeg hs (by omega) rfl;refine(Yb3 1000 a0).trans ?_;rw[e0,e1,e2,e3,Zza hs hz]
def Zm1:Con:=λargs h=>match args,h with|[.g a0 28],[]=>some (.a (.g a0 35),.none,true)|_,_=>none
theorem Zyj:EntX prog 6:=Zao (fn:=f6)
theorem Yef:Uad mn prog 6 Zm1:=(ansY (N:=1000) (mKc (Zai Zo2) Zmu mKn) f6 []).of (by
 intro ρ h w args vals r e hA hH hr;unfold Zm1 at hr;split at hr
 ·rename_i a0;obtain⟨rfl,rfl,hg2⟩:=BQi hr;exact Zz2 a0 (hA.wt 0 rfl) hg2
 ·cases hr)
theorem wrap12:∀k,k<14->i64.wrap ((12:Int)^k*12)=12^(k+1):=by decide
def Ze7(a0:Int):St:=(⟨.a (.i .i64 a0)::.a (.u)::.a (.i .i64 0)::.a (.i .i64 1)::.a (.i .i64 0)::us 8 ([]),[],[]⟩:St)
def Zgq:Int×Int->LS
 |(y0_3,y0_4)=>([.a (.i .i64 y0_3),.a (.i .i64 y0_4)],[])
def Zk7:Int×Int->Exit×LS
 |t=>((.exit 0),Zgq t)
def Zdm(P:Program)(a0:Int):Int×Int->Option (Stp (Int×Int) (Int×Int))
 |(y0_3,y0_4)=>bif decide (y0_4<a0) then (some (.more ((i64.wrap (y0_3*(12:Int))),(i64.wrap (y0_4+(1:Int)))))) else (some (.done (y0_3,y0_4)))
noncomputable abbrev cKCxD91:=codeOf f91
theorem Zy0(N:Nat)(a0:Int):∀t:Int×Int,Uao prog (mkΓ []) N (cAt cKCxD91 [1,1,0,1,0,0]) (pAt (Uaa cKCxD91 [([3,4],[])]).1 [1,1,0,1,0]) [3,4] [] (Ze7 a0) (Zgq t)=mapS Zgq Zk7 (Zdm prog a0 t):=by
 rintro⟨y0_3,y0_4⟩
 conv=>rhs;simp only[Zdm,Za3,Za8,Za6,Za7,Zgq,Zk7]
 kernel_rfl
def Zjq(P:Program)(N:Nat)(a0:Int)(z0_3:Int)(z0_4:Int):Option (SV×Eff×Bool):=some (.a (.i .i64 z0_3),.none,true)
theorem Zp8(N:Nat)(a0:Int)(z0_3:Int)(z0_4:Int):(Uac 0 (kSeq (veC prog (mkΓ []) N (cAt cKCxD91 [1,1,1]) (pAt (Uaa cKCxD91 [([3,4],[])]).1 [1,1,1]) (SV×Eff×Bool)) (finK prog [] [.tmp 2]))) (.exit 0) (left (writes (cAt cKCxD91 [1,1,0,1,0,0])) [3,4] [] (Ze7 a0) ([.a (.i .i64 z0_3),.a (.i .i64 z0_4)],[]))=Zjq prog N a0 z0_3 z0_4:=by kernel_rfl
theorem Zyb(N:Nat)(a0:Int):Uaj (Uab (Uao prog (mkΓ []) N (cAt cKCxD91 [1,1,0,1,0,0]) (pAt (Uaa cKCxD91 [([3,4],[])]).1 [1,1,0,1,0]) [3,4] [] (Ze7 a0)) N ([.a (.i .i64 1),.a (.i .i64 0)],[])) (λe s=>(Uac 0 (kSeq (veC prog (mkΓ []) N (cAt cKCxD91 [1,1,1]) (pAt (Uaa cKCxD91 [([3,4],[])]).1 [1,1,1]) (SV×Eff×Bool)) (finK prog [] [.tmp 2]))) e (left (writes (cAt cKCxD91 [1,1,0,1,0,0])) [3,4] [] (Ze7 a0) s))=Uas (Uab (Zdm prog a0) N ((1:Int),(0:Int))) (λx=>Zjq prog N a0 x.1 x.2):=by refine Zbe Zgq Zk7 _ _ (Zy0 N a0) N ((1:Int),(0:Int)) _ _ ?_;intro x;exact Zp8 N a0 x.1 x.2
theorem Zv8(N:Nat)(a0:Int):ansV prog (mkΓ []) N f91 [([3,4],[])] [.i .i64 a0] []=(Uas (Uab (Zdm prog a0) N ((1:Int),(0:Int))) (λx=>Zjq prog N a0 x.1 x.2)):=by
 conv=>rhs;simp only[<- Zyb N a0]
 kernel_rfl
theorem Zvm(a0:Int)(h_a0:i64.min<=a0/\a0<=i64.max)(hg:((decide (0<=a0)&&decide (a0<=14)))=true):ansV prog (mkΓ []) 1000 f91 [([3,4],[])] [.i .i64 a0] []=some (.a (.i .i64 (12^a0.toNat)),.none,true):=by
 simp only[Q7,decide_eq_true_eq]at hg;obtain⟨h0,h14⟩:=hg;obtain⟨m,rfl⟩:=Int.eq_ofNat_of_zero_le h0;refine(Zv8 1000 _).trans ?_;have h:=Zhn (g:=Zdm prog (m:Int)) (λk=>((12:Int)^k,(k:Int))) (m:=m) (x:=((12:Int)^m,(m:Int))) (N:=1000) (λk hk=>by
  have h1:decide ((k:Int)<(m:Int))=true:=Q3 (by omega);have h2:i64.wrap ((k:Int)+1)=((k+1:Nat):Int):=by rw[IntWalk.i64_in _ (by omega)];omega
  simp only[Zdm,h1,Q1,wrap12 k (by omega),h2]) (by
  have h1:decide ((m:Int)<(m:Int))=false:=Q4 (by omega);simp only[Zdm,h1,Q2]) (by omega)
 have h':Uab (Zdm prog (m:Int)) 1000 ((1:Int),(0:Int))=some ((12:Int)^m,(m:Int)):=h;rw[h'];rfl
def Zki:Con:=λargs h=>match args,h with|[.i .i64 a0],[]=>some (.a (.i .i64 (12^a0.toNat)),.none,(decide (0<=a0)&&decide (a0<=14)))|_,_=>none
theorem Zs8:EntX prog 91:=Zao (fn:=f91)
theorem Zyt:Uad mn prog 91 Zki:=(ansY (N:=1000) mKn f91 [([3,4],[])]).of (by
 intro ρ h w args vals r e hA hH hr;unfold Zki at hr;split at hr
 ·rename_i a0;obtain⟨rfl,rfl,hg2⟩:=BQi hr;exact Zvm a0 (hA.rng 0 rfl) hg2
 ·cases hr)
theorem Zra{x a b:Int}(h:Zaa x a b=true):a<=x/\x<=b:=by unfold Zaa at h;cases h0:decide (x>=a) with|false=>rw[h0]at h;exact nomatch h|true=>rw[h0]at h;exact⟨of_decide_eq_true h0,of_decide_eq_true h⟩
end
end Go.Proofs.YtgllknjdblkhnaaDoor
