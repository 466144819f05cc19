/- Parts of twelve, in company. -/
import Derived.Test.YtefjogahegolbaaDoorProg
import Derived.Test.YtefjogahegolbaaDoorCxC
set_option linter.unusedVariables false
set_option linter.unusedSimpArgs false
namespace Go.Proofs.YtefjogahegolbaaDoor
open Tryd (f6 f13 f28 f32 f51)
open Go.ChangeShapes Go.WideShapes Go.ChangeAt Go.RowKit Ve Vc
open Tryd (prog)
open IntKind (i64)
set_option maxRecDepth 100000
noncomputable section
variable {mn:Md}
def Zd3(a0:Array Value):St:=(⟨.a (.g a0 24)::.a (.w 0)::.a (.w 1)::.a (.w 2)::.a (.i .i64 0)::us 10 ([]),[.row a0 24,.row #[.int .u8 0,.int .u8 0,.int .u8 0,.int .u8 0,.int .u8 0] 31,.row #[.int .u8 0,.int .u8 0,.int .u8 0,.int .u8 0,.int .u8 0] 31],[]⟩:St)
def Ze3:Int×Array Value->LS
 |(y0_4,r0_2)=>([.a (.i .i64 y0_4)],[.row r0_2 31])
def Zi5:Int×Array Value->Exit×LS
 |t=>((.exit 0),Ze3 t)
def Zcg(P:Program)(a0:Array Value):Int×Array Value->Option (Stp (Int×Array Value) (Int×Array Value))
 |(y0_4,r0_2)=>bif decide (y0_4<(5:Int)) then (bif (decide (0<=y0_4)&&decide (y0_4<5)) then (bif (decide (0<=y0_4)&&decide (y0_4<5)) then (some (.more ((i64.wrap (y0_4+(1:Int))),(r0_2.setIfInBounds ((y0_4).toNat*1) (.int .u8 (num a0 ((y0_4).toNat*1))))))) else (none)) else (none)) else (some (.done (y0_4,r0_2)))
noncomputable abbrev cKCxD51:=codeOf f51
theorem Zve(N:Nat)(a0:Array Value):∀t:Int×Array Value,Uaw prog (mkΓ []) N (cAt cKCxD51 [1,1,0,1,0,0]) (pAt (Uaa cKCxD51 [([4],[2])]).1 [1,1,0,1,0]) [4] [2] (Zd3 a0) (Ze3 t)=mapS Ze3 Zi5 (Zcg prog a0 t):=by
 rintro⟨y0_4,r0_2⟩
 conv=>rhs;simp only[Zcg,Zbg,Zbe,Zbd,Zbh,Ze3,Zi5]
 kernel_rfl
def Zh0(P:Program)(N:Nat)(a0:Array Value)(z0_4:Int)(q0_2:Array Value):Option (SV×Eff×Bool):=some (.a (.g q0_2 31),.none,true)
theorem Zn0(N:Nat)(a0:Array Value)(z0_4:Int)(q0_2:Array Value):(Uac 0 (kSeq (veC prog (mkΓ []) N (cAt cKCxD51 [1,1,1]) (pAt (Uaa cKCxD51 [([4],[2])]).1 [1,1,1]) (SV×Eff×Bool)) (finK prog [] [.cell 2 31]))) (.exit 0) (left (writes (cAt cKCxD51 [1,1,0,1,0,0])) [4] [2] (Zd3 a0) ([.a (.i .i64 z0_4)],[.row q0_2 31]))=Zh0 prog N a0 z0_4 q0_2:=by kernel_rfl
theorem Zuu(N:Nat)(a0:Array Value):Ual (Uab (Uaw prog (mkΓ []) N (cAt cKCxD51 [1,1,0,1,0,0]) (pAt (Uaa cKCxD51 [([4],[2])]).1 [1,1,0,1,0]) [4] [2] (Zd3 a0)) N ([.a (.i .i64 0)],[.row (#[.int .u8 0,.int .u8 0,.int .u8 0,.int .u8 0,.int .u8 0]:Array Value) 31])) (λe s=>(Uac 0 (kSeq (veC prog (mkΓ []) N (cAt cKCxD51 [1,1,1]) (pAt (Uaa cKCxD51 [([4],[2])]).1 [1,1,1]) (SV×Eff×Bool)) (finK prog [] [.cell 2 31]))) e (left (writes (cAt cKCxD51 [1,1,0,1,0,0])) [4] [2] (Zd3 a0) s))=Uay (Uab (Zcg prog a0) N ((0:Int),(#[.int .u8 0,.int .u8 0,.int .u8 0,.int .u8 0,.int .u8 0]:Array Value))) (λx=>Zh0 prog N a0 x.1 x.2):=by refine Zbw Ze3 Zi5 _ _ (Zve N a0) N ((0:Int),(#[.int .u8 0,.int .u8 0,.int .u8 0,.int .u8 0,.int .u8 0]:Array Value)) _ _ ?_;intro x;exact Zn0 N a0 x.1 x.2
theorem Ztx(N:Nat)(a0:Array Value):ansV prog (mkΓ []) N f51 [([4],[2])] [.g a0 24] []=(Uay (Uab (Zcg prog a0) N ((0:Int),(#[.int .u8 0,.int .u8 0,.int .u8 0,.int .u8 0,.int .u8 0]:Array Value))) (λx=>Zh0 prog N a0 x.1 x.2)):=by
 conv=>rhs;simp only[<- Zuu N a0]
 kernel_rfl
theorem Zrc(a0:Array Value)(h_a0:WT prog 24 a0)(hg:(true)=true):ansV prog (mkΓ []) 1000 f51 [([4],[2])] [.g a0 24] []=some (.a (.g a0 31),.none,true):=by
 have hs:a0.size=(#[.int .u8 0,.int .u8 0,.int .u8 0,.int .u8 0,.int .u8 0]:Array Value).size:=by rw[h_a0.layLen];kernel_rfl
 have hz:a0.size=5:=by rw[h_a0.layLen];kernel_rfl
 have hL:∀k,k<5->(lay prog 24)[k*1]?=some 4:=by
  intro k hk;have h:(List.range 5).all (λk=>(lay prog 24)[k*1]?==some 4)=true:=by kernel_rfl
  exact eq_of_beq (List.all_eq_true.1 h k (List.mem_range.2 hk))
 have h:=Ziq (g:=Zcg prog a0) (λk=>((k:Int),upto a0 (#[.int .u8 0,.int .u8 0,.int .u8 0,.int .u8 0,.int .u8 0]:Array Value) (k*1))) (m:=5) (x:=(((5:Nat):Int),upto a0 (#[.int .u8 0,.int .u8 0,.int .u8 0,.int .u8 0,.int .u8 0]:Array Value) (5*1))) (N:=1000) (λk hk=>by
  have h1:decide ((k:Int)<5)=true:=Q3 (by omega);have h0:decide (0<=(k:Int))=true:=Q3 (by omega);have h3:i64.wrap ((k:Int)+1)=((k+1:Nat):Int):=by rw[IntWalk.i64_in _ (by omega)];omega
  have h4:((k:Int)).toNat=k:=Q9 k;have h5:(upto a0 (#[.int .u8 0,.int .u8 0,.int .u8 0,.int .u8 0,.int .u8 0]:Array Value) (k*1)).setIfInBounds (k*1) (.int .u8 (num a0 (k*1)))=upto a0 (#[.int .u8 0,.int .u8 0,.int .u8 0,.int .u8 0,.int .u8 0]:Array Value) ((k+1)*1):=by rw[Nat.add_mul];exact Zxt hs (h_a0.int (k:=.u8) (hL k hk)).1
  simp only[Zcg,h1,h0,Bool.and_self,h4,Q1,h3,h5]) (by
  have h1:decide (((5:Nat):Int)<5)=false:=by decide
  simp only[Zcg,h1,Q2]) (by omega)
 simp only[Nat.zero_mul,Zs0 hs,Zxj hs hz]at h;refine(Ztx 1000 a0).trans ?_;have h':Uab (Zcg prog a0) 1000 ((0:Int),(#[.int .u8 0,.int .u8 0,.int .u8 0,.int .u8 0,.int .u8 0]:Array Value))=some (((5:Nat):Int),a0):=h;rw[h'];rfl
def Zbl:Con:=λargs h=>match args,h with|[.g a0 24],[]=>some (.a (.g a0 31),.none,true)|_,_=>none
theorem Zqq:EntX prog 51:=Zal (fn:=f51)
theorem Zvq:Uad mn prog 51 Zbl:=(ansY (N:=1000) mKn f51 [([4],[2])]).of (by
 intro ρ h w args vals r e hA hH hr;unfold Zbl at hr;split at hr
 ·rename_i a0;obtain⟨rfl,rfl,hg2⟩:=BQi hr;exact Zrc a0 (hA.wt 0 rfl) hg2
 ·cases hr)
def Zcx(a0:Array Value):St:=(⟨.a (.g a0 25)::.a (.w 0)::.a (.w 1)::.a (.w 2)::.a (.i .i64 0)::us 11 ([]),[.row a0 25,.row (zc prog 32) 32,.row (zc prog 32) 32],[]⟩:St)
def Zdo:Int×Array Value->LS
 |(y0_4,r0_2)=>([.a (.i .i64 y0_4)],[.row r0_2 32])
def Zg7:Int×Array Value->Exit×LS
 |t=>((.exit 0),Zdo t)
def Zbu(P:Program)(a0:Array Value):Int×Array Value->Option (Stp (Int×Array Value) (Int×Array Value))
 |(y0_4,r0_2)=>bif decide (y0_4<(36:Int)) then (bif (decide (0<=y0_4)&&decide (y0_4<36)) then (bif (decide (0<=y0_4)&&decide (y0_4<36)) then (some (.more ((i64.wrap (y0_4+(1:Int))),(spl r0_2 ((y0_4).toNat*5) (a0.extract ((y0_4).toNat*5) (((y0_4).toNat*5)+5)).toList)))) else (none)) else (none)) else (some (.done (y0_4,r0_2)))
noncomputable abbrev cKCxD32:=codeOf f32
theorem Zqf(N:Nat)(a0:Array Value):∀t:Int×Array Value,Uaw prog (mkΓ [(51,con Zbl)]) N (cAt cKCxD32 [1,1,0,1,0,0]) (pAt (Uaa cKCxD32 [([4],[2])]).1 [1,1,0,1,0]) [4] [2] (Zcx a0) (Zdo t)=mapS Zdo Zg7 (Zbu prog a0 t):=by
 rintro⟨y0_4,r0_2⟩
 conv=>rhs;simp only[Zbu,Zbg,Zbe,Zbd,Zbh,Zdo,Zg7]
 kernel_rfl
def Zf9(P:Program)(N:Nat)(a0:Array Value)(z0_4:Int)(q0_2:Array Value):Option (SV×Eff×Bool):=some (.a (.g q0_2 32),.none,true)
theorem Zls(N:Nat)(a0:Array Value)(z0_4:Int)(q0_2:Array Value):(Uac 0 (kSeq (veC prog (mkΓ [(51,con Zbl)]) N (cAt cKCxD32 [1,1,1]) (pAt (Uaa cKCxD32 [([4],[2])]).1 [1,1,1]) (SV×Eff×Bool)) (finK prog [] [.cell 2 32]))) (.exit 0) (left (writes (cAt cKCxD32 [1,1,0,1,0,0])) [4] [2] (Zcx a0) ([.a (.i .i64 z0_4)],[.row q0_2 32]))=Zf9 prog N a0 z0_4 q0_2:=by kernel_rfl
theorem Zqd(N:Nat)(a0:Array Value):Ual (Uab (Uaw prog (mkΓ [(51,con Zbl)]) N (cAt cKCxD32 [1,1,0,1,0,0]) (pAt (Uaa cKCxD32 [([4],[2])]).1 [1,1,0,1,0]) [4] [2] (Zcx a0)) N ([.a (.i .i64 0)],[.row (zc prog 32) 32])) (λe s=>(Uac 0 (kSeq (veC prog (mkΓ [(51,con Zbl)]) N (cAt cKCxD32 [1,1,1]) (pAt (Uaa cKCxD32 [([4],[2])]).1 [1,1,1]) (SV×Eff×Bool)) (finK prog [] [.cell 2 32]))) e (left (writes (cAt cKCxD32 [1,1,0,1,0,0])) [4] [2] (Zcx a0) s))=Uay (Uab (Zbu prog a0) N ((0:Int),(zc prog 32))) (λx=>Zf9 prog N a0 x.1 x.2):=by refine Zbw Zdo Zg7 _ _ (Zqf N a0) N ((0:Int),(zc prog 32)) _ _ ?_;intro x;exact Zls N a0 x.1 x.2
theorem Zo8(N:Nat)(a0:Array Value):ansV prog (mkΓ [(51,con Zbl)]) N f32 [([4],[2])] [.g a0 25] []=(Uay (Uab (Zbu prog a0) N ((0:Int),(zc prog 32))) (λx=>Zf9 prog N a0 x.1 x.2)):=by
 conv=>rhs;simp only[<- Zqd N a0]
 kernel_rfl
theorem Znr(a0:Array Value)(h_a0:WT prog 25 a0)(hg:(true)=true):ansV prog (mkΓ [(51,con Zbl)]) 1000 f32 [([4],[2])] [.g a0 25] []=some (.a (.g a0 32),.none,true):=by
 have hs:a0.size=(zc prog 32).size:=by rw[h_a0.layLen];kernel_rfl
 have hz:a0.size=180:=by rw[h_a0.layLen];kernel_rfl
 have hL:∀k,k<36->(lay prog 25)[k*5]?=some 4:=by
  intro k hk;have h:(List.range 36).all (λk=>(lay prog 25)[k*5]?==some 4)=true:=by kernel_rfl
  exact eq_of_beq (List.all_eq_true.1 h k (List.mem_range.2 hk))
 have h:=Ziq (g:=Zbu prog a0) (λk=>((k:Int),upto a0 (zc prog 32) (k*5))) (m:=36) (x:=(((36:Nat):Int),upto a0 (zc prog 32) (36*5))) (N:=1000) (λk hk=>by
  have h1:decide ((k:Int)<36)=true:=Q3 (by omega);have h0:decide (0<=(k:Int))=true:=Q3 (by omega);have h3:i64.wrap ((k:Int)+1)=((k+1:Nat):Int):=by rw[IntWalk.i64_in _ (by omega)];omega
  have h4:((k:Int)).toNat=k:=Q9 k;have h5:spl (upto a0 (zc prog 32) (k*5)) (k*5) (a0.extract (k*5) (k*5+5)).toList=upto a0 (zc prog 32) ((k+1)*5):=by rw[Nat.add_mul];exact Yca hs (by omega) rfl
  simp only[Zbu,h1,h0,Bool.and_self,h4,Q1,h3,h5]) (by
  have h1:decide (((36:Nat):Int)<36)=false:=by decide
  simp only[Zbu,h1,Q2]) (by omega)
 simp only[Nat.zero_mul,Zs0 hs,Zxj hs hz]at h;refine(Zo8 1000 a0).trans ?_;have h':Uab (Zbu prog a0) 1000 ((0:Int),(zc prog 32))=some (((36:Nat):Int),a0):=h;rw[h'];rfl
def Zaz:Con:=λargs h=>match args,h with|[.g a0 25],[]=>some (.a (.g a0 32),.none,true)|_,_=>none
theorem Zmy:EntX prog 32:=Zal (fn:=f32)
theorem Zp8:Uad mn prog 32 Zaz:=(ansY (N:=1000) (mKc (Zah Zvq) Zqq mKn) f32 [([4],[2])]).of (by
 intro ρ h w args vals r e hA hH hr;unfold Zaz at hr;split at hr
 ·rename_i a0;obtain⟨rfl,rfl,hg2⟩:=BQi hr;exact Znr a0 (hA.wt 0 rfl) hg2
 ·cases hr)
def Zb8(a0:Array Value):St:=(⟨.a (.g a0 26)::.a (.w 0)::.a (.w 1)::.a (.w 2)::.a (.i .i64 0)::us 11 ([]),[.row a0 26,.row (zc prog 33) 33,.row (zc prog 33) 33],[]⟩:St)
def Zc6:Int×Array Value->LS
 |(y0_4,r0_2)=>([.a (.i .i64 y0_4)],[.row r0_2 33])
def Zf8:Int×Array Value->Exit×LS
 |t=>((.exit 0),Zc6 t)
def Zbb(P:Program)(a0:Array Value):Int×Array Value->Option (Stp (Int×Array Value) (Int×Array Value))
 |(y0_4,r0_2)=>bif decide (y0_4<(2:Int)) then (bif (decide (0<=y0_4)&&decide (y0_4<2)) then (bif (decide (0<=y0_4)&&decide (y0_4<2)) then (some (.more ((i64.wrap (y0_4+(1:Int))),(spl r0_2 ((y0_4).toNat*180) (a0.extract ((y0_4).toNat*180) (((y0_4).toNat*180)+180)).toList)))) else (none)) else (none)) else (some (.done (y0_4,r0_2)))
noncomputable abbrev cKCxD13:=codeOf f13
theorem Zn1(N:Nat)(a0:Array Value):∀t:Int×Array Value,Uaw prog (mkΓ [(32,con Zaz)]) N (cAt cKCxD13 [1,1,0,1,0,0]) (pAt (Uaa cKCxD13 [([4],[2])]).1 [1,1,0,1,0]) [4] [2] (Zb8 a0) (Zc6 t)=mapS Zc6 Zf8 (Zbb prog a0 t):=by
 rintro⟨y0_4,r0_2⟩
 conv=>rhs;simp only[Zbb,Zbg,Zbe,Zbd,Zbh,Zc6,Zf8]
 kernel_rfl
def Ze7(P:Program)(N:Nat)(a0:Array Value)(z0_4:Int)(q0_2:Array Value):Option (SV×Eff×Bool):=some (.a (.g q0_2 33),.none,true)
theorem Zkp(N:Nat)(a0:Array Value)(z0_4:Int)(q0_2:Array Value):(Uac 0 (kSeq (veC prog (mkΓ [(32,con Zaz)]) N (cAt cKCxD13 [1,1,1]) (pAt (Uaa cKCxD13 [([4],[2])]).1 [1,1,1]) (SV×Eff×Bool)) (finK prog [] [.cell 2 33]))) (.exit 0) (left (writes (cAt cKCxD13 [1,1,0,1,0,0])) [4] [2] (Zb8 a0) ([.a (.i .i64 z0_4)],[.row q0_2 33]))=Ze7 prog N a0 z0_4 q0_2:=by kernel_rfl
theorem Znz(N:Nat)(a0:Array Value):Ual (Uab (Uaw prog (mkΓ [(32,con Zaz)]) N (cAt cKCxD13 [1,1,0,1,0,0]) (pAt (Uaa cKCxD13 [([4],[2])]).1 [1,1,0,1,0]) [4] [2] (Zb8 a0)) N ([.a (.i .i64 0)],[.row (zc prog 33) 33])) (λe s=>(Uac 0 (kSeq (veC prog (mkΓ [(32,con Zaz)]) N (cAt cKCxD13 [1,1,1]) (pAt (Uaa cKCxD13 [([4],[2])]).1 [1,1,1]) (SV×Eff×Bool)) (finK prog [] [.cell 2 33]))) e (left (writes (cAt cKCxD13 [1,1,0,1,0,0])) [4] [2] (Zb8 a0) s))=Uay (Uab (Zbb prog a0) N ((0:Int),(zc prog 33))) (λx=>Ze7 prog N a0 x.1 x.2):=by refine Zbw Zc6 Zf8 _ _ (Zn1 N a0) N ((0:Int),(zc prog 33)) _ _ ?_;intro x;exact Zkp N a0 x.1 x.2
theorem Zms(N:Nat)(a0:Array Value):ansV prog (mkΓ [(32,con Zaz)]) N f13 [([4],[2])] [.g a0 26] []=(Uay (Uab (Zbb prog a0) N ((0:Int),(zc prog 33))) (λx=>Ze7 prog N a0 x.1 x.2)):=by
 conv=>rhs;simp only[<- Znz N a0]
 kernel_rfl
theorem Zl9(a0:Array Value)(h_a0:WT prog 26 a0)(hg:(true)=true):ansV prog (mkΓ [(32,con Zaz)]) 1000 f13 [([4],[2])] [.g a0 26] []=some (.a (.g a0 33),.none,true):=by
 have hs:a0.size=(zc prog 33).size:=by rw[h_a0.layLen];kernel_rfl
 have hz:a0.size=360:=by rw[h_a0.layLen];kernel_rfl
 have hL:∀k,k<2->(lay prog 26)[k*180]?=some 4:=by
  intro k hk;have h:(List.range 2).all (λk=>(lay prog 26)[k*180]?==some 4)=true:=by kernel_rfl
  exact eq_of_beq (List.all_eq_true.1 h k (List.mem_range.2 hk))
 have h:=Ziq (g:=Zbb prog a0) (λk=>((k:Int),upto a0 (zc prog 33) (k*180))) (m:=2) (x:=(((2:Nat):Int),upto a0 (zc prog 33) (2*180))) (N:=1000) (λk hk=>by
  have h1:decide ((k:Int)<2)=true:=Q3 (by omega);have h0:decide (0<=(k:Int))=true:=Q3 (by omega);have h3:i64.wrap ((k:Int)+1)=((k+1:Nat):Int):=by rw[IntWalk.i64_in _ (by omega)];omega
  have h4:((k:Int)).toNat=k:=Q9 k;have h5:spl (upto a0 (zc prog 33) (k*180)) (k*180) (a0.extract (k*180) (k*180+180)).toList=upto a0 (zc prog 33) ((k+1)*180):=by rw[Nat.add_mul];exact Yca hs (by omega) rfl
  simp only[Zbb,h1,h0,Bool.and_self,h4,Q1,h3,h5]) (by
  have h1:decide (((2:Nat):Int)<2)=false:=by decide
  simp only[Zbb,h1,Q2]) (by omega)
 simp only[Nat.zero_mul,Zs0 hs,Zxj hs hz]at h;refine(Zms 1000 a0).trans ?_;have h':Uab (Zbb prog a0) 1000 ((0:Int),(zc prog 33))=some (((2:Nat):Int),a0):=h;rw[h'];rfl
def Zfi:Con:=λargs h=>match args,h with|[.g a0 26],[]=>some (.a (.g a0 33),.none,true)|_,_=>none
theorem Zlu:EntX prog 13:=Zal (fn:=f13)
theorem Znx:Uad mn prog 13 Zfi:=(ansY (N:=1000) (mKc (Zah Zp8) Zmy mKn) f13 [([4],[2])]).of (by
 intro ρ h w args vals r e hA hH hr;unfold Zfi at hr;split at hr
 ·rename_i a0;obtain⟨rfl,rfl,hg2⟩:=BQi hr;exact Zl9 a0 (hA.wt 0 rfl) hg2
 ·cases hr)
def Zvz:Cons:=(mkΓ [(13,con Zfi)])
theorem Yae(N:Nat)(a0:Array Value):ansV prog Zvz N f6 [] [.g a0 28] []=(some (.a (.g (spl ((((zc prog 35).setIfInBounds 0 (.int .i8 (num a0 0))).setIfInBounds 1 (.int .i8 (num a0 1))).setIfInBounds 2 (.int .u64 (num a0 2))) 3 (a0.extract 3 (3+360)).toList) 35),.none,true)):=by kernel_rfl
theorem Zx0(a0:Array Value)(h_a0:WT prog 28 a0)(hg:(true)=true):ansV prog Zvz 1000 f6 [] [.g a0 28] []=some (.a (.g a0 35),.none,true):=by
 have hs:a0.size=(zc prog 35).size:=by rw[h_a0.layLen];kernel_rfl
 have hz:a0.size=363:=by rw[h_a0.layLen];kernel_rfl
 have e0:(upto a0 (zc prog 35) 0).setIfInBounds 0 (.int .i8 (num a0 0))=upto a0 (zc prog 35) 1:=Zxt hs (h_a0.int (k:=.i8) (by kernel_rfl)).1;rw[Zs0 hs]at e0;have e1:(upto a0 (zc prog 35) 1).setIfInBounds 1 (.int .i8 (num a0 1))=upto a0 (zc prog 35) 2:=Zxt hs (h_a0.int (k:=.i8) (by kernel_rfl)).1;have e2:(upto a0 (zc prog 35) 2).setIfInBounds 2 (.int .u64 (num a0 2))=upto a0 (zc prog 35) 3:=Zxt hs (h_a0.int (k:=.u64) (by kernel_rfl)).1;have e3:spl (upto a0 (zc prog 35) 3) 3 (a0.extract 3 (3+360)).toList=upto a0 (zc prog 35) 363:=Yca hs (by omega) rfl;refine(Yae 1000 a0).trans ?_;rw[e0,e1,e2,e3,Zxj hs hz]
def Zlv:Con:=λargs h=>match args,h with|[.g a0 28],[]=>some (.a (.g a0 35),.none,true)|_,_=>none
theorem Zw4:EntX prog 6:=Zal (fn:=f6)
theorem Ycl:Uad mn prog 6 Zlv:=(ansY (N:=1000) (mKc (Zah Znx) Zlu mKn) f6 []).of (by
 intro ρ h w args vals r e hA hH hr;unfold Zlv at hr;split at hr
 ·rename_i a0;obtain⟨rfl,rfl,hg2⟩:=BQi hr;exact Zx0 a0 (hA.wt 0 rfl) hg2
 ·cases hr)
theorem wrap12:∀k,k<14->i64.wrap ((12:Int)^k*12)=12^(k+1):=by decide
def Zdk(a0:Int):St:=(⟨.a (.i .i64 a0)::.a (.u)::.a (.i .i64 0)::.a (.i .i64 1)::.a (.i .i64 a0)::.a (.i .i64 0)::us 5 ([]),[],[]⟩:St)
def Zeo:Int×Int->LS
 |(y0_3,y0_5)=>([.a (.i .i64 y0_3),.a (.i .i64 y0_5)],[])
def Zip:Int×Int->Exit×LS
 |t=>((.exit 0),Zeo t)
def Zb4(P:Program)(a0:Int):Int×Int->Option (Stp (Int×Int) (Int×Int))
 |(y0_3,y0_5)=>bif decide (y0_5<a0) then (some (.more ((i64.wrap (y0_3*(12:Int))),(i64.wrap (y0_5+(1:Int)))))) else (some (.done (y0_3,y0_5)))
noncomputable abbrev cKCxD28:=codeOf f28
theorem Zti(N:Nat)(a0:Int):∀t:Int×Int,Uaw prog (mkΓ []) N (cAt cKCxD28 [1,1,0,1,0,0]) (pAt (Uaa cKCxD28 [([3,5],[])]).1 [1,1,0,1,0]) [3,5] [] (Zdk a0) (Zeo t)=mapS Zeo Zip (Zb4 prog a0 t):=by
 rintro⟨y0_3,y0_5⟩
 conv=>rhs;simp only[Zb4,Zbg,Zbe,Zbd,Zbh,Zeo,Zip]
 kernel_rfl
def Zhh(P:Program)(N:Nat)(a0:Int)(z0_3:Int)(z0_5:Int):Option (SV×Eff×Bool):=some (.a (.i .i64 z0_3),.none,true)
theorem Znj(N:Nat)(a0:Int)(z0_3:Int)(z0_5:Int):(Uac 0 (kSeq (veC prog (mkΓ []) N (cAt cKCxD28 [1,1,1]) (pAt (Uaa cKCxD28 [([3,5],[])]).1 [1,1,1]) (SV×Eff×Bool)) (finK prog [] [.tmp 2]))) (.exit 0) (left (writes (cAt cKCxD28 [1,1,0,1,0,0])) [3,5] [] (Zdk a0) ([.a (.i .i64 z0_3),.a (.i .i64 z0_5)],[]))=Zhh prog N a0 z0_3 z0_5:=by kernel_rfl
theorem Ztz(N:Nat)(a0:Int):Ual (Uab (Uaw prog (mkΓ []) N (cAt cKCxD28 [1,1,0,1,0,0]) (pAt (Uaa cKCxD28 [([3,5],[])]).1 [1,1,0,1,0]) [3,5] [] (Zdk a0)) N ([.a (.i .i64 1),.a (.i .i64 0)],[])) (λe s=>(Uac 0 (kSeq (veC prog (mkΓ []) N (cAt cKCxD28 [1,1,1]) (pAt (Uaa cKCxD28 [([3,5],[])]).1 [1,1,1]) (SV×Eff×Bool)) (finK prog [] [.tmp 2]))) e (left (writes (cAt cKCxD28 [1,1,0,1,0,0])) [3,5] [] (Zdk a0) s))=Uay (Uab (Zb4 prog a0) N ((1:Int),(0:Int))) (λx=>Zhh prog N a0 x.1 x.2):=by refine Zbw Zeo Zip _ _ (Zti N a0) N ((1:Int),(0:Int)) _ _ ?_;intro x;exact Znj N a0 x.1 x.2
theorem Zq7(N:Nat)(a0:Int):ansV prog (mkΓ []) N f28 [([3,5],[])] [.i .i64 a0] []=(Uay (Uab (Zb4 prog a0) N ((1:Int),(0:Int))) (λx=>Zhh prog N a0 x.1 x.2)):=by
 conv=>rhs;simp only[<- Ztz N a0]
 kernel_rfl
theorem Zql(a0:Int)(h_a0:i64.min<=a0/\a0<=i64.max)(hg:((decide (0<=a0)&&decide (a0<=14)))=true):ansV prog (mkΓ []) 1000 f28 [([3,5],[])] [.i .i64 a0] []=some (.a (.i .i64 (12^a0.toNat)),.none,true):=by
 simp only[Q7,decide_eq_true_eq]at hg;obtain⟨h0,h14⟩:=hg;obtain⟨m,rfl⟩:=Int.eq_ofNat_of_zero_le h0;refine(Zq7 1000 _).trans ?_;have h:=Ziq (g:=Zb4 prog (m:Int)) (λk=>((12:Int)^k,(k:Int))) (m:=m) (x:=((12:Int)^m,(m:Int))) (N:=1000) (λk hk=>by
  have h1:decide ((k:Int)<(m:Int))=true:=Q3 (by omega);have h2:i64.wrap ((k:Int)+1)=((k+1:Nat):Int):=by rw[IntWalk.i64_in _ (by omega)];omega
  simp only[Zb4,h1,Q1,wrap12 k (by omega),h2]) (by
  have h1:decide ((m:Int)<(m:Int))=false:=Q4 (by omega);simp only[Zb4,h1,Q2]) (by omega)
 have h':Uab (Zb4 prog (m:Int)) 1000 ((1:Int),(0:Int))=some ((12:Int)^m,(m:Int)):=h;rw[h'];rfl
def Za8:Con:=λargs h=>match args,h with|[.i .i64 a0],[]=>some (.a (.i .i64 (12^a0.toNat)),.none,(decide (0<=a0)&&decide (a0<=14)))|_,_=>none
theorem Zof:EntX prog 28:=Zal (fn:=f28)
theorem Zr9:Uad mn prog 28 Za8:=(ansY (N:=1000) mKn f28 [([3,5],[])]).of (by
 intro ρ h w args vals r e hA hH hr;unfold Za8 at hr;split at hr
 ·rename_i a0;obtain⟨rfl,rfl,hg2⟩:=BQi hr;exact Zql a0 (hA.rng 0 rfl) hg2
 ·cases hr)
theorem Zmk{x a b:Int}(h:Zaa x a b=true):a<=x/\x<=b:=by unfold Zaa at h;cases h0:decide (x>=a) with|false=>rw[h0]at h;exact nomatch h|true=>rw[h0]at h;exact⟨of_decide_eq_true h0,of_decide_eq_true h⟩
theorem cell_num{D:Array Value}{T:TypeId}(hz:D.size=40)(k:Nat)(hk:k<36):num (D.extract 3 (3+36)) (k*1)=num D (3+k*1):=by unfold num;rw[Array.getElem?_extract,if_pos (by omega)]
end
end Go.Proofs.YtefjogahegolbaaDoor
