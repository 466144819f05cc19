/- Parts of twelve, in company. -/
import Derived.Test.YtefjogahegolbaaDoorProg
import Derived.Test.YtefjogahegolbaaDoorCxC
set_option linter.unusedVariables false
set_option linter.unusedSimpArgs false
namespace Go.Proofs.YtefjogahegolbaaDoor
open Tryd (f6 f13 f22 f28 f32 f51)
open Go.ChangeShapes Go.WideShapes Go.ChangeAt Go.RowKit Ve Vc
open Tryd (prog)
open IntKind (i64)
set_option maxRecDepth 100000
noncomputable section
variable {mn:Md}
def Zec(a0:Array Value):St:=(⟨.a (.g a0 24)::.a (.w 0)::.a (.w 1)::.a (.w 2)::.a (.i .i64 0)::us 10 ([]),[.row a0 24,.row #[.int .u8 0,.int .u8 0,.int .u8 0,.int .u8 0,.int .u8 0] 31,.row #[.int .u8 0,.int .u8 0,.int .u8 0,.int .u8 0,.int .u8 0] 31],[]⟩:St)
def Zfs:Int×Array Value->LS
 |(y0_4,r0_2)=>([.a (.i .i64 y0_4)],[.row r0_2 31])
def Zj0:Int×Array Value->Exit×LS
 |t=>((.exit 0),Zfs t)
def Zcm(P:Program)(a0:Array Value):Int×Array Value->Option (Stp (Int×Array Value) (Int×Array Value))
 |(y0_4,r0_2)=>bif decide (y0_4<(5:Int)) then (bif (decide (0<=y0_4)&&decide (y0_4<5)) then (bif (decide (0<=y0_4)&&decide (y0_4<5)) then (some (.more ((i64.wrap (y0_4+(1:Int))),(r0_2.setIfInBounds ((y0_4).toNat*1) (.int .u8 (num a0 ((y0_4).toNat*1))))))) else (none)) else (none)) else (some (.done (y0_4,r0_2)))
noncomputable abbrev cKCxD51:=codeOf f51
theorem Zw9(N:Nat)(a0:Array Value):∀t:Int×Array Value,Ual prog (mkΓ []) N (cAt cKCxD51 [1,1,0,1,0,0]) (pAt (Uaa cKCxD51 [([4],[2])]).1 [1,1,0,1,0]) [4] [2] (Zec a0) (Zfs t)=mapS Zfs Zj0 (Zcm prog a0 t):=by
 rintro⟨y0_4,r0_2⟩
 conv=>rhs;simp only[Zcm,Zax,Zav,Zaw,Zay,Zfs,Zj0]
 kernel_rfl
def Zit(P:Program)(N:Nat)(a0:Array Value)(z0_4:Int)(q0_2:Array Value):Option (SV×Eff×Bool):=some (.a (.g q0_2 31),.none,true)
theorem Zo0(N:Nat)(a0:Array Value)(z0_4:Int)(q0_2:Array Value):(Uab 0 (kSeq (veC prog (mkΓ []) N (cAt cKCxD51 [1,1,1]) (pAt (Uaa cKCxD51 [([4],[2])]).1 [1,1,1]) (SV×Eff×Bool)) (finK prog [] [.cell 2 31]))) (.exit 0) (left (writes (cAt cKCxD51 [1,1,0,1,0,0])) [4] [2] (Zec a0) ([.a (.i .i64 z0_4)],[.row q0_2 31]))=Zit prog N a0 z0_4 q0_2:=by kernel_rfl
theorem Zwk(N:Nat)(a0:Array Value):Uah (Uac (Ual prog (mkΓ []) N (cAt cKCxD51 [1,1,0,1,0,0]) (pAt (Uaa cKCxD51 [([4],[2])]).1 [1,1,0,1,0]) [4] [2] (Zec a0)) N ([.a (.i .i64 0)],[.row (#[.int .u8 0,.int .u8 0,.int .u8 0,.int .u8 0,.int .u8 0]:Array Value) 31])) (λe s=>(Uab 0 (kSeq (veC prog (mkΓ []) N (cAt cKCxD51 [1,1,1]) (pAt (Uaa cKCxD51 [([4],[2])]).1 [1,1,1]) (SV×Eff×Bool)) (finK prog [] [.cell 2 31]))) e (left (writes (cAt cKCxD51 [1,1,0,1,0,0])) [4] [2] (Zec a0) s))=Uan (Uac (Zcm prog a0) N ((0:Int),(#[.int .u8 0,.int .u8 0,.int .u8 0,.int .u8 0,.int .u8 0]:Array Value))) (λx=>Zit prog N a0 x.1 x.2):=by refine Za5 Zfs Zj0 _ _ (Zw9 N a0) N ((0:Int),(#[.int .u8 0,.int .u8 0,.int .u8 0,.int .u8 0,.int .u8 0]:Array Value)) _ _ ?_;intro x;exact Zo0 N a0 x.1 x.2
theorem Zvk(N:Nat)(a0:Array Value):ansV prog (mkΓ []) N f51 [([4],[2])] [.g a0 24] []=(Uan (Uac (Zcm prog a0) N ((0:Int),(#[.int .u8 0,.int .u8 0,.int .u8 0,.int .u8 0,.int .u8 0]:Array Value))) (λx=>Zit prog N a0 x.1 x.2)):=by
 conv=>rhs;simp only[<- Zwk N a0]
 kernel_rfl
theorem Zta(a0:Array Value)(h_a0:WT prog 24 a0)(hg:(true)=true):ansV prog (mkΓ []) 1000 f51 [([4],[2])] [.g a0 24] []=some (.a (.g a0 31),.none,true):=by
 have hs:a0.size=(#[.int .u8 0,.int .u8 0,.int .u8 0,.int .u8 0,.int .u8 0]:Array Value).size:=by rw[h_a0.layLen];kernel_rfl
 have hz:a0.size=5:=by rw[h_a0.layLen];kernel_rfl
 have hL:∀k,k<5->(lay prog 24)[k*1]?=some 4:=by
  intro k hk;have h:(List.range 5).all (λk=>(lay prog 24)[k*1]?==some 4)=true:=by kernel_rfl
  exact eq_of_beq (List.all_eq_true.1 h k (List.mem_range.2 hk))
 have h:=Zdb (g:=Zcm prog a0) (λk=>((k:Int),upto a0 (#[.int .u8 0,.int .u8 0,.int .u8 0,.int .u8 0,.int .u8 0]:Array Value) (k*1))) (m:=5) (x:=(((5:Nat):Int),upto a0 (#[.int .u8 0,.int .u8 0,.int .u8 0,.int .u8 0,.int .u8 0]:Array Value) (5*1))) (N:=1000) (λk hk=>by
  have h1:decide ((k:Int)<5)=true:=Q3 (by omega);have h0:decide (0<=(k:Int))=true:=Q3 (by omega);have h3:i64.wrap ((k:Int)+1)=((k+1:Nat):Int):=by rw[IntWalk.i64_in _ (by omega)];omega
  have h4:((k:Int)).toNat=k:=Q9 k;have h5:(upto a0 (#[.int .u8 0,.int .u8 0,.int .u8 0,.int .u8 0,.int .u8 0]:Array Value) (k*1)).setIfInBounds (k*1) (.int .u8 (num a0 (k*1)))=upto a0 (#[.int .u8 0,.int .u8 0,.int .u8 0,.int .u8 0,.int .u8 0]:Array Value) ((k+1)*1):=by rw[Nat.add_mul];exact Zzt hs (h_a0.int (k:=.u8) (hL k hk)).1
  simp only[Zcm,h1,h0,Bool.and_self,h4,Q1,h3,h5]) (by
  have h1:decide (((5:Nat):Int)<5)=false:=by decide
  simp only[Zcm,h1,Q2]) (by omega)
 simp only[Nat.zero_mul,Zvj hs,Zzw hs hz]at h;refine(Zvk 1000 a0).trans ?_;have h':Uac (Zcm prog a0) 1000 ((0:Int),(#[.int .u8 0,.int .u8 0,.int .u8 0,.int .u8 0,.int .u8 0]:Array Value))=some (((5:Nat):Int),a0):=h;rw[h'];rfl
def Zbl:Con:=λargs h=>match args,h with|[.g a0 24],[]=>some (.a (.g a0 31),.none,true)|_,_=>none
theorem Zrg:EntX prog 51:=Zam (fn:=f51)
theorem Zw7:Uad mn prog 51 Zbl:=(ansY (N:=1000) mKn f51 [([4],[2])]).of (by
 intro ρ h w args vals r e hA hH hr;unfold Zbl at hr;split at hr
 ·rename_i a0;obtain⟨rfl,rfl,hg2⟩:=BQi hr;exact Zta a0 (hA.wt 0 rfl) hg2
 ·cases hr)
def Zc2(a0:Array Value):St:=(⟨.a (.g a0 25)::.a (.w 0)::.a (.w 1)::.a (.w 2)::.a (.i .i64 0)::us 11 ([]),[.row a0 25,.row (zc prog 32) 32,.row (zc prog 32) 32],[]⟩:St)
def Zd0:Int×Array Value->LS
 |(y0_4,r0_2)=>([.a (.i .i64 y0_4)],[.row r0_2 32])
def Zhz:Int×Array Value->Exit×LS
 |t=>((.exit 0),Zd0 t)
def Zbw(P:Program)(a0:Array Value):Int×Array Value->Option (Stp (Int×Array Value) (Int×Array Value))
 |(y0_4,r0_2)=>bif decide (y0_4<(36:Int)) then (bif (decide (0<=y0_4)&&decide (y0_4<36)) then (bif (decide (0<=y0_4)&&decide (y0_4<36)) then (some (.more ((i64.wrap (y0_4+(1:Int))),(spl r0_2 ((y0_4).toNat*5) (a0.extract ((y0_4).toNat*5) (((y0_4).toNat*5)+5)).toList)))) else (none)) else (none)) else (some (.done (y0_4,r0_2)))
noncomputable abbrev cKCxD32:=codeOf f32
theorem Zru(N:Nat)(a0:Array Value):∀t:Int×Array Value,Ual prog (mkΓ [(51,con Zbl)]) N (cAt cKCxD32 [1,1,0,1,0,0]) (pAt (Uaa cKCxD32 [([4],[2])]).1 [1,1,0,1,0]) [4] [2] (Zc2 a0) (Zd0 t)=mapS Zd0 Zhz (Zbw prog a0 t):=by
 rintro⟨y0_4,r0_2⟩
 conv=>rhs;simp only[Zbw,Zax,Zav,Zaw,Zay,Zd0,Zhz]
 kernel_rfl
def Zgt(P:Program)(N:Nat)(a0:Array Value)(z0_4:Int)(q0_2:Array Value):Option (SV×Eff×Bool):=some (.a (.g q0_2 32),.none,true)
theorem Zm5(N:Nat)(a0:Array Value)(z0_4:Int)(q0_2:Array Value):(Uab 0 (kSeq (veC prog (mkΓ [(51,con Zbl)]) N (cAt cKCxD32 [1,1,1]) (pAt (Uaa cKCxD32 [([4],[2])]).1 [1,1,1]) (SV×Eff×Bool)) (finK prog [] [.cell 2 32]))) (.exit 0) (left (writes (cAt cKCxD32 [1,1,0,1,0,0])) [4] [2] (Zc2 a0) ([.a (.i .i64 z0_4)],[.row q0_2 32]))=Zgt prog N a0 z0_4 q0_2:=by kernel_rfl
theorem Zrn(N:Nat)(a0:Array Value):Uah (Uac (Ual prog (mkΓ [(51,con Zbl)]) N (cAt cKCxD32 [1,1,0,1,0,0]) (pAt (Uaa cKCxD32 [([4],[2])]).1 [1,1,0,1,0]) [4] [2] (Zc2 a0)) N ([.a (.i .i64 0)],[.row (zc prog 32) 32])) (λe s=>(Uab 0 (kSeq (veC prog (mkΓ [(51,con Zbl)]) N (cAt cKCxD32 [1,1,1]) (pAt (Uaa cKCxD32 [([4],[2])]).1 [1,1,1]) (SV×Eff×Bool)) (finK prog [] [.cell 2 32]))) e (left (writes (cAt cKCxD32 [1,1,0,1,0,0])) [4] [2] (Zc2 a0) s))=Uan (Uac (Zbw prog a0) N ((0:Int),(zc prog 32))) (λx=>Zgt prog N a0 x.1 x.2):=by refine Za5 Zd0 Zhz _ _ (Zru N a0) N ((0:Int),(zc prog 32)) _ _ ?_;intro x;exact Zm5 N a0 x.1 x.2
theorem Zo8(N:Nat)(a0:Array Value):ansV prog (mkΓ [(51,con Zbl)]) N f32 [([4],[2])] [.g a0 25] []=(Uan (Uac (Zbw prog a0) N ((0:Int),(zc prog 32))) (λx=>Zgt prog N a0 x.1 x.2)):=by
 conv=>rhs;simp only[<- Zrn N a0]
 kernel_rfl
theorem Zos(a0:Array Value)(h_a0:WT prog 25 a0)(hg:(true)=true):ansV prog (mkΓ [(51,con Zbl)]) 1000 f32 [([4],[2])] [.g a0 25] []=some (.a (.g a0 32),.none,true):=by
 have hs:a0.size=(zc prog 32).size:=by rw[h_a0.layLen];kernel_rfl
 have hz:a0.size=180:=by rw[h_a0.layLen];kernel_rfl
 have hL:∀k,k<36->(lay prog 25)[k*5]?=some 4:=by
  intro k hk;have h:(List.range 36).all (λk=>(lay prog 25)[k*5]?==some 4)=true:=by kernel_rfl
  exact eq_of_beq (List.all_eq_true.1 h k (List.mem_range.2 hk))
 have h:=Zdb (g:=Zbw prog a0) (λk=>((k:Int),upto a0 (zc prog 32) (k*5))) (m:=36) (x:=(((36:Nat):Int),upto a0 (zc prog 32) (36*5))) (N:=1000) (λk hk=>by
  have h1:decide ((k:Int)<36)=true:=Q3 (by omega);have h0:decide (0<=(k:Int))=true:=Q3 (by omega);have h3:i64.wrap ((k:Int)+1)=((k+1:Nat):Int):=by rw[IntWalk.i64_in _ (by omega)];omega
  have h4:((k:Int)).toNat=k:=Q9 k;have h5:spl (upto a0 (zc prog 32) (k*5)) (k*5) (a0.extract (k*5) (k*5+5)).toList=upto a0 (zc prog 32) ((k+1)*5):=by rw[Nat.add_mul];exact Yex hs (by omega) rfl
  simp only[Zbw,h1,h0,Bool.and_self,h4,Q1,h3,h5]) (by
  have h1:decide (((36:Nat):Int)<36)=false:=by decide
  simp only[Zbw,h1,Q2]) (by omega)
 simp only[Nat.zero_mul,Zvj hs,Zzw hs hz]at h;refine(Zo8 1000 a0).trans ?_;have h':Uac (Zbw prog a0) 1000 ((0:Int),(zc prog 32))=some (((36:Nat):Int),a0):=h;rw[h'];rfl
def Za8:Con:=λargs h=>match args,h with|[.g a0 25],[]=>some (.a (.g a0 32),.none,true)|_,_=>none
theorem Zob:EntX prog 32:=Zam (fn:=f32)
theorem Zrs:Uad mn prog 32 Za8:=(ansY (N:=1000) (mKc (Zah Zw7) Zrg mKn) f32 [([4],[2])]).of (by
 intro ρ h w args vals r e hA hH hr;unfold Za8 at hr;split at hr
 ·rename_i a0;obtain⟨rfl,rfl,hg2⟩:=BQi hr;exact Zos a0 (hA.wt 0 rfl) hg2
 ·cases hr)
def Zca(a0:Array Value):St:=(⟨.a (.g a0 26)::.a (.w 0)::.a (.w 1)::.a (.w 2)::.a (.i .i64 0)::us 11 ([]),[.row a0 26,.row (zc prog 33) 33,.row (zc prog 33) 33],[]⟩:St)
def Zdd:Int×Array Value->LS
 |(y0_4,r0_2)=>([.a (.i .i64 y0_4)],[.row r0_2 33])
def Zgq:Int×Array Value->Exit×LS
 |t=>((.exit 0),Zdd t)
def Zbh(P:Program)(a0:Array Value):Int×Array Value->Option (Stp (Int×Array Value) (Int×Array Value))
 |(y0_4,r0_2)=>bif decide (y0_4<(2:Int)) then (bif (decide (0<=y0_4)&&decide (y0_4<2)) then (bif (decide (0<=y0_4)&&decide (y0_4<2)) then (some (.more ((i64.wrap (y0_4+(1:Int))),(spl r0_2 ((y0_4).toNat*180) (a0.extract ((y0_4).toNat*180) (((y0_4).toNat*180)+180)).toList)))) else (none)) else (none)) else (some (.done (y0_4,r0_2)))
noncomputable abbrev cKCxD13:=codeOf f13
theorem Zoy(N:Nat)(a0:Array Value):∀t:Int×Array Value,Ual prog (mkΓ [(32,con Za8)]) N (cAt cKCxD13 [1,1,0,1,0,0]) (pAt (Uaa cKCxD13 [([4],[2])]).1 [1,1,0,1,0]) [4] [2] (Zca a0) (Zdd t)=mapS Zdd Zgq (Zbh prog a0 t):=by
 rintro⟨y0_4,r0_2⟩
 conv=>rhs;simp only[Zbh,Zax,Zav,Zaw,Zay,Zdd,Zgq]
 kernel_rfl
def Zfo(P:Program)(N:Nat)(a0:Array Value)(z0_4:Int)(q0_2:Array Value):Option (SV×Eff×Bool):=some (.a (.g q0_2 33),.none,true)
theorem Zmc(N:Nat)(a0:Array Value)(z0_4:Int)(q0_2:Array Value):(Uab 0 (kSeq (veC prog (mkΓ [(32,con Za8)]) N (cAt cKCxD13 [1,1,1]) (pAt (Uaa cKCxD13 [([4],[2])]).1 [1,1,1]) (SV×Eff×Bool)) (finK prog [] [.cell 2 33]))) (.exit 0) (left (writes (cAt cKCxD13 [1,1,0,1,0,0])) [4] [2] (Zca a0) ([.a (.i .i64 z0_4)],[.row q0_2 33]))=Zfo prog N a0 z0_4 q0_2:=by kernel_rfl
theorem Zoz(N:Nat)(a0:Array Value):Uah (Uac (Ual prog (mkΓ [(32,con Za8)]) N (cAt cKCxD13 [1,1,0,1,0,0]) (pAt (Uaa cKCxD13 [([4],[2])]).1 [1,1,0,1,0]) [4] [2] (Zca a0)) N ([.a (.i .i64 0)],[.row (zc prog 33) 33])) (λe s=>(Uab 0 (kSeq (veC prog (mkΓ [(32,con Za8)]) N (cAt cKCxD13 [1,1,1]) (pAt (Uaa cKCxD13 [([4],[2])]).1 [1,1,1]) (SV×Eff×Bool)) (finK prog [] [.cell 2 33]))) e (left (writes (cAt cKCxD13 [1,1,0,1,0,0])) [4] [2] (Zca a0) s))=Uan (Uac (Zbh prog a0) N ((0:Int),(zc prog 33))) (λx=>Zfo prog N a0 x.1 x.2):=by refine Za5 Zdd Zgq _ _ (Zoy N a0) N ((0:Int),(zc prog 33)) _ _ ?_;intro x;exact Zmc N a0 x.1 x.2
theorem Zny(N:Nat)(a0:Array Value):ansV prog (mkΓ [(32,con Za8)]) N f13 [([4],[2])] [.g a0 26] []=(Uan (Uac (Zbh prog a0) N ((0:Int),(zc prog 33))) (λx=>Zfo prog N a0 x.1 x.2)):=by
 conv=>rhs;simp only[<- Zoz N a0]
 kernel_rfl
theorem Znq(a0:Array Value)(h_a0:WT prog 26 a0)(hg:(true)=true):ansV prog (mkΓ [(32,con Za8)]) 1000 f13 [([4],[2])] [.g a0 26] []=some (.a (.g a0 33),.none,true):=by
 have hs:a0.size=(zc prog 33).size:=by rw[h_a0.layLen];kernel_rfl
 have hz:a0.size=360:=by rw[h_a0.layLen];kernel_rfl
 have hL:∀k,k<2->(lay prog 26)[k*180]?=some 4:=by
  intro k hk;have h:(List.range 2).all (λk=>(lay prog 26)[k*180]?==some 4)=true:=by kernel_rfl
  exact eq_of_beq (List.all_eq_true.1 h k (List.mem_range.2 hk))
 have h:=Zdb (g:=Zbh prog a0) (λk=>((k:Int),upto a0 (zc prog 33) (k*180))) (m:=2) (x:=(((2:Nat):Int),upto a0 (zc prog 33) (2*180))) (N:=1000) (λk hk=>by
  have h1:decide ((k:Int)<2)=true:=Q3 (by omega);have h0:decide (0<=(k:Int))=true:=Q3 (by omega);have h3:i64.wrap ((k:Int)+1)=((k+1:Nat):Int):=by rw[IntWalk.i64_in _ (by omega)];omega
  have h4:((k:Int)).toNat=k:=Q9 k;have h5:spl (upto a0 (zc prog 33) (k*180)) (k*180) (a0.extract (k*180) (k*180+180)).toList=upto a0 (zc prog 33) ((k+1)*180):=by rw[Nat.add_mul];exact Yex hs (by omega) rfl
  simp only[Zbh,h1,h0,Bool.and_self,h4,Q1,h3,h5]) (by
  have h1:decide (((2:Nat):Int)<2)=false:=by decide
  simp only[Zbh,h1,Q2]) (by omega)
 simp only[Nat.zero_mul,Zvj hs,Zzw hs hz]at h;refine(Zny 1000 a0).trans ?_;have h':Uac (Zbh prog a0) 1000 ((0:Int),(zc prog 33))=some (((2:Nat):Int),a0):=h;rw[h'];rfl
def Zfy:Con:=λargs h=>match args,h with|[.g a0 26],[]=>some (.a (.g a0 33),.none,true)|_,_=>none
theorem Zm0:EntX prog 13:=Zam (fn:=f13)
theorem Zou:Uad mn prog 13 Zfy:=(ansY (N:=1000) (mKc (Zah Zrs) Zob mKn) f13 [([4],[2])]).of (by
 intro ρ h w args vals r e hA hH hr;unfold Zfy at hr;split at hr
 ·rename_i a0;obtain⟨rfl,rfl,hg2⟩:=BQi hr;exact Znq a0 (hA.wt 0 rfl) hg2
 ·cases hr)
def Zxy:Cons:=(mkΓ [(13,con Zfy)])
theorem Yck(N:Nat)(a0:Array Value):ansV prog Zxy N f6 [] [.g a0 28] []=(some (.a (.g (spl ((((zc prog 35).setIfInBounds 0 (.int .i8 (num a0 0))).setIfInBounds 1 (.int .i8 (num a0 1))).setIfInBounds 2 (.int .u64 (num a0 2))) 3 (a0.extract 3 (3+360)).toList) 35),.none,true)):=by kernel_rfl
theorem Yb6(a0:Array Value)(h_a0:WT prog 28 a0)(hg:(true)=true):ansV prog Zxy 1000 f6 [] [.g a0 28] []=some (.a (.g a0 35),.none,true):=by
 have hs:a0.size=(zc prog 35).size:=by rw[h_a0.layLen];kernel_rfl
 have hz:a0.size=363:=by rw[h_a0.layLen];kernel_rfl
 have e0:(upto a0 (zc prog 35) 0).setIfInBounds 0 (.int .i8 (num a0 0))=upto a0 (zc prog 35) 1:=Zzt hs (h_a0.int (k:=.i8) (by kernel_rfl)).1;rw[Zvj hs]at e0;have e1:(upto a0 (zc prog 35) 1).setIfInBounds 1 (.int .i8 (num a0 1))=upto a0 (zc prog 35) 2:=Zzt hs (h_a0.int (k:=.i8) (by kernel_rfl)).1;have e2:(upto a0 (zc prog 35) 2).setIfInBounds 2 (.int .u64 (num a0 2))=upto a0 (zc prog 35) 3:=Zzt hs (h_a0.int (k:=.u64) (by kernel_rfl)).1;have e3:spl (upto a0 (zc prog 35) 3) 3 (a0.extract 3 (3+360)).toList=upto a0 (zc prog 35) 363:=Yex hs (by omega) rfl;refine(Yck 1000 a0).trans ?_;rw[e0,e1,e2,e3,Zzw hs hz]
def Zm8:Con:=λargs h=>match args,h with|[.g a0 28],[]=>some (.a (.g a0 35),.none,true)|_,_=>none
theorem Zze:EntX prog 6:=Zam (fn:=f6)
theorem Yes:Uad mn prog 6 Zm8:=(ansY (N:=1000) (mKc (Zah Zou) Zm0 mKn) f6 []).of (by
 intro ρ h w args vals r e hA hH hr;unfold Zm8 at hr;split at hr
 ·rename_i a0;obtain⟨rfl,rfl,hg2⟩:=BQi hr;exact Yb6 a0 (hA.wt 0 rfl) hg2
 ·cases hr)
theorem wrap12:∀k,k<14->i64.wrap ((12:Int)^k*12)=12^(k+1):=by decide
def Zew(a0:Int):St:=(⟨.a (.i .i64 a0)::.a (.u)::.a (.i .i64 0)::.a (.i .i64 1)::.a (.i .i64 0)::us 8 ([]),[],[]⟩:St)
def Zgd:Int×Int->LS
 |(y0_3,y0_4)=>([.a (.i .i64 y0_3),.a (.i .i64 y0_4)],[])
def Zlc:Int×Int->Exit×LS
 |t=>((.exit 0),Zgd t)
def Zc8(P:Program)(a0:Int):Int×Int->Option (Stp (Int×Int) (Int×Int))
 |(y0_3,y0_4)=>bif decide (y0_4<a0) then (some (.more ((i64.wrap (y0_3*(12:Int))),(i64.wrap (y0_4+(1:Int)))))) else (some (.done (y0_3,y0_4)))
noncomputable abbrev cKCxD22:=codeOf f22
theorem Zy3(N:Nat)(a0:Int):∀t:Int×Int,Ual prog (mkΓ []) N (cAt cKCxD22 [1,1,0,1,0,0]) (pAt (Uaa cKCxD22 [([3,4],[])]).1 [1,1,0,1,0]) [3,4] [] (Zew a0) (Zgd t)=mapS Zgd Zlc (Zc8 prog a0 t):=by
 rintro⟨y0_3,y0_4⟩
 conv=>rhs;simp only[Zc8,Zax,Zav,Zaw,Zay,Zgd,Zlc]
 kernel_rfl
def Zjs(P:Program)(N:Nat)(a0:Int)(z0_3:Int)(z0_4:Int):Option (SV×Eff×Bool):=some (.a (.i .i64 z0_3),.none,true)
theorem Zqb(N:Nat)(a0:Int)(z0_3:Int)(z0_4:Int):(Uab 0 (kSeq (veC prog (mkΓ []) N (cAt cKCxD22 [1,1,1]) (pAt (Uaa cKCxD22 [([3,4],[])]).1 [1,1,1]) (SV×Eff×Bool)) (finK prog [] [.tmp 2]))) (.exit 0) (left (writes (cAt cKCxD22 [1,1,0,1,0,0])) [3,4] [] (Zew a0) ([.a (.i .i64 z0_3),.a (.i .i64 z0_4)],[]))=Zjs prog N a0 z0_3 z0_4:=by kernel_rfl
theorem Zx5(N:Nat)(a0:Int):Uah (Uac (Ual prog (mkΓ []) N (cAt cKCxD22 [1,1,0,1,0,0]) (pAt (Uaa cKCxD22 [([3,4],[])]).1 [1,1,0,1,0]) [3,4] [] (Zew a0)) N ([.a (.i .i64 1),.a (.i .i64 0)],[])) (λe s=>(Uab 0 (kSeq (veC prog (mkΓ []) N (cAt cKCxD22 [1,1,1]) (pAt (Uaa cKCxD22 [([3,4],[])]).1 [1,1,1]) (SV×Eff×Bool)) (finK prog [] [.tmp 2]))) e (left (writes (cAt cKCxD22 [1,1,0,1,0,0])) [3,4] [] (Zew a0) s))=Uan (Uac (Zc8 prog a0) N ((1:Int),(0:Int))) (λx=>Zjs prog N a0 x.1 x.2):=by refine Za5 Zgd Zlc _ _ (Zy3 N a0) N ((1:Int),(0:Int)) _ _ ?_;intro x;exact Zqb N a0 x.1 x.2
theorem Zwf(N:Nat)(a0:Int):ansV prog (mkΓ []) N f22 [([3,4],[])] [.i .i64 a0] []=(Uan (Uac (Zc8 prog a0) N ((1:Int),(0:Int))) (λx=>Zjs prog N a0 x.1 x.2)):=by
 conv=>rhs;simp only[<- Zx5 N a0]
 kernel_rfl
theorem Zvx(a0:Int)(h_a0:i64.min<=a0/\a0<=i64.max)(hg:((decide (0<=a0)&&decide (a0<=14)))=true):ansV prog (mkΓ []) 1000 f22 [([3,4],[])] [.i .i64 a0] []=some (.a (.i .i64 (12^a0.toNat)),.none,true):=by
 simp only[Q7,decide_eq_true_eq]at hg;obtain⟨h0,h14⟩:=hg;obtain⟨m,rfl⟩:=Int.eq_ofNat_of_zero_le h0;refine(Zwf 1000 _).trans ?_;have h:=Zdb (g:=Zc8 prog (m:Int)) (λk=>((12:Int)^k,(k:Int))) (m:=m) (x:=((12:Int)^m,(m:Int))) (N:=1000) (λk hk=>by
  have h1:decide ((k:Int)<(m:Int))=true:=Q3 (by omega);have h2:i64.wrap ((k:Int)+1)=((k+1:Nat):Int):=by rw[IntWalk.i64_in _ (by omega)];omega
  simp only[Zc8,h1,Q1,wrap12 k (by omega),h2]) (by
  have h1:decide ((m:Int)<(m:Int))=false:=Q4 (by omega);simp only[Zc8,h1,Q2]) (by omega)
 have h':Uac (Zc8 prog (m:Int)) 1000 ((1:Int),(0:Int))=some ((12:Int)^m,(m:Int)):=h;rw[h'];rfl
def Zj2:Con:=λargs h=>match args,h with|[.i .i64 a0],[]=>some (.a (.i .i64 (12^a0.toNat)),.none,(decide (0<=a0)&&decide (a0<=14)))|_,_=>none
theorem Zsb:EntX prog 22:=Zam (fn:=f22)
theorem Zx4:Uad mn prog 22 Zj2:=(ansY (N:=1000) mKn f22 [([3,4],[])]).of (by
 intro ρ h w args vals r e hA hH hr;unfold Zj2 at hr;split at hr
 ·rename_i a0;obtain⟨rfl,rfl,hg2⟩:=BQi hr;exact Zvx a0 (hA.rng 0 rfl) hg2
 ·cases hr)
def Zdr(a0:Int):St:=(⟨.a (.i .i64 a0)::.a (.u)::.a (.i .i64 0)::.a (.i .i64 1)::.a (.i .i64 a0)::.a (.i .i64 0)::us 5 ([]),[],[]⟩:St)
def Ze9:Int×Int->LS
 |(y0_3,y0_5)=>([.a (.i .i64 y0_3),.a (.i .i64 y0_5)],[])
def Zi5:Int×Int->Exit×LS
 |t=>((.exit 0),Ze9 t)
def Zb8(P:Program)(a0:Int):Int×Int->Option (Stp (Int×Int) (Int×Int))
 |(y0_3,y0_5)=>bif decide (y0_5<a0) then (some (.more ((i64.wrap (y0_3*(12:Int))),(i64.wrap (y0_5+(1:Int)))))) else (some (.done (y0_3,y0_5)))
noncomputable abbrev cKCxD28:=codeOf f28
theorem Zvy(N:Nat)(a0:Int):∀t:Int×Int,Ual prog (mkΓ []) N (cAt cKCxD28 [1,1,0,1,0,0]) (pAt (Uaa cKCxD28 [([3,5],[])]).1 [1,1,0,1,0]) [3,5] [] (Zdr a0) (Ze9 t)=mapS Ze9 Zi5 (Zb8 prog a0 t):=by
 rintro⟨y0_3,y0_5⟩
 conv=>rhs;simp only[Zb8,Zax,Zav,Zaw,Zay,Ze9,Zi5]
 kernel_rfl
def Zhw(P:Program)(N:Nat)(a0:Int)(z0_3:Int)(z0_5:Int):Option (SV×Eff×Bool):=some (.a (.i .i64 z0_3),.none,true)
theorem Zn1(N:Nat)(a0:Int)(z0_3:Int)(z0_5:Int):(Uab 0 (kSeq (veC prog (mkΓ []) N (cAt cKCxD28 [1,1,1]) (pAt (Uaa cKCxD28 [([3,5],[])]).1 [1,1,1]) (SV×Eff×Bool)) (finK prog [] [.tmp 2]))) (.exit 0) (left (writes (cAt cKCxD28 [1,1,0,1,0,0])) [3,5] [] (Zdr a0) ([.a (.i .i64 z0_3),.a (.i .i64 z0_5)],[]))=Zhw prog N a0 z0_3 z0_5:=by kernel_rfl
theorem Zvl(N:Nat)(a0:Int):Uah (Uac (Ual prog (mkΓ []) N (cAt cKCxD28 [1,1,0,1,0,0]) (pAt (Uaa cKCxD28 [([3,5],[])]).1 [1,1,0,1,0]) [3,5] [] (Zdr a0)) N ([.a (.i .i64 1),.a (.i .i64 0)],[])) (λe s=>(Uab 0 (kSeq (veC prog (mkΓ []) N (cAt cKCxD28 [1,1,1]) (pAt (Uaa cKCxD28 [([3,5],[])]).1 [1,1,1]) (SV×Eff×Bool)) (finK prog [] [.tmp 2]))) e (left (writes (cAt cKCxD28 [1,1,0,1,0,0])) [3,5] [] (Zdr a0) s))=Uan (Uac (Zb8 prog a0) N ((1:Int),(0:Int))) (λx=>Zhw prog N a0 x.1 x.2):=by refine Za5 Ze9 Zi5 _ _ (Zvy N a0) N ((1:Int),(0:Int)) _ _ ?_;intro x;exact Zn1 N a0 x.1 x.2
theorem Zs9(N:Nat)(a0:Int):ansV prog (mkΓ []) N f28 [([3,5],[])] [.i .i64 a0] []=(Uan (Uac (Zb8 prog a0) N ((1:Int),(0:Int))) (λx=>Zhw prog N a0 x.1 x.2)):=by
 conv=>rhs;simp only[<- Zvl N a0]
 kernel_rfl
theorem Zrx(a0:Int)(h_a0:i64.min<=a0/\a0<=i64.max)(hg:((decide (0<=a0)&&decide (a0<=14)))=true):ansV prog (mkΓ []) 1000 f28 [([3,5],[])] [.i .i64 a0] []=some (.a (.i .i64 (12^a0.toNat)),.none,true):=by
 simp only[Q7,decide_eq_true_eq]at hg;obtain⟨h0,h14⟩:=hg;obtain⟨m,rfl⟩:=Int.eq_ofNat_of_zero_le h0;refine(Zs9 1000 _).trans ?_;have h:=Zdb (g:=Zb8 prog (m:Int)) (λk=>((12:Int)^k,(k:Int))) (m:=m) (x:=((12:Int)^m,(m:Int))) (N:=1000) (λk hk=>by
  have h1:decide ((k:Int)<(m:Int))=true:=Q3 (by omega);have h2:i64.wrap ((k:Int)+1)=((k+1:Nat):Int):=by rw[IntWalk.i64_in _ (by omega)];omega
  simp only[Zb8,h1,Q1,wrap12 k (by omega),h2]) (by
  have h1:decide ((m:Int)<(m:Int))=false:=Q4 (by omega);simp only[Zb8,h1,Q2]) (by omega)
 have h':Uac (Zb8 prog (m:Int)) 1000 ((1:Int),(0:Int))=some ((12:Int)^m,(m:Int)):=h;rw[h'];rfl
def Za9:Con:=λargs h=>match args,h with|[.i .i64 a0],[]=>some (.a (.i .i64 (12^a0.toNat)),.none,(decide (0<=a0)&&decide (a0<=14)))|_,_=>none
theorem Zkn:EntX prog 28:=Zam (fn:=f28)
theorem Zmv:Uad mn prog 28 Za9:=(ansY (N:=1000) mKn f28 [([3,5],[])]).of (by
 intro ρ h w args vals r e hA hH hr;unfold Za9 at hr;split at hr
 ·rename_i a0;obtain⟨rfl,rfl,hg2⟩:=BQi hr;exact Zrx a0 (hA.rng 0 rfl) hg2
 ·cases hr)
theorem Zkf{x a b:Int}(h:Zaa x a b=true):a<=x/\x<=b:=by unfold Zaa at h;cases h0:decide (x>=a) with|false=>rw[h0]at h;exact nomatch h|true=>rw[h0]at h;exact⟨of_decide_eq_true h0,of_decide_eq_true h⟩
theorem cell_num{D:Array Value}{T:TypeId}(hz:D.size=40)(k:Nat)(hk:k<36):num (D.extract 3 (3+36)) (k*1)=num D (3+k*1):=by unfold num;rw[Array.getElem?_extract,if_pos (by omega)]
end
end Go.Proofs.YtefjogahegolbaaDoor
