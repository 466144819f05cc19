/- Parts of twelve, in company. -/
import Derived.Test.YtdfefaanfiheoaaGreatDoorProg
import Derived.Test.YtdfefaanfiheoaaGreatDoorCxC
set_option linter.unusedVariables false
set_option linter.unusedSimpArgs false
namespace Go.Proofs.YtdfefaanfiheoaaGreatDoor
open Tryz (f11 f36 f54 f76 f117)
open Go.ChangeShapes Go.WideShapes Go.ChangeAt Go.RowKit Ve Vc
open Tryz renaming prog -> PZ
open IntKind (i64)
set_option maxRecDepth 100000
noncomputable section
variable {mn:Md}
def Ze6(a0:Array Value):St:=(⟨.a (.g a0 24)::.a (.w 0)::.a (.w 1)::.a (.w 2)::.a (.i .i64 0)::us 10 ([]),[.row a0 24,.row #[.int .u8 0,.int .u8 0,.int .u8 0,.int .u8 0,.int .u8 0] 33,.row #[.int .u8 0,.int .u8 0,.int .u8 0,.int .u8 0,.int .u8 0] 33],[]⟩:St)
def Zg1:Int×Array Value->LS
 |(y0_4,r0_2)=>([.a (.i .i64 y0_4)],[.row r0_2 33])
def Zlx:Int×Array Value->Exit×LS
 |t=>((.exit 0),Zg1 t)
def Zcy(P:Program)(a0:Array Value):Int×Array Value->Option (Stp (Int×Array Value) (Int×Array Value))
 |(y0_4,r0_2)=>bif decide (y0_4<(5:Int)) then (bif (decide (0<=y0_4)&&decide (y0_4<5)) then (bif (decide (0<=y0_4)&&decide (y0_4<5)) then (some (.more ((i64.wrap (y0_4+(1:Int))),(r0_2.setIfInBounds ((y0_4).toNat*1) (.int .u8 (num a0 ((y0_4).toNat*1))))))) else (none)) else (none)) else (some (.done (y0_4,r0_2)))
noncomputable abbrev cKCxD76:=codeOf f76
def Ud4:=(Uaa cKCxD76 [([4],[2])]).1
theorem Yca(N:Nat)(a0:Array Value):∀t:Int×Array Value,Uah PZ (mkΓ []) N (cAt cKCxD76 [1,1,0,1,0,0]) (pAt Ud4 [1,1,0,1,0]) [4] [2] (Ze6 a0) (Zg1 t)=mapS Zg1 Zlx (Zcy PZ a0 t):=by
 rintro⟨y0_4,r0_2⟩
 conv=>rhs;simp only[Zcy,Zao,Zam,Zan,Zap,Zg1,Zlx]
 kernel_rfl
def Zkf(P:Program)(N:Nat)(a0:Array Value)(z0_4:Int)(q0_2:Array Value):Option (SV×Eff×Bool):=some (.a (.g q0_2 33),.none,true)
def Ufj(N:Nat):=(Uad 0 (kSeq (veC PZ (mkΓ []) N (cAt cKCxD76 [1,1,1]) (pAt Ud4 [1,1,1]) (SV×Eff×Bool)) (finK PZ [] [.cell 2 33])))
theorem Zsb(N:Nat)(a0:Array Value)(z0_4:Int)(q0_2:Array Value):(Ufj N) (.exit 0) (left (writes (cAt cKCxD76 [1,1,0,1,0,0])) [4] [2] (Ze6 a0) ([.a (.i .i64 z0_4)],[.row q0_2 33]))=Zkf PZ N a0 z0_4 q0_2:=by kernel_rfl
theorem Ycn(N:Nat)(a0:Array Value):Uag (Uab (Uah PZ (mkΓ []) N (cAt cKCxD76 [1,1,0,1,0,0]) (pAt Ud4 [1,1,0,1,0]) [4] [2] (Ze6 a0)) N ([.a (.i .i64 0)],[.row (#[.int .u8 0,.int .u8 0,.int .u8 0,.int .u8 0,.int .u8 0]:Array Value) 33])) (λe s=>(Ufj N) e (left (writes (cAt cKCxD76 [1,1,0,1,0,0])) [4] [2] (Ze6 a0) s))=Uai (Uab (Zcy PZ a0) N ((0:Int),(#[.int .u8 0,.int .u8 0,.int .u8 0,.int .u8 0,.int .u8 0]:Array Value))) (λx=>Zkf PZ N a0 x.1 x.2):=by refine Zar Zg1 Zlx _ _ (Yca N a0) N ((0:Int),(#[.int .u8 0,.int .u8 0,.int .u8 0,.int .u8 0,.int .u8 0]:Array Value)) _ _ ?_;intro x;exact Zsb N a0 x.1 x.2
theorem Zyj(N:Nat)(a0:Array Value):ansV PZ (mkΓ []) N f76 [([4],[2])] [.g a0 24] []=(Uai (Uab (Zcy PZ a0) N ((0:Int),(#[.int .u8 0,.int .u8 0,.int .u8 0,.int .u8 0,.int .u8 0]:Array Value))) (λx=>Zkf PZ N a0 x.1 x.2)):=by
 conv=>rhs;simp only[<- Ycn N a0]
 kernel_rfl
theorem Zxa(a0:Array Value)(h_a0:WT PZ 24 a0)(hg:(true)=true):ansV PZ (mkΓ []) 1000 f76 [([4],[2])] [.g a0 24] []=some (.a (.g a0 33),.none,true):=by
 have hs:a0.size=(#[.int .u8 0,.int .u8 0,.int .u8 0,.int .u8 0,.int .u8 0]:Array Value).size:=by rw[h_a0.layLen];kernel_rfl
 have hz:a0.size=5:=by rw[h_a0.layLen];kernel_rfl
 have hL:∀k,k<5->(lay PZ 24)[k*1]?=some 4:=by
  intro k hk;have h:(List.range 5).all (λk=>(lay PZ 24)[k*1]?==some 4)=true:=by kernel_rfl
  exact eq_of_beq (List.all_eq_true.1 h k (List.mem_range.2 hk))
 have h:=Zcr (g:=Zcy PZ a0) (λk=>((k:Int),upto a0 (#[.int .u8 0,.int .u8 0,.int .u8 0,.int .u8 0,.int .u8 0]:Array Value) (k*1))) (m:=5) (x:=(((5:Nat):Int),upto a0 (#[.int .u8 0,.int .u8 0,.int .u8 0,.int .u8 0,.int .u8 0]:Array Value) (5*1))) (N:=1000) (λk hk=>by
  have h1:decide ((k:Int)<5)=true:=Q3 (by omega);have h0:decide (0<=(k:Int))=true:=Q3 (by omega);have h3:i64.wrap ((k:Int)+1)=((k+1:Nat):Int):=by rw[IntWalk.i64_in _ (by omega)];omega
  have h4:((k:Int)).toNat=k:=Q9 k;have h5:(upto a0 (#[.int .u8 0,.int .u8 0,.int .u8 0,.int .u8 0,.int .u8 0]:Array Value) (k*1)).setIfInBounds (k*1) (.int .u8 (num a0 (k*1)))=upto a0 (#[.int .u8 0,.int .u8 0,.int .u8 0,.int .u8 0,.int .u8 0]:Array Value) ((k+1)*1):=by rw[Nat.add_mul];exact Yam hs (h_a0.int (k:=.u8) (hL k hk)).1
  simp only[Zcy,h1,h0,Bool.and_self,h4,Q1,h3,h5]) (by
  have h1:decide (((5:Nat):Int)<5)=false:=by decide
  simp only[Zcy,h1,Q2]) (by omega)
 simp only[Nat.zero_mul,Zqw hs,Zuj hs hz]at h;refine(Zyj 1000 a0).trans ?_;have h':Uab (Zcy PZ a0) 1000 ((0:Int),(#[.int .u8 0,.int .u8 0,.int .u8 0,.int .u8 0,.int .u8 0]:Array Value))=some (((5:Nat):Int),a0):=h;rw[h'];rfl
def Zcd:Con:=λargs h=>match args,h with|[.g a0 24],[]=>some (.a (.g a0 33),.none,true)|_,_=>none
theorem Zvc:EntX PZ 76:=Zaj (fn:=f76)
theorem Ybe:Uac mn PZ 76 Zcd:=(ansY (N:=1000) mKn f76 [([4],[2])]).of (by
 intro ρ h w args vals r e hA hH hr;unfold Zcd at hr;split at hr
 ·rename_i a0;obtain⟨rfl,rfl,hg2⟩:=BQi hr;exact Zxa a0 (hA.wt 0 rfl) hg2
 ·cases hr)
def Zdi(a0:Array Value):St:=(⟨.a (.g a0 25)::.a (.w 0)::.a (.w 1)::.a (.w 2)::.a (.i .i64 0)::us 11 ([]),[.row a0 25,.row (zc PZ 34) 34,.row (zc PZ 34) 34],[]⟩:St)
def Zen:Int×Array Value->LS
 |(y0_4,r0_2)=>([.a (.i .i64 y0_4)],[.row r0_2 34])
def Zji:Int×Array Value->Exit×LS
 |t=>((.exit 0),Zen t)
def Zby(P:Program)(a0:Array Value):Int×Array Value->Option (Stp (Int×Array Value) (Int×Array Value))
 |(y0_4,r0_2)=>bif decide (y0_4<(36:Int)) then (bif (decide (0<=y0_4)&&decide (y0_4<36)) then (bif (decide (0<=y0_4)&&decide (y0_4<36)) then (some (.more ((i64.wrap (y0_4+(1:Int))),(spl r0_2 ((y0_4).toNat*5) (a0.extract ((y0_4).toNat*5) (((y0_4).toNat*5)+5)).toList)))) else (none)) else (none)) else (some (.done (y0_4,r0_2)))
noncomputable abbrev cKCxD54:=codeOf f54
def Uei:=(Uaa cKCxD54 [([4],[2])]).1
theorem Zuz(N:Nat)(a0:Array Value):∀t:Int×Array Value,Uah PZ (mkΓ [(76,con Zcd)]) N (cAt cKCxD54 [1,1,0,1,0,0]) (pAt Uei [1,1,0,1,0]) [4] [2] (Zdi a0) (Zen t)=mapS Zen Zji (Zby PZ a0 t):=by
 rintro⟨y0_4,r0_2⟩
 conv=>rhs;simp only[Zby,Zao,Zam,Zan,Zap,Zen,Zji]
 kernel_rfl
def Zh6(P:Program)(N:Nat)(a0:Array Value)(z0_4:Int)(q0_2:Array Value):Option (SV×Eff×Bool):=some (.a (.g q0_2 34),.none,true)
def Ufo(N:Nat):=(Uad 0 (kSeq (veC PZ (mkΓ [(76,con Zcd)]) N (cAt cKCxD54 [1,1,1]) (pAt Uei [1,1,1]) (SV×Eff×Bool)) (finK PZ [] [.cell 2 34])))
theorem Zqc(N:Nat)(a0:Array Value)(z0_4:Int)(q0_2:Array Value):(Ufo N) (.exit 0) (left (writes (cAt cKCxD54 [1,1,0,1,0,0])) [4] [2] (Zdi a0) ([.a (.i .i64 z0_4)],[.row q0_2 34]))=Zh6 PZ N a0 z0_4 q0_2:=by kernel_rfl
theorem Zu5(N:Nat)(a0:Array Value):Uag (Uab (Uah PZ (mkΓ [(76,con Zcd)]) N (cAt cKCxD54 [1,1,0,1,0,0]) (pAt Uei [1,1,0,1,0]) [4] [2] (Zdi a0)) N ([.a (.i .i64 0)],[.row (zc PZ 34) 34])) (λe s=>(Ufo N) e (left (writes (cAt cKCxD54 [1,1,0,1,0,0])) [4] [2] (Zdi a0) s))=Uai (Uab (Zby PZ a0) N ((0:Int),(zc PZ 34))) (λx=>Zh6 PZ N a0 x.1 x.2):=by refine Zar Zen Zji _ _ (Zuz N a0) N ((0:Int),(zc PZ 34)) _ _ ?_;intro x;exact Zqc N a0 x.1 x.2
theorem Zsv(N:Nat)(a0:Array Value):ansV PZ (mkΓ [(76,con Zcd)]) N f54 [([4],[2])] [.g a0 25] []=(Uai (Uab (Zby PZ a0) N ((0:Int),(zc PZ 34))) (λx=>Zh6 PZ N a0 x.1 x.2)):=by
 conv=>rhs;simp only[<- Zu5 N a0]
 kernel_rfl
theorem Zr0(a0:Array Value)(h_a0:WT PZ 25 a0)(hg:(true)=true):ansV PZ (mkΓ [(76,con Zcd)]) 1000 f54 [([4],[2])] [.g a0 25] []=some (.a (.g a0 34),.none,true):=by
 have hs:a0.size=(zc PZ 34).size:=by rw[h_a0.layLen];kernel_rfl
 have hz:a0.size=180:=by rw[h_a0.layLen];kernel_rfl
 have hL:∀k,k<36->(lay PZ 25)[k*5]?=some 4:=by
  intro k hk;have h:(List.range 36).all (λk=>(lay PZ 25)[k*5]?==some 4)=true:=by kernel_rfl
  exact eq_of_beq (List.all_eq_true.1 h k (List.mem_range.2 hk))
 have h:=Zcr (g:=Zby PZ a0) (λk=>((k:Int),upto a0 (zc PZ 34) (k*5))) (m:=36) (x:=(((36:Nat):Int),upto a0 (zc PZ 34) (36*5))) (N:=1000) (λk hk=>by
  have h1:decide ((k:Int)<36)=true:=Q3 (by omega);have h0:decide (0<=(k:Int))=true:=Q3 (by omega);have h3:i64.wrap ((k:Int)+1)=((k+1:Nat):Int):=by rw[IntWalk.i64_in _ (by omega)];omega
  have h4:((k:Int)).toNat=k:=Q9 k;have h5:spl (upto a0 (zc PZ 34) (k*5)) (k*5) (a0.extract (k*5) (k*5+5)).toList=upto a0 (zc PZ 34) ((k+1)*5):=by rw[Nat.add_mul];exact Yff hs (by omega) rfl
  simp only[Zby,h1,h0,Bool.and_self,h4,Q1,h3,h5]) (by
  have h1:decide (((36:Nat):Int)<36)=false:=by decide
  simp only[Zby,h1,Q2]) (by omega)
 simp only[Nat.zero_mul,Zqw hs,Zuj hs hz]at h;refine(Zsv 1000 a0).trans ?_;have h':Uab (Zby PZ a0) 1000 ((0:Int),(zc PZ 34))=some (((36:Nat):Int),a0):=h;rw[h'];rfl
def Zbs:Con:=λargs h=>match args,h with|[.g a0 25],[]=>some (.a (.g a0 34),.none,true)|_,_=>none
theorem Zrk:EntX PZ 54:=Zaj (fn:=f54)
theorem Zvd:Uac mn PZ 54 Zbs:=(ansY (N:=1000) (mKc (Zae Ybe) Zvc mKn) f54 [([4],[2])]).of (by
 intro ρ h w args vals r e hA hH hr;unfold Zbs at hr;split at hr
 ·rename_i a0;obtain⟨rfl,rfl,hg2⟩:=BQi hr;exact Zr0 a0 (hA.wt 0 rfl) hg2
 ·cases hr)
def Zch(a0:Array Value):St:=(⟨.a (.g a0 26)::.a (.w 0)::.a (.w 1)::.a (.w 2)::.a (.i .i64 0)::us 11 ([]),[.row a0 26,.row (zc PZ 35) 35,.row (zc PZ 35) 35],[]⟩:St)
def Zds:Int×Array Value->LS
 |(y0_4,r0_2)=>([.a (.i .i64 y0_4)],[.row r0_2 35])
def Zh3:Int×Array Value->Exit×LS
 |t=>((.exit 0),Zds t)
def Zbj(P:Program)(a0:Array Value):Int×Array Value->Option (Stp (Int×Array Value) (Int×Array Value))
 |(y0_4,r0_2)=>bif decide (y0_4<(2:Int)) then (bif (decide (0<=y0_4)&&decide (y0_4<2)) then (bif (decide (0<=y0_4)&&decide (y0_4<2)) then (some (.more ((i64.wrap (y0_4+(1:Int))),(spl r0_2 ((y0_4).toNat*180) (a0.extract ((y0_4).toNat*180) (((y0_4).toNat*180)+180)).toList)))) else (none)) else (none)) else (some (.done (y0_4,r0_2)))
noncomputable abbrev cKCxD36:=codeOf f36
def Ueh:=(Uaa cKCxD36 [([4],[2])]).1
theorem Zr4(N:Nat)(a0:Array Value):∀t:Int×Array Value,Uah PZ (mkΓ [(54,con Zbs)]) N (cAt cKCxD36 [1,1,0,1,0,0]) (pAt Ueh [1,1,0,1,0]) [4] [2] (Zch a0) (Zds t)=mapS Zds Zh3 (Zbj PZ a0 t):=by
 rintro⟨y0_4,r0_2⟩
 conv=>rhs;simp only[Zbj,Zao,Zam,Zan,Zap,Zds,Zh3]
 kernel_rfl
def Zgm(P:Program)(N:Nat)(a0:Array Value)(z0_4:Int)(q0_2:Array Value):Option (SV×Eff×Bool):=some (.a (.g q0_2 35),.none,true)
def Ufp(N:Nat):=(Uad 0 (kSeq (veC PZ (mkΓ [(54,con Zbs)]) N (cAt cKCxD36 [1,1,1]) (pAt Ueh [1,1,1]) (SV×Eff×Bool)) (finK PZ [] [.cell 2 35])))
theorem Zo8(N:Nat)(a0:Array Value)(z0_4:Int)(q0_2:Array Value):(Ufp N) (.exit 0) (left (writes (cAt cKCxD36 [1,1,0,1,0,0])) [4] [2] (Zch a0) ([.a (.i .i64 z0_4)],[.row q0_2 35]))=Zgm PZ N a0 z0_4 q0_2:=by kernel_rfl
theorem Zr8(N:Nat)(a0:Array Value):Uag (Uab (Uah PZ (mkΓ [(54,con Zbs)]) N (cAt cKCxD36 [1,1,0,1,0,0]) (pAt Ueh [1,1,0,1,0]) [4] [2] (Zch a0)) N ([.a (.i .i64 0)],[.row (zc PZ 35) 35])) (λe s=>(Ufp N) e (left (writes (cAt cKCxD36 [1,1,0,1,0,0])) [4] [2] (Zch a0) s))=Uai (Uab (Zbj PZ a0) N ((0:Int),(zc PZ 35))) (λx=>Zgm PZ N a0 x.1 x.2):=by refine Zar Zds Zh3 _ _ (Zr4 N a0) N ((0:Int),(zc PZ 35)) _ _ ?_;intro x;exact Zo8 N a0 x.1 x.2
theorem Zro(N:Nat)(a0:Array Value):ansV PZ (mkΓ [(54,con Zbs)]) N f36 [([4],[2])] [.g a0 26] []=(Uai (Uab (Zbj PZ a0) N ((0:Int),(zc PZ 35))) (λx=>Zgm PZ N a0 x.1 x.2)):=by
 conv=>rhs;simp only[<- Zr8 N a0]
 kernel_rfl
theorem Zqf(a0:Array Value)(h_a0:WT PZ 26 a0)(hg:(true)=true):ansV PZ (mkΓ [(54,con Zbs)]) 1000 f36 [([4],[2])] [.g a0 26] []=some (.a (.g a0 35),.none,true):=by
 have hs:a0.size=(zc PZ 35).size:=by rw[h_a0.layLen];kernel_rfl
 have hz:a0.size=360:=by rw[h_a0.layLen];kernel_rfl
 have hL:∀k,k<2->(lay PZ 26)[k*180]?=some 4:=by
  intro k hk;have h:(List.range 2).all (λk=>(lay PZ 26)[k*180]?==some 4)=true:=by kernel_rfl
  exact eq_of_beq (List.all_eq_true.1 h k (List.mem_range.2 hk))
 have h:=Zcr (g:=Zbj PZ a0) (λk=>((k:Int),upto a0 (zc PZ 35) (k*180))) (m:=2) (x:=(((2:Nat):Int),upto a0 (zc PZ 35) (2*180))) (N:=1000) (λk hk=>by
  have h1:decide ((k:Int)<2)=true:=Q3 (by omega);have h0:decide (0<=(k:Int))=true:=Q3 (by omega);have h3:i64.wrap ((k:Int)+1)=((k+1:Nat):Int):=by rw[IntWalk.i64_in _ (by omega)];omega
  have h4:((k:Int)).toNat=k:=Q9 k;have h5:spl (upto a0 (zc PZ 35) (k*180)) (k*180) (a0.extract (k*180) (k*180+180)).toList=upto a0 (zc PZ 35) ((k+1)*180):=by rw[Nat.add_mul];exact Yff hs (by omega) rfl
  simp only[Zbj,h1,h0,Bool.and_self,h4,Q1,h3,h5]) (by
  have h1:decide (((2:Nat):Int)<2)=false:=by decide
  simp only[Zbj,h1,Q2]) (by omega)
 simp only[Nat.zero_mul,Zqw hs,Zuj hs hz]at h;refine(Zro 1000 a0).trans ?_;have h':Uab (Zbj PZ a0) 1000 ((0:Int),(zc PZ 35))=some (((2:Nat):Int),a0):=h;rw[h'];rfl
def Zha:Con:=λargs h=>match args,h with|[.g a0 26],[]=>some (.a (.g a0 35),.none,true)|_,_=>none
theorem Zpw:EntX PZ 36:=Zaj (fn:=f36)
theorem Zr2:Uac mn PZ 36 Zha:=(ansY (N:=1000) (mKc (Zae Zvd) Zrk mKn) f36 [([4],[2])]).of (by
 intro ρ h w args vals r e hA hH hr;unfold Zha at hr;split at hr
 ·rename_i a0;obtain⟨rfl,rfl,hg2⟩:=BQi hr;exact Zqf a0 (hA.wt 0 rfl) hg2
 ·cases hr)
def Ycw:Cons:=(mkΓ [(36,con Zha)])
theorem Yit(N:Nat)(a0:Array Value):ansV PZ Ycw N f11 [] [.g a0 28] []=(some (.a (.g (spl ((((zc PZ 37).setIfInBounds 0 (.int .i8 (num a0 0))).setIfInBounds 1 (.int .i8 (num a0 1))).setIfInBounds 2 (.int .u64 (num a0 2))) 3 (a0.extract 3 (3+360)).toList) 37),.none,true)):=by kernel_rfl
theorem Yf5(a0:Array Value)(h_a0:WT PZ 28 a0)(hg:(true)=true):ansV PZ Ycw 1000 f11 [] [.g a0 28] []=some (.a (.g a0 37),.none,true):=by
 have hs:a0.size=(zc PZ 37).size:=by rw[h_a0.layLen];kernel_rfl
 have hz:a0.size=363:=by rw[h_a0.layLen];kernel_rfl
 have e0:(upto a0 (zc PZ 37) 0).setIfInBounds 0 (.int .i8 (num a0 0))=upto a0 (zc PZ 37) 1:=Yam hs (h_a0.int (k:=.i8) (by kernel_rfl)).1;rw[Zqw hs]at e0;have e1:(upto a0 (zc PZ 37) 1).setIfInBounds 1 (.int .i8 (num a0 1))=upto a0 (zc PZ 37) 2:=Yam hs (h_a0.int (k:=.i8) (by kernel_rfl)).1;have e2:(upto a0 (zc PZ 37) 2).setIfInBounds 2 (.int .u64 (num a0 2))=upto a0 (zc PZ 37) 3:=Yam hs (h_a0.int (k:=.u64) (by kernel_rfl)).1;have e3:spl (upto a0 (zc PZ 37) 3) 3 (a0.extract 3 (3+360)).toList=upto a0 (zc PZ 37) 363:=Yff hs (by omega) rfl;refine(Yit 1000 a0).trans ?_;rw[e0,e1,e2,e3,Zuj hs hz]
def Zp4:Con:=λargs h=>match args,h with|[.g a0 28],[]=>some (.a (.g a0 37),.none,true)|_,_=>none
theorem Ye2:EntX PZ 11:=Zaj (fn:=f11)
theorem Yk8:Uac mn PZ 11 Zp4:=(ansY (N:=1000) (mKc (Zae Zr2) Zpw mKn) f11 []).of (by
 intro ρ h w args vals r e hA hH hr;unfold Zp4 at hr;split at hr
 ·rename_i a0;obtain⟨rfl,rfl,hg2⟩:=BQi hr;exact Yf5 a0 (hA.wt 0 rfl) hg2
 ·cases hr)
theorem wrap12:∀k,k<14->i64.wrap ((12:Int)^k*12)=12^(k+1):=by decide
def Zd8(a0:Int):St:=(⟨.a (.i .i64 a0)::.a (.u)::.a (.i .i64 0)::.a (.i .i64 1)::.a (.i .i64 a0)::.a (.i .i64 0)::us 5 ([]),[],[]⟩:St)
def Zge:Int×Int->LS
 |(y0_3,y0_5)=>([.a (.i .i64 y0_3),.a (.i .i64 y0_5)],[])
def Zlk:Int×Int->Exit×LS
 |t=>((.exit 0),Zge t)
def Zcf(P:Program)(a0:Int):Int×Int->Option (Stp (Int×Int) (Int×Int))
 |(y0_3,y0_5)=>bif decide (y0_5<a0) then (some (.more ((i64.wrap (y0_3*(12:Int))),(i64.wrap (y0_5+(1:Int)))))) else (some (.done (y0_3,y0_5)))
noncomputable abbrev cKCxD117:=codeOf f117
def Ueb:=(Uaa cKCxD117 [([3,5],[])]).1
theorem Zy7(N:Nat)(a0:Int):∀t:Int×Int,Uah PZ (mkΓ []) N (cAt cKCxD117 [1,1,0,1,0,0]) (pAt Ueb [1,1,0,1,0]) [3,5] [] (Zd8 a0) (Zge t)=mapS Zge Zlk (Zcf PZ a0 t):=by
 rintro⟨y0_3,y0_5⟩
 conv=>rhs;simp only[Zcf,Zao,Zam,Zan,Zap,Zge,Zlk]
 kernel_rfl
def Zjq(P:Program)(N:Nat)(a0:Int)(z0_3:Int)(z0_5:Int):Option (SV×Eff×Bool):=some (.a (.i .i64 z0_3),.none,true)
def Ufs(N:Nat):=(Uad 0 (kSeq (veC PZ (mkΓ []) N (cAt cKCxD117 [1,1,1]) (pAt Ueb [1,1,1]) (SV×Eff×Bool)) (finK PZ [] [.tmp 2])))
theorem Zq8(N:Nat)(a0:Int)(z0_3:Int)(z0_5:Int):(Ufs N) (.exit 0) (left (writes (cAt cKCxD117 [1,1,0,1,0,0])) [3,5] [] (Zd8 a0) ([.a (.i .i64 z0_3),.a (.i .i64 z0_5)],[]))=Zjq PZ N a0 z0_3 z0_5:=by kernel_rfl
theorem Zxy(N:Nat)(a0:Int):Uag (Uab (Uah PZ (mkΓ []) N (cAt cKCxD117 [1,1,0,1,0,0]) (pAt Ueb [1,1,0,1,0]) [3,5] [] (Zd8 a0)) N ([.a (.i .i64 1),.a (.i .i64 0)],[])) (λe s=>(Ufs N) e (left (writes (cAt cKCxD117 [1,1,0,1,0,0])) [3,5] [] (Zd8 a0) s))=Uai (Uab (Zcf PZ a0) N ((1:Int),(0:Int))) (λx=>Zjq PZ N a0 x.1 x.2):=by refine Zar Zge Zlk _ _ (Zy7 N a0) N ((1:Int),(0:Int)) _ _ ?_;intro x;exact Zq8 N a0 x.1 x.2
theorem Zw5(N:Nat)(a0:Int):ansV PZ (mkΓ []) N f117 [([3,5],[])] [.i .i64 a0] []=(Uai (Uab (Zcf PZ a0) N ((1:Int),(0:Int))) (λx=>Zjq PZ N a0 x.1 x.2)):=by
 conv=>rhs;simp only[<- Zxy N a0]
 kernel_rfl
theorem Zvx(a0:Int)(h_a0:i64.min<=a0/\a0<=i64.max)(hg:((decide (0<=a0)&&decide (a0<=14)))=true):ansV PZ (mkΓ []) 1000 f117 [([3,5],[])] [.i .i64 a0] []=some (.a (.i .i64 (12^a0.toNat)),.none,true):=by
 simp only[Q7,decide_eq_true_eq]at hg;obtain⟨h0,h14⟩:=hg;obtain⟨m,rfl⟩:=Int.eq_ofNat_of_zero_le h0;refine(Zw5 1000 _).trans ?_;have h:=Zcr (g:=Zcf PZ (m:Int)) (λk=>((12:Int)^k,(k:Int))) (m:=m) (x:=((12:Int)^m,(m:Int))) (N:=1000) (λk hk=>by
  have h1:decide ((k:Int)<(m:Int))=true:=Q3 (by omega);have h2:i64.wrap ((k:Int)+1)=((k+1:Nat):Int):=by rw[IntWalk.i64_in _ (by omega)];omega
  simp only[Zcf,h1,Q1,wrap12 k (by omega),h2]) (by
  have h1:decide ((m:Int)<(m:Int))=false:=Q4 (by omega);simp only[Zcf,h1,Q2]) (by omega)
 have h':Uab (Zcf PZ (m:Int)) 1000 ((1:Int),(0:Int))=some ((12:Int)^m,(m:Int)):=h;rw[h'];rfl
def Zbh:Con:=λargs h=>match args,h with|[.i .i64 a0],[]=>some (.a (.i .i64 (12^a0.toNat)),.none,(decide (0<=a0)&&decide (a0<=14)))|_,_=>none
theorem Zsz:EntX PZ 117:=Zaj (fn:=f117)
theorem Zzq:Uac mn PZ 117 Zbh:=(ansY (N:=1000) mKn f117 [([3,5],[])]).of (by
 intro ρ h w args vals r e hA hH hr;unfold Zbh at hr;split at hr
 ·rename_i a0;obtain⟨rfl,rfl,hg2⟩:=BQi hr;exact Zvx a0 (hA.rng 0 rfl) hg2
 ·cases hr)
theorem Zj2{x a b:Int}(h:Zaa x a b=true):a<=x/\x<=b:=by unfold Zaa at h;cases h0:decide (x>=a) with|false=>rw[h0]at h;exact nomatch h|true=>rw[h0]at h;exact⟨of_decide_eq_true h0,of_decide_eq_true h⟩
theorem cell_num{D:Array Value}{T:TypeId}(hz:D.size=40)(k:Nat)(hk:k<36):num (D.extract 3 (3+36)) (k*1)=num D (3+k*1):=by unfold num;rw[Array.getElem?_extract,if_pos (by omega)]
end
end Go.Proofs.YtdfefaanfiheoaaGreatDoor
