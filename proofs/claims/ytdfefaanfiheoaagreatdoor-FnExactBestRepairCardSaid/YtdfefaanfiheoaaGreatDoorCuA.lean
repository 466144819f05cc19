/- The code of several seas, finds and a bottle. -/
import Derived.Test.YtdfefaanfiheoaaGreatDoorProg
import Derived.Test.YtdfefaanfiheoaaGreatDoorCyR
set_option linter.unusedVariables false
set_option linter.unusedSimpArgs false
open _root_.Array renaming getElem?_eq_none->jF
open _root_.Nat renaming ble->jA,le_of_ble_eq_true->jG
open _root_.Bool renaming and_self->jB,not_true->jC,not_false->jD,true_and->jE
namespace Go.Proofs.YtdfefaanfiheoaaGreatDoor
open Tryz (f12 f37 f38 f52 f55 f65 f77 f78 f88 f91)
open Go.ChangeShapes Go.WideShapes Go.ChangeAt Go.RowKit Ve Vc
open Tryz renaming prog -> PZ
open IntKind (i64)
set_option maxRecDepth 100000
noncomputable section
variable {F:Vc.Fd}
theorem Ysz{C:Array Value}{b m o:Nat}(ho:o<m):num (C.extract b (b+m)) o=num C (b+o):=by
 have e2:(C.extract b (b+m))[o]?=C[b+o]?:=by
  simp only[Array.getElem?_extract]
  by_cases h:b+o<C.size
  ·rw[if_pos (by omega)]
  ·rw[if_neg (by omega),jF (by omega)]
 unfold num;rw[e2]
theorem Yf4(N:Nat)(a0:Array Value):ansV PZ (mkΓ []) N f37 [] [.g a0 72] []=(some (.a (.g #[.int .i8 (num a0 0),.int .i8 (num a0 1)] 70),.none,true)):=by kernel_rfl
theorem Yee(a0:Array Value)(h_a0:WT PZ 72 a0)(hg:(true)=true):ansV PZ (mkΓ []) 1000 f37 [] [.g a0 72] []=some (.a (.g a0 70),.none,true):=by
 have hz:a0.size=2:=by rw[h_a0.layLen];kernel_rfl
 have e0:=(h_a0.int (o:=0) (k:=.i8) (by kernel_rfl)).1;have e1:=(h_a0.int (o:=1) (k:=.i8) (by kernel_rfl)).1;have he:(#[.int .i8 (num a0 0),.int .i8 (num a0 1)]:Array Value)=a0:=Zin λi=>by
  match i with|0=>exact e0.symm|1=>exact e1.symm|i+2=>rw[jF (by simp),jF (by omega)]
 refine(Yf4 1000 a0).trans ?_;rw[he]
def Zck:Con:=λargs h=>match args,h with|[.g a0 72],[]=>some (.a (.g a0 70),.none,true)|_,_=>none
theorem Ya9:EntX PZ 37:=Zaj (fn:=f37)
theorem Yi0:Uac (md F) PZ 37 Zck:=(ansY (N:=1000) mKn f37 []).of (by
 intro ρ h w args vals r e hA hH hr;unfold Zck at hr;split at hr
 ·rename_i a0;obtain⟨rfl,rfl,hg2⟩:=BQi hr;exact Yee a0 (hA.wt 0 rfl) hg2
 ·cases hr)
def Zgo(b_a0:Option (Option Addr))(n_a0:Nat)(a0:Array Value):St:=(⟨.a (.l 0)::.a (.u)::.a (.v (.slice none 0 0))::.a (.l 3)::.a (.i .i64 0)::.a (.l 0)::.a (.i .i64 (n_a0:Int))::.a (.l 3)::us 15 ([]),[.sl (.came b_a0) n_a0 a0 72,.no,.no,.sl .own ((n_a0:Int).toNat) (madeCells (zc PZ 70) ((n_a0:Int).toNat*2)) 70,.no],[]⟩:St)
def Zij(n_a0:Nat):Int×Array Value->LS
 |(y0_4,r0_3)=>([.a (.i .i64 y0_4)],[.sl .own ((n_a0:Int).toNat) r0_3 70])
def Zoo(n_a0:Nat):Int×Array Value->Exit×LS
 |t=>((.exit 0),(Zij n_a0) t)
def Zd5(P:Program)(b_a0:Option (Option Addr))(n_a0:Nat)(a0:Array Value):Int×Array Value->Option (Stp (Int×Array Value) (Int×Array Value))
 |(y0_4,r0_3)=>bif decide (y0_4<(n_a0:Int)) then (bif (decide (0<=y0_4)&&decide (y0_4<(n_a0:Int))) then (bif (decide (0<=y0_4)&&decide (y0_4<(((n_a0:Int).toNat):Int))) then (some (.more ((i64.wrap (y0_4+(1:Int))),(spl r0_3 ((y0_4).toNat*2) (a0.extract ((y0_4).toNat*2) (((y0_4).toNat*2)+2)).toList)))) else (none)) else (none)) else (some (.done (y0_4,r0_3)))
noncomputable abbrev cKCuA12:=codeOf f12
theorem Yh5(N:Nat)(b_a0:Option (Option Addr))(n_a0:Nat)(a0:Array Value):∀t:Int×Array Value,Uah PZ (mkΓ [(37,con Zck)]) N (cAt cKCuA12 [1,1,0,1,0,0]) (pAt (Uaa cKCuA12 [([4],[3])]).1 [1,1,0,1,0]) [4] [3] (Zgo b_a0 n_a0 a0) ((Zij n_a0) t)=mapS (Zij n_a0) (Zoo n_a0) (Zd5 PZ b_a0 n_a0 a0 t):=by
 rintro⟨y0_4,r0_3⟩
 conv=>rhs;simp only[Zd5,Zao,Zam,Zan,Zap,Zij,Zoo]
 kernel_rfl
def Zme(P:Program)(N:Nat)(b_a0:Option (Option Addr))(n_a0:Nat)(a0:Array Value)(z0_4:Int)(q0_3:Array Value):Option (SV×Eff×Bool):=some (.a .x,.newS none ((n_a0:Int).toNat) q0_3 70,true)
theorem Zvg(N:Nat)(b_a0:Option (Option Addr))(n_a0:Nat)(a0:Array Value)(z0_4:Int)(q0_3:Array Value):(Uad 0 (kSeq (veC PZ (mkΓ [(37,con Zck)]) N (cAt cKCuA12 [1,1,1]) (pAt (Uaa cKCuA12 [([4],[3])]).1 [1,1,1]) (SV×Eff×Bool)) (finK PZ [.sl (.came b_a0) n_a0 a0 72] [.tmp 2]))) (.exit 0) (left (writes (cAt cKCuA12 [1,1,0,1,0,0])) [4] [3] (Zgo b_a0 n_a0 a0) ([.a (.i .i64 z0_4)],[.sl .own ((n_a0:Int).toNat) q0_3 70]))=Zme PZ N b_a0 n_a0 a0 z0_4 q0_3:=by kernel_rfl
theorem Ygz(N:Nat)(b_a0:Option (Option Addr))(n_a0:Nat)(a0:Array Value):Uag (Uab (Uah PZ (mkΓ [(37,con Zck)]) N (cAt cKCuA12 [1,1,0,1,0,0]) (pAt (Uaa cKCuA12 [([4],[3])]).1 [1,1,0,1,0]) [4] [3] (Zgo b_a0 n_a0 a0)) N ([.a (.i .i64 0)],[.sl .own ((n_a0:Int).toNat) (madeCells (zc PZ 70) ((n_a0:Int).toNat*2)) 70])) (λe s=>(Uad 0 (kSeq (veC PZ (mkΓ [(37,con Zck)]) N (cAt cKCuA12 [1,1,1]) (pAt (Uaa cKCuA12 [([4],[3])]).1 [1,1,1]) (SV×Eff×Bool)) (finK PZ [.sl (.came b_a0) n_a0 a0 72] [.tmp 2]))) e (left (writes (cAt cKCuA12 [1,1,0,1,0,0])) [4] [3] (Zgo b_a0 n_a0 a0) s))=Uai (Uab (Zd5 PZ b_a0 n_a0 a0) N ((0:Int),(madeCells (zc PZ 70) ((n_a0:Int).toNat*2)))) (λx=>Zme PZ N b_a0 n_a0 a0 x.1 x.2):=by refine Zar (Zij n_a0) (Zoo n_a0) _ _ (Yh5 N b_a0 n_a0 a0) N ((0:Int),(madeCells (zc PZ 70) ((n_a0:Int).toNat*2))) _ _ ?_;intro x;exact Zvg N b_a0 n_a0 a0 x.1 x.2
theorem Yej(N:Nat)(b_a0:Option (Option Addr))(n_a0:Nat)(a0:Array Value):ansV PZ (mkΓ [(37,con Zck)]) N f12 [([4],[3])] [.l 0] [.sl (.came b_a0) n_a0 a0 72]=(bif (decide (0<=(n_a0:Int))&&((n_a0:Int)==(n_a0:Int)&&decide ((bytesOf PZ 70:Int)*(n_a0:Int)<=281474976710656))) then (Uai (Uab (Zd5 PZ b_a0 n_a0 a0) N ((0:Int),(madeCells (zc PZ 70) ((n_a0:Int).toNat*2)))) (λx=>Zme PZ N b_a0 n_a0 a0 x.1 x.2)) else (none)):=by
 conv=>rhs;simp only[<- Ygz N b_a0 n_a0 a0]
 kernel_rfl
theorem Ybj(b_a0:Option (Option Addr))(n_a0:Nat)(a0:Array Value)(h_a0:a0.size=n_a0*(lay PZ 72).length/\(∀k,k<n_a0->WT PZ 72 (a0.extract (k*(lay PZ 72).length) (k*(lay PZ 72).length+(lay PZ 72).length)))/\n_a0<=9223372036854775807)(hg:(decide (n_a0<=1048576))=true):ansV PZ (mkΓ [(37,con Zck)]) 18446744073709551616 f12 [([4],[3])] [.l 0] [.sl (.came b_a0) n_a0 a0 72]=some (.a .x,.newS none n_a0 a0 70,true):=by
 have hn:n_a0<=1048576:=of_decide_eq_true hg;have hm:(lay PZ 72).length=2:=by kernel_rfl
 have hb:bytesOf PZ 70=2:=by kernel_rfl
 obtain⟨s1,s2,s3⟩:=h_a0;rw[hm]at s1 s2;have hq:(lay PZ 72)[0]?=some 0:=by kernel_rfl
 refine(Yej 18446744073709551616 b_a0 n_a0 a0).trans ?_;have hgd:(decide (0<=(n_a0:Int))&&((n_a0:Int)==(n_a0:Int)&&decide ((bytesOf PZ 70:Int)*(n_a0:Int)<=281474976710656)))=true:=by rw[hb,Q3 (show (0:Int)<=n_a0 by omega),beq_self_eq_true,Q3 (show (((2:Nat):Int))*(n_a0:Int)<=281474976710656 by omega)];rfl
 rw[hgd,Q1];have hs:a0.size=(madeCells (zc PZ 70) ((n_a0:Int).toNat*2)).size:=by rw[size_madeCells,Q9];exact s1
 generalize (madeCells (zc PZ 70) ((n_a0:Int).toNat*2))=Z at hs|-
 have h:=Zcr (g:=Zd5 PZ b_a0 n_a0 a0) (λk=>((k:Int),upto a0 Z (k*2))) (m:=n_a0) (x:=((n_a0:Int),upto a0 Z (n_a0*2))) (N:=18446744073709551616) (λk hk=>by
  have h1:decide ((k:Int)<(n_a0:Int))=true:=Q3 (by omega);have h0:decide (0<=(k:Int))=true:=Q3 (by omega);have h3:i64.wrap ((k:Int)+1)=((k+1:Nat):Int):=by rw[IntWalk.i64_in _ (by omega)];omega
  have h5:spl (upto a0 Z (k*2)) (k*2) (a0.extract (k*2) (k*2+2)).toList=upto a0 Z ((k+1)*2):=by rw[Nat.add_mul];exact Yff hs (by have:(k+1)*2<=n_a0*2:=Nat.mul_le_mul_right _ hk;omega) rfl
  simp only[Zd5,h1,h0,jB,Q9,Q1,h3,h5]) (by
  have h1:decide ((n_a0:Int)<(n_a0:Int))=false:=Q4 (by omega);simp only[Zd5,h1,Q2]) (by omega)
 rw[Zuj hs s1]at h;simp only[Nat.zero_mul,Zqw hs]at h;have h':Uab (Zd5 PZ b_a0 n_a0 a0) 18446744073709551616 ((0:Int),Z)=some ((n_a0:Int),a0):=h;rw[h']
 show some (_,Eff.newS none ((n_a0:Int).toNat) a0 70,true)=_
 rw[Q9]
def Zmv:Con:=λargs h=>match args,h with|[.l 0],[.sl (.came b_a0) n_a0 a0 72]=>some (.a .x,.newS none n_a0 a0 70,decide (n_a0<=1048576))|_,_=>none
theorem Zzi:EntX PZ 12:=Zaj (fn:=f12)
theorem Yhm:Uac (md F) PZ 12 Zmv:=(ansY (N:=18446744073709551616) (mKc (Zae Yi0) Ya9 mKn) f12 [([4],[3])]).of (by
 intro ρ h w args vals r e hA hH hr;unfold Zmv at hr;split at hr
 ·rename_i b_a0 n_a0 a0;obtain⟨rfl,rfl,hg2⟩:=BQi hr;exact Ybj b_a0 n_a0 a0 (hH.slw 0 rfl) hg2
 ·cases hr)
def bcF(a1:Array Value)(k:Nat):Int:=i64.wrap (num a1 (k*2+0))
def hcF(a1:Array Value)(k:Nat):Int:=i64.wrap (num a1 (k*2+1))
def fndB(S a1:Array Value)(k:Nat):Bool:=Zab (bcF a1 k) S&&(Zaf (bcF a1 k) S&&Zaa (hcF a1 k) 1 14)
def Ubb(S:Array Value)(n:Nat)(a1:Array Value):Bool:=(List.range n).all (fndB S a1)
theorem Yba(S:Array Value)(n:Nat)(a1:Array Value):Ubb S n a1=true ↔ ∀k,k<n->fndB S a1 k=true:=by unfold Ubb;rw[List.all_eq_true];exact⟨λh k hk=>h k (List.mem_range.2 hk),λh k hk=>h k (List.mem_range.1 hk)⟩
theorem Yor(a1:Array Value)(k:Nat):i64.wrap (num (a1.extract (k*2) (k*2+2)) 0)=bcF a1 k/\i64.wrap (num (a1.extract (k*2) (k*2+2)) 1)=hcF a1 k:=by rw[Ysz (by omega),Ysz (by omega)];exact⟨rfl,rfl⟩
theorem Yp7(n:Int):Zgt n=Zaa n 1 14:=rfl
def Zc3:Cons:=(mkΓ [(72,con Zb9),(73,con Zgu),(74,con Znh)])
def Zej(a0:Array Value)(b_a1:Option (Option Addr))(n_a1:Nat)(a1:Array Value):St:=(⟨.a (.w 0)::.a (.l 1)::.a (.u)::.a (.u)::.a (.b false)::.a (.i .i64 0)::us 36 ([]),[.row a0 37,.sl (.came b_a1) n_a1 a1 70],[]⟩:St)
def Zfm:Bool×Int->LS
 |(y0_4,y0_5)=>([.a (.b y0_4),.a (.i .i64 y0_5)],[])
def Zmw:(Stp (Bool×Int) (Bool×Int))->Exit×LS
 |.more t=>(.ret,Zfm t)
 |.done t=>((.exit 0),Zfm t)
def Zb8(P:Program)(a0:Array Value)(b_a1:Option (Option Addr))(n_a1:Nat)(a1:Array Value):Bool×Int->Option (Stp (Bool×Int) (Stp (Bool×Int) (Bool×Int)))
  |(y0_4,y0_5)=>bif decide (y0_5<(n_a1:Int)) then (bif (decide (0<=y0_5)&&decide (y0_5<(n_a1:Int))) then (bif (!((Zab (i64.wrap (num a1 (((y0_5).toNat*2)+0))) a0))) then (some (.done (.more (false,y0_5)))) else (bif decide (0<=(IntKind.u64.wrap (i64.wrap (num a1 (((y0_5).toNat*2)+0))))) then (bif (!((Zaf (i64.wrap (num a1 (((y0_5).toNat*2)+0))) a0))) then (some (.done (.more (false,y0_5)))) else (bif (decide (0<=y0_5)&&decide (y0_5<(n_a1:Int))) then (bif (!((Zaa (i64.wrap (num a1 (((y0_5).toNat*2)+1))) (1:Int) (14:Int)))) then (some (.done (.more (false,y0_5)))) else (some (.more (y0_4,(i64.wrap (y0_5+(1:Int))))))) else (none))) else (none))) else (none)) else (some (.done (.done (y0_4,y0_5))))
noncomputable abbrev cKCuA52:=codeOf f52
theorem Ydc(N:Nat)(a0:Array Value)(b_a1:Option (Option Addr))(n_a1:Nat)(a1:Array Value):∀t:Bool×Int,Uah PZ Zc3 N (cAt cKCuA52 [1,0,1,0,0]) (pAt (Uaa cKCuA52 [([4,5],[])]).1 [1,0,1,0]) [4,5] [] (Zej a0 b_a1 n_a1 a1) (Zfm t)=mapS Zfm Zmw (Zb8 PZ a0 b_a1 n_a1 a1 t):=by
  rintro⟨y0_4,y0_5⟩
  conv=>rhs;simp only[Zb8,Zao,Zam,Zan,Zap,Zfm,Zmw]
  kernel_rfl
def Zlh(P:Program)(N:Nat)(a0:Array Value)(b_a1:Option (Option Addr))(n_a1:Nat)(a1:Array Value)(z0_4:Bool)(z0_5:Int):Option (SV×Eff×Bool):=some (.a (.b z0_4),.none,true)
theorem Zt9(N:Nat)(a0:Array Value)(b_a1:Option (Option Addr))(n_a1:Nat)(a1:Array Value)(z0_4:Bool)(z0_5:Int):(Uad 0 (kSeq (veC PZ Zc3 N (cAt cKCuA52 [1,1]) (pAt (Uaa cKCuA52 [([4,5],[])]).1 [1,1]) (SV×Eff×Bool)) (finK PZ [.row a0 37,.sl (.came b_a1) n_a1 a1 70] [.tmp 4]))) .ret (left (writes (cAt cKCuA52 [1,0,1,0,0])) [4,5] [] (Zej a0 b_a1 n_a1 a1) ([.a (.b z0_4),.a (.i .i64 z0_5)],[]))=Zlh PZ N a0 b_a1 n_a1 a1 z0_4 z0_5:=by kernel_rfl
def Zk4(P:Program)(N:Nat)(a0:Array Value)(b_a1:Option (Option Addr))(n_a1:Nat)(a1:Array Value)(z0_4:Bool)(z0_5:Int):Option (SV×Eff×Bool):=some (.a (.b (decide ((n_a1:Int)<=(60:Int)))),.none,true)
theorem Zsu(N:Nat)(a0:Array Value)(b_a1:Option (Option Addr))(n_a1:Nat)(a1:Array Value)(z0_4:Bool)(z0_5:Int):(Uad 0 (kSeq (veC PZ Zc3 N (cAt cKCuA52 [1,1]) (pAt (Uaa cKCuA52 [([4,5],[])]).1 [1,1]) (SV×Eff×Bool)) (finK PZ [.row a0 37,.sl (.came b_a1) n_a1 a1 70] [.tmp 4]))) (.exit 0) (left (writes (cAt cKCuA52 [1,0,1,0,0])) [4,5] [] (Zej a0 b_a1 n_a1 a1) ([.a (.b z0_4),.a (.i .i64 z0_5)],[]))=Zk4 PZ N a0 b_a1 n_a1 a1 z0_4 z0_5:=by kernel_rfl
theorem Ydz(N:Nat)(a0:Array Value)(b_a1:Option (Option Addr))(n_a1:Nat)(a1:Array Value):Uag (Uab (Uah PZ Zc3 N (cAt cKCuA52 [1,0,1,0,0]) (pAt (Uaa cKCuA52 [([4,5],[])]).1 [1,0,1,0]) [4,5] [] (Zej a0 b_a1 n_a1 a1)) N ([.a (.b false),.a (.i .i64 0)],[])) (λe s=>(Uad 0 (kSeq (veC PZ Zc3 N (cAt cKCuA52 [1,1]) (pAt (Uaa cKCuA52 [([4,5],[])]).1 [1,1]) (SV×Eff×Bool)) (finK PZ [.row a0 37,.sl (.came b_a1) n_a1 a1 70] [.tmp 4]))) e (left (writes (cAt cKCuA52 [1,0,1,0,0])) [4,5] [] (Zej a0 b_a1 n_a1 a1) s))=Uai (Uab (Zb8 PZ a0 b_a1 n_a1 a1) N (false,(0:Int))) (st2 (λx=>Zlh PZ N a0 b_a1 n_a1 a1 x.1 x.2) (λx=>Zk4 PZ N a0 b_a1 n_a1 a1 x.1 x.2)):=by refine Zar Zfm Zmw _ _ (Ydc N a0 b_a1 n_a1 a1) N (false,(0:Int)) _ _ ?_;intro x;cases x with|more x=>exact Zt9 N a0 b_a1 n_a1 a1 x.1 x.2|done x=>exact Zsu N a0 b_a1 n_a1 a1 x.1 x.2
theorem Ybk(N:Nat)(a0:Array Value)(b_a1:Option (Option Addr))(n_a1:Nat)(a1:Array Value):ansV PZ Zc3 N f52 [([4,5],[])] [.w 0,.l 1] [.row a0 37,.sl (.came b_a1) n_a1 a1 70]=(Uai (Uab (Zb8 PZ a0 b_a1 n_a1 a1) N (false,(0:Int))) (st2 (λx=>Zlh PZ N a0 b_a1 n_a1 a1 x.1 x.2) (λx=>Zk4 PZ N a0 b_a1 n_a1 a1 x.1 x.2))):=by
 conv=>rhs;simp only[<- Ydz N a0 b_a1 n_a1 a1]
 kernel_rfl
theorem Zxz(a0:Array Value)(b_a1:Option (Option Addr))(n_a1:Nat)(a1:Array Value)(h_a0:WT PZ 37 a0)(h_a1:a1.size=n_a1*(lay PZ 70).length/\(∀k,k<n_a1->WT PZ 70 (a1.extract (k*(lay PZ 70).length) (k*(lay PZ 70).length+(lay PZ 70).length)))/\n_a1<=9223372036854775807)(hg:(true)=true):ansV PZ Zc3 18446744073709551616 f52 [([4,5],[])] [.w 0,.l 1] [.row a0 37,.sl (.came b_a1) n_a1 a1 70]=some (.a (.b ((Ubb a0 n_a1 a1&&decide ((n_a1:Int)<=60)))),.none,true):=by
 have hn:=h_a1.2.2;refine(Ybk 18446744073709551616 a0 b_a1 n_a1 a1).trans ?_;refine(Yb2 (g:=Zb8 PZ a0 b_a1 n_a1 a1) (λk=>(false,(k:Int))) (fndB a0 a1) n_a1 (N:=18446744073709551616) (xd:=.done (false,(n_a1:Int))) (by omega) (λk hk hp=>by
  have h1:decide ((k:Int)<(n_a1:Int))=true:=Q3 (by omega);have h0:decide (0<=(k:Int))=true:=Q3 (by omega);have h3:i64.wrap ((k:Int)+1)=((k+1:Nat):Int):=by rw[IntWalk.i64_in _ (by omega)];omega
  have h4:decide (0<=IntKind.u64.wrap (bcF a1 k))=true:=Q3 (Zgw .u64 _).1;have hb:i64.wrap (num a1 (k*2+0))=bcF a1 k:=rfl;have hc:i64.wrap (num a1 (k*2+1))=hcF a1 k:=rfl;have hp':fndB a0 a1 k=true:=hp;unfold fndB at hp';simp only[Q7]at hp';simp only[Zb8,h1,h0,h3,jB,Q9,Q1,Q2,hb,hc,h4,hp'.1,hp'.2.1,hp'.2.2,jC]) (by
  have h1:decide ((n_a1:Int)<(n_a1:Int))=false:=Q4 (by omega);simp only[Zb8,h1,Q2]) (Ubb a0 n_a1 a1) (Yba a0 n_a1 a1) (some (.a (.b (decide ((n_a1:Int)<=60))),.none,true)) (some (.a (.b false),.none,true)) rfl (λk hk hp=>by
  refine⟨.more (false,(k:Int)),?_,rfl⟩;have h1:decide ((k:Int)<(n_a1:Int))=true:=Q3 (by omega);have h0:decide (0<=(k:Int))=true:=Q3 (by omega);have h3:i64.wrap ((k:Int)+1)=((k+1:Nat):Int):=by rw[IntWalk.i64_in _ (by omega)];omega
  have h4:decide (0<=IntKind.u64.wrap (bcF a1 k))=true:=Q3 (Zgw .u64 _).1;have hb:i64.wrap (num a1 (k*2+0))=bcF a1 k:=rfl;have hc:i64.wrap (num a1 (k*2+1))=hcF a1 k:=rfl;have hp':fndB a0 a1 k=false:=hp;unfold fndB at hp';cases x1:Zab (bcF a1 k) a0
  ·simp only[Zb8,h1,h0,h3,jB,Q9,Q1,hb,x1,jD]
  ·cases x2:Zaf (bcF a1 k) a0
   ·simp only[Zb8,h1,h0,h3,jB,Q9,Q1,Q2,hb,h4,x1,x2,jC,jD]
   ·rw[x1,x2]at hp';simp only[jE]at hp';simp only[Zb8,h1,h0,h3,jB,Q9,Q1,Q2,hb,hc,h4,x1,x2,hp',jC,jD])).trans ?_
 cases Ubb a0 n_a1 a1<;>rfl
def Zl6:Con:=λargs h=>match args,h with|[.w 0,.l 1],[.row a0 37,.sl (.came b_a1) n_a1 a1 70]=>some (.a (.b ((Ubb a0 n_a1 a1&&decide ((n_a1:Int)<=60)))),.none,true)|_,_=>none
theorem Zwz:EntX PZ 52:=Zaj (fn:=f52)
theorem Ye9:Uac (md F) PZ 52 Zl6:=(ansY (N:=18446744073709551616) (mKc (Zae Zku) Zhp (mKc (Zae Zml) Zi7 (mKc (Zae Yfn) Yaf mKn))) f52 [([4,5],[])]).of (by
 intro ρ h w args vals r e hA hH hr;unfold Zl6 at hr;split at hr
 ·rename_i a0 b_a1 n_a1 a1;obtain⟨rfl,rfl,hg2⟩:=BQi hr;exact Zxz a0 b_a1 n_a1 a1 (hH.wt 0 rfl) (hH.slw 1 rfl) hg2
 ·cases hr)
def Zcb:Cons:=(mkΓ [(80,con Zi4),(81,con Zhv),(94,con Zfr),(95,con Zmz)])
def Zc7(a0:Array Value)(b_a1:Option (Option Addr))(n_a1:Nat)(a1:Array Value):St:=(⟨.a (.g a0 37)::.a (.l 0)::.a (.w 1)::.a (.u)::.a (.b false)::us 3 (.a (.g a0 37)::.a (.b ((okS a0)))::.a (.b ((!((okS a0)))))::.a (.b false)::.a (.l 0)::.a (.i .i64 (n_a1:Int))::.a (.b (decide ((n_a1:Int) > (60:Int))))::.a (.b (decide ((n_a1:Int) > (60:Int))))::.a (.l 0)::.a (.i .i64 (n_a1:Int))::.a (.i .i64 0)::us 23 ([])),[.sl (.came b_a1) n_a1 a1 70,.row a0 37,.no],[]⟩:St)
def Zea:Bool×Int->LS
 |(y0_4,y0_18)=>([.a (.b y0_4),.a (.i .i64 y0_18)],[])
def Zlq:(Stp (Bool×Int) (Bool×Int))->Exit×LS
 |.more t=>(.ret,Zea t)
 |.done t=>((.exit 0),Zea t)
def Zbr(P:Program)(a0:Array Value)(b_a1:Option (Option Addr))(n_a1:Nat)(a1:Array Value):Bool×Int->Option (Stp (Bool×Int) (Stp (Bool×Int) (Bool×Int)))
  |(y0_4,y0_18)=>bif decide (y0_18<(n_a1:Int)) then (bif (decide (0<=y0_18)&&decide (y0_18<(n_a1:Int))) then (bif (!((Zau a0 (i64.wrap (num (a1.extract ((y0_18).toNat*2) (((y0_18).toNat*2)+2)) 0))))) then (some (.done (.more (false,y0_18)))) else (bif decide (0<=(i64.wrap (num (a1.extract ((y0_18).toNat*2) (((y0_18).toNat*2)+2)) 0))) then (bif (Zac a0 (i64.wrap (num (a1.extract ((y0_18).toNat*2) (((y0_18).toNat*2)+2)) 0))) then (some (.done (.more (false,y0_18)))) else (bif (!((Zgt (i64.wrap (num (a1.extract ((y0_18).toNat*2) (((y0_18).toNat*2)+2)) 1))))) then (some (.done (.more (false,y0_18)))) else (some (.more (y0_4,(i64.wrap (y0_18+(1:Int)))))))) else (none))) else (none)) else (some (.done (.done (y0_4,y0_18))))
noncomputable abbrev cKCuA77:=codeOf f77
theorem Zyh(N:Nat)(a0:Array Value)(b_a1:Option (Option Addr))(n_a1:Nat)(a1:Array Value):∀t:Bool×Int,Uah PZ Zcb N (cAt cKCuA77 [1,1,0,1,0,0]) (pAt (Uaa cKCuA77 [([4,18],[])]).1 [1,1,0,1,0]) [4,18] [] (Zc7 a0 b_a1 n_a1 a1) (Zea t)=mapS Zea Zlq (Zbr PZ a0 b_a1 n_a1 a1 t):=by
  rintro⟨y0_4,y0_18⟩
  conv=>rhs;simp only[Zbr,Zao,Zam,Zan,Zap,Zea,Zlq]
  kernel_rfl
def Zjp(P:Program)(N:Nat)(a0:Array Value)(b_a1:Option (Option Addr))(n_a1:Nat)(a1:Array Value)(z0_4:Bool)(z0_18:Int):Option (SV×Eff×Bool):=some (.a (.b z0_4),.none,true)
theorem Zrv(N:Nat)(a0:Array Value)(b_a1:Option (Option Addr))(n_a1:Nat)(a1:Array Value)(z0_4:Bool)(z0_18:Int):(Uad 0 (kSeq (veC PZ Zcb N (cAt cKCuA77 [1,1,1]) (pAt (Uaa cKCuA77 [([4,18],[])]).1 [1,1,1]) (SV×Eff×Bool)) (finK PZ [.sl (.came b_a1) n_a1 a1 70] [.tmp 4]))) .ret (left (writes (cAt cKCuA77 [1,1,0,1,0,0])) [4,18] [] (Zc7 a0 b_a1 n_a1 a1) ([.a (.b z0_4),.a (.i .i64 z0_18)],[]))=Zjp PZ N a0 b_a1 n_a1 a1 z0_4 z0_18:=by kernel_rfl
def Zjj(P:Program)(N:Nat)(a0:Array Value)(b_a1:Option (Option Addr))(n_a1:Nat)(a1:Array Value)(z0_4:Bool)(z0_18:Int):Option (SV×Eff×Bool):=some (.a (.b true),.none,true)
theorem Zri(N:Nat)(a0:Array Value)(b_a1:Option (Option Addr))(n_a1:Nat)(a1:Array Value)(z0_4:Bool)(z0_18:Int):(Uad 0 (kSeq (veC PZ Zcb N (cAt cKCuA77 [1,1,1]) (pAt (Uaa cKCuA77 [([4,18],[])]).1 [1,1,1]) (SV×Eff×Bool)) (finK PZ [.sl (.came b_a1) n_a1 a1 70] [.tmp 4]))) (.exit 0) (left (writes (cAt cKCuA77 [1,1,0,1,0,0])) [4,18] [] (Zc7 a0 b_a1 n_a1 a1) ([.a (.b z0_4),.a (.i .i64 z0_18)],[]))=Zjj PZ N a0 b_a1 n_a1 a1 z0_4 z0_18:=by kernel_rfl
theorem Zz3(N:Nat)(a0:Array Value)(b_a1:Option (Option Addr))(n_a1:Nat)(a1:Array Value):Uag (Uab (Uah PZ Zcb N (cAt cKCuA77 [1,1,0,1,0,0]) (pAt (Uaa cKCuA77 [([4,18],[])]).1 [1,1,0,1,0]) [4,18] [] (Zc7 a0 b_a1 n_a1 a1)) N ([.a (.b false),.a (.i .i64 0)],[])) (λe s=>(Uad 0 (kSeq (veC PZ Zcb N (cAt cKCuA77 [1,1,1]) (pAt (Uaa cKCuA77 [([4,18],[])]).1 [1,1,1]) (SV×Eff×Bool)) (finK PZ [.sl (.came b_a1) n_a1 a1 70] [.tmp 4]))) e (left (writes (cAt cKCuA77 [1,1,0,1,0,0])) [4,18] [] (Zc7 a0 b_a1 n_a1 a1) s))=Uai (Uab (Zbr PZ a0 b_a1 n_a1 a1) N (false,(0:Int))) (st2 (λx=>Zjp PZ N a0 b_a1 n_a1 a1 x.1 x.2) (λx=>Zjj PZ N a0 b_a1 n_a1 a1 x.1 x.2)):=by refine Zar Zea Zlq _ _ (Zyh N a0 b_a1 n_a1 a1) N (false,(0:Int)) _ _ ?_;intro x;cases x with|more x=>exact Zrv N a0 b_a1 n_a1 a1 x.1 x.2|done x=>exact Zri N a0 b_a1 n_a1 a1 x.1 x.2
theorem Zwn(N:Nat)(a0:Array Value)(b_a1:Option (Option Addr))(n_a1:Nat)(a1:Array Value):ansV PZ Zcb N f77 [([4,18],[])] [.g a0 37,.l 0] [.sl (.came b_a1) n_a1 a1 70]=(bif (!((okS a0))) then (some (.a (.b false),.none,true)) else (bif decide ((n_a1:Int) > (60:Int)) then (some (.a (.b false),.none,true)) else (Uai (Uab (Zbr PZ a0 b_a1 n_a1 a1) N (false,(0:Int))) (st2 (λx=>Zjp PZ N a0 b_a1 n_a1 a1 x.1 x.2) (λx=>Zjj PZ N a0 b_a1 n_a1 a1 x.1 x.2))))):=by
 conv=>rhs;simp only[<- Zz3 N a0 b_a1 n_a1 a1]
 kernel_rfl
theorem Zvb (a0:Array Value) (b_a1:Option (Option Addr)) (n_a1:Nat) (a1:Array Value) (h_a0:WT PZ 37 a0) (h_a1:a1.size=n_a1*(lay PZ 70).length∧(∀ k,k<n_a1→WT PZ 70 (a1.extract (k*(lay PZ 70).length) (k*(lay PZ 70).length+(lay PZ 70).length)))∧n_a1≤9223372036854775807) (hg:(true)=true):ansV PZ Zcb 18446744073709551616 f77 [([4,18],[])] [.g a0 37,.l 0] [.sl (.came b_a1) n_a1 a1 70]=some (.a (.b ((okS a0&&(Ubb a0 n_a1 a1&&decide ((n_a1:Int)≤60))))),.none,true):=by
  have hn:=h_a1.2.2;have hS:=Yta h_a0;refine(Zwn 18446744073709551616 a0 b_a1 n_a1 a1).trans ?_;cases hok:okS a0
  . rfl
  by_cases hl:(n_a1:Int) > 60
  · rw [Q3 hl,Q4 (show ¬ (n_a1:Int)≤60 by omega),Bool.and_false];rfl
  rw[Q4 hl,Q3 (show (n_a1:Int)<=60 by omega),Bool.and_true];simp only[jC,Q2,jE]
  refine (Yb2 (g:=Zbr PZ a0 b_a1 n_a1 a1) (fun k=>(false,(k:Int))) (fndB a0 a1) n_a1 (N:=18446744073709551616) (xd:=.done (false,(n_a1:Int))) (by omega) (fun k hk hp=>by
    have h1:decide ((k:Int)<(n_a1:Int))=true:=Q3 (by omega);have h0:decide (0<=(k:Int))=true:=Q3 (by omega);have h3:i64.wrap ((k:Int)+1)=((k+1:Nat):Int):=by rw[IntWalk.i64_in _ (by omega)];omega
    have hx:=Yor a1 k;have hp':fndB a0 a1 k=true:=hp;unfold fndB at hp';simp only[Q7]at hp';have hr:=Ziz hp'.1;have h4:decide (0<=bcF a1 k)=true:=Q3 hr.1;have hw:Zac a0 (bcF a1 k)=false:=by unfold Zac;rw[Zy1 h_a0 hr,hp'.2.1];rfl
    simp only[Zbr,h1,h0,h3,jB,Q9,Q1,Q2,hx.1,hx.2,Zs8,Yp7,h4,hw,hp'.1,hp'.2.2,jC]) (by
    have h1:decide ((n_a1:Int)<(n_a1:Int))=false:=Q4 (by omega);simp only[Zbr,h1,Q2]) (Ubb a0 n_a1 a1) (Yba a0 n_a1 a1) (some (.a (.b true),.none,true)) (some (.a (.b false),.none,true)) rfl (λk hk hp=>by
    refine⟨.more (false,(k:Int)),?_,rfl⟩;have h1:decide ((k:Int)<(n_a1:Int))=true:=Q3 (by omega);have h0:decide (0<=(k:Int))=true:=Q3 (by omega);have h3:i64.wrap ((k:Int)+1)=((k+1:Nat):Int):=by rw[IntWalk.i64_in _ (by omega)];omega
    have hx:=Yor a1 k;have hp':fndB a0 a1 k=false:=hp;unfold fndB at hp';cases x1:Zab (bcF a1 k) a0
    . simp only[Zbr,h1,h0,h3,jB,Q9,Q1,hx.1,Zs8,x1,jD]
    · have hr:=Ziz x1;have h4:decide (0<=bcF a1 k)=true:=Q3 hr.1;cases x2:Zaf (bcF a1 k) a0
      · have hw:Zac a0 (bcF a1 k)=true:=by
          unfold Zac;rw[Zy1 h_a0 hr,x2];rfl
        simp only[Zbr,h1,h0,h3,jB,Q9,Q1,Q2,hx.1,Zs8,h4,x1,hw,jC]
      · have hw:Zac a0 (bcF a1 k)=false:=by
          unfold Zac;rw[Zy1 h_a0 hr,x2];rfl
        rw[x1,x2]at hp';simp only[jE]at hp';simp only[Zbr,h1,h0,h3,jB,Q9,Q1,Q2,hx.1,hx.2,Zs8,Yp7,h4,x1,hw,hp',jC,jD])).trans ?_
  cases Ubb a0 n_a1 a1<;>rfl
def Zj8:Con:=λargs h=>match args,h with|[.g a0 37,.l 0],[.sl (.came b_a1) n_a1 a1 70]=>some (.a (.b ((okS a0&&(Ubb a0 n_a1 a1&&decide ((n_a1:Int)<=60))))),.none,true)|_,_=>none
theorem Zsg:EntX PZ 77:=Zaj (fn:=f77)
theorem Zzm:Uac (md F) PZ 77 Zj8:=(ansY (N:=18446744073709551616) (mKc (Zae Zhn) Zfe (mKc (Zae Zgz) Zd7 (mKc (Zae Zlf) Zie (mKc (Zae Yfp) Zyv mKn)))) f77 [([4,18],[])]).of (by
 intro ρ h w args vals r e hA hH hr;unfold Zj8 at hr;split at hr
 ·rename_i a0 b_a1 n_a1 a1;obtain⟨rfl,rfl,hg2⟩:=BQi hr;exact Zvb a0 b_a1 n_a1 a1 (hA.wt 0 rfl) (hH.slw 0 rfl) hg2
 ·cases hr)
def vf(S:Array Value)(n:Nat)(a:Array Value):Bool:=(okS S&&(Ubb S n a&&decide ((n:Int)<=60)))
theorem Ud6{S a:Array Value}{n:Nat}(h:vf S n a=true):okS S=true/\n<=60/\∀k,k<n->fndB S a k=true:=by unfold vf at h;simp only[Q7,decide_eq_true_eq]at h;exact⟨h.1,by omega,(Yba S n a).1 h.2.1⟩
theorem fnd_of{S a:Array Value}{k:Nat}(h:fndB S a k=true):Zab (bcF a k) S=true/\Zaf (bcF a k) S=true/\Zaa (hcF a k) 1 14=true:=by unfold fndB at h;simp only[Q7]at h;exact h
theorem Zte{C:Array Value}(h:WT PZ 70 C):C.size=2/\i64.wrap (num C 0)=num C 0/\i64.wrap (num C 1)=num C 1/\bcF C 0=num C 0/\hcF C 0=num C 1:=by have h0:=(h.int (o:=0) (k:=.i8) (by kernel_rfl)).2;have h1:=(h.int (o:=1) (k:=.i8) (by kernel_rfl)).2;have m8:IntKind.i8.min=-128/\IntKind.i8.max=127:=⟨rfl,rfl⟩;rw[m8.1,m8.2]at h0 h1;have e0:i64.wrap (num C 0)=num C 0:=w64 (by omega);have e1:i64.wrap (num C 1)=num C 1:=w64 (by omega);exact⟨by rw[h.layLen];kernel_rfl,e0,e1,e0,e1⟩
def prtV(a0 a1:Array Value):Int:=(num (subV (a0.extract ((num a1 1).toNat*36) ((num a1 1).toNat*36+36)) (a0.extract (((num a1 1).toNat - 1)*36) (((num a1 1).toNat - 1)*36+36)) 12) (num a1 0).toNat)
theorem Zs7(N:Nat)(a1:Array Value)(b_a0:Option (Option Addr))(n_a0:Nat)(a0:Array Value):ansV PZ (mkΓ [(108,con Zf4)]) N f88 [] [.l 0,.g a1 70] [.sl (.came b_a0) n_a0 a0 105]=(bif ((decide (0<=(i64.wrap ((i64.wrap (num a1 1)) - (1:Int))))&&decide ((i64.wrap ((i64.wrap (num a1 1)) - (1:Int)))<=(i64.wrap (num a1 1))))&&(decide ((i64.wrap (num a1 1))<=(i64.wrap ((i64.wrap (num a1 1)) - (1:Int)))+14)&&decide ((i64.wrap (num a1 1))<(n_a0:Int)))) then (bif (decide (0<=(num a1 0))&&decide ((num a1 0)<36)) then (some (.a (.i .i64 (num (subV (a0.extract ((i64.wrap (num a1 1)).toNat*36) ((i64.wrap (num a1 1)).toNat*36+36)) (a0.extract ((i64.wrap ((i64.wrap (num a1 1)) - (1:Int))).toNat*36) ((i64.wrap ((i64.wrap (num a1 1)) - (1:Int))).toNat*36+36)) (12^((i64.wrap (num a1 1)) - (i64.wrap ((i64.wrap (num a1 1)) - (1:Int)))).toNat)) ((num a1 0).toNat*1))),.none,true)) else (none)) else (none)):=by kernel_rfl
theorem Zr9(a1:Array Value)(b_a0:Option (Option Addr))(n_a0:Nat)(a0:Array Value)(h_a1:WT PZ 70 a1)(h_a0:a0.size=n_a0*(lay PZ 105).length/\(∀k,k<n_a0->WT PZ 105 (a0.extract (k*(lay PZ 105).length) (k*(lay PZ 105).length+(lay PZ 105).length)))/\n_a0<=9223372036854775807)(hg:((Zaa (num a1 1) 1 14&&(decide (num a1 1<(n_a0:Int))&&(decide (0<=num a1 0)&&decide (num a1 0<36)))))=true):ansV PZ (mkΓ [(108,con Zf4)]) 1000 f88 [] [.l 0,.g a1 70] [.sl (.came b_a0) n_a0 a0 105]=some (.a (.i .i64 (prtV a0 a1)),.none,true):=by
 obtain⟨z,e0,e1,_,_⟩:=Zte h_a1;rw[Q7,Q7]at hg;obtain⟨q3,q4,q5⟩:=hg;have r3:=Zj2 q3;have e2:i64.wrap (num a1 1 - 1)=num a1 1 - 1:=w64 (by omega);have e3:(num a1 1 - (num a1 1 - 1)).toNat=1:=by omega
 have e4:(num a1 1 - 1).toNat=(num a1 1).toNat - 1:=by omega
 have e5:(12:Int)^1=12:=by decide
 have g1:decide (0<=num a1 1 - 1)=true:=Q3 (by omega);have g2:decide (num a1 1 - 1<=num a1 1)=true:=Q3 (by omega);have g3:decide (num a1 1<=num a1 1 - 1+14)=true:=Q3 (by omega);refine(Zs7 1000 a1 b_a0 n_a0 a0).trans ?_;unfold prtV;simp only[e1,e2,e3,e4,e5,g1,g2,g3,q4,q5,jB,Q1,Nat.mul_one]
def Ziw:Con:=λargs h=>match args,h with|[.l 0,.g a1 70],[.sl (.came b_a0) n_a0 a0 105]=>some (.a (.i .i64 (prtV a0 a1)),.none,(Zaa (num a1 1) 1 14&&(decide (num a1 1<(n_a0:Int))&&(decide (0<=num a1 0)&&decide (num a1 0<36)))))|_,_=>none
theorem Zrd:EntX PZ 88:=Zaj (fn:=f88)
theorem Zvw:Uac (md F) PZ 88 Ziw:=(ansY (N:=1000) (mKc (Zae Zu0) Zrf mKn) f88 []).of (by
 intro ρ h w args vals r e hA hH hr;unfold Ziw at hr;split at hr
 ·rename_i a1 b_a0 n_a0 a0;obtain⟨rfl,rfl,hg2⟩:=BQi hr;exact Zr9 a1 b_a0 n_a0 a0 (hA.wt 1 rfl) (hH.slw 0 rfl) hg2
 ·cases hr)
theorem Zw4(N:Nat)(a0 a1:Array Value):ansV PZ (mkΓ []) N f78 [] [.g a0 37,.g a1 37] []=(bif ((num a0 0)==(num a1 0)) then (bif ((num a0 1)==(num a1 1)) then (some (.a (.b (((num a0 2)==(num a1 2)))),.none,true)) else (some (.a (.b false),.none,true))) else (some (.a (.b false),.none,true))):=by kernel_rfl
def Zbp(a0 a1:Array Value):Bool:=(bif ((num a0 0)==(num a1 0)) then (bif ((num a0 1)==(num a1 1)) then ((num a0 2)==(num a1 2)) else false) else false)
theorem Zv4(a0 a1:Array Value)(h_a0:WT PZ 37 a0)(h_a1:WT PZ 37 a1)(hg:(true)=true):ansV PZ (mkΓ []) 1000 f78 [] [.g a0 37,.g a1 37] []=some (.a (.b ((Zbp a0 a1))),.none,true):=by
 refine(Zw4 1000 a0 a1).trans ?_;unfold Zbp;revert hg;generalize (((num a0 0)==(num a1 0)))=b2;intro hg;cases b2
 ·skip
  first|rfl|exact(nomatch (hg:false=true))
 ·skip
  revert hg;generalize (((num a0 1)==(num a1 1)))=b4;intro hg;cases b4
  ·skip
   first|rfl|exact(nomatch (hg:false=true))
  ·skip
   first|rfl|exact(nomatch (hg:false=true))
def Zj5:Con:=λargs h=>match args,h with|[.g a0 37,.g a1 37],[]=>some (.a (.b ((Zbp a0 a1))),.none,true)|_,_=>none
theorem Zub:EntX PZ 78:=Zaj (fn:=f78)
theorem Zzp:Uac (md F) PZ 78 Zj5:=(ansY (N:=1000) mKn f78 []).of (by
 intro ρ h w args vals r e hA hH hr;unfold Zj5 at hr;split at hr
 ·rename_i a0 a1;obtain⟨rfl,rfl,hg2⟩:=BQi hr;exact Zv4 a0 a1 (hA.wt 0 rfl) (hA.wt 1 rfl) hg2
 ·cases hr)
theorem Ycp(N:Nat)(a0 a1:Array Value):ansV PZ (mkΓ []) N f91 [] [.w 0,.w 1] [.row a0 37,.row a1 37]=(bif ((num a0 0)==(num a1 0)) then (bif ((num a0 1)==(num a1 1)) then (some (.a (.b (((num a0 2)==(num a1 2)))),.none,true)) else (some (.a (.b false),.none,true))) else (some (.a (.b false),.none,true))):=by kernel_rfl
def Zah(a0 a1:Array Value):Bool:=(bif ((num a0 0)==(num a1 0)) then (bif ((num a0 1)==(num a1 1)) then ((num a0 2)==(num a1 2)) else false) else false)
theorem Zx8(a0 a1:Array Value)(h_a0:WT PZ 37 a0)(h_a1:WT PZ 37 a1)(hg:(true)=true):ansV PZ (mkΓ []) 1000 f91 [] [.w 0,.w 1] [.row a0 37,.row a1 37]=some (.a (.b ((Zah a0 a1))),.none,true):=by
 refine(Ycp 1000 a0 a1).trans ?_;unfold Zah;revert hg;generalize (((num a0 0)==(num a1 0)))=b2;intro hg;cases b2
 ·skip
  first|rfl|exact(nomatch (hg:false=true))
 ·skip
  revert hg;generalize (((num a0 1)==(num a1 1)))=b4;intro hg;cases b4
  ·skip
   first|rfl|exact(nomatch (hg:false=true))
  ·skip
   first|rfl|exact(nomatch (hg:false=true))
def Zl3:Con:=λargs h=>match args,h with|[.w 0,.w 1],[.row a0 37,.row a1 37]=>some (.a (.b ((Zah a0 a1))),.none,true)|_,_=>none
theorem Zxk:EntX PZ 91:=Zaj (fn:=f91)
theorem Ydf:Uac (md F) PZ 91 Zl3:=(ansY (N:=1000) mKn f91 []).of (by
 intro ρ h w args vals r e hA hH hr;unfold Zl3 at hr;split at hr
 ·rename_i a0 a1;obtain⟨rfl,rfl,hg2⟩:=BQi hr;exact Zx8 a0 a1 (hH.wt 0 rfl) (hH.wt 1 rfl) hg2
 ·cases hr)
def Zwb:Cons:=(mkΓ [(51,con Zj0),(91,con Zl3)])
theorem Yd5(N:Nat)(a0 a1:Array Value):ansV PZ Zwb N f65 [] [.w 0,.w 1] [.row a0 37,.row a1 37]=(bif (!((okS a0))) then (some (.a (.i .i64 1),.none,true)) else (bif (!((okS a1))) then (some (.a (.i .i64 1),.none,true)) else (bif (!((Zah a0 a1))) then (some (.a (.i .i64 4),.none,true)) else (some (.a (.i .i64 0),.none,true))))):=by kernel_rfl
def Zcj(a0 a1:Array Value):Int:=(bif (!((okS a0))) then (1:Int) else (bif (!((okS a1))) then (1:Int) else (bif (!((Zah a0 a1))) then (4:Int) else (0:Int))))
theorem Yco(a0 a1:Array Value)(h_a0:WT PZ 37 a0)(h_a1:WT PZ 37 a1)(hg:(true)=true):ansV PZ Zwb 1000 f65 [] [.w 0,.w 1] [.row a0 37,.row a1 37]=some (.a (.i .i64 (Zcj a0 a1)),.none,true):=by
 refine(Yd5 1000 a0 a1).trans ?_;unfold Zcj;revert hg;generalize ((!((okS a0))))=b2;intro hg;cases b2
 ·skip
  revert hg;generalize ((!((okS a1))))=b4;intro hg;cases b4
  ·skip
   revert hg;generalize ((!((Zah a0 a1))))=b6;intro hg;cases b6
   ·skip
    first|rfl|exact(nomatch (hg:false=true))
   ·skip
    first|rfl|exact(nomatch (hg:false=true))
  ·skip
   first|rfl|exact(nomatch (hg:false=true))
 ·skip
  first|rfl|exact(nomatch (hg:false=true))
def Zmx:Con:=λargs h=>match args,h with|[.w 0,.w 1],[.row a0 37,.row a1 37]=>some (.a (.i .i64 (Zcj a0 a1)),.none,true)|_,_=>none
theorem Zy6:EntX PZ 65:=Zaj (fn:=f65)
theorem Yf8:Uac (md F) PZ 65 Zmx:=(ansY (N:=1000) (mKc (Zae Zru) Zna (mKc (Zae Ydf) Zxk mKn)) f65 []).of (by
 intro ρ h w args vals r e hA hH hr;unfold Zmx at hr;split at hr
 ·rename_i a0 a1;obtain⟨rfl,rfl,hg2⟩:=BQi hr;exact Yco a0 a1 (hH.wt 0 rfl) (hH.wt 1 rfl) hg2
 ·cases hr)
def Za7:Cons:=(mkΓ [(77,con Zj8),(78,con Zj5)])
def Zef(b_a0:Option (Option Addr))(n_a0:Nat)(a0:Array Value)(b_a1:Option (Option Addr))(n_a1:Nat)(a1:Array Value):St:=(⟨.a (.l 0)::.a (.l 1)::.a (.u)::.a (.u)::.a (.i .i64 0)::us 4 (.a (.l 0)::.a (.i .i64 (n_a0:Int))::.a (.i .i64 0)::us 24 ([])),[.sl (.came b_a0) n_a0 a0 37,.sl (.came b_a1) n_a1 a1 70],[]⟩:St)
def Zfo:Int×Int->LS
 |(y0_4,y0_11)=>([.a (.i .i64 y0_4),.a (.i .i64 y0_11)],[])
def Zm0:(Stp (Int×Int) (Int×Int))->Exit×LS
 |.more t=>(.ret,Zfo t)
 |.done t=>((.exit 0),Zfo t)
def Zco(P:Program)(b_a0:Option (Option Addr))(n_a0:Nat)(a0:Array Value)(b_a1:Option (Option Addr))(n_a1:Nat)(a1:Array Value):Int×Int->Option (Stp (Int×Int) (Stp (Int×Int) (Int×Int)))
 |(y0_4,y0_11)=>bif decide (y0_11<(n_a0:Int)) then (bif (decide (0<=y0_11)&&decide (y0_11<(n_a0:Int))) then (bif (!((okS (a0.extract ((y0_11).toNat*363) (((y0_11).toNat*363)+363))&&(Ubb (a0.extract ((y0_11).toNat*363) (((y0_11).toNat*363)+363)) n_a1 a1&&decide ((n_a1:Int)<=60))))) then (some (.done (.more ((1:Int),y0_11)))) else (some (.more (y0_4,(i64.wrap (y0_11+(1:Int))))))) else (none)) else (some (.done (.done (y0_4,y0_11))))
noncomputable abbrev cKCuA55:=codeOf f55
theorem Ydj(N:Nat)(b_a0:Option (Option Addr))(n_a0:Nat)(a0:Array Value)(b_a1:Option (Option Addr))(n_a1:Nat)(a1:Array Value):∀t:Int×Int,Uah PZ Za7 N (cAt cKCuA55 [1,0,1,0,0]) (pAt (Uaa cKCuA55 [([4,11],[]),([4,25],[])]).1 [1,0,1,0]) [4,11] [] (Zef b_a0 n_a0 a0 b_a1 n_a1 a1) (Zfo t)=mapS Zfo Zm0 (Zco PZ b_a0 n_a0 a0 b_a1 n_a1 a1 t):=by
 rintro⟨y0_4,y0_11⟩
 conv=>rhs;simp only[Zco,Zao,Zam,Zan,Zap,Zfo,Zm0]
 kernel_rfl
def Zei(b_a0:Option (Option Addr))(n_a0:Nat)(a0:Array Value)(b_a1:Option (Option Addr))(n_a1:Nat)(a1:Array Value)(z0_4:Int)(z0_11:Int):St:=(⟨.a (.l 0)::.a (.l 1)::.a (.u)::.a (.u)::.a (.i .i64 z0_4)::.a (.u)::.a (.x)::.a (.u)::.a (.u)::.a (.l 0)::.a (.i .i64 (n_a0:Int))::.a (.i .i64 z0_11)::xs 8 (.a (.l 0)::.a (.i .i64 (n_a0:Int))::.a (.b (decide ((n_a0:Int) > (8:Int))))::.a (.l 0)::.a (.i .i64 (n_a0:Int))::.a (.i .i64 0)::us 10 ([])),[.sl (.came b_a0) n_a0 a0 37,.sl (.came b_a1) n_a1 a1 70],[]⟩:St)
def Zfx:Int×Int->LS
 |(y1_4,y1_25)=>([.a (.i .i64 y1_4),.a (.i .i64 y1_25)],[])
def Znc:(Stp (Int×Int) (Int×Int))->Exit×LS
 |.more t=>(.ret,Zfx t)
 |.done t=>((.exit 2),Zfx t)
def Zcm(P:Program)(b_a0:Option (Option Addr))(n_a0:Nat)(a0:Array Value)(b_a1:Option (Option Addr))(n_a1:Nat)(a1:Array Value)(z0_4:Int)(z0_11:Int):Int×Int->Option (Stp (Int×Int) (Stp (Int×Int) (Int×Int)))
 |(y1_4,y1_25)=>bif decide (y1_25<(n_a0:Int)) then (bif (decide (0<=y1_25)&&decide (y1_25<(n_a0:Int))) then (bif (decide (0<=(0:Int))&&decide ((0:Int)<(n_a0:Int))) then (bif (!((Zbp (a0.extract ((y1_25).toNat*363) (((y1_25).toNat*363)+363)) (a0.extract ((0:Int).toNat*363) (((0:Int).toNat*363)+363))))) then (some (.done (.more ((4:Int),y1_25)))) else (some (.more (y1_4,(i64.wrap (y1_25+(1:Int))))))) else (none)) else (none)) else (some (.done (.done (y1_4,y1_25))))
theorem Yd8(N:Nat)(b_a0:Option (Option Addr))(n_a0:Nat)(a0:Array Value)(b_a1:Option (Option Addr))(n_a1:Nat)(a1:Array Value)(z0_4:Int)(z0_11:Int):∀t:Int×Int,Uah PZ Za7 N (cAt cKCuA55 [1,1,1,0,1,0,0]) (pAt (Uaa cKCuA55 [([4,11],[]),([4,25],[])]).1 [1,1,1,0,1,0]) [4,25] [] (Zei b_a0 n_a0 a0 b_a1 n_a1 a1 z0_4 z0_11) (Zfx t)=mapS Zfx Znc (Zcm PZ b_a0 n_a0 a0 b_a1 n_a1 a1 z0_4 z0_11 t):=by
 rintro⟨y1_4,y1_25⟩
 conv=>rhs;simp only[Zcm,Zao,Zam,Zan,Zap,Zfx,Znc]
 kernel_rfl
def Zlj(P:Program)(N:Nat)(b_a0:Option (Option Addr))(n_a0:Nat)(a0:Array Value)(b_a1:Option (Option Addr))(n_a1:Nat)(a1:Array Value)(z0_4:Int)(z0_11:Int)(z1_4:Int)(z1_25:Int):Option (SV×Eff×Bool):=some (.a (.i .i64 z1_4),.none,true)
theorem Zt1(N:Nat)(b_a0:Option (Option Addr))(n_a0:Nat)(a0:Array Value)(b_a1:Option (Option Addr))(n_a1:Nat)(a1:Array Value)(z0_4:Int)(z0_11:Int)(z1_4:Int)(z1_25:Int):(Uad 2 (kSeq (veC PZ Za7 N (cAt cKCuA55 [1,1,1,1]) (pAt (Uaa cKCuA55 [([4,11],[]),([4,25],[])]).1 [1,1,1,1]) (SV×Eff×Bool)) (finK PZ [.sl (.came b_a0) n_a0 a0 37,.sl (.came b_a1) n_a1 a1 70] [.tmp 4]))) .ret (left (writes (cAt cKCuA55 [1,1,1,0,1,0,0])) [4,25] [] (Zei b_a0 n_a0 a0 b_a1 n_a1 a1 z0_4 z0_11) ([.a (.i .i64 z1_4),.a (.i .i64 z1_25)],[]))=Zlj PZ N b_a0 n_a0 a0 b_a1 n_a1 a1 z0_4 z0_11 z1_4 z1_25:=by kernel_rfl
def Zky(P:Program)(N:Nat)(b_a0:Option (Option Addr))(n_a0:Nat)(a0:Array Value)(b_a1:Option (Option Addr))(n_a1:Nat)(a1:Array Value)(z0_4:Int)(z0_11:Int)(z1_4:Int)(z1_25:Int):Option (SV×Eff×Bool):=some (.a (.i .i64 0),.none,true)
theorem Ztf(N:Nat)(b_a0:Option (Option Addr))(n_a0:Nat)(a0:Array Value)(b_a1:Option (Option Addr))(n_a1:Nat)(a1:Array Value)(z0_4:Int)(z0_11:Int)(z1_4:Int)(z1_25:Int):(Uad 2 (kSeq (veC PZ Za7 N (cAt cKCuA55 [1,1,1,1]) (pAt (Uaa cKCuA55 [([4,11],[]),([4,25],[])]).1 [1,1,1,1]) (SV×Eff×Bool)) (finK PZ [.sl (.came b_a0) n_a0 a0 37,.sl (.came b_a1) n_a1 a1 70] [.tmp 4]))) (.exit 2) (left (writes (cAt cKCuA55 [1,1,1,0,1,0,0])) [4,25] [] (Zei b_a0 n_a0 a0 b_a1 n_a1 a1 z0_4 z0_11) ([.a (.i .i64 z1_4),.a (.i .i64 z1_25)],[]))=Zky PZ N b_a0 n_a0 a0 b_a1 n_a1 a1 z0_4 z0_11 z1_4 z1_25:=by kernel_rfl
theorem Yc6(N:Nat)(b_a0:Option (Option Addr))(n_a0:Nat)(a0:Array Value)(b_a1:Option (Option Addr))(n_a1:Nat)(a1:Array Value)(z0_4:Int)(z0_11:Int):Uag (Uab (Uah PZ Za7 N (cAt cKCuA55 [1,1,1,0,1,0,0]) (pAt (Uaa cKCuA55 [([4,11],[]),([4,25],[])]).1 [1,1,1,0,1,0]) [4,25] [] (Zei b_a0 n_a0 a0 b_a1 n_a1 a1 z0_4 z0_11)) N ([.a (.i .i64 z0_4),.a (.i .i64 0)],[])) (λe s=>(Uad 2 (kSeq (veC PZ Za7 N (cAt cKCuA55 [1,1,1,1]) (pAt (Uaa cKCuA55 [([4,11],[]),([4,25],[])]).1 [1,1,1,1]) (SV×Eff×Bool)) (finK PZ [.sl (.came b_a0) n_a0 a0 37,.sl (.came b_a1) n_a1 a1 70] [.tmp 4]))) e (left (writes (cAt cKCuA55 [1,1,1,0,1,0,0])) [4,25] [] (Zei b_a0 n_a0 a0 b_a1 n_a1 a1 z0_4 z0_11) s))=Uai (Uab (Zcm PZ b_a0 n_a0 a0 b_a1 n_a1 a1 z0_4 z0_11) N (z0_4,(0:Int))) (st2 (λx=>Zlj PZ N b_a0 n_a0 a0 b_a1 n_a1 a1 z0_4 z0_11 x.1 x.2) (λx=>Zky PZ N b_a0 n_a0 a0 b_a1 n_a1 a1 z0_4 z0_11 x.1 x.2)):=by refine Zar Zfx Znc _ _ (Yd8 N b_a0 n_a0 a0 b_a1 n_a1 a1 z0_4 z0_11) N (z0_4,(0:Int)) _ _ ?_;intro x;cases x with|more x=>exact Zt1 N b_a0 n_a0 a0 b_a1 n_a1 a1 z0_4 z0_11 x.1 x.2|done x=>exact Ztf N b_a0 n_a0 a0 b_a1 n_a1 a1 z0_4 z0_11 x.1 x.2
def Zkq(P:Program)(N:Nat)(b_a0:Option (Option Addr))(n_a0:Nat)(a0:Array Value)(b_a1:Option (Option Addr))(n_a1:Nat)(a1:Array Value)(z0_4:Int)(z0_11:Int):Option (SV×Eff×Bool):=some (.a (.i .i64 z0_4),.none,true)
theorem Zsj(N:Nat)(b_a0:Option (Option Addr))(n_a0:Nat)(a0:Array Value)(b_a1:Option (Option Addr))(n_a1:Nat)(a1:Array Value)(z0_4:Int)(z0_11:Int):(Uad 0 (kSeq (veC PZ Za7 N (cAt cKCuA55 [1,1]) (pAt (Uaa cKCuA55 [([4,11],[]),([4,25],[])]).1 [1,1]) (SV×Eff×Bool)) (finK PZ [.sl (.came b_a0) n_a0 a0 37,.sl (.came b_a1) n_a1 a1 70] [.tmp 4]))) .ret (left (writes (cAt cKCuA55 [1,0,1,0,0])) [4,11] [] (Zef b_a0 n_a0 a0 b_a1 n_a1 a1) ([.a (.i .i64 z0_4),.a (.i .i64 z0_11)],[]))=Zkq PZ N b_a0 n_a0 a0 b_a1 n_a1 a1 z0_4 z0_11:=by kernel_rfl
def Zgg(P:Program)(N:Nat)(b_a0:Option (Option Addr))(n_a0:Nat)(a0:Array Value)(b_a1:Option (Option Addr))(n_a1:Nat)(a1:Array Value)(z0_4:Int)(z0_11:Int):Option (SV×Eff×Bool):=bif decide ((n_a0:Int) > (8:Int)) then (some (.a (.i .i64 3),.none,true)) else (Uai (Uab (Zcm P b_a0 n_a0 a0 b_a1 n_a1 a1 z0_4 z0_11) N (z0_4,(0:Int))) (st2 (λx=>Zlj P N b_a0 n_a0 a0 b_a1 n_a1 a1 z0_4 z0_11 x.1 x.2) (λx=>Zky P N b_a0 n_a0 a0 b_a1 n_a1 a1 z0_4 z0_11 x.1 x.2)))
theorem Zto(N:Nat)(b_a0:Option (Option Addr))(n_a0:Nat)(a0:Array Value)(b_a1:Option (Option Addr))(n_a1:Nat)(a1:Array Value)(z0_4:Int)(z0_11:Int):(Uad 0 (kSeq (veC PZ Za7 N (cAt cKCuA55 [1,1]) (pAt (Uaa cKCuA55 [([4,11],[]),([4,25],[])]).1 [1,1]) (SV×Eff×Bool)) (finK PZ [.sl (.came b_a0) n_a0 a0 37,.sl (.came b_a1) n_a1 a1 70] [.tmp 4]))) (.exit 0) (left (writes (cAt cKCuA55 [1,0,1,0,0])) [4,11] [] (Zef b_a0 n_a0 a0 b_a1 n_a1 a1) ([.a (.i .i64 z0_4),.a (.i .i64 z0_11)],[]))=Zgg PZ N b_a0 n_a0 a0 b_a1 n_a1 a1 z0_4 z0_11:=by
 conv=>rhs;simp only[<- Yc6 N b_a0 n_a0 a0 b_a1 n_a1 a1 z0_4 z0_11,Zgg]
 kernel_rfl
theorem Yei(N:Nat)(b_a0:Option (Option Addr))(n_a0:Nat)(a0:Array Value)(b_a1:Option (Option Addr))(n_a1:Nat)(a1:Array Value):Uag (Uab (Uah PZ Za7 N (cAt cKCuA55 [1,0,1,0,0]) (pAt (Uaa cKCuA55 [([4,11],[]),([4,25],[])]).1 [1,0,1,0]) [4,11] [] (Zef b_a0 n_a0 a0 b_a1 n_a1 a1)) N ([.a (.i .i64 0),.a (.i .i64 0)],[])) (λe s=>(Uad 0 (kSeq (veC PZ Za7 N (cAt cKCuA55 [1,1]) (pAt (Uaa cKCuA55 [([4,11],[]),([4,25],[])]).1 [1,1]) (SV×Eff×Bool)) (finK PZ [.sl (.came b_a0) n_a0 a0 37,.sl (.came b_a1) n_a1 a1 70] [.tmp 4]))) e (left (writes (cAt cKCuA55 [1,0,1,0,0])) [4,11] [] (Zef b_a0 n_a0 a0 b_a1 n_a1 a1) s))=Uai (Uab (Zco PZ b_a0 n_a0 a0 b_a1 n_a1 a1) N ((0:Int),(0:Int))) (st2 (λx=>Zkq PZ N b_a0 n_a0 a0 b_a1 n_a1 a1 x.1 x.2) (λx=>Zgg PZ N b_a0 n_a0 a0 b_a1 n_a1 a1 x.1 x.2)):=by refine Zar Zfo Zm0 _ _ (Ydj N b_a0 n_a0 a0 b_a1 n_a1 a1) N ((0:Int),(0:Int)) _ _ ?_;intro x;cases x with|more x=>exact Zsj N b_a0 n_a0 a0 b_a1 n_a1 a1 x.1 x.2|done x=>exact Zto N b_a0 n_a0 a0 b_a1 n_a1 a1 x.1 x.2
theorem Yct(N:Nat)(b_a0:Option (Option Addr))(n_a0:Nat)(a0:Array Value)(b_a1:Option (Option Addr))(n_a1:Nat)(a1:Array Value):ansV PZ Za7 N f55 [([4,11],[]),([4,25],[])] [.l 0,.l 1] [.sl (.came b_a0) n_a0 a0 37,.sl (.came b_a1) n_a1 a1 70]=(Uai (Uab (Zco PZ b_a0 n_a0 a0 b_a1 n_a1 a1) N ((0:Int),(0:Int))) (st2 (λx=>Zkq PZ N b_a0 n_a0 a0 b_a1 n_a1 a1 x.1 x.2) (λx=>Zgg PZ N b_a0 n_a0 a0 b_a1 n_a1 a1 x.1 x.2))):=by
 conv=>rhs;simp only[<- Yei N b_a0 n_a0 a0 b_a1 n_a1 a1]
 kernel_rfl
def badM(a:Array Value)(n:Nat)(D:Array Value)(k:Nat):Bool:= !(vf (a.extract (k*363) (k*363+363)) n D)
def offM(a:Array Value)(k:Nat):Bool:= !(Zbp (a.extract (k*363) (k*363+363)) (a.extract (0*363) (0*363+363)))
def Ua5(m:Nat)(a:Array Value)(n:Nat)(D:Array Value):Int:=bif ((List.range m).find? (badM a n D)).isSome then 1 else bif ((List.range m).find? (offM a)).isSome then 4 else 0
theorem Zz9(b_a0:Option (Option Addr))(n_a0:Nat)(a0:Array Value)(b_a1:Option (Option Addr))(n_a1:Nat)(a1:Array Value)(h_a0:a0.size=n_a0*(lay PZ 37).length/\(∀k,k<n_a0->WT PZ 37 (a0.extract (k*(lay PZ 37).length) (k*(lay PZ 37).length+(lay PZ 37).length)))/\n_a0<=9223372036854775807)(h_a1:a1.size=n_a1*(lay PZ 70).length/\(∀k,k<n_a1->WT PZ 70 (a1.extract (k*(lay PZ 70).length) (k*(lay PZ 70).length+(lay PZ 70).length)))/\n_a1<=9223372036854775807)(hg:(jA n_a0 8)=true):ansV PZ Za7 1000 f55 [([4,11],[]),([4,25],[])] [.l 0,.l 1] [.sl (.came b_a0) n_a0 a0 37,.sl (.came b_a1) n_a1 a1 70]=some (.a (.i .i64 (Ua5 n_a0 a0 n_a1 a1)),.none,true):=by
 have hn:n_a0<=8:=jG hg;refine(Yct 1000 b_a0 n_a0 a0 b_a1 n_a1 a1).trans ?_;have w1:∀k:Nat,k<n_a0->i64.wrap ((k:Int)+1)=((k+1:Nat):Int):=λk hk=>by rw[w64 (by omega)];omega
 have l0:=Zor (g:=Zco PZ b_a0 n_a0 a0 b_a1 n_a1 a1) (λk=>((0:Int),(k:Int))) (badM a0 n_a1 a1) n_a0 (N:=1000) (xd:=.done ((0:Int),(n_a0:Int))) (by omega) (λk=>.more ((1:Int),(k:Int))) (λk hk hp=>by
  have h1:decide ((k:Int)<(n_a0:Int))=true:=Q3 (by omega);have h2:decide (0<=(k:Int))=true:=Q3 (by omega);unfold badM vf at hp;simp only[Zco,h1,h2,w1 k hk,Q9,hp,jB,Q1,Q2]) (λk hk hp=>by
  have h1:decide ((k:Int)<(n_a0:Int))=true:=Q3 (by omega);have h2:decide (0<=(k:Int))=true:=Q3 (by omega);unfold badM vf at hp;simp only[Zco,h1,h2,Q9,hp,jB,Q1,Q2]) (by
  have h1:decide ((n_a0:Int)<(n_a0:Int))=false:=Q4 (by omega);simp only[Zco,h1,Q2])
 have l0':Uab (Zco PZ b_a0 n_a0 a0 b_a1 n_a1 a1) 1000 ((0:Int),(0:Int))=some (match (List.range n_a0).find? (badM a0 n_a1 a1) with|some k=>.more ((1:Int),(k:Int))|none=>.done ((0:Int),(n_a0:Int))):=l0;rw[l0'];unfold Ua5;cases hb:(List.range n_a0).find? (badM a0 n_a1 a1) with
 |some k=>rfl
 | none=>
  have h8:decide ((n_a0:Int) > (8:Int))=false:=Q4 (by omega);simp only[Uai,st2,Zgg,h8,Q2,Option.isSome_none];have l1:=Zor (g:=Zcm PZ b_a0 n_a0 a0 b_a1 n_a1 a1 0 (n_a0:Int)) (λk=>((0:Int),(k:Int))) (offM a0) n_a0 (N:=1000) (xd:=.done ((0:Int),(n_a0:Int))) (by omega) (λk=>.more ((4:Int),(k:Int))) (λk hk hp=>by
   have h1:decide ((k:Int)<(n_a0:Int))=true:=Q3 (by omega);have h2:decide (0<=(k:Int))=true:=Q3 (by omega);have h3:decide ((0:Int)<(n_a0:Int))=true:=Q3 (by omega);have h4:decide ((0:Int)<=0)=true:=rfl;unfold offM at hp;simp only[Zcm,h1,h2,h3,h4,w1 k hk,Q9,Int.toNat_zero,hp,jB,Q1,Q2]) (λk hk hp=>by
   have h1:decide ((k:Int)<(n_a0:Int))=true:=Q3 (by omega);have h2:decide (0<=(k:Int))=true:=Q3 (by omega);have h3:decide ((0:Int)<(n_a0:Int))=true:=Q3 (by omega);have h4:decide ((0:Int)<=0)=true:=rfl;unfold offM at hp;simp only[Zcm,h1,h2,h3,h4,Q9,Int.toNat_zero,hp,jB,Q1,Q2]) (by
   have h1:decide ((n_a0:Int)<(n_a0:Int))=false:=Q4 (by omega);simp only[Zcm,h1,Q2])
  have l1':Uab (Zcm PZ b_a0 n_a0 a0 b_a1 n_a1 a1 0 (n_a0:Int)) 1000 ((0:Int),(0:Int))=some (match (List.range n_a0).find? (offM a0) with|some k=>.more ((4:Int),(k:Int))|none=>.done ((0:Int),(n_a0:Int))):=l1;rw[l1'];cases (List.range n_a0).find? (offM a0)<;>rfl
def Ze5:Con:=λargs h=>match args,h with|[.l 0,.l 1],[.sl (.came b_a0) n_a0 a0 37,.sl (.came b_a1) n_a1 a1 70]=>some (.a (.i .i64 (Ua5 n_a0 a0 n_a1 a1)),.none,jA n_a0 8)|_,_=>none
theorem Zhe:EntX PZ 55:=Zaj (fn:=f55)
theorem Zj4:Uac (md F) PZ 55 Ze5:=(ansY (N:=1000) (mKc (Zae Zzm) Zsg (mKc (Zae Zzp) Zub mKn)) f55 [([4,11],[]),([4,25],[])]).of (by
 intro ρ h w args vals r e hA hH hr;unfold Ze5 at hr;split at hr
 ·rename_i b_a0 n_a0 a0 b_a1 n_a1 a1;obtain⟨rfl,rfl,hg2⟩:=BQi hr;exact Zz9 b_a0 n_a0 a0 b_a1 n_a1 a1 (hH.slw 0 rfl) (hH.slw 1 rfl) hg2
 ·cases hr)
def Zjg:Cons:=(mkΓ [(55,con Ze5),(56,conG Zip),(57,conG Zh4)])
theorem Zn5(N:Nat)(a0:Array Value)(a1:Bool)(g_e0 g_e1 g_e2 g_e3 g_e4:Addr)(bQ:Option (Option Addr))(nQ:Nat)(aQ:Array Value)(b_a2:Option (Option Addr))(n_a2:Nat)(a2:Array Value):ansV PZ Zjg N f38 [] [.r a0 74 [(2,5)],.b a1,.l 6] [.gl 0 185 g_e0 101973,.gl 1 185 g_e1 93330,.gl 3 185 g_e2 124718,.gl 2 185 g_e3 112315,.gl 4 185 g_e4 94254,.sl (.came bQ) nQ aQ 70,.sl (.came b_a2) n_a2 a2 37]=(bif jA n_a2 8 then (bif ((Ua5 n_a2 a2 nQ aQ)==(0:Int)) then (bif decide ((n_a2:Int) > (0:Int)) then (bif (decide (0<=(0:Int))&&decide ((0:Int)<(n_a2:Int))) then (bif (okS (a2.extract ((0:Int).toNat*363) (((0:Int).toNat*363)+363))&&(rl (a2.extract ((0:Int).toNat*363) (((0:Int).toNat*363)+363)) (num a0 0) (num a0 1) a1&&(Zaf (num a0 0) (a2.extract ((0:Int).toNat*363) (((0:Int).toNat*363)+363))))) then (some (.a (.i .i64 4),.none,true)) else (none)) else (none)) else (some (.a (.i .i64 (Ua5 n_a2 a2 nQ aQ)),.none,true))) else (some (.a (.i .i64 (Ua5 n_a2 a2 nQ aQ)),.none,true))) else (none)):=by kernel_rfl
def Zjf:Cons:=(mkΓ [(55,con Ze5),(56,conG Zip),(57,conG Zh8)])
theorem Zn6(N:Nat)(a0:Array Value)(a1:Bool)(g_e0 g_e1 g_e2 g_e3 g_e4:Addr)(bQ:Option (Option Addr))(nQ:Nat)(aQ:Array Value)(b_a2:Option (Option Addr))(n_a2:Nat)(a2:Array Value):ansV PZ Zjf N f38 [] [.r a0 74 [(2,5)],.b a1,.l 6] [.gl 0 185 g_e0 101973,.gl 1 185 g_e1 93330,.gl 3 185 g_e2 124718,.gl 2 185 g_e3 112315,.gl 4 185 g_e4 94254,.sl (.came bQ) nQ aQ 70,.sl (.came b_a2) n_a2 a2 37]=(bif jA n_a2 8 then (bif ((Ua5 n_a2 a2 nQ aQ)==(0:Int)) then (bif decide ((n_a2:Int) > (0:Int)) then (bif (decide (0<=(0:Int))&&decide ((0:Int)<(n_a2:Int))) then (bif (okS (a2.extract ((0:Int).toNat*363) (((0:Int).toNat*363)+363))&&(rl (a2.extract ((0:Int).toNat*363) (((0:Int).toNat*363)+363)) (num a0 0) (num a0 1) a1&&((!(Zaf (num a0 0) (a2.extract ((0:Int).toNat*363) (((0:Int).toNat*363)+363))))))) then (some (.a (.i .i64 0),.none,true)) else (none)) else (none)) else (some (.a (.i .i64 (Ua5 n_a2 a2 nQ aQ)),.none,true))) else (some (.a (.i .i64 (Ua5 n_a2 a2 nQ aQ)),.none,true))) else (none)):=by kernel_rfl
def Zjh:Cons:=(mkΓ [(55,con Ze5),(56,conG Zip),(57,conG Zia)])
theorem Znz(N:Nat)(a0:Array Value)(a1:Bool)(g_e0 g_e1 g_e2 g_e3 g_e4:Addr)(bQ:Option (Option Addr))(nQ:Nat)(aQ:Array Value)(b_a2:Option (Option Addr))(n_a2:Nat)(a2:Array Value):ansV PZ Zjh N f38 [] [.r a0 74 [(2,5)],.b a1,.l 6] [.gl 0 185 g_e0 101973,.gl 1 185 g_e1 93330,.gl 3 185 g_e2 124718,.gl 2 185 g_e3 112315,.gl 4 185 g_e4 94254,.sl (.came bQ) nQ aQ 70,.sl (.came b_a2) n_a2 a2 37]=(bif jA n_a2 8 then (bif ((Ua5 n_a2 a2 nQ aQ)==(0:Int)) then (bif decide ((n_a2:Int) > (0:Int)) then (bif (decide (0<=(0:Int))&&decide ((0:Int)<(n_a2:Int))) then (bif (okS (a2.extract ((0:Int).toNat*363) (((0:Int).toNat*363)+363))&&((!(rl (a2.extract ((0:Int).toNat*363) (((0:Int).toNat*363)+363)) (num a0 0) (num a0 1) a1)))) then (some (.a (.i .i64 2),.none,true)) else (none)) else (none)) else (some (.a (.i .i64 (Ua5 n_a2 a2 nQ aQ)),.none,true))) else (some (.a (.i .i64 (Ua5 n_a2 a2 nQ aQ)),.none,true))) else (none)):=by kernel_rfl
def Zje:Cons:=(mkΓ [(55,con Ze5),(56,conG Zip),(57,conG Zh9)])
theorem Zoa(N:Nat)(a0:Array Value)(a1:Bool)(g_e0 g_e1 g_e2 g_e3 g_e4:Addr)(bQ:Option (Option Addr))(nQ:Nat)(aQ:Array Value)(b_a2:Option (Option Addr))(n_a2:Nat)(a2:Array Value):ansV PZ Zje N f38 [] [.r a0 74 [(2,5)],.b a1,.l 6] [.gl 0 185 g_e0 101973,.gl 1 185 g_e1 93330,.gl 3 185 g_e2 124718,.gl 2 185 g_e3 112315,.gl 4 185 g_e4 94254,.sl (.came bQ) nQ aQ 70,.sl (.came b_a2) n_a2 a2 37]=(bif jA n_a2 8 then (bif ((Ua5 n_a2 a2 nQ aQ)==(0:Int)) then (bif decide ((n_a2:Int) > (0:Int)) then (bif (decide (0<=(0:Int))&&decide ((0:Int)<(n_a2:Int))) then (bif (!(okS (a2.extract ((0:Int).toNat*363) (((0:Int).toNat*363)+363)))) then (some (.a (.i .i64 1),.none,true)) else (none)) else (none)) else (some (.a (.i .i64 (Ua5 n_a2 a2 nQ aQ)),.none,true))) else (some (.a (.i .i64 (Ua5 n_a2 a2 nQ aQ)),.none,true))) else (none)):=by kernel_rfl
theorem Zn1(a0:Array Value)(a1:Bool)(g_e0 g_e1 g_e2 g_e3 g_e4:Addr)(bQ:Option (Option Addr))(nQ:Nat)(aQ:Array Value)(b_a2:Option (Option Addr))(n_a2:Nat)(a2:Array Value)(h_a0:WT PZ 74 a0)(h_a0x2:aQ.size=nQ*(lay PZ 70).length/\(∀k,k<nQ->WT PZ 70 (aQ.extract (k*(lay PZ 70).length) (k*(lay PZ 70).length+(lay PZ 70).length)))/\nQ<=9223372036854775807)(h_a2:a2.size=n_a2*(lay PZ 37).length/\(∀k,k<n_a2->WT PZ 37 (a2.extract (k*(lay PZ 37).length) (k*(lay PZ 37).length+(lay PZ 37).length)))/\n_a2<=9223372036854775807)(hc0:(okS (a2.extract 0 363))=false)(hg:((jA 1 n_a2&&jA n_a2 8))=true):ansV PZ Zje 1000 f38 [] [.r a0 74 [(2,5)],.b a1,.l 6] [.gl 0 185 g_e0 101973,.gl 1 185 g_e1 93330,.gl 3 185 g_e2 124718,.gl 2 185 g_e3 112315,.gl 4 185 g_e4 94254,.sl (.came bQ) nQ aQ 70,.sl (.came b_a2) n_a2 a2 37]=some (.a (.i .i64 (bif (Ua5 n_a2 a2 nQ aQ==(0:Int)) then (1:Int) else Ua5 n_a2 a2 nQ aQ)),.none,true):=by
 rw[Q7]at hg;obtain⟨g1,g2⟩:=hg;have hn:=jG g1;refine(Zoa 1000 a0 a1 g_e0 g_e1 g_e2 g_e3 g_e4 bQ nQ aQ b_a2 n_a2 a2).trans ?_;have x0:a2.extract ((0:Int).toNat*363) ((0:Int).toNat*363+363)=(a2.extract 0 363):=rfl;have d2:decide ((n_a2:Int) > 0)=true:=Q3 (by omega);have d3:decide ((0:Int)<(n_a2:Int))=true:=Q3 (by omega);have d4:decide ((0:Int)<=0)=true:=rfl;rw[x0,g2,d2]
 try rw[d3]
 rw[d4];cases hz:(Ua5 n_a2 a2 nQ aQ==(0:Int))<;>simp only[hc0,jB,Bool.and_true,jE,jD,jC,Q1,Q2]
theorem Zn4(a0:Array Value)(a1:Bool)(g_e0 g_e1 g_e2 g_e3 g_e4:Addr)(bQ:Option (Option Addr))(nQ:Nat)(aQ:Array Value)(b_a2:Option (Option Addr))(n_a2:Nat)(a2:Array Value)(h_a0:WT PZ 74 a0)(h_a0x2:aQ.size=nQ*(lay PZ 70).length/\(∀k,k<nQ->WT PZ 70 (aQ.extract (k*(lay PZ 70).length) (k*(lay PZ 70).length+(lay PZ 70).length)))/\nQ<=9223372036854775807)(h_a2:a2.size=n_a2*(lay PZ 37).length/\(∀k,k<n_a2->WT PZ 37 (a2.extract (k*(lay PZ 37).length) (k*(lay PZ 37).length+(lay PZ 37).length)))/\n_a2<=9223372036854775807)(hc0:(okS (a2.extract 0 363))=true)(hc1:(rl (a2.extract 0 363) (num a0 0) (num a0 1) a1)=false)(hg:((jA 1 n_a2&&jA n_a2 8))=true):ansV PZ Zjh 1000 f38 [] [.r a0 74 [(2,5)],.b a1,.l 6] [.gl 0 185 g_e0 101973,.gl 1 185 g_e1 93330,.gl 3 185 g_e2 124718,.gl 2 185 g_e3 112315,.gl 4 185 g_e4 94254,.sl (.came bQ) nQ aQ 70,.sl (.came b_a2) n_a2 a2 37]=some (.a (.i .i64 (bif (Ua5 n_a2 a2 nQ aQ==(0:Int)) then (2:Int) else Ua5 n_a2 a2 nQ aQ)),.none,true):=by
 rw[Q7]at hg;obtain⟨g1,g2⟩:=hg;have hn:=jG g1;refine(Znz 1000 a0 a1 g_e0 g_e1 g_e2 g_e3 g_e4 bQ nQ aQ b_a2 n_a2 a2).trans ?_;have x0:a2.extract ((0:Int).toNat*363) ((0:Int).toNat*363+363)=(a2.extract 0 363):=rfl;have d2:decide ((n_a2:Int) > 0)=true:=Q3 (by omega);have d3:decide ((0:Int)<(n_a2:Int))=true:=Q3 (by omega);have d4:decide ((0:Int)<=0)=true:=rfl;rw[x0,g2,d2]
 try rw[d3]
 rw[d4];cases hz:(Ua5 n_a2 a2 nQ aQ==(0:Int))<;>simp only[hc0,hc1,jB,Bool.and_true,jE,jD,jC,Q1,Q2]
theorem Znx(a0:Array Value)(a1:Bool)(g_e0 g_e1 g_e2 g_e3 g_e4:Addr)(bQ:Option (Option Addr))(nQ:Nat)(aQ:Array Value)(b_a2:Option (Option Addr))(n_a2:Nat)(a2:Array Value)(h_a0:WT PZ 74 a0)(h_a0x2:aQ.size=nQ*(lay PZ 70).length/\(∀k,k<nQ->WT PZ 70 (aQ.extract (k*(lay PZ 70).length) (k*(lay PZ 70).length+(lay PZ 70).length)))/\nQ<=9223372036854775807)(h_a2:a2.size=n_a2*(lay PZ 37).length/\(∀k,k<n_a2->WT PZ 37 (a2.extract (k*(lay PZ 37).length) (k*(lay PZ 37).length+(lay PZ 37).length)))/\n_a2<=9223372036854775807)(hc0:(okS (a2.extract 0 363))=true)(hc1:(rl (a2.extract 0 363) (num a0 0) (num a0 1) a1)=true)(hc2:(Zaf (num a0 0) (a2.extract 0 363))=false)(hg:((jA 1 n_a2&&jA n_a2 8))=true):ansV PZ Zjf 1000 f38 [] [.r a0 74 [(2,5)],.b a1,.l 6] [.gl 0 185 g_e0 101973,.gl 1 185 g_e1 93330,.gl 3 185 g_e2 124718,.gl 2 185 g_e3 112315,.gl 4 185 g_e4 94254,.sl (.came bQ) nQ aQ 70,.sl (.came b_a2) n_a2 a2 37]=some (.a (.i .i64 (bif (Ua5 n_a2 a2 nQ aQ==(0:Int)) then (0:Int) else Ua5 n_a2 a2 nQ aQ)),.none,true):=by
 rw[Q7]at hg;obtain⟨g1,g2⟩:=hg;have hn:=jG g1;refine(Zn6 1000 a0 a1 g_e0 g_e1 g_e2 g_e3 g_e4 bQ nQ aQ b_a2 n_a2 a2).trans ?_;have x0:a2.extract ((0:Int).toNat*363) ((0:Int).toNat*363+363)=(a2.extract 0 363):=rfl;have d2:decide ((n_a2:Int) > 0)=true:=Q3 (by omega);have d3:decide ((0:Int)<(n_a2:Int))=true:=Q3 (by omega);have d4:decide ((0:Int)<=0)=true:=rfl;rw[x0,g2,d2]
 try rw[d3]
 rw[d4];cases hz:(Ua5 n_a2 a2 nQ aQ==(0:Int))<;>simp only[hc0,hc1,hc2,jB,Bool.and_true,jE,jD,jC,Q1,Q2]
theorem Zob(a0:Array Value)(a1:Bool)(g_e0 g_e1 g_e2 g_e3 g_e4:Addr)(bQ:Option (Option Addr))(nQ:Nat)(aQ:Array Value)(b_a2:Option (Option Addr))(n_a2:Nat)(a2:Array Value)(h_a0:WT PZ 74 a0)(h_a0x2:aQ.size=nQ*(lay PZ 70).length/\(∀k,k<nQ->WT PZ 70 (aQ.extract (k*(lay PZ 70).length) (k*(lay PZ 70).length+(lay PZ 70).length)))/\nQ<=9223372036854775807)(h_a2:a2.size=n_a2*(lay PZ 37).length/\(∀k,k<n_a2->WT PZ 37 (a2.extract (k*(lay PZ 37).length) (k*(lay PZ 37).length+(lay PZ 37).length)))/\n_a2<=9223372036854775807)(hc0:(okS (a2.extract 0 363))=true)(hc1:(rl (a2.extract 0 363) (num a0 0) (num a0 1) a1)=true)(hc2:(Zaf (num a0 0) (a2.extract 0 363))=true)(hg:((jA 1 n_a2&&jA n_a2 8))=true):ansV PZ Zjg 1000 f38 [] [.r a0 74 [(2,5)],.b a1,.l 6] [.gl 0 185 g_e0 101973,.gl 1 185 g_e1 93330,.gl 3 185 g_e2 124718,.gl 2 185 g_e3 112315,.gl 4 185 g_e4 94254,.sl (.came bQ) nQ aQ 70,.sl (.came b_a2) n_a2 a2 37]=some (.a (.i .i64 (bif (Ua5 n_a2 a2 nQ aQ==(0:Int)) then (4:Int) else Ua5 n_a2 a2 nQ aQ)),.none,true):=by
 rw[Q7]at hg;obtain⟨g1,g2⟩:=hg;have hn:=jG g1;refine(Zn5 1000 a0 a1 g_e0 g_e1 g_e2 g_e3 g_e4 bQ nQ aQ b_a2 n_a2 a2).trans ?_;have x0:a2.extract ((0:Int).toNat*363) ((0:Int).toNat*363+363)=(a2.extract 0 363):=rfl;have d2:decide ((n_a2:Int) > 0)=true:=Q3 (by omega);have d3:decide ((0:Int)<(n_a2:Int))=true:=Q3 (by omega);have d4:decide ((0:Int)<=0)=true:=rfl;rw[x0,g2,d2]
 try rw[d3]
 rw[d4];cases hz:(Ua5 n_a2 a2 nQ aQ==(0:Int))<;>simp only[hc0,hc1,hc2,jB,Bool.and_true,jE,jD,jC,Q1,Q2]
def Zc4:SCon:=λargs h=>match args,h with|[.r a0 74 [(2,5)],.b a1,.l 6],[.gl 0 185 g_e0 101973,.gl 1 185 g_e1 93330,.gl 3 185 g_e2 124718,.gl 2 185 g_e3 112315,.gl 4 185 g_e4 94254,.sl (.came bQ) nQ aQ 70,.sl (.came b_a2) n_a2 a2 37]=>.two (okS (a2.extract 0 363)) (.two (rl (a2.extract 0 363) (num a0 0) (num a0 1) a1) (.two (Zaf (num a0 0) (a2.extract 0 363)) (.one (some (.a (.i .i64 (bif (Ua5 n_a2 a2 nQ aQ==(0:Int)) then (4:Int) else Ua5 n_a2 a2 nQ aQ)),.none,(jA 1 n_a2&&jA n_a2 8)))) (.one (some (.a (.i .i64 (bif (Ua5 n_a2 a2 nQ aQ==(0:Int)) then (0:Int) else Ua5 n_a2 a2 nQ aQ)),.none,(jA 1 n_a2&&jA n_a2 8))))) (.one (some (.a (.i .i64 (bif (Ua5 n_a2 a2 nQ aQ==(0:Int)) then (2:Int) else Ua5 n_a2 a2 nQ aQ)),.none,(jA 1 n_a2&&jA n_a2 8))))) (.one (some (.a (.i .i64 (bif (Ua5 n_a2 a2 nQ aQ==(0:Int)) then (1:Int) else Ua5 n_a2 a2 nQ aQ)),.none,(jA 1 n_a2&&jA n_a2 8))))|_,_=>.one none
theorem Zn2:EntX PZ 38:=Zaj (fn:=f38)
theorem Zpl:Uac (md F) PZ 38 (λargs h=>Uat (Zc4 args h)):=by
 intro ρ h w args vals r e hn hr hA hH;dsimp only at hr;unfold Zc4 at hr;split at hr
 ·rename_i a0 a1 g_e0 g_e1 g_e2 g_e3 g_e4 bQ nQ aQ b_a2 n_a2 a2;simp only[Uat]at hr;cases hc0:(okS (a2.extract 0 363))
  ·rw[hc0]at hr;simp only[Uat,Q1,Q2]at hr;obtain⟨rfl,rfl,hg2⟩:=BQi hr;exact((ansY (N:=1000) (mKc (Zae Zj4) Zhe (mKc (Zle Zmn) Zja (mKc (Zle Ztp) Zeq mKn))) f38 [])) ρ _ w _ vals _ _ hn ((Zn1 a0 a1 g_e0 g_e1 g_e2 g_e3 g_e4 bQ nQ aQ b_a2 n_a2 a2 (hA.wtr 0 rfl) (hH.slw 5 rfl) (hH.slw 6 rfl) hc0 hg2)) hA hH
  ·rw[hc0]at hr;simp only[Uat,Q1,Q2]at hr;cases hc1:(rl (a2.extract 0 363) (num a0 0) (num a0 1) a1)
   ·rw[hc1]at hr;simp only[Uat,Q1,Q2]at hr;obtain⟨rfl,rfl,hg2⟩:=BQi hr;exact((ansY (N:=1000) (mKc (Zae Zj4) Zhe (mKc (Zle Zmn) Zja (mKc (Zle Ztv) Zeq mKn))) f38 [])) ρ _ w _ vals _ _ hn ((Zn4 a0 a1 g_e0 g_e1 g_e2 g_e3 g_e4 bQ nQ aQ b_a2 n_a2 a2 (hA.wtr 0 rfl) (hH.slw 5 rfl) (hH.slw 6 rfl) hc0 hc1 hg2)) hA hH
   ·rw[hc1]at hr;simp only[Uat,Q1,Q2]at hr;cases hc2:(Zaf (num a0 0) (a2.extract 0 363))
    ·rw[hc2]at hr;simp only[Uat,Q1,Q2]at hr;obtain⟨rfl,rfl,hg2⟩:=BQi hr;exact((ansY (N:=1000) (mKc (Zae Zj4) Zhe (mKc (Zle Zmn) Zja (mKc (Zle Ztm) Zeq mKn))) f38 [])) ρ _ w _ vals _ _ hn ((Znx a0 a1 g_e0 g_e1 g_e2 g_e3 g_e4 bQ nQ aQ b_a2 n_a2 a2 (hA.wtr 0 rfl) (hH.slw 5 rfl) (hH.slw 6 rfl) hc0 hc1 hc2 hg2)) hA hH
    ·rw[hc2]at hr;simp only[Uat,Q1,Q2]at hr;obtain⟨rfl,rfl,hg2⟩:=BQi hr;exact((ansY (N:=1000) (mKc (Zae Zj4) Zhe (mKc (Zle Zmn) Zja (mKc (Zle Zt3) Zeq mKn))) f38 [])) ρ _ w _ vals _ _ hn ((Zob a0 a1 g_e0 g_e1 g_e2 g_e3 g_e4 bQ nQ aQ b_a2 n_a2 a2 (hA.wtr 0 rfl) (hH.slw 5 rfl) (hH.slw 6 rfl) hc0 hc1 hc2 hg2)) hA hH
 ·simp only[Uat]at hr;cases hr
def Ugk(m:Nat)(a:Array Value)(n:Nat)(D:Array Value)(c b:Int)(f:Bool):Int:=bif (Ua5 m a n D==(0:Int)) then Zb3 c b f (a.extract 0 363) else Ua5 m a n D
def Zfk:Con:=λargs h=>match args,h with|[.r a0 74 [(2,5)],.b a1,.l 6],[.gl 0 185 g_e0 101973,.gl 1 185 g_e1 93330,.gl 3 185 g_e2 124718,.gl 2 185 g_e3 112315,.gl 4 185 g_e4 94254,.sl (.came bQ) nQ aQ 70,.sl (.came b_a2) n_a2 a2 37]=>some (.a (.i .i64 (Ugk n_a2 a2 nQ aQ (num a0 0) (num a0 1) a1)),.none,(jA 1 n_a2&&jA n_a2 8))|_,_=>none
theorem Zqb:Uac (md F) PZ 38 Zfk:=Uac.of Zpl (by
 intro ρ h w args vals r e hA hH hr;unfold Zfk at hr;split at hr
 ·rename_i a0 a1 g_e0 g_e1 g_e2 g_e3 g_e4 bQ nQ aQ b_a2 n_a2 a2;obtain⟨rfl,rfl,hg2⟩:=BQi hr
  show Uat (Zc4 _ _)=_
  unfold Zc4;simp only[Uat];rw[hg2];unfold Ugk;rw[Ys6];cases (okS (a2.extract 0 363))<;>cases (rl (a2.extract 0 363) (num a0 0) (num a0 1) a1)<;>cases (Zaf (num a0 0) (a2.extract 0 363))<;>simp only[Q1,Q2]
 ·cases hr)
theorem pair_ext{A C:Array Value}(hA:A.size=363)(hC:C.size=363):(spl (spl (repC (zc PZ 37) 2) 0 A.toList) 363 C.toList).extract 0 363=A/\(spl (spl (repC (zc PZ 37) 2) 0 A.toList) 363 C.toList).extract 363 726=C:=by
 have hz:(repC (zc PZ 37) 2).size=726:=by kernel_rfl
 have hl:A.toList.length=363:=by rw[Array.length_toList,hA]
 have hm:C.toList.length=363:=by rw[Array.length_toList,hC]
 constructor
 ·refine Array.ext_getElem? λi=> ?_
  rw[Array.getElem?_extract,Zhd _ _ _ (by rw[Zif,hz,hm];omega),Zhd _ _ _ (by rw[hz,hl];omega),Zif,Zif,hz,hl,hm]
  by_cases hi:i<363
  ·rw[if_pos (by omega),if_neg (by omega),if_pos (by omega)];simp
  ·rw[if_neg (by omega),jF (by omega)]
 ·refine Array.ext_getElem? λi=> ?_
  rw[Array.getElem?_extract,Zhd _ _ _ (by rw[Zif,hz,hm];omega),Zif,Zif,hz,hm]
  by_cases hi:i<363
  ·rw[if_pos (by omega),if_pos (by omega),show 363+i - 363=i by omega];simp
  ·rw[if_neg (by omega),jF (by omega)]
theorem Ypg(S:Array Value):Zbp S S=true:=by unfold Zbp;simp
theorem Zug{S:Array Value}(h:WT PZ 37 S):S.size=363:=by rw[h.layLen];kernel_rfl
end
end Go.Proofs.YtdfefaanfiheoaaGreatDoor
