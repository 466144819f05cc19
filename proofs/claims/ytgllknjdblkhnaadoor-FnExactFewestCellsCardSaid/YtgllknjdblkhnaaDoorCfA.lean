/- Does a set meet all others? -/
import Derived.Test.YtgllknjdblkhnaaDoorProg
import Derived.Test.YtgllknjdblkhnaaDoorCnA
set_option linter.unusedVariables false
set_option linter.unusedSimpArgs false
namespace Go.Proofs.YtgllknjdblkhnaaDoor
open Tryd (f48 f73 f74 f89)
open Go.ChangeShapes Go.WideShapes Go.ChangeAt Go.RowKit Ve Vc
open Tryd (prog)
set_option maxRecDepth 100000
noncomputable section
variable {mn:Md}
theorem Ztu(N:Nat)(a0:Int)(f0:Array Value):ansV prog (mkΓ []) N f74 [] [.i .u64 a0,.w 0] [.row f0 23]=(some (.a (.b (((IntKind.u64.wrap (BitVec.ofInt IntKind.u64.bits (num f0 0) &&& BitVec.ofInt IntKind.u64.bits a0).toNat)==(0:Int)))),.none,true)):=by kernel_rfl
theorem Zrf(a0:Int)(f0:Array Value)(h_a0:IntKind.u64.min<=a0/\a0<=IntKind.u64.max)(h_f0:WT prog 23 f0)(hg:(true)=true):ansV prog (mkΓ []) 1000 f74 [] [.i .u64 a0,.w 0] [.row f0 23]=some (.a (.b (((IntKind.u64.wrap (BitVec.ofInt IntKind.u64.bits (num f0 0) &&& BitVec.ofInt IntKind.u64.bits a0).toNat)==(0:Int)))),.none,true):=by refine(Ztu 1000 a0 f0).trans ?_;rfl
def Za2:Con:=λargs h=>match args,h with|[.i .u64 a0,.w 0],[.row f0 23]=>some (.a (.b (((IntKind.u64.wrap (BitVec.ofInt IntKind.u64.bits (num f0 0) &&& BitVec.ofInt IntKind.u64.bits a0).toNat)==(0:Int)))),.none,true)|_,_=>none
theorem Zkq:EntX prog 74:=Zao (fn:=f74)
theorem Zmq:Uad mn prog 74 Za2:=(ansY (N:=1000) mKn f74 []).of (by
 intro ρ h w args vals r e hA hH hr;unfold Za2 at hr;split at hr
 ·rename_i a0 f0;obtain⟨rfl,rfl,hg2⟩:=BQi hr;exact Zrf a0 f0 (hA.rng 0 rfl) (hH.wt 0 rfl) hg2
 ·cases hr)
def Zat(b_a0:Option (Option Addr))(n_a0:Nat)(a0:Array Value)(a1c0:Array Value):St:=(⟨.a (.l 0)::.a (.c 74 [1])::.a (.u)::.a (.u)::.a (.i .i64 0)::.a (.u)::.a (.l 0)::.a (.i .i64 (n_a0:Int))::.a (.i .i64 0)::us 10 ([]),[.sl (.came b_a0) n_a0 a0 23,.row a1c0 23],[]⟩:St)
def Zay:Int×Int->LS
 |(y0_4,y0_8)=>([.a (.i .i64 y0_4),.a (.i .i64 y0_8)],[])
def Zc6:(Stp (Int×Int) (Int×Int))->Exit×LS
 |.more t=>(.ret,Zay t)
 |.done t=>((.exit 0),Zay t)
def Zal(P:Program)(b_a0:Option (Option Addr))(n_a0:Nat)(a0:Array Value)(a1c0:Array Value):Int×Int->Option (Stp (Int×Int) (Stp (Int×Int) (Int×Int)))
 |(y0_4,y0_8)=>bif decide (y0_8<(n_a0:Int)) then (bif (decide (0<=y0_8)&&decide (y0_8<(n_a0:Int))) then (bif ((IntKind.u64.wrap (BitVec.ofInt IntKind.u64.bits (num a1c0 0) &&& BitVec.ofInt IntKind.u64.bits (num a0 ((y0_8).toNat*1))).toNat)==(0:Int)) then (some (.done (.more (y0_8,y0_8)))) else (some (.more (y0_4,(IntKind.i64.wrap (y0_8+(1:Int))))))) else (none)) else (some (.done (.done (y0_4,y0_8))))
noncomputable abbrev cKCfA89:=codeOf f89
theorem Zja(N:Nat)(b_a0:Option (Option Addr))(n_a0:Nat)(a0:Array Value)(a1c0:Array Value):∀t:Int×Int,Uao prog (mkΓ [(74,con Za2)]) N (cAt cKCfA89 [1,0,1,0,0]) (pAt (Uaa cKCfA89 [([4,8],[])]).1 [1,0,1,0]) [4,8] [] (Zat b_a0 n_a0 a0 a1c0) (Zay t)=mapS Zay Zc6 (Zal prog b_a0 n_a0 a0 a1c0 t):=by
 rintro⟨y0_4,y0_8⟩
 conv=>rhs;simp only[Zal,Za3,Za8,Za6,Za7,Zay,Zc6]
 kernel_rfl
def Zcv(P:Program)(N:Nat)(b_a0:Option (Option Addr))(n_a0:Nat)(a0:Array Value)(a1c0:Array Value)(z0_4:Int)(z0_8:Int):Option (SV×Eff×Bool):=some (.a (.i .i64 z0_4),.none,true)
theorem Zhk(N:Nat)(b_a0:Option (Option Addr))(n_a0:Nat)(a0:Array Value)(a1c0:Array Value)(z0_4:Int)(z0_8:Int):(Uac 0 (kSeq (veC prog (mkΓ [(74,con Za2)]) N (cAt cKCfA89 [1,1]) (pAt (Uaa cKCfA89 [([4,8],[])]).1 [1,1]) (SV×Eff×Bool)) (finK prog [.sl (.came b_a0) n_a0 a0 23,.row a1c0 23] [.tmp 4]))) .ret (left (writes (cAt cKCfA89 [1,0,1,0,0])) [4,8] [] (Zat b_a0 n_a0 a0 a1c0) ([.a (.i .i64 z0_4),.a (.i .i64 z0_8)],[]))=Zcv prog N b_a0 n_a0 a0 a1c0 z0_4 z0_8:=by kernel_rfl
def Zcu(P:Program)(N:Nat)(b_a0:Option (Option Addr))(n_a0:Nat)(a0:Array Value)(a1c0:Array Value)(z0_4:Int)(z0_8:Int):Option (SV×Eff×Bool):=some (.a (.i .i64 (-1:Int)),.none,true)
theorem Zhf(N:Nat)(b_a0:Option (Option Addr))(n_a0:Nat)(a0:Array Value)(a1c0:Array Value)(z0_4:Int)(z0_8:Int):(Uac 0 (kSeq (veC prog (mkΓ [(74,con Za2)]) N (cAt cKCfA89 [1,1]) (pAt (Uaa cKCfA89 [([4,8],[])]).1 [1,1]) (SV×Eff×Bool)) (finK prog [.sl (.came b_a0) n_a0 a0 23,.row a1c0 23] [.tmp 4]))) (.exit 0) (left (writes (cAt cKCfA89 [1,0,1,0,0])) [4,8] [] (Zat b_a0 n_a0 a0 a1c0) ([.a (.i .i64 z0_4),.a (.i .i64 z0_8)],[]))=Zcu prog N b_a0 n_a0 a0 a1c0 z0_4 z0_8:=by kernel_rfl
theorem Zjb(N:Nat)(b_a0:Option (Option Addr))(n_a0:Nat)(a0:Array Value)(a1c0:Array Value):Uaj (Uab (Uao prog (mkΓ [(74,con Za2)]) N (cAt cKCfA89 [1,0,1,0,0]) (pAt (Uaa cKCfA89 [([4,8],[])]).1 [1,0,1,0]) [4,8] [] (Zat b_a0 n_a0 a0 a1c0)) N ([.a (.i .i64 0),.a (.i .i64 0)],[])) (λe s=>(Uac 0 (kSeq (veC prog (mkΓ [(74,con Za2)]) N (cAt cKCfA89 [1,1]) (pAt (Uaa cKCfA89 [([4,8],[])]).1 [1,1]) (SV×Eff×Bool)) (finK prog [.sl (.came b_a0) n_a0 a0 23,.row a1c0 23] [.tmp 4]))) e (left (writes (cAt cKCfA89 [1,0,1,0,0])) [4,8] [] (Zat b_a0 n_a0 a0 a1c0) s))=Uas (Uab (Zal prog b_a0 n_a0 a0 a1c0) N ((0:Int),(0:Int))) (st2 (λx=>Zcv prog N b_a0 n_a0 a0 a1c0 x.1 x.2) (λx=>Zcu prog N b_a0 n_a0 a0 a1c0 x.1 x.2)):=by refine Zbe Zay Zc6 _ _ (Zja N b_a0 n_a0 a0 a1c0) N ((0:Int),(0:Int)) _ _ ?_;intro x;cases x with|more x=>exact Zhk N b_a0 n_a0 a0 a1c0 x.1 x.2|done x=>exact Zhf N b_a0 n_a0 a0 a1c0 x.1 x.2
theorem Ziq(N:Nat)(b_a0:Option (Option Addr))(n_a0:Nat)(a0:Array Value)(a1c0:Array Value):ansV prog (mkΓ [(74,con Za2)]) N f89 [([4,8],[])] [.l 0,.c 74 [1]] [.sl (.came b_a0) n_a0 a0 23,.row a1c0 23]=(Uas (Uab (Zal prog b_a0 n_a0 a0 a1c0) N ((0:Int),(0:Int))) (st2 (λx=>Zcv prog N b_a0 n_a0 a0 a1c0 x.1 x.2) (λx=>Zcu prog N b_a0 n_a0 a0 a1c0 x.1 x.2))):=by
 conv=>rhs;simp only[<- Zjb N b_a0 n_a0 a0 a1c0]
 kernel_rfl
def eqU(A X:Array Value)(k:Nat):Bool:=((IntKind.u64.wrap (BitVec.ofInt IntKind.u64.bits (num X 0) &&& BitVec.ofInt IntKind.u64.bits (num A (k*1))).toNat)==(0:Int))
def idxU(n:Nat)(A X:Array Value):Int:=match (List.range n).find? (eqU A X) with|some k=>(k:Int)|none=> -1
theorem Zih(b_a0:Option (Option Addr))(n_a0:Nat)(a0:Array Value)(a1c0:Array Value)(h_a0:a0.size=n_a0*(lay prog 23).length/\(∀k,k<n_a0->WT prog 23 (a0.extract (k*(lay prog 23).length) (k*(lay prog 23).length+(lay prog 23).length)))/\n_a0<=9223372036854775807)(h_a1c0:WT prog 23 a1c0)(hg:((Nat.ble n_a0 2000000))=true):ansV prog (mkΓ [(74,con Za2)]) 18446744073709551616 f89 [([4,8],[])] [.l 0,.c 74 [1]] [.sl (.came b_a0) n_a0 a0 23,.row a1c0 23]=some (.a (.i .i64 (idxU n_a0 a0 a1c0)),.none,true):=by
 have hn:n_a0<=2000000:=Nat.le_of_ble_eq_true hg;have h:=Zu4 (g:=Zal prog b_a0 n_a0 a0 a1c0) (λk=>((0:Int),(k:Int))) (eqU a0 a1c0) n_a0 (N:=18446744073709551616) (xd:=.done ((0:Int),(n_a0:Int))) (by omega) (λk=>.more ((k:Int),(k:Int))) (λk hk hp=>by
  have g1:decide ((k:Int)<(n_a0:Int))=true:=Q3 (by omega);have g0:decide (0<=(k:Int))=true:=Q3 (by omega);have g3:IntKind.i64.wrap ((k:Int)+1)=((k+1:Nat):Int):=by rw[IntWalk.i64_in _ (by omega)];omega
  have gp:((IntKind.u64.wrap (BitVec.ofInt IntKind.u64.bits (num a1c0 0) &&& BitVec.ofInt IntKind.u64.bits (num a0 (k*1))).toNat)==(0:Int))=false:=hp;simp only[Zal,g1,g0,g3,gp,Q9,Bool.and_self,Q1,Q2]) (λk hk hp=>by
  have g1:decide ((k:Int)<(n_a0:Int))=true:=Q3 (by omega);have g0:decide (0<=(k:Int))=true:=Q3 (by omega);have gp:((IntKind.u64.wrap (BitVec.ofInt IntKind.u64.bits (num a1c0 0) &&& BitVec.ofInt IntKind.u64.bits (num a0 (k*1))).toNat)==(0:Int))=true:=hp;simp only[Zal,g1,g0,gp,Q9,Bool.and_self,Q1]) (by
  have g1:decide ((n_a0:Int)<(n_a0:Int))=false:=Q4 (by omega);simp only[Zal,g1,Q2])
 refine(Ziq 18446744073709551616 b_a0 n_a0 a0 a1c0).trans ?_;rw[show Uab (Zal prog b_a0 n_a0 a0 a1c0) 18446744073709551616 ((0:Int),(0:Int))=_ from h];unfold idxU;cases (List.range n_a0).find? (eqU a0 a1c0)<;>rfl
def Zcz:Con:=λargs h=>match args,h with|[.l 0,.c 74 [1]],[.sl (.came b_a0) n_a0 a0 23,.row a1c0 23]=>some (.a (.i .i64 (idxU n_a0 a0 a1c0)),.none,(Nat.ble n_a0 2000000))|_,_=>none
theorem Zh6:EntX prog 89:=Zao (fn:=f89)
theorem Zjc:Uad mn prog 89 Zcz:=(ansY (N:=18446744073709551616) (mKc (Zai Zmq) Zkq mKn) f89 [([4,8],[])]).of (by
 intro ρ h w args vals r e hA hH hr;unfold Zcz at hr;split at hr
 ·rename_i b_a0 n_a0 a0 a1c0;obtain⟨rfl,rfl,hg2⟩:=BQi hr;exact Zih b_a0 n_a0 a0 a1c0 (hH.slw 0 rfl) (hH.wt 1 rfl) hg2
 ·cases hr)
def Zel:Cons:=(mkΓ [(74,con Za2),(89,con Zcz)])
theorem Zhr(N:Nat)(b_a0:Option (Option Addr))(n_a0:Nat)(a0:Array Value)(a1c0:Array Value):ansV prog Zel N f73 [] [.l 0,.c 74 [1]] [.sl (.came b_a0) n_a0 a0 23,.row a1c0 23]=(bif (Nat.ble n_a0 2000000) then (some (.a (.b (decide ((idxU n_a0 a0 a1c0)>=(0:Int)))),.none,true)) else (none)):=by kernel_rfl
def Zav(b_a0:Option (Option Addr))(n_a0:Nat)(a0:Array Value)(a1c0:Array Value):Bool:=decide ((idxU n_a0 a0 a1c0)>=(0:Int))
theorem Zg7(b_a0:Option (Option Addr))(n_a0:Nat)(a0:Array Value)(a1c0:Array Value)(h_a0:a0.size=n_a0*(lay prog 23).length/\(∀k,k<n_a0->WT prog 23 (a0.extract (k*(lay prog 23).length) (k*(lay prog 23).length+(lay prog 23).length)))/\n_a0<=9223372036854775807)(h_a1c0:WT prog 23 a1c0)(hg:((Nat.ble n_a0 2000000))=true):ansV prog Zel 1000 f73 [] [.l 0,.c 74 [1]] [.sl (.came b_a0) n_a0 a0 23,.row a1c0 23]=some (.a (.b ((Zav b_a0 n_a0 a0 a1c0))),.none,true):=by
 refine(Zhr 1000 b_a0 n_a0 a0 a1c0).trans ?_;unfold Zav;revert hg;generalize ((Nat.ble n_a0 2000000))=b2;intro hg;cases b2
 ·skip
  first|exact(nomatch (hg:false=true))|rfl
 ·skip
  first|rfl|exact(nomatch (hg:false=true))
def Zch:Con:=λargs h=>match args,h with|[.l 0,.c 74 [1]],[.sl (.came b_a0) n_a0 a0 23,.row a1c0 23]=>some (.a (.b ((Zav b_a0 n_a0 a0 a1c0))),.none,(Nat.ble n_a0 2000000))|_,_=>none
theorem Zg3:EntX prog 73:=Zao (fn:=f73)
theorem Zh7:Uad mn prog 73 Zch:=(ansY (N:=1000) (mKc (Zai Zmq) Zkq (mKc (Zai Zjc) Zh6 mKn)) f73 []).of (by
 intro ρ h w args vals r e hA hH hr;unfold Zch at hr;split at hr
 ·rename_i b_a0 n_a0 a0 a1c0;obtain⟨rfl,rfl,hg2⟩:=BQi hr;exact Zg7 b_a0 n_a0 a0 a1c0 (hH.slw 0 rfl) (hH.wt 1 rfl) hg2
 ·cases hr)
def Zpu:Cons:=(mkΓ [(73,con Zch)])
theorem Zwp(N:Nat)(a0:Int)(b_a1:Option (Option Addr))(n_a1:Nat)(a1:Array Value):ansV prog Zpu N f48 [] [.i .u64 a0,.l 0] [.sl (.came b_a1) n_a1 a1 23]=(bif (Nat.ble n_a1 2000000) then (some (.a (.b ((!((Zav b_a1 n_a1 a1 (#[.int .u64 a0]:Array Value)))))),.none,true)) else (none)):=by kernel_rfl
def Zbn(a0:Int)(b_a1:Option (Option Addr))(n_a1:Nat)(a1:Array Value):Bool:=(!((Zav b_a1 n_a1 a1 (#[.int .u64 a0]:Array Value))))
theorem Zvh(a0:Int)(b_a1:Option (Option Addr))(n_a1:Nat)(a1:Array Value)(h_a0:IntKind.u64.min<=a0/\a0<=IntKind.u64.max)(h_a1:a1.size=n_a1*(lay prog 23).length/\(∀k,k<n_a1->WT prog 23 (a1.extract (k*(lay prog 23).length) (k*(lay prog 23).length+(lay prog 23).length)))/\n_a1<=9223372036854775807)(hg:((Nat.ble n_a1 2000000))=true):ansV prog Zpu 1000 f48 [] [.i .u64 a0,.l 0] [.sl (.came b_a1) n_a1 a1 23]=some (.a (.b ((Zbn a0 b_a1 n_a1 a1))),.none,true):=by
 refine(Zwp 1000 a0 b_a1 n_a1 a1).trans ?_;unfold Zbn;revert hg;generalize ((Nat.ble n_a1 2000000))=b2;intro hg;cases b2
 ·skip
  first|exact(nomatch (hg:false=true))|rfl
 ·skip
  first|rfl|exact(nomatch (hg:false=true))
def Zj4:Con:=λargs h=>match args,h with|[.i .u64 a0,.l 0],[.sl (.came b_a1) n_a1 a1 23]=>some (.a (.b ((Zbn a0 b_a1 n_a1 a1))),.none,(Nat.ble n_a1 2000000))|_,_=>none
theorem Zi0:EntX prog 48:=Zao (fn:=f48)
theorem Zk4:Uad mn prog 48 Zj4:=(ansY (N:=1000) (mKc (Zai Zh7) Zg3 mKn) f48 []).of (by
 intro ρ h w args vals r e hA hH hr;unfold Zj4 at hr;split at hr
 ·rename_i a0 b_a1 n_a1 a1;obtain⟨rfl,rfl,hg2⟩:=BQi hr;exact Zvh a0 b_a1 n_a1 a1 (hA.rng 0 rfl) (hH.slw 0 rfl) hg2
 ·cases hr)
end
end Go.Proofs.YtgllknjdblkhnaaDoor
