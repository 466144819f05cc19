/- Does a set meet all others? -/
import Derived.Test.YtgllknjdblkhnaaGreatDoorProg
import Derived.Test.YtgllknjdblkhnaaGreatDoorCmG
set_option linter.unusedVariables false
set_option linter.unusedSimpArgs false
namespace Go.Proofs.YtgllknjdblkhnaaGreatDoor
open Tryz (f33 f55 f56 f72)
open Go.ChangeShapes Go.WideShapes Go.ChangeAt Go.RowKit Ve Vc
open Tryz renaming prog -> PZ
set_option maxRecDepth 100000
noncomputable section
variable {mn:Md}
theorem Zvw(N:Nat)(a0:Int)(f0:Array Value):ansV PZ (mkΓ []) N f56 [] [.i .u64 a0,.w 0] [.row f0 23]=(some (.a (.b (((IntKind.u64.wrap (BitVec.ofInt IntKind.u64.bits (num f0 0) &&& BitVec.ofInt IntKind.u64.bits a0).toNat)==(0:Int)))),.none,true)):=by kernel_rfl
theorem Zul(a0:Int)(f0:Array Value)(h_a0:IntKind.u64.min<=a0/\a0<=IntKind.u64.max)(h_f0:WT PZ 23 f0)(hg:(true)=true):ansV PZ (mkΓ []) 1000 f56 [] [.i .u64 a0,.w 0] [.row f0 23]=some (.a (.b (((IntKind.u64.wrap (BitVec.ofInt IntKind.u64.bits (num f0 0) &&& BitVec.ofInt IntKind.u64.bits a0).toNat)==(0:Int)))),.none,true):=by refine(Zvw 1000 a0 f0).trans ?_;rfl
def Za8:Con:=λargs h=>match args,h with|[.i .u64 a0,.w 0],[.row f0 23]=>some (.a (.b (((IntKind.u64.wrap (BitVec.ofInt IntKind.u64.bits (num f0 0) &&& BitVec.ofInt IntKind.u64.bits a0).toNat)==(0:Int)))),.none,true)|_,_=>none
theorem Zma:EntX PZ 56:=Zak (fn:=f56)
theorem Zof:Uac mn PZ 56 Za8:=(ansY (N:=1000) mKn f56 []).of (by
 intro ρ h w args vals r e hA hH hr;unfold Za8 at hr;split at hr
 ·rename_i a0 f0;obtain⟨rfl,rfl,hg2⟩:=BQi hr;exact Zul a0 f0 (hA.rng 0 rfl) (hH.wt 0 rfl) hg2
 ·cases hr)
def Zau(b_a0:Option (Option Addr))(n_a0:Nat)(a0:Array Value)(a1c0:Array Value):St:=(⟨.a (.l 0)::.a (.c 56 [1])::.a (.u)::.a (.u)::.a (.i .i64 0)::.a (.u)::.a (.l 0)::.a (.i .i64 (n_a0:Int))::.a (.i .i64 0)::us 10 ([]),[.sl (.came b_a0) n_a0 a0 23,.row a1c0 23],[]⟩:St)
def Za4:Int×Int->LS
 |(y0_4,y0_8)=>([.a (.i .i64 y0_4),.a (.i .i64 y0_8)],[])
def Zdf:(Stp (Int×Int) (Int×Int))->Exit×LS
 |.more t=>(.ret,Za4 t)
 |.done t=>((.exit 0),Za4 t)
def Zan(P:Program)(b_a0:Option (Option Addr))(n_a0:Nat)(a0:Array Value)(a1c0:Array Value):Int×Int->Option (Stp (Int×Int) (Stp (Int×Int) (Int×Int)))
 |(y0_4,y0_8)=>bif decide (y0_8<(n_a0:Int)) then (bif (decide (0<=y0_8)&&decide (y0_8<(n_a0:Int))) then (bif ((IntKind.u64.wrap (BitVec.ofInt IntKind.u64.bits (num a1c0 0) &&& BitVec.ofInt IntKind.u64.bits (num a0 ((y0_8).toNat*1))).toNat)==(0:Int)) then (some (.done (.more (y0_8,y0_8)))) else (some (.more (y0_4,(IntKind.i64.wrap (y0_8+(1:Int))))))) else (none)) else (some (.done (.done (y0_4,y0_8))))
noncomputable abbrev cKCfA72:=codeOf f72
theorem Zki(N:Nat)(b_a0:Option (Option Addr))(n_a0:Nat)(a0:Array Value)(a1c0:Array Value):∀t:Int×Int,Ual PZ (mkΓ [(56,con Za8)]) N (cAt cKCfA72 [1,0,1,0,0]) (pAt (Uaa cKCfA72 [([4,8],[])]).1 [1,0,1,0]) [4,8] [] (Zau b_a0 n_a0 a0 a1c0) (Za4 t)=mapS Za4 Zdf (Zan PZ b_a0 n_a0 a0 a1c0 t):=by
 rintro⟨y0_4,y0_8⟩
 conv=>rhs;simp only[Zan,Zax,Zay,Zaw,Zaz,Za4,Zdf]
 kernel_rfl
def Zc2(P:Program)(N:Nat)(b_a0:Option (Option Addr))(n_a0:Nat)(a0:Array Value)(a1c0:Array Value)(z0_4:Int)(z0_8:Int):Option (SV×Eff×Bool):=some (.a (.i .i64 z0_4),.none,true)
theorem Zik(N:Nat)(b_a0:Option (Option Addr))(n_a0:Nat)(a0:Array Value)(a1c0:Array Value)(z0_4:Int)(z0_8:Int):(Uad 0 (kSeq (veC PZ (mkΓ [(56,con Za8)]) N (cAt cKCfA72 [1,1]) (pAt (Uaa cKCfA72 [([4,8],[])]).1 [1,1]) (SV×Eff×Bool)) (finK PZ [.sl (.came b_a0) n_a0 a0 23,.row a1c0 23] [.tmp 4]))) .ret (left (writes (cAt cKCfA72 [1,0,1,0,0])) [4,8] [] (Zau b_a0 n_a0 a0 a1c0) ([.a (.i .i64 z0_4),.a (.i .i64 z0_8)],[]))=Zc2 PZ N b_a0 n_a0 a0 a1c0 z0_4 z0_8:=by kernel_rfl
def Zc3(P:Program)(N:Nat)(b_a0:Option (Option Addr))(n_a0:Nat)(a0:Array Value)(a1c0:Array Value)(z0_4:Int)(z0_8:Int):Option (SV×Eff×Bool):=some (.a (.i .i64 (-1:Int)),.none,true)
theorem Zih(N:Nat)(b_a0:Option (Option Addr))(n_a0:Nat)(a0:Array Value)(a1c0:Array Value)(z0_4:Int)(z0_8:Int):(Uad 0 (kSeq (veC PZ (mkΓ [(56,con Za8)]) N (cAt cKCfA72 [1,1]) (pAt (Uaa cKCfA72 [([4,8],[])]).1 [1,1]) (SV×Eff×Bool)) (finK PZ [.sl (.came b_a0) n_a0 a0 23,.row a1c0 23] [.tmp 4]))) (.exit 0) (left (writes (cAt cKCfA72 [1,0,1,0,0])) [4,8] [] (Zau b_a0 n_a0 a0 a1c0) ([.a (.i .i64 z0_4),.a (.i .i64 z0_8)],[]))=Zc3 PZ N b_a0 n_a0 a0 a1c0 z0_4 z0_8:=by kernel_rfl
theorem Zkk(N:Nat)(b_a0:Option (Option Addr))(n_a0:Nat)(a0:Array Value)(a1c0:Array Value):Uah (Uab (Ual PZ (mkΓ [(56,con Za8)]) N (cAt cKCfA72 [1,0,1,0,0]) (pAt (Uaa cKCfA72 [([4,8],[])]).1 [1,0,1,0]) [4,8] [] (Zau b_a0 n_a0 a0 a1c0)) N ([.a (.i .i64 0),.a (.i .i64 0)],[])) (λe s=>(Uad 0 (kSeq (veC PZ (mkΓ [(56,con Za8)]) N (cAt cKCfA72 [1,1]) (pAt (Uaa cKCfA72 [([4,8],[])]).1 [1,1]) (SV×Eff×Bool)) (finK PZ [.sl (.came b_a0) n_a0 a0 23,.row a1c0 23] [.tmp 4]))) e (left (writes (cAt cKCfA72 [1,0,1,0,0])) [4,8] [] (Zau b_a0 n_a0 a0 a1c0) s))=Uao (Uab (Zan PZ b_a0 n_a0 a0 a1c0) N ((0:Int),(0:Int))) (st2 (λx=>Zc2 PZ N b_a0 n_a0 a0 a1c0 x.1 x.2) (λx=>Zc3 PZ N b_a0 n_a0 a0 a1c0 x.1 x.2)):=by refine Za2 Za4 Zdf _ _ (Zki N b_a0 n_a0 a0 a1c0) N ((0:Int),(0:Int)) _ _ ?_;intro x;cases x with|more x=>exact Zik N b_a0 n_a0 a0 a1c0 x.1 x.2|done x=>exact Zih N b_a0 n_a0 a0 a1c0 x.1 x.2
theorem Zjy(N:Nat)(b_a0:Option (Option Addr))(n_a0:Nat)(a0:Array Value)(a1c0:Array Value):ansV PZ (mkΓ [(56,con Za8)]) N f72 [([4,8],[])] [.l 0,.c 56 [1]] [.sl (.came b_a0) n_a0 a0 23,.row a1c0 23]=(Uao (Uab (Zan PZ b_a0 n_a0 a0 a1c0) N ((0:Int),(0:Int))) (st2 (λx=>Zc2 PZ N b_a0 n_a0 a0 a1c0 x.1 x.2) (λx=>Zc3 PZ N b_a0 n_a0 a0 a1c0 x.1 x.2))):=by
 conv=>rhs;simp only[<- Zkk N b_a0 n_a0 a0 a1c0]
 kernel_rfl
def eqU(A X:Array Value)(k:Nat):Bool:=((IntKind.u64.wrap (BitVec.ofInt IntKind.u64.bits (num X 0) &&& BitVec.ofInt IntKind.u64.bits (num A (k*1))).toNat)==(0:Int))
def idxU(n:Nat)(A X:Array Value):Int:=match (List.range n).find? (eqU A X) with|some k=>(k:Int)|none=> -1
theorem Zjh(b_a0:Option (Option Addr))(n_a0:Nat)(a0:Array Value)(a1c0:Array Value)(h_a0:a0.size=n_a0*(lay PZ 23).length/\(∀k,k<n_a0->WT PZ 23 (a0.extract (k*(lay PZ 23).length) (k*(lay PZ 23).length+(lay PZ 23).length)))/\n_a0<=9223372036854775807)(h_a1c0:WT PZ 23 a1c0)(hg:((Nat.ble n_a0 2000000))=true):ansV PZ (mkΓ [(56,con Za8)]) 18446744073709551616 f72 [([4,8],[])] [.l 0,.c 56 [1]] [.sl (.came b_a0) n_a0 a0 23,.row a1c0 23]=some (.a (.i .i64 (idxU n_a0 a0 a1c0)),.none,true):=by
 have hn:n_a0<=2000000:=Nat.le_of_ble_eq_true hg;have h:=Zxd (g:=Zan PZ b_a0 n_a0 a0 a1c0) (λk=>((0:Int),(k:Int))) (eqU a0 a1c0) n_a0 (N:=18446744073709551616) (xd:=.done ((0:Int),(n_a0:Int))) (by omega) (λk=>.more ((k:Int),(k:Int))) (λk hk hp=>by
  have g1:decide ((k:Int)<(n_a0:Int))=true:=Q3 (by omega);have g0:decide (0<=(k:Int))=true:=Q3 (by omega);have g3:IntKind.i64.wrap ((k:Int)+1)=((k+1:Nat):Int):=by rw[IntWalk.i64_in _ (by omega)];omega
  have gp:((IntKind.u64.wrap (BitVec.ofInt IntKind.u64.bits (num a1c0 0) &&& BitVec.ofInt IntKind.u64.bits (num a0 (k*1))).toNat)==(0:Int))=false:=hp;simp only[Zan,g1,g0,g3,gp,Q9,Bool.and_self,Q1,Q2]) (λk hk hp=>by
  have g1:decide ((k:Int)<(n_a0:Int))=true:=Q3 (by omega);have g0:decide (0<=(k:Int))=true:=Q3 (by omega);have gp:((IntKind.u64.wrap (BitVec.ofInt IntKind.u64.bits (num a1c0 0) &&& BitVec.ofInt IntKind.u64.bits (num a0 (k*1))).toNat)==(0:Int))=true:=hp;simp only[Zan,g1,g0,gp,Q9,Bool.and_self,Q1]) (by
  have g1:decide ((n_a0:Int)<(n_a0:Int))=false:=Q4 (by omega);simp only[Zan,g1,Q2])
 refine(Zjy 18446744073709551616 b_a0 n_a0 a0 a1c0).trans ?_;rw[show Uab (Zan PZ b_a0 n_a0 a0 a1c0) 18446744073709551616 ((0:Int),(0:Int))=_ from h];unfold idxU;cases (List.range n_a0).find? (eqU a0 a1c0)<;>rfl
def Zc5:Con:=λargs h=>match args,h with|[.l 0,.c 56 [1]],[.sl (.came b_a0) n_a0 a0 23,.row a1c0 23]=>some (.a (.i .i64 (idxU n_a0 a0 a1c0)),.none,(Nat.ble n_a0 2000000))|_,_=>none
theorem Ziy:EntX PZ 72:=Zak (fn:=f72)
theorem Zkj:Uac mn PZ 72 Zc5:=(ansY (N:=18446744073709551616) (mKc (Zag Zof) Zma mKn) f72 [([4,8],[])]).of (by
 intro ρ h w args vals r e hA hH hr;unfold Zc5 at hr;split at hr
 ·rename_i b_a0 n_a0 a0 a1c0;obtain⟨rfl,rfl,hg2⟩:=BQi hr;exact Zjh b_a0 n_a0 a0 a1c0 (hH.slw 0 rfl) (hH.wt 1 rfl) hg2
 ·cases hr)
def Ze2:Cons:=(mkΓ [(56,con Za8),(72,con Zc5)])
theorem Ziw(N:Nat)(b_a0:Option (Option Addr))(n_a0:Nat)(a0:Array Value)(a1c0:Array Value):ansV PZ Ze2 N f55 [] [.l 0,.c 56 [1]] [.sl (.came b_a0) n_a0 a0 23,.row a1c0 23]=(bif (Nat.ble n_a0 2000000) then (some (.a (.b (decide ((idxU n_a0 a0 a1c0)>=(0:Int)))),.none,true)) else (none)):=by kernel_rfl
def Za0(b_a0:Option (Option Addr))(n_a0:Nat)(a0:Array Value)(a1c0:Array Value):Bool:=decide ((idxU n_a0 a0 a1c0)>=(0:Int))
theorem Zij(b_a0:Option (Option Addr))(n_a0:Nat)(a0:Array Value)(a1c0:Array Value)(h_a0:a0.size=n_a0*(lay PZ 23).length/\(∀k,k<n_a0->WT PZ 23 (a0.extract (k*(lay PZ 23).length) (k*(lay PZ 23).length+(lay PZ 23).length)))/\n_a0<=9223372036854775807)(h_a1c0:WT PZ 23 a1c0)(hg:((Nat.ble n_a0 2000000))=true):ansV PZ Ze2 1000 f55 [] [.l 0,.c 56 [1]] [.sl (.came b_a0) n_a0 a0 23,.row a1c0 23]=some (.a (.b ((Za0 b_a0 n_a0 a0 a1c0))),.none,true):=by
 refine(Ziw 1000 b_a0 n_a0 a0 a1c0).trans ?_;unfold Za0;revert hg;generalize ((Nat.ble n_a0 2000000))=b2;intro hg;cases b2
 ·skip
  first|exact(nomatch (hg:false=true))|rfl
 ·skip
  first|rfl|exact(nomatch (hg:false=true))
def Zcp:Con:=λargs h=>match args,h with|[.l 0,.c 56 [1]],[.sl (.came b_a0) n_a0 a0 23,.row a1c0 23]=>some (.a (.b ((Za0 b_a0 n_a0 a0 a1c0))),.none,(Nat.ble n_a0 2000000))|_,_=>none
theorem Zh4:EntX PZ 55:=Zak (fn:=f55)
theorem Zi8:Uac mn PZ 55 Zcp:=(ansY (N:=1000) (mKc (Zag Zof) Zma (mKc (Zag Zkj) Ziy mKn)) f55 []).of (by
 intro ρ h w args vals r e hA hH hr;unfold Zcp at hr;split at hr
 ·rename_i b_a0 n_a0 a0 a1c0;obtain⟨rfl,rfl,hg2⟩:=BQi hr;exact Zij b_a0 n_a0 a0 a1c0 (hH.slw 0 rfl) (hH.wt 1 rfl) hg2
 ·cases hr)
def Zr4:Cons:=(mkΓ [(55,con Zcp)])
theorem Zz8(N:Nat)(a0:Int)(b_a1:Option (Option Addr))(n_a1:Nat)(a1:Array Value):ansV PZ Zr4 N f33 [] [.i .u64 a0,.l 0] [.sl (.came b_a1) n_a1 a1 23]=(bif (Nat.ble n_a1 2000000) then (some (.a (.b ((!((Za0 b_a1 n_a1 a1 (#[.int .u64 a0]:Array Value)))))),.none,true)) else (none)):=by kernel_rfl
def Zbr(a0:Int)(b_a1:Option (Option Addr))(n_a1:Nat)(a1:Array Value):Bool:=(!((Za0 b_a1 n_a1 a1 (#[.int .u64 a0]:Array Value))))
theorem Zym(a0:Int)(b_a1:Option (Option Addr))(n_a1:Nat)(a1:Array Value)(h_a0:IntKind.u64.min<=a0/\a0<=IntKind.u64.max)(h_a1:a1.size=n_a1*(lay PZ 23).length/\(∀k,k<n_a1->WT PZ 23 (a1.extract (k*(lay PZ 23).length) (k*(lay PZ 23).length+(lay PZ 23).length)))/\n_a1<=9223372036854775807)(hg:((Nat.ble n_a1 2000000))=true):ansV PZ Zr4 1000 f33 [] [.i .u64 a0,.l 0] [.sl (.came b_a1) n_a1 a1 23]=some (.a (.b ((Zbr a0 b_a1 n_a1 a1))),.none,true):=by
 refine(Zz8 1000 a0 b_a1 n_a1 a1).trans ?_;unfold Zbr;revert hg;generalize ((Nat.ble n_a1 2000000))=b2;intro hg;cases b2
 ·skip
  first|exact(nomatch (hg:false=true))|rfl
 ·skip
  first|rfl|exact(nomatch (hg:false=true))
def Zlw:Con:=λargs h=>match args,h with|[.i .u64 a0,.l 0],[.sl (.came b_a1) n_a1 a1 23]=>some (.a (.b ((Zbr a0 b_a1 n_a1 a1))),.none,(Nat.ble n_a1 2000000))|_,_=>none
theorem Zj5:EntX PZ 33:=Zak (fn:=f33)
theorem Zme:Uac mn PZ 33 Zlw:=(ansY (N:=1000) (mKc (Zag Zi8) Zh4 mKn) f33 []).of (by
 intro ρ h w args vals r e hA hH hr;unfold Zlw at hr;split at hr
 ·rename_i a0 b_a1 n_a1 a1;obtain⟨rfl,rfl,hg2⟩:=BQi hr;exact Zym a0 b_a1 n_a1 a1 (hA.rng 0 rfl) (hH.slw 0 rfl) hg2
 ·cases hr)
end
end Go.Proofs.YtgllknjdblkhnaaGreatDoor
