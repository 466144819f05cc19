/- The code of several seas, finds and a bottle. -/
import Derived.Test.YtdfefaanfiheoaaGreatDoorProg
import Derived.Test.YtdfefaanfiheoaaGreatDoorCyR
set_option linter.unusedVariables false
set_option linter.unusedSimpArgs false
open _root_.List renaming range->jE
open _root_.Nat renaming ble->jA,le_of_ble_eq_true->jG
open _root_.Bool renaming and_self->jB,not_true->jC,not_false->jD,true_and->jF
namespace Go.Proofs.YtdfefaanfiheoaaGreatDoor
open Tryz (f12 f34 f37 f38 f52 f55 f77 f78 f88)
open Go.ChangeShapes Go.WideShapes Go.ChangeAt Go.RowKit Ve Vc
open Tryz renaming prog -> PZ
open IntKind (i64)
set_option maxRecDepth 100000
noncomputable section
variable {F:Vc.Fd}
theorem Ymd{C:Array Value}{b m o:Nat}(ho:o<m):num (C.extract b (b+m)) o=num C (b+o):=by
 have e2:(C.extract b (b+m))[o]?=C[b+o]?:=by
  simp only[Array.getElem?_extract]
  by_cases h:b+o<C.size
  ·rw[if_pos (by omega)]
  ·rw[if_neg (by omega),Array.getElem?_eq_none (by omega)]
 unfold num;rw[e2]
theorem sl_int{P:Program}{e:TypeId}{n m:Nat}{C:Array Value}(h:∀k,k<n->WT P e (C.extract (k*m) (k*m+m))){k o:Nat}{kd:IntKind}(hk:k<n)(ho:o<m)(hq:(lay P e)[o]?=some (kN kd)):
  C[k*m+o]?=some (.int kd (num C (k*m+o)))/\kd.min<=num C (k*m+o)/\num C (k*m+o)<=kd.max:=by
 have hw:=(h k hk).int hq;rw[Ymd ho]at hw;refine⟨?_,hw.2⟩;have:=hw.1;rw[Array.getElem?_extract]at this;split at this
 ·exact this
 ·cases this
theorem Ydy(N:Nat)(a0:Array Value):ansV PZ (mkΓ []) N f37 [] [.g a0 72] []=(some (.a (.g #[.int .i8 (num a0 0),.int .i8 (num a0 1)] 70),.none,true)):=by kernel_rfl
theorem Ybj(a0:Array Value)(h_a0:WT PZ 72 a0)(hg:(true)=true):ansV PZ (mkΓ []) 1000 f37 [] [.g a0 72] []=some (.a (.g a0 70),.none,true):=by
 have hz:a0.size=2:=by rw[h_a0.layLen];kernel_rfl
 have e0:=(h_a0.int (o:=0) (k:=.i8) (by kernel_rfl)).1;have e1:=(h_a0.int (o:=1) (k:=.i8) (by kernel_rfl)).1;have he:(#[.int .i8 (num a0 0),.int .i8 (num a0 1)]:Array Value)=a0:=Zhy λi=>by
  match i with
  |0=>exact e0.symm
  |1=>exact e1.symm
  |i+2=>rw[Array.getElem?_eq_none (by simp),Array.getElem?_eq_none (by omega)]
 refine(Ydy 1000 a0).trans ?_;rw[he]
def Zb3:Con:=λargs h=>match args,h with
 |[.g a0 72],[]=>some (.a (.g a0 70),.none,true)
 |_,_=>none
theorem Yab:EntX PZ 37:=Zah (fn:=f37)
theorem Ygo:Uac (md F) PZ 37 Zb3:=(ansY (N:=1000) mKn f37 []).of (by
 intro ρ h w args vals r e hA hH hr;unfold Zb3 at hr;split at hr
 ·rename_i a0
  obtain⟨rfl,rfl,hg2⟩:=BQi hr;exact Ybj a0 (hA.wt 0 rfl) hg2
 ·cases hr)
def Zgb(b_a0:Option (Option Addr))(n_a0:Nat)(a0:Array Value):St:=(⟨.a (.l 0) :: .a (.u) :: .a (.v (.slice none 0 0)) :: .a (.l 3) :: .a (.i .i64 (0:Int)) :: .a (.l 0) :: .a (.i .i64 (n_a0:Int)) :: .a (.l 3)::us 15 ([]),[.sl (.came b_a0) n_a0 a0 72,.no,.no,.sl .own ((n_a0:Int).toNat) (madeCells (zc PZ 70) ((n_a0:Int).toNat*2)) 70,.no],[]⟩:St)
def Zhw(n_a0:Nat):Int×Array Value->LS
 |(y0_4,r0_3)=>([.a (.i .i64 (y0_4))],[.sl .own ((n_a0:Int).toNat) r0_3 70])
def Znf(n_a0:Nat):Int×Array Value->Exit×LS
 |t=>((.exit 0),(Zhw n_a0) t)
def Zdi(P:Program)(b_a0:Option (Option Addr))(n_a0:Nat)(a0:Array Value):Int×Array Value->Option (Stp (Int×Array Value) (Int×Array Value))
 |(y0_4,r0_3)=>bif decide (y0_4<(n_a0:Int)) then (bif (decide (0<=y0_4)&&decide (y0_4<(n_a0:Int))) then (bif (decide (0<=y0_4)&&decide (y0_4<(((n_a0:Int).toNat):Int))) then (some (.more ((i64.wrap (y0_4+(1:Int))),(spl r0_3 ((y0_4).toNat*2) (a0.extract ((y0_4).toNat*2) (((y0_4).toNat*2)+2)).toList))))
    else (none))
   else (none))
  else (some (.done (y0_4,r0_3)))
noncomputable abbrev cKCuA12:=codeOf f12
theorem Yd9(N:Nat)(b_a0:Option (Option Addr))(n_a0:Nat)(a0:Array Value):∀t:Int×Array Value,Uag PZ (mkΓ [(37,con Zb3)]) N (cAt cKCuA12 [1,1,0,1,0,0]) (pAt (Uaa cKCuA12 [([4],[3])]).1 [1,1,0,1,0]) [4] [3] (Zgb b_a0 n_a0 a0) ((Zhw n_a0) t)=mapS (Zhw n_a0) (Znf n_a0) (Zdi PZ b_a0 n_a0 a0 t):=by
 rintro⟨y0_4,r0_3⟩;refine Eq.trans (b:=(bif decide (y0_4<(n_a0:Int)) then (bif (decide (0<=y0_4)&&decide (y0_4<(n_a0:Int))) then (bif (decide (0<=y0_4)&&decide (y0_4<(((n_a0:Int).toNat):Int))) then (some (.more ([.a (.i .i64 (i64.wrap (y0_4+(1:Int))))],[.sl .own ((n_a0:Int).toNat) (spl r0_3 ((y0_4).toNat*2) (a0.extract ((y0_4).toNat*2) (((y0_4).toNat*2)+2)).toList) 70])))
    else (none))
   else (none))
  else (some (.done ((.exit 0),([.a (.i .i64 (y0_4))],[.sl .own ((n_a0:Int).toNat) r0_3 70])))))) (by kernel_rfl) ?_
 simp only[Zdi,Zao,Zap,Zam,Zan,Zhw,Znf]
def Zld(P:Program)(N:Nat)(b_a0:Option (Option Addr))(n_a0:Nat)(a0:Array Value)(z0_4:Int)(q0_3:Array Value):Option (SV×Eff×Bool):=some (.a .x,.newS none ((n_a0:Int).toNat) q0_3 70,true)
theorem Zti(N:Nat)(b_a0:Option (Option Addr))(n_a0:Nat)(a0:Array Value)(z0_4:Int)(q0_3:Array Value):(Uad 0 (kSeq (veC PZ (mkΓ [(37,con Zb3)]) N (cAt cKCuA12 [1,1,1]) (pAt (Uaa cKCuA12 [([4],[3])]).1 [1,1,1]) (SV×Eff×Bool)) (finK PZ [.sl (.came b_a0) n_a0 a0 72] [.tmp 2]))) (.exit 0) (left (writes (cAt cKCuA12 [1,1,0,1,0,0])) [4] [3] (Zgb b_a0 n_a0 a0) ([.a (.i .i64 (z0_4))],[.sl .own ((n_a0:Int).toNat) q0_3 70]))=Zld PZ N b_a0 n_a0 a0 z0_4 q0_3:=by refine Eq.trans (b:=(some (.a .x,.newS none ((n_a0:Int).toNat) q0_3 70,true))) (by kernel_rfl) ?_;rfl
theorem Yee(N:Nat)(b_a0:Option (Option Addr))(n_a0:Nat)(a0:Array Value):Uaj (Uab (Uag PZ (mkΓ [(37,con Zb3)]) N (cAt cKCuA12 [1,1,0,1,0,0]) (pAt (Uaa cKCuA12 [([4],[3])]).1 [1,1,0,1,0]) [4] [3] (Zgb b_a0 n_a0 a0)) N ([.a (.i .i64 (0:Int))],[.sl .own ((n_a0:Int).toNat) (madeCells (zc PZ 70) ((n_a0:Int).toNat*2)) 70])) (λe s=>(Uad 0 (kSeq (veC PZ (mkΓ [(37,con Zb3)]) N (cAt cKCuA12 [1,1,1]) (pAt (Uaa cKCuA12 [([4],[3])]).1 [1,1,1]) (SV×Eff×Bool)) (finK PZ [.sl (.came b_a0) n_a0 a0 72] [.tmp 2]))) e (left (writes (cAt cKCuA12 [1,1,0,1,0,0])) [4] [3] (Zgb b_a0 n_a0 a0) s))=Uak (Uab (Zdi PZ b_a0 n_a0 a0) N ((0:Int),(madeCells (zc PZ 70) ((n_a0:Int).toNat*2)))) (λx=>Zld PZ N b_a0 n_a0 a0 x.1 x.2):=by refine Zau (Zhw n_a0) (Znf n_a0) _ _ (Yd9 N b_a0 n_a0 a0) N ((0:Int),(madeCells (zc PZ 70) ((n_a0:Int).toNat*2))) _ _ ?_;intro x;exact Zti N b_a0 n_a0 a0 x.1 x.2
theorem Ybu(N:Nat)(b_a0:Option (Option Addr))(n_a0:Nat)(a0:Array Value):ansV PZ (mkΓ [(37,con Zb3)]) N f12 [([4],[3])] [.l 0] [.sl (.came b_a0) n_a0 a0 72]=(bif (decide (0<=(n_a0:Int))&&((n_a0:Int)==(n_a0:Int)&&decide ((bytesOf PZ 70:Int)*(n_a0:Int)<=281474976710656))) then (Uak (Uab (Zdi PZ b_a0 n_a0 a0) N ((0:Int),(madeCells (zc PZ 70) ((n_a0:Int).toNat*2)))) (λx=>Zld PZ N b_a0 n_a0 a0 x.1 x.2))
  else (none)):=by
 refine Eq.trans (b:=(bif (decide (0<=(n_a0:Int))&&((n_a0:Int)==(n_a0:Int)&&decide ((bytesOf PZ 70:Int)*(n_a0:Int)<=281474976710656))) then (Uaj (Uab (Uag PZ (mkΓ [(37,con Zb3)]) N (cAt cKCuA12 [1,1,0,1,0,0]) (pAt (Uaa cKCuA12 [([4],[3])]).1 [1,1,0,1,0]) [4] [3] (Zgb b_a0 n_a0 a0)) N ([.a (.i .i64 (0:Int))],[.sl .own ((n_a0:Int).toNat) (madeCells (zc PZ 70) ((n_a0:Int).toNat*2)) 70])) (λe s=>(Uad 0 (kSeq (veC PZ (mkΓ [(37,con Zb3)]) N (cAt cKCuA12 [1,1,1]) (pAt (Uaa cKCuA12 [([4],[3])]).1 [1,1,1]) (SV×Eff×Bool)) (finK PZ [.sl (.came b_a0) n_a0 a0 72] [.tmp 2]))) e (left (writes (cAt cKCuA12 [1,1,0,1,0,0])) [4] [3] (Zgb b_a0 n_a0 a0) s)))
  else (none))) (by kernel_rfl) ?_
 simp only[Yee N b_a0 n_a0 a0]
theorem Zzy(b_a0:Option (Option Addr))(n_a0:Nat)(a0:Array Value)(h_a0:a0.size=n_a0*(lay PZ 72).length/\(∀k,k<n_a0->WT PZ 72 (a0.extract (k*(lay PZ 72).length) (k*(lay PZ 72).length+(lay PZ 72).length)))/\n_a0<=9223372036854775807)(hg:(decide (n_a0<=1048576))=true):ansV PZ (mkΓ [(37,con Zb3)]) 18446744073709551616 f12 [([4],[3])] [.l 0] [.sl (.came b_a0) n_a0 a0 72]=some (.a .x,.newS none n_a0 a0 70,true):=by
 have hn:n_a0<=1048576:=of_decide_eq_true hg;have hm:(lay PZ 72).length=2:=by kernel_rfl
 have hb:bytesOf PZ 70=2:=by kernel_rfl
 obtain⟨s1,s2,s3⟩:=h_a0;rw[hm]at s1 s2;have hq:(lay PZ 72)[0]?=some 0:=by kernel_rfl
 refine(Ybu 18446744073709551616 b_a0 n_a0 a0).trans ?_;have hgd:(decide (0<=(n_a0:Int))&&((n_a0:Int)==(n_a0:Int)&&decide ((bytesOf PZ 70:Int)*(n_a0:Int)<=281474976710656)))=true:=by rw[hb,Q3 (show (0:Int)<=n_a0 by omega),beq_self_eq_true,Q3 (show (((2:Nat):Int))*(n_a0:Int)<=281474976710656 by omega)];rfl
 rw[hgd,Q1];have hs:a0.size=(madeCells (zc PZ 70) ((n_a0:Int).toNat*2)).size:=by rw[size_madeCells,Q9];exact s1
 generalize (madeCells (zc PZ 70) ((n_a0:Int).toNat*2))=Z at hs|-
 have h:=Zcu (g:=Zdi PZ b_a0 n_a0 a0) (λk=>((k:Int),upto a0 Z (k*2))) (m:=n_a0) (x:=((n_a0:Int),upto a0 Z (n_a0*2))) (N:=18446744073709551616) (λk hk=>by
  have h1:decide ((k:Int)<(n_a0:Int))=true:=Q3 (by omega);have h0:decide (0<=(k:Int))=true:=Q3 (by omega);have h3:i64.wrap ((k:Int)+1)=((k+1:Nat):Int):=by rw[IntWalk.i64_in _ (by omega)];omega
  have h5:spl (upto a0 Z (k*2)) (k*2) (a0.extract (k*2) (k*2+2)).toList=upto a0 Z ((k+1)*2):=by rw[Nat.add_mul];exact Ydf hs (by have:(k+1)*2<=n_a0*2:=Nat.mul_le_mul_right _ hk;omega) rfl
  simp only[Zdi,h1,h0,jB,Q9,Q1,h3,h5]) (by
  have h1:decide ((n_a0:Int)<(n_a0:Int))=false:=Q4 (by omega);simp only[Zdi,h1,Q2]) (by omega)
 rw[Zlr hs s1]at h;simp only[Nat.zero_mul,Zi4 hs]at h;have h':Uab (Zdi PZ b_a0 n_a0 a0) 18446744073709551616 ((0:Int),Z)=some ((n_a0:Int),a0):=h;rw[h']
 show some (_,Eff.newS none ((n_a0:Int).toNat) a0 70,true)=_
 rw[Q9]
def Zms:Con:=λargs h=>match args,h with
 |[.l 0],[.sl (.came b_a0) n_a0 a0 72]=>some (.a .x,.newS none n_a0 a0 70,decide (n_a0<=1048576))
 |_,_=>none
theorem Zxj:EntX PZ 12:=Zah (fn:=f12)
theorem Yea:Uac (md F) PZ 12 Zms:=(ansY (N:=18446744073709551616) (mKc (Zae Ygo) Yab mKn) f12 [([4],[3])]).of (by
 intro ρ h w args vals r e hA hH hr;unfold Zms at hr;split at hr
 ·rename_i b_a0 n_a0 a0
  obtain⟨rfl,rfl,hg2⟩:=BQi hr;exact Zzy b_a0 n_a0 a0 (hH.slw 0 rfl) hg2
 ·cases hr)
def bcF(a1:Array Value)(k:Nat):Int:=i64.wrap (num a1 (k*2+0))
def hcF(a1:Array Value)(k:Nat):Int:=i64.wrap (num a1 (k*2+1))
def fndB(S a1:Array Value)(k:Nat):Bool:=Zab (bcF a1 k) S&&(Zag (bcF a1 k) S&&Zaa (hcF a1 k) 1 14)
def Ubi(S:Array Value)(n:Nat)(a1:Array Value):Bool:=(jE n).all (fndB S a1)
theorem Zzh(S:Array Value)(n:Nat)(a1:Array Value):Ubi S n a1=true ↔ ∀k,k<n->fndB S a1 k=true:=by unfold Ubi;rw[List.all_eq_true];exact⟨λh k hk=>h k (List.mem_range.2 hk),λh k hk=>h k (List.mem_range.1 hk)⟩
theorem Ymk(a1:Array Value)(k:Nat):i64.wrap (num (a1.extract (k*2) (k*2+2)) 0)=bcF a1 k/\i64.wrap (num (a1.extract (k*2) (k*2+2)) 1)=hcF a1 k:=by rw[Ymd (by omega),Ymd (by omega)];exact⟨rfl,rfl⟩
theorem Yn0(n:Int):Zf6 n=Zaa n 1 14:=rfl
def Zcj:Cons:=(mkΓ [(72,con Zbo),(73,con Zga),(74,con Zlz)])
def Zdt(a0:Array Value)(b_a1:Option (Option Addr))(n_a1:Nat)(a1:Array Value):St:=(⟨.a (.w 0) :: .a (.l 1) :: .a (.u) :: .a (.u) :: .a (.b (false)) :: .a (.i .i64 (0:Int))::us 36 ([]),[.row a0 37,.sl (.came b_a1) n_a1 a1 70],[]⟩:St)
def Ze3:Bool×Int->LS
 |(y0_4,y0_5)=>([.a (.b (y0_4)),.a (.i .i64 (y0_5))],[])
def Zmr:(Stp (Bool×Int) (Bool×Int))->Exit×LS
 |.more t=>(.ret,Ze3 t)
 |.done t=>((.exit 0),Ze3 t)
def Zbq(P:Program)(a0:Array Value)(b_a1:Option (Option Addr))(n_a1:Nat)(a1:Array Value):Bool×Int->Option (Stp (Bool×Int) (Stp (Bool×Int) (Bool×Int)))
  |(y0_4,y0_5)=>bif decide (y0_5<(n_a1:Int)) then (bif (decide (0<=y0_5)&&decide (y0_5<(n_a1:Int))) then (bif (!((Zab (i64.wrap (num a1 (((y0_5).toNat*2)+0))) a0))) then (some (.done (.more (false,y0_5))))
        else (bif decide (0<=(IntKind.u64.wrap (i64.wrap (num a1 (((y0_5).toNat*2)+0))))) then (bif (!((Zag (i64.wrap (num a1 (((y0_5).toNat*2)+0))) a0))) then (some (.done (.more (false,y0_5))))
            else (bif (decide (0<=y0_5)&&decide (y0_5<(n_a1:Int))) then (bif (!((Zaa (i64.wrap (num a1 (((y0_5).toNat*2)+1))) (1:Int) (14:Int)))) then (some (.done (.more (false,y0_5))))
                else (some (.more (y0_4,(i64.wrap (y0_5+(1:Int)))))))
              else (none)))
          else (none)))
      else (none))
    else (some (.done (.done (y0_4,y0_5))))
noncomputable abbrev cKCuA52:=codeOf f52
theorem Ybm(N:Nat)(a0:Array Value)(b_a1:Option (Option Addr))(n_a1:Nat)(a1:Array Value):∀t:Bool×Int,Uag PZ Zcj N (cAt cKCuA52 [1,0,1,0,0]) (pAt (Uaa cKCuA52 [([4,5],[])]).1 [1,0,1,0]) [4,5] [] (Zdt a0 b_a1 n_a1 a1) (Ze3 t)=mapS Ze3 Zmr (Zbq PZ a0 b_a1 n_a1 a1 t):=by
  rintro⟨y0_4,y0_5⟩;refine Eq.trans (b:=(bif decide (y0_5<(n_a1:Int)) then (bif (decide (0<=y0_5)&&decide (y0_5<(n_a1:Int))) then (bif (!((Zab (i64.wrap (num a1 (((y0_5).toNat*2)+0))) a0))) then (some (.done (.ret,([.a (.b (false)),.a (.i .i64 (y0_5))],[]))))
        else (bif decide (0<=(IntKind.u64.wrap (i64.wrap (num a1 (((y0_5).toNat*2)+0))))) then (bif (!((Zag (i64.wrap (num a1 (((y0_5).toNat*2)+0))) a0))) then (some (.done (.ret,([.a (.b (false)),.a (.i .i64 (y0_5))],[]))))
            else (bif (decide (0<=y0_5)&&decide (y0_5<(n_a1:Int))) then (bif (!((Zaa (i64.wrap (num a1 (((y0_5).toNat*2)+1))) (1:Int) (14:Int)))) then (some (.done (.ret,([.a (.b (false)),.a (.i .i64 (y0_5))],[]))))
                else (some (.more ([.a (.b (y0_4)),.a (.i .i64 (i64.wrap (y0_5+(1:Int))))],[]))))
              else (none)))
          else (none)))
      else (none))
    else (some (.done ((.exit 0),([.a (.b (y0_4)),.a (.i .i64 (y0_5))],[])))))) (by kernel_rfl) ?_
  simp only[Zbq,Zao,Zap,Zam,Zan,Ze3,Zmr]
def Zkm(P:Program)(N:Nat)(a0:Array Value)(b_a1:Option (Option Addr))(n_a1:Nat)(a1:Array Value)(z0_4:Bool)(z0_5:Int):Option (SV×Eff×Bool):=some (.a (.b (z0_4)),.none,true)
theorem Zrk(N:Nat)(a0:Array Value)(b_a1:Option (Option Addr))(n_a1:Nat)(a1:Array Value)(z0_4:Bool)(z0_5:Int):(Uad 0 (kSeq (veC PZ Zcj N (cAt cKCuA52 [1,1]) (pAt (Uaa cKCuA52 [([4,5],[])]).1 [1,1]) (SV×Eff×Bool)) (finK PZ [.row a0 37,.sl (.came b_a1) n_a1 a1 70] [.tmp 4]))) .ret (left (writes (cAt cKCuA52 [1,0,1,0,0])) [4,5] [] (Zdt a0 b_a1 n_a1 a1) ([.a (.b (z0_4)),.a (.i .i64 (z0_5))],[]))=Zkm PZ N a0 b_a1 n_a1 a1 z0_4 z0_5:=by refine Eq.trans (b:=(some (.a (.b (z0_4)),.none,true))) (by kernel_rfl) ?_;rfl
def Zkq(P:Program)(N:Nat)(a0:Array Value)(b_a1:Option (Option Addr))(n_a1:Nat)(a1:Array Value)(z0_4:Bool)(z0_5:Int):Option (SV×Eff×Bool):=some (.a (.b (decide ((n_a1:Int)<=(60:Int)))),.none,true)
theorem Zrs(N:Nat)(a0:Array Value)(b_a1:Option (Option Addr))(n_a1:Nat)(a1:Array Value)(z0_4:Bool)(z0_5:Int):(Uad 0 (kSeq (veC PZ Zcj N (cAt cKCuA52 [1,1]) (pAt (Uaa cKCuA52 [([4,5],[])]).1 [1,1]) (SV×Eff×Bool)) (finK PZ [.row a0 37,.sl (.came b_a1) n_a1 a1 70] [.tmp 4]))) (.exit 0) (left (writes (cAt cKCuA52 [1,0,1,0,0])) [4,5] [] (Zdt a0 b_a1 n_a1 a1) ([.a (.b (z0_4)),.a (.i .i64 (z0_5))],[]))=Zkq PZ N a0 b_a1 n_a1 a1 z0_4 z0_5:=by refine Eq.trans (b:=(some (.a (.b (decide ((n_a1:Int)<=(60:Int)))),.none,true))) (by kernel_rfl) ?_;rfl
theorem Yc0(N:Nat)(a0:Array Value)(b_a1:Option (Option Addr))(n_a1:Nat)(a1:Array Value):Uaj (Uab (Uag PZ Zcj N (cAt cKCuA52 [1,0,1,0,0]) (pAt (Uaa cKCuA52 [([4,5],[])]).1 [1,0,1,0]) [4,5] [] (Zdt a0 b_a1 n_a1 a1)) N ([.a (.b (false)),.a (.i .i64 (0:Int))],[])) (λe s=>(Uad 0 (kSeq (veC PZ Zcj N (cAt cKCuA52 [1,1]) (pAt (Uaa cKCuA52 [([4,5],[])]).1 [1,1]) (SV×Eff×Bool)) (finK PZ [.row a0 37,.sl (.came b_a1) n_a1 a1 70] [.tmp 4]))) e (left (writes (cAt cKCuA52 [1,0,1,0,0])) [4,5] [] (Zdt a0 b_a1 n_a1 a1) s))=Uak (Uab (Zbq PZ a0 b_a1 n_a1 a1) N (false,(0:Int))) (st2 (λx=>Zkm PZ N a0 b_a1 n_a1 a1 x.1 x.2) (λx=>Zkq PZ N a0 b_a1 n_a1 a1 x.1 x.2)):=by
 refine Zau Ze3 Zmr _ _ (Ybm N a0 b_a1 n_a1 a1) N (false,(0:Int)) _ _ ?_;intro x;cases x with
 |more x=>exact Zrk N a0 b_a1 n_a1 a1 x.1 x.2
 |done x=>exact Zrs N a0 b_a1 n_a1 a1 x.1 x.2
theorem Zzn(N:Nat)(a0:Array Value)(b_a1:Option (Option Addr))(n_a1:Nat)(a1:Array Value):ansV PZ Zcj N f52 [([4,5],[])] [.w 0,.l 1] [.row a0 37,.sl (.came b_a1) n_a1 a1 70]=(Uak (Uab (Zbq PZ a0 b_a1 n_a1 a1) N (false,(0:Int))) (st2 (λx=>Zkm PZ N a0 b_a1 n_a1 a1 x.1 x.2) (λx=>Zkq PZ N a0 b_a1 n_a1 a1 x.1 x.2))):=by refine Eq.trans (b:=(Uaj (Uab (Uag PZ Zcj N (cAt cKCuA52 [1,0,1,0,0]) (pAt (Uaa cKCuA52 [([4,5],[])]).1 [1,0,1,0]) [4,5] [] (Zdt a0 b_a1 n_a1 a1)) N ([.a (.b (false)),.a (.i .i64 (0:Int))],[])) (λe s=>(Uad 0 (kSeq (veC PZ Zcj N (cAt cKCuA52 [1,1]) (pAt (Uaa cKCuA52 [([4,5],[])]).1 [1,1]) (SV×Eff×Bool)) (finK PZ [.row a0 37,.sl (.came b_a1) n_a1 a1 70] [.tmp 4]))) e (left (writes (cAt cKCuA52 [1,0,1,0,0])) [4,5] [] (Zdt a0 b_a1 n_a1 a1) s)))) (by kernel_rfl) ?_;simp only[Yc0 N a0 b_a1 n_a1 a1]
theorem Zx6(a0:Array Value)(b_a1:Option (Option Addr))(n_a1:Nat)(a1:Array Value)(h_a0:WT PZ 37 a0)(h_a1:a1.size=n_a1*(lay PZ 70).length/\(∀k,k<n_a1->WT PZ 70 (a1.extract (k*(lay PZ 70).length) (k*(lay PZ 70).length+(lay PZ 70).length)))/\n_a1<=9223372036854775807)(hg:(true)=true):ansV PZ Zcj 18446744073709551616 f52 [([4,5],[])] [.w 0,.l 1] [.row a0 37,.sl (.came b_a1) n_a1 a1 70]=some (.a (.b ((Ubi a0 n_a1 a1&&decide ((n_a1:Int)<=60)))),.none,true):=by
 have hn:=h_a1.2.2;refine(Zzn 18446744073709551616 a0 b_a1 n_a1 a1).trans ?_;refine(Zs9 (g:=Zbq PZ a0 b_a1 n_a1 a1) (λk=>(false,(k:Int))) (fndB a0 a1) n_a1 (N:=18446744073709551616) (xd:=.done (false,(n_a1:Int))) (by omega) (λk hk hp=>by
  have h1:decide ((k:Int)<(n_a1:Int))=true:=Q3 (by omega);have h0:decide (0<=(k:Int))=true:=Q3 (by omega);have h3:i64.wrap ((k:Int)+1)=((k+1:Nat):Int):=by rw[IntWalk.i64_in _ (by omega)];omega
  have h4:decide (0<=IntKind.u64.wrap (bcF a1 k))=true:=Q3 (Zgo .u64 _).1;have hb:i64.wrap (num a1 (k*2+0))=bcF a1 k:=rfl;have hc:i64.wrap (num a1 (k*2+1))=hcF a1 k:=rfl;have hp':fndB a0 a1 k=true:=hp;unfold fndB at hp';simp only[Q7]at hp';simp only[Zbq,h1,h0,h3,jB,Q9,Q1,Q2,hb,hc,h4,hp'.1,hp'.2.1,hp'.2.2,jC]) (by
  have h1:decide ((n_a1:Int)<(n_a1:Int))=false:=Q4 (by omega);simp only[Zbq,h1,Q2]) (Ubi a0 n_a1 a1) (Zzh a0 n_a1 a1) (some (.a (.b (decide ((n_a1:Int)<=60))),.none,true)) (some (.a (.b false),.none,true)) rfl (λk hk hp=>by
  refine⟨.more (false,(k:Int)),?_,rfl⟩;have h1:decide ((k:Int)<(n_a1:Int))=true:=Q3 (by omega);have h0:decide (0<=(k:Int))=true:=Q3 (by omega);have h3:i64.wrap ((k:Int)+1)=((k+1:Nat):Int):=by rw[IntWalk.i64_in _ (by omega)];omega
  have h4:decide (0<=IntKind.u64.wrap (bcF a1 k))=true:=Q3 (Zgo .u64 _).1;have hb:i64.wrap (num a1 (k*2+0))=bcF a1 k:=rfl;have hc:i64.wrap (num a1 (k*2+1))=hcF a1 k:=rfl;have hp':fndB a0 a1 k=false:=hp;unfold fndB at hp';cases x1:Zab (bcF a1 k) a0
  ·simp only[Zbq,h1,h0,h3,jB,Q9,Q1,hb,x1,jD]
  ·cases x2:Zag (bcF a1 k) a0
   ·simp only[Zbq,h1,h0,h3,jB,Q9,Q1,Q2,hb,h4,x1,x2,jC,jD]
   ·rw[x1,x2]at hp'
    simp only[jF]at hp';simp only[Zbq,h1,h0,h3,jB,Q9,Q1,Q2,hb,hc,h4,x1,x2,hp',jC,jD])).trans ?_
 cases Ubi a0 n_a1 a1<;>rfl
def Zll:Con:=λargs h=>match args,h with
 |[.w 0,.l 1],[.row a0 37,.sl (.came b_a1) n_a1 a1 70]=>some (.a (.b ((Ubi a0 n_a1 a1&&decide ((n_a1:Int)<=60)))),.none,true)
 |_,_=>none
theorem Zvd:EntX PZ 52:=Zah (fn:=f52)
theorem Ybi:Uac (md F) PZ 52 Zll:=(ansY (N:=18446744073709551616) (mKc (Zae Zkl) Zgt (mKc (Zae Zlv) Zh5 (mKc (Zae Ydq) Zyy mKn))) f52 [([4,5],[])]).of (by
 intro ρ h w args vals r e hA hH hr;unfold Zll at hr;split at hr
 ·rename_i a0 b_a1 n_a1 a1
  obtain⟨rfl,rfl,hg2⟩:=BQi hr;exact Zx6 a0 b_a1 n_a1 a1 (hH.wt 0 rfl) (hH.slw 1 rfl) hg2
 ·cases hr)
def Zbs:Cons:=(mkΓ [(80,con Zib),(81,con Zg0),(94,con Zex),(95,con Zmi)])
def Zct(a0:Array Value)(b_a1:Option (Option Addr))(n_a1:Nat)(a1:Array Value):St:=(⟨.a (.g a0 37) :: .a (.l 0) :: .a (.w 1) :: .a (.u) :: .a (.b (false))::us 3 (.a (.g a0 37) :: .a (.b ((okS a0))) :: .a (.b ((!((okS a0))))) :: .a (.b (false)) :: .a (.l 0) :: .a (.i .i64 (n_a1:Int)) :: .a (.b (decide ((n_a1:Int) > (60:Int)))) :: .a (.b (decide ((n_a1:Int) > (60:Int)))) :: .a (.l 0) :: .a (.i .i64 (n_a1:Int)) :: .a (.i .i64 (0:Int))::us 23 ([])),[.sl (.came b_a1) n_a1 a1 70,.row a0 37,.no],[]⟩:St)
def Zdm:Bool×Int->LS
 |(y0_4,y0_18)=>([.a (.b (y0_4)),.a (.i .i64 (y0_18))],[])
def Zkf:(Stp (Bool×Int) (Bool×Int))->Exit×LS
 |.more t=>(.ret,Zdm t)
 |.done t=>((.exit 0),Zdm t)
def Zbf(P:Program)(a0:Array Value)(b_a1:Option (Option Addr))(n_a1:Nat)(a1:Array Value):Bool×Int->Option (Stp (Bool×Int) (Stp (Bool×Int) (Bool×Int)))
  |(y0_4,y0_18)=>bif decide (y0_18<(n_a1:Int)) then (bif (decide (0<=y0_18)&&decide (y0_18<(n_a1:Int))) then (bif (!((Zal a0 (i64.wrap (num (a1.extract ((y0_18).toNat*2) (((y0_18).toNat*2)+2)) 0))))) then (some (.done (.more (false,y0_18))))
        else (bif decide (0<=(i64.wrap (num (a1.extract ((y0_18).toNat*2) (((y0_18).toNat*2)+2)) 0))) then (bif (Zad a0 (i64.wrap (num (a1.extract ((y0_18).toNat*2) (((y0_18).toNat*2)+2)) 0))) then (some (.done (.more (false,y0_18))))
            else (bif (!((Zf6 (i64.wrap (num (a1.extract ((y0_18).toNat*2) (((y0_18).toNat*2)+2)) 1))))) then (some (.done (.more (false,y0_18))))
              else (some (.more (y0_4,(i64.wrap (y0_18+(1:Int))))))))
          else (none)))
      else (none))
    else (some (.done (.done (y0_4,y0_18))))
noncomputable abbrev cKCuA77:=codeOf f77
theorem Zyr(N:Nat)(a0:Array Value)(b_a1:Option (Option Addr))(n_a1:Nat)(a1:Array Value):∀t:Bool×Int,Uag PZ Zbs N (cAt cKCuA77 [1,1,0,1,0,0]) (pAt (Uaa cKCuA77 [([4,18],[])]).1 [1,1,0,1,0]) [4,18] [] (Zct a0 b_a1 n_a1 a1) (Zdm t)=mapS Zdm Zkf (Zbf PZ a0 b_a1 n_a1 a1 t):=by
  rintro⟨y0_4,y0_18⟩;refine Eq.trans (b:=(bif decide (y0_18<(n_a1:Int)) then (bif (decide (0<=y0_18)&&decide (y0_18<(n_a1:Int))) then (bif (!((Zal a0 (i64.wrap (num (a1.extract ((y0_18).toNat*2) (((y0_18).toNat*2)+2)) 0))))) then (some (.done (.ret,([.a (.b (false)),.a (.i .i64 (y0_18))],[]))))
        else (bif decide (0<=(i64.wrap (num (a1.extract ((y0_18).toNat*2) (((y0_18).toNat*2)+2)) 0))) then (bif (Zad a0 (i64.wrap (num (a1.extract ((y0_18).toNat*2) (((y0_18).toNat*2)+2)) 0))) then (some (.done (.ret,([.a (.b (false)),.a (.i .i64 (y0_18))],[]))))
            else (bif (!((Zf6 (i64.wrap (num (a1.extract ((y0_18).toNat*2) (((y0_18).toNat*2)+2)) 1))))) then (some (.done (.ret,([.a (.b (false)),.a (.i .i64 (y0_18))],[]))))
              else (some (.more ([.a (.b (y0_4)),.a (.i .i64 (i64.wrap (y0_18+(1:Int))))],[])))))
          else (none)))
      else (none))
    else (some (.done ((.exit 0),([.a (.b (y0_4)),.a (.i .i64 (y0_18))],[])))))) (by kernel_rfl) ?_
  simp only[Zbf,Zao,Zap,Zam,Zan,Zdm,Zkf]
def Zir(P:Program)(N:Nat)(a0:Array Value)(b_a1:Option (Option Addr))(n_a1:Nat)(a1:Array Value)(z0_4:Bool)(z0_18:Int):Option (SV×Eff×Bool):=some (.a (.b (z0_4)),.none,true)
theorem Zpu(N:Nat)(a0:Array Value)(b_a1:Option (Option Addr))(n_a1:Nat)(a1:Array Value)(z0_4:Bool)(z0_18:Int):(Uad 0 (kSeq (veC PZ Zbs N (cAt cKCuA77 [1,1,1]) (pAt (Uaa cKCuA77 [([4,18],[])]).1 [1,1,1]) (SV×Eff×Bool)) (finK PZ [.sl (.came b_a1) n_a1 a1 70] [.tmp 4]))) .ret (left (writes (cAt cKCuA77 [1,1,0,1,0,0])) [4,18] [] (Zct a0 b_a1 n_a1 a1) ([.a (.b (z0_4)),.a (.i .i64 (z0_18))],[]))=Zir PZ N a0 b_a1 n_a1 a1 z0_4 z0_18:=by refine Eq.trans (b:=(some (.a (.b (z0_4)),.none,true))) (by kernel_rfl) ?_;rfl
def Ziz(P:Program)(N:Nat)(a0:Array Value)(b_a1:Option (Option Addr))(n_a1:Nat)(a1:Array Value)(z0_4:Bool)(z0_18:Int):Option (SV×Eff×Bool):=some (.a (.b (true)),.none,true)
theorem Zp1(N:Nat)(a0:Array Value)(b_a1:Option (Option Addr))(n_a1:Nat)(a1:Array Value)(z0_4:Bool)(z0_18:Int):(Uad 0 (kSeq (veC PZ Zbs N (cAt cKCuA77 [1,1,1]) (pAt (Uaa cKCuA77 [([4,18],[])]).1 [1,1,1]) (SV×Eff×Bool)) (finK PZ [.sl (.came b_a1) n_a1 a1 70] [.tmp 4]))) (.exit 0) (left (writes (cAt cKCuA77 [1,1,0,1,0,0])) [4,18] [] (Zct a0 b_a1 n_a1 a1) ([.a (.b (z0_4)),.a (.i .i64 (z0_18))],[]))=Ziz PZ N a0 b_a1 n_a1 a1 z0_4 z0_18:=by refine Eq.trans (b:=(some (.a (.b (true)),.none,true))) (by kernel_rfl) ?_;rfl
theorem Zw2(N:Nat)(a0:Array Value)(b_a1:Option (Option Addr))(n_a1:Nat)(a1:Array Value):Uaj (Uab (Uag PZ Zbs N (cAt cKCuA77 [1,1,0,1,0,0]) (pAt (Uaa cKCuA77 [([4,18],[])]).1 [1,1,0,1,0]) [4,18] [] (Zct a0 b_a1 n_a1 a1)) N ([.a (.b (false)),.a (.i .i64 (0:Int))],[])) (λe s=>(Uad 0 (kSeq (veC PZ Zbs N (cAt cKCuA77 [1,1,1]) (pAt (Uaa cKCuA77 [([4,18],[])]).1 [1,1,1]) (SV×Eff×Bool)) (finK PZ [.sl (.came b_a1) n_a1 a1 70] [.tmp 4]))) e (left (writes (cAt cKCuA77 [1,1,0,1,0,0])) [4,18] [] (Zct a0 b_a1 n_a1 a1) s))=Uak (Uab (Zbf PZ a0 b_a1 n_a1 a1) N (false,(0:Int))) (st2 (λx=>Zir PZ N a0 b_a1 n_a1 a1 x.1 x.2) (λx=>Ziz PZ N a0 b_a1 n_a1 a1 x.1 x.2)):=by
 refine Zau Zdm Zkf _ _ (Zyr N a0 b_a1 n_a1 a1) N (false,(0:Int)) _ _ ?_;intro x;cases x with
 |more x=>exact Zpu N a0 b_a1 n_a1 a1 x.1 x.2
 |done x=>exact Zp1 N a0 b_a1 n_a1 a1 x.1 x.2
theorem Zvu(N:Nat)(a0:Array Value)(b_a1:Option (Option Addr))(n_a1:Nat)(a1:Array Value):ansV PZ Zbs N f77 [([4,18],[])] [.g a0 37,.l 0] [.sl (.came b_a1) n_a1 a1 70]=(bif (!((okS a0))) then (some (.a (.b (false)),.none,true))
  else (bif decide ((n_a1:Int) > (60:Int)) then (some (.a (.b (false)),.none,true))
   else (Uak (Uab (Zbf PZ a0 b_a1 n_a1 a1) N (false,(0:Int))) (st2 (λx=>Zir PZ N a0 b_a1 n_a1 a1 x.1 x.2) (λx=>Ziz PZ N a0 b_a1 n_a1 a1 x.1 x.2))))):=by
 refine Eq.trans (b:=(bif (!((okS a0))) then (some (.a (.b (false)),.none,true))
  else (bif decide ((n_a1:Int) > (60:Int)) then (some (.a (.b (false)),.none,true))
   else (Uaj (Uab (Uag PZ Zbs N (cAt cKCuA77 [1,1,0,1,0,0]) (pAt (Uaa cKCuA77 [([4,18],[])]).1 [1,1,0,1,0]) [4,18] [] (Zct a0 b_a1 n_a1 a1)) N ([.a (.b (false)),.a (.i .i64 (0:Int))],[])) (λe s=>(Uad 0 (kSeq (veC PZ Zbs N (cAt cKCuA77 [1,1,1]) (pAt (Uaa cKCuA77 [([4,18],[])]).1 [1,1,1]) (SV×Eff×Bool)) (finK PZ [.sl (.came b_a1) n_a1 a1 70] [.tmp 4]))) e (left (writes (cAt cKCuA77 [1,1,0,1,0,0])) [4,18] [] (Zct a0 b_a1 n_a1 a1) s)))))) (by kernel_rfl) ?_
 simp only[Zw2 N a0 b_a1 n_a1 a1]
theorem Zt1 (a0:Array Value) (b_a1:Option (Option Addr)) (n_a1:Nat) (a1:Array Value) (h_a0:WT PZ 37 a0) (h_a1:a1.size=n_a1*(lay PZ 70).length∧(∀ k,k<n_a1→WT PZ 70 (a1.extract (k*(lay PZ 70).length) (k*(lay PZ 70).length+(lay PZ 70).length)))∧n_a1≤9223372036854775807) (hg:(true)=true):ansV PZ Zbs 18446744073709551616 f77 [([4,18],[])] [.g a0 37,.l 0] [.sl (.came b_a1) n_a1 a1 70]=some (.a (.b ((okS a0&&(Ubi a0 n_a1 a1&&decide ((n_a1:Int)≤60))))),.none,true):=by
  have hn:=h_a1.2.2;have hS:=Yq6 h_a0;refine(Zvu 18446744073709551616 a0 b_a1 n_a1 a1).trans ?_;cases hok:okS a0
  . rfl
  by_cases hl:(n_a1:Int) > 60
  · rw [Q3 hl,Q4 (show ¬ (n_a1:Int)≤60 by omega),Bool.and_false];rfl
  rw[Q4 hl,Q3 (show (n_a1:Int)<=60 by omega),Bool.and_true];simp only[jC,Q2,jF]
  refine (Zs9 (g:=Zbf PZ a0 b_a1 n_a1 a1) (fun k=>(false,(k:Int))) (fndB a0 a1) n_a1 (N:=18446744073709551616) (xd:=.done (false,(n_a1:Int))) (by omega) (fun k hk hp=>by
    have h1:decide ((k:Int)<(n_a1:Int))=true:=Q3 (by omega);have h0:decide (0<=(k:Int))=true:=Q3 (by omega);have h3:i64.wrap ((k:Int)+1)=((k+1:Nat):Int):=by rw[IntWalk.i64_in _ (by omega)];omega
    have hx:=Ymk a1 k;have hp':fndB a0 a1 k=true:=hp;unfold fndB at hp';simp only[Q7]at hp';have hr:=Zh7 hp'.1;have h4:decide (0<=bcF a1 k)=true:=Q3 hr.1;have hw:Zad a0 (bcF a1 k)=false:=by unfold Zad;rw[Zwx h_a0 hr,hp'.2.1];rfl
    simp only[Zbf,h1,h0,h3,jB,Q9,Q1,Q2,hx.1,hx.2,Zqy,Yn0,h4,hw,hp'.1,hp'.2.2,jC]) (by
    have h1:decide ((n_a1:Int)<(n_a1:Int))=false:=Q4 (by omega);simp only[Zbf,h1,Q2]) (Ubi a0 n_a1 a1) (Zzh a0 n_a1 a1) (some (.a (.b true),.none,true)) (some (.a (.b false),.none,true)) rfl (λk hk hp=>by
    refine⟨.more (false,(k:Int)),?_,rfl⟩;have h1:decide ((k:Int)<(n_a1:Int))=true:=Q3 (by omega);have h0:decide (0<=(k:Int))=true:=Q3 (by omega);have h3:i64.wrap ((k:Int)+1)=((k+1:Nat):Int):=by rw[IntWalk.i64_in _ (by omega)];omega
    have hx:=Ymk a1 k;have hp':fndB a0 a1 k=false:=hp;unfold fndB at hp';cases x1:Zab (bcF a1 k) a0
    . simp only[Zbf,h1,h0,h3,jB,Q9,Q1,hx.1,Zqy,x1,jD]
    · have hr:=Zh7 x1;have h4:decide (0<=bcF a1 k)=true:=Q3 hr.1;cases x2:Zag (bcF a1 k) a0
      · have hw:Zad a0 (bcF a1 k)=true:=by
          unfold Zad;rw[Zwx h_a0 hr,x2];rfl
        simp only[Zbf,h1,h0,h3,jB,Q9,Q1,Q2,hx.1,Zqy,h4,x1,hw,jC]
      · have hw:Zad a0 (bcF a1 k)=false:=by
          unfold Zad;rw[Zwx h_a0 hr,x2];rfl
        rw[x1,x2]at hp';simp only[jF]at hp';simp only[Zbf,h1,h0,h3,jB,Q9,Q1,Q2,hx.1,hx.2,Zqy,Yn0,h4,x1,hw,hp',jC,jD])).trans ?_
  cases Ubi a0 n_a1 a1<;>rfl
def Zjq:Con:=λargs h=>match args,h with
 |[.g a0 37,.l 0],[.sl (.came b_a1) n_a1 a1 70]=>some (.a (.b ((okS a0&&(Ubi a0 n_a1 a1&&decide ((n_a1:Int)<=60))))),.none,true)
 |_,_=>none
theorem Zre:EntX PZ 77:=Zah (fn:=f77)
theorem Zxl:Uac (md F) PZ 77 Zjq:=(ansY (N:=18446744073709551616) (mKc (Zae Zgu) Zel (mKc (Zae Zf5) Zdp (mKc (Zae Zj2) Zhj (mKc (Zae Yeo) Zyx mKn)))) f77 [([4,18],[])]).of (by
 intro ρ h w args vals r e hA hH hr;unfold Zjq at hr;split at hr
 ·rename_i a0 b_a1 n_a1 a1
  obtain⟨rfl,rfl,hg2⟩:=BQi hr;exact Zt1 a0 b_a1 n_a1 a1 (hA.wt 0 rfl) (hH.slw 0 rfl) hg2
 ·cases hr)
def vf(S:Array Value)(n:Nat)(a:Array Value):Bool:=(okS S&&(Ubi S n a&&decide ((n:Int)<=60)))
theorem Uf7{S a:Array Value}{n:Nat}(h:vf S n a=true):okS S=true/\n<=60/\∀k,k<n->fndB S a k=true:=by unfold vf at h;simp only[Q7,decide_eq_true_eq]at h;exact⟨h.1,by omega,(Zzh S n a).1 h.2.1⟩
theorem fnd_of{S a:Array Value}{k:Nat}(h:fndB S a k=true):Zab (bcF a k) S=true/\Zag (bcF a k) S=true/\Zaa (hcF a k) 1 14=true:=by unfold fndB at h;simp only[Q7]at h;exact h
theorem Zrz{C:Array Value}(h:WT PZ 70 C):C.size=2/\i64.wrap (num C 0)=num C 0/\i64.wrap (num C 1)=num C 1/\bcF C 0=num C 0/\hcF C 0=num C 1:=by have h0:=(h.int (o:=0) (k:=.i8) (by kernel_rfl)).2;have h1:=(h.int (o:=1) (k:=.i8) (by kernel_rfl)).2;have m8:IntKind.i8.min=-128/\IntKind.i8.max=127:=⟨rfl,rfl⟩;rw[m8.1,m8.2]at h0 h1;have e0:i64.wrap (num C 0)=num C 0:=w64 (by omega);have e1:i64.wrap (num C 1)=num C 1:=w64 (by omega);exact⟨by rw[h.layLen];kernel_rfl,e0,e1,e0,e1⟩
def Zqf:Cons:=(mkΓ [(51,con Zlu),(52,con Zll),(53,con Zl1)])
theorem Zxg(N:Nat)(a1 a2:Int)(a0:Array Value)(b_a3:Option (Option Addr))(n_a3:Nat)(a3:Array Value):ansV PZ Zqf N f34 [] [.w 0,.i .i64 (a1),.i .i64 (a2),.l 1] [.row a0 37,.sl (.came b_a3) n_a3 a3 70]=(bif (!((okS a0))) then (some (.a (.i .i64 (1:Int)),.none,true))
  else (bif (!((Ubi a0 n_a3 a3&&decide ((n_a3:Int)<=60)))) then (some (.a (.i .i64 (1:Int)),.none,true))
   else (bif (Zf3 a1 a2 true a0) then (some (.a (.i .i64 (Zas a1 a2 true a0)),.none,true))
    else (none)))):=by kernel_rfl
theorem Zu8(a1 a2:Int)(a0:Array Value)(b_a3:Option (Option Addr))(n_a3:Nat)(a3:Array Value)(h_a1:i64.min<=a1/\a1<=i64.max)(h_a2:i64.min<=a2/\a2<=i64.max)(h_a0:WT PZ 37 a0)(h_a3:a3.size=n_a3*(lay PZ 70).length/\(∀k,k<n_a3->WT PZ 70 (a3.extract (k*(lay PZ 70).length) (k*(lay PZ 70).length+(lay PZ 70).length)))/\n_a3<=9223372036854775807)(hg:(true)=true):ansV PZ Zqf 1000 f34 [] [.w 0,.i .i64 (a1),.i .i64 (a2),.l 1] [.row a0 37,.sl (.came b_a3) n_a3 a3 70]=some (.a (.i .i64 (bif vf a0 n_a3 a3 then Zas a1 a2 true a0 else 1)),.none,true):=by
 refine(Zxg 1000 a1 a2 a0 b_a3 n_a3 a3).trans ?_;rw[from_gd];unfold vf;cases okS a0 with
 |false=>rfl
 |true=>cases (Ubi a0 n_a3 a3&&decide ((n_a3:Int)<=60))<;>rfl
def Zj3:Con:=λargs h=>match args,h with
 |[.w 0,.i .i64 a1,.i .i64 a2,.l 1],[.row a0 37,.sl (.came b_a3) n_a3 a3 70]=>some (.a (.i .i64 (bif vf a0 n_a3 a3 then Zas a1 a2 true a0 else 1)),.none,true)
 |_,_=>none
theorem Ztx:EntX PZ 34:=Zah (fn:=f34)
theorem Zzt:Uac (md F) PZ 34 Zj3:=(ansY (N:=1000) (mKc (Zae Zxi) Zqe (mKc (Zae Ybi) Zvd (mKc (Zae Yf2) Zw4 mKn))) f34 []).of (by
 intro ρ h w args vals r e hA hH hr;unfold Zj3 at hr;split at hr
 ·rename_i a1 a2 a0 b_a3 n_a3 a3
  obtain⟨rfl,rfl,hg2⟩:=BQi hr;exact Zu8 a1 a2 a0 b_a3 n_a3 a3 (hA.rng 1 rfl) (hA.rng 2 rfl) (hH.wt 0 rfl) (hH.slw 1 rfl) hg2
 ·cases hr)
def prtV(a0 a1:Array Value):Int:=(num (subV (a0.extract ((num a1 1).toNat*36) ((num a1 1).toNat*36+36)) (a0.extract (((num a1 1).toNat - 1)*36) (((num a1 1).toNat - 1)*36+36)) 12) (num a1 0).toNat)
theorem Zq4(N:Nat)(a1:Array Value)(b_a0:Option (Option Addr))(n_a0:Nat)(a0:Array Value):ansV PZ (mkΓ [(108,con Zfm)]) N f88 [] [.l 0,.g a1 70] [.sl (.came b_a0) n_a0 a0 105]=(bif ((decide (0<=(i64.wrap ((i64.wrap (num a1 1)) - (1:Int))))&&decide ((i64.wrap ((i64.wrap (num a1 1)) - (1:Int)))<=(i64.wrap (num a1 1))))&&(decide ((i64.wrap (num a1 1))<=(i64.wrap ((i64.wrap (num a1 1)) - (1:Int)))+14)&&decide ((i64.wrap (num a1 1))<(n_a0:Int)))) then (bif (decide (0<=(num a1 0))&&decide ((num a1 0)<36)) then (some (.a (.i .i64 (num (subV (a0.extract ((i64.wrap (num a1 1)).toNat*36) ((i64.wrap (num a1 1)).toNat*36+36)) (a0.extract ((i64.wrap ((i64.wrap (num a1 1)) - (1:Int))).toNat*36) ((i64.wrap ((i64.wrap (num a1 1)) - (1:Int))).toNat*36+36)) (12^((i64.wrap (num a1 1)) - (i64.wrap ((i64.wrap (num a1 1)) - (1:Int)))).toNat)) ((num a1 0).toNat*1))),.none,true))
   else (none))
  else (none)):=by kernel_rfl
theorem Zqg(a1:Array Value)(b_a0:Option (Option Addr))(n_a0:Nat)(a0:Array Value)(h_a1:WT PZ 70 a1)(h_a0:a0.size=n_a0*(lay PZ 105).length/\(∀k,k<n_a0->WT PZ 105 (a0.extract (k*(lay PZ 105).length) (k*(lay PZ 105).length+(lay PZ 105).length)))/\n_a0<=9223372036854775807)(hg:((Zaa (num a1 1) 1 14&&(decide (num a1 1<(n_a0:Int))&&(decide (0<=num a1 0)&&decide (num a1 0<36)))))=true):ansV PZ (mkΓ [(108,con Zfm)]) 1000 f88 [] [.l 0,.g a1 70] [.sl (.came b_a0) n_a0 a0 105]=some (.a (.i .i64 (prtV a0 a1)),.none,true):=by
 obtain⟨z,e0,e1,_,_⟩:=Zrz h_a1;rw[Q7,Q7]at hg;obtain⟨q3,q4,q5⟩:=hg;have r3:=Zjb q3;have e2:i64.wrap (num a1 1 - 1)=num a1 1 - 1:=w64 (by omega);have e3:(num a1 1 - (num a1 1 - 1)).toNat=1:=by omega
 have e4:(num a1 1 - 1).toNat=(num a1 1).toNat - 1:=by omega
 have e5:(12:Int)^1=12:=by decide
 have g1:decide (0<=num a1 1 - 1)=true:=Q3 (by omega);have g2:decide (num a1 1 - 1<=num a1 1)=true:=Q3 (by omega);have g3:decide (num a1 1<=num a1 1 - 1+14)=true:=Q3 (by omega);refine(Zq4 1000 a1 b_a0 n_a0 a0).trans ?_;unfold prtV;simp only[e1,e2,e3,e4,e5,g1,g2,g3,q4,q5,jB,Q1,Nat.mul_one]
def Zho:Con:=λargs h=>match args,h with
 |[.l 0,.g a1 70],[.sl (.came b_a0) n_a0 a0 105]=>some (.a (.i .i64 (prtV a0 a1)),.none,(Zaa (num a1 1) 1 14&&(decide (num a1 1<(n_a0:Int))&&(decide (0<=num a1 0)&&decide (num a1 0<36)))))
 |_,_=>none
theorem Zpg:EntX PZ 88:=Zah (fn:=f88)
theorem Ztq:Uac (md F) PZ 88 Zho:=(ansY (N:=1000) (mKc (Zae Ztp) Zp8 mKn) f88 []).of (by
 intro ρ h w args vals r e hA hH hr;unfold Zho at hr;split at hr
 ·rename_i a1 b_a0 n_a0 a0
  obtain⟨rfl,rfl,hg2⟩:=BQi hr;exact Zqg a1 b_a0 n_a0 a0 (hA.wt 1 rfl) (hH.slw 0 rfl) hg2
 ·cases hr)
theorem Zvz(N:Nat)(a0 a1:Array Value):ansV PZ (mkΓ []) N f78 [] [.g a0 37,.g a1 37] []=(bif ((num a0 0)==(num a1 0)) then (bif ((num a0 1)==(num a1 1)) then (some (.a (.b (((num a0 2)==(num a1 2)))),.none,true))
   else (some (.a (.b (false)),.none,true)))
  else (some (.a (.b (false)),.none,true))):=by kernel_rfl
def Zbz(a0 a1:Array Value):Bool:=(bif ((num a0 0)==(num a1 0)) then (bif ((num a0 1)==(num a1 1)) then ((num a0 2)==(num a1 2)) else false) else false)
theorem Ztn(a0 a1:Array Value)(h_a0:WT PZ 37 a0)(h_a1:WT PZ 37 a1)(hg:(true)=true):ansV PZ (mkΓ []) 1000 f78 [] [.g a0 37,.g a1 37] []=some (.a (.b ((Zbz a0 a1))),.none,true):=by
 refine(Zvz 1000 a0 a1).trans ?_;unfold Zbz;revert hg;generalize (((num a0 0)==(num a1 0)))=b2;intro hg;cases b2
 ·skip
  first | (simp only[Q1,Q2,BQ6];done)|rfl|exact(nomatch (hg:false=true))
 ·skip
  revert hg;generalize (((num a0 1)==(num a1 1)))=b4;intro hg;cases b4
  ·skip
   first | (simp only[Q1,Q2,BQ6];done)|rfl|exact(nomatch (hg:false=true))
  ·skip
   first | (simp only[Q1,Q2,BQ6];done)|rfl|exact(nomatch (hg:false=true))
def Zjh:Con:=λargs h=>match args,h with
 |[.g a0 37,.g a1 37],[]=>some (.a (.b ((Zbz a0 a1))),.none,true)
 |_,_=>none
theorem Zr5:EntX PZ 78:=Zah (fn:=f78)
theorem Zx1:Uac (md F) PZ 78 Zjh:=(ansY (N:=1000) mKn f78 []).of (by
 intro ρ h w args vals r e hA hH hr;unfold Zjh at hr;split at hr
 ·rename_i a0 a1
  obtain⟨rfl,rfl,hg2⟩:=BQi hr;exact Ztn a0 a1 (hA.wt 0 rfl) (hA.wt 1 rfl) hg2
 ·cases hr)
def Za2:Cons:=(mkΓ [(77,con Zjq),(78,con Zjh)])
def Zdu(b_a0:Option (Option Addr))(n_a0:Nat)(a0:Array Value)(b_a1:Option (Option Addr))(n_a1:Nat)(a1:Array Value):St:=(⟨.a (.l 0) :: .a (.l 1) :: .a (.u) :: .a (.u) :: .a (.i .i64 (0:Int))::us 4 (.a (.l 0) :: .a (.i .i64 (n_a0:Int)) :: .a (.i .i64 (0:Int))::us 24 ([])),[.sl (.came b_a0) n_a0 a0 37,.sl (.came b_a1) n_a1 a1 70],[]⟩:St)
def Ze1:Int×Int->LS
 |(y0_4,y0_11)=>([.a (.i .i64 (y0_4)),.a (.i .i64 (y0_11))],[])
def Zl9:(Stp (Int×Int) (Int×Int))->Exit×LS
 |.more t=>(.ret,Ze1 t)
 |.done t=>((.exit 0),Ze1 t)
def Zb8(P:Program)(b_a0:Option (Option Addr))(n_a0:Nat)(a0:Array Value)(b_a1:Option (Option Addr))(n_a1:Nat)(a1:Array Value):Int×Int->Option (Stp (Int×Int) (Stp (Int×Int) (Int×Int)))
 |(y0_4,y0_11)=>bif decide (y0_11<(n_a0:Int)) then (bif (decide (0<=y0_11)&&decide (y0_11<(n_a0:Int))) then (bif (!((okS (a0.extract ((y0_11).toNat*363) (((y0_11).toNat*363)+363))&&(Ubi (a0.extract ((y0_11).toNat*363) (((y0_11).toNat*363)+363)) n_a1 a1&&decide ((n_a1:Int)<=60))))) then (some (.done (.more ((1:Int),y0_11))))
    else (some (.more (y0_4,(i64.wrap (y0_11+(1:Int)))))))
   else (none))
  else (some (.done (.done (y0_4,y0_11))))
noncomputable abbrev cKCuA55:=codeOf f55
theorem Ybk(N:Nat)(b_a0:Option (Option Addr))(n_a0:Nat)(a0:Array Value)(b_a1:Option (Option Addr))(n_a1:Nat)(a1:Array Value):∀t:Int×Int,Uag PZ Za2 N (cAt cKCuA55 [1,0,1,0,0]) (pAt (Uaa cKCuA55 [([4,11],[]),([4,25],[])]).1 [1,0,1,0]) [4,11] [] (Zdu b_a0 n_a0 a0 b_a1 n_a1 a1) (Ze1 t)=mapS Ze1 Zl9 (Zb8 PZ b_a0 n_a0 a0 b_a1 n_a1 a1 t):=by
 rintro⟨y0_4,y0_11⟩;refine Eq.trans (b:=(bif decide (y0_11<(n_a0:Int)) then (bif (decide (0<=y0_11)&&decide (y0_11<(n_a0:Int))) then (bif (!((okS (a0.extract ((y0_11).toNat*363) (((y0_11).toNat*363)+363))&&(Ubi (a0.extract ((y0_11).toNat*363) (((y0_11).toNat*363)+363)) n_a1 a1&&decide ((n_a1:Int)<=60))))) then (some (.done (.ret,([.a (.i .i64 (1:Int)),.a (.i .i64 (y0_11))],[]))))
    else (some (.more ([.a (.i .i64 (y0_4)),.a (.i .i64 (i64.wrap (y0_11+(1:Int))))],[]))))
   else (none))
  else (some (.done ((.exit 0),([.a (.i .i64 (y0_4)),.a (.i .i64 (y0_11))],[])))))) (by kernel_rfl) ?_
 simp only[Zb8,Zao,Zap,Zam,Zan,Ze1,Zl9]
def Zdv(b_a0:Option (Option Addr))(n_a0:Nat)(a0:Array Value)(b_a1:Option (Option Addr))(n_a1:Nat)(a1:Array Value)(z0_4:Int)(z0_11:Int):St:=(⟨.a (.l 0) :: .a (.l 1) :: .a (.u) :: .a (.u) :: .a (.i .i64 (z0_4)) :: .a (.u) :: .a (.x) :: .a (.u) :: .a (.u) :: .a (.l 0) :: .a (.i .i64 (n_a0:Int)) :: .a (.i .i64 (z0_11))::xs 8 (.a (.l 0) :: .a (.i .i64 (n_a0:Int)) :: .a (.b (decide ((n_a0:Int) > (8:Int)))) :: .a (.l 0) :: .a (.i .i64 (n_a0:Int)) :: .a (.i .i64 (0:Int))::us 10 ([])),[.sl (.came b_a0) n_a0 a0 37,.sl (.came b_a1) n_a1 a1 70],[]⟩:St)
def Zeu:Int×Int->LS
 |(y1_4,y1_25)=>([.a (.i .i64 (y1_4)),.a (.i .i64 (y1_25))],[])
def Zl4:(Stp (Int×Int) (Int×Int))->Exit×LS
 |.more t=>(.ret,Zeu t)
 |.done t=>((.exit 2),Zeu t)
def Zb6(P:Program)(b_a0:Option (Option Addr))(n_a0:Nat)(a0:Array Value)(b_a1:Option (Option Addr))(n_a1:Nat)(a1:Array Value)(z0_4:Int)(z0_11:Int):Int×Int->Option (Stp (Int×Int) (Stp (Int×Int) (Int×Int)))
 |(y1_4,y1_25)=>bif decide (y1_25<(n_a0:Int)) then (bif (decide (0<=y1_25)&&decide (y1_25<(n_a0:Int))) then (bif (decide (0<=(0:Int))&&decide ((0:Int)<(n_a0:Int))) then (bif (!((Zbz (a0.extract ((y1_25).toNat*363) (((y1_25).toNat*363)+363)) (a0.extract ((0:Int).toNat*363) (((0:Int).toNat*363)+363))))) then (some (.done (.more ((4:Int),y1_25))))
     else (some (.more (y1_4,(i64.wrap (y1_25+(1:Int)))))))
    else (none))
   else (none))
  else (some (.done (.done (y1_4,y1_25))))
theorem Ycm(N:Nat)(b_a0:Option (Option Addr))(n_a0:Nat)(a0:Array Value)(b_a1:Option (Option Addr))(n_a1:Nat)(a1:Array Value)(z0_4:Int)(z0_11:Int):∀t:Int×Int,Uag PZ Za2 N (cAt cKCuA55 [1,1,1,0,1,0,0]) (pAt (Uaa cKCuA55 [([4,11],[]),([4,25],[])]).1 [1,1,1,0,1,0]) [4,25] [] (Zdv b_a0 n_a0 a0 b_a1 n_a1 a1 z0_4 z0_11) (Zeu t)=mapS Zeu Zl4 (Zb6 PZ b_a0 n_a0 a0 b_a1 n_a1 a1 z0_4 z0_11 t):=by
 rintro⟨y1_4,y1_25⟩;refine Eq.trans (b:=(bif decide (y1_25<(n_a0:Int)) then (bif (decide (0<=y1_25)&&decide (y1_25<(n_a0:Int))) then (bif (decide (0<=(0:Int))&&decide ((0:Int)<(n_a0:Int))) then (bif (!((Zbz (a0.extract ((y1_25).toNat*363) (((y1_25).toNat*363)+363)) (a0.extract ((0:Int).toNat*363) (((0:Int).toNat*363)+363))))) then (some (.done (.ret,([.a (.i .i64 (4:Int)),.a (.i .i64 (y1_25))],[]))))
     else (some (.more ([.a (.i .i64 (y1_4)),.a (.i .i64 (i64.wrap (y1_25+(1:Int))))],[]))))
    else (none))
   else (none))
  else (some (.done ((.exit 2),([.a (.i .i64 (y1_4)),.a (.i .i64 (y1_25))],[])))))) (by kernel_rfl) ?_
 simp only[Zb6,Zao,Zap,Zam,Zan,Zeu,Zl4]
def Zkc(P:Program)(N:Nat)(b_a0:Option (Option Addr))(n_a0:Nat)(a0:Array Value)(b_a1:Option (Option Addr))(n_a1:Nat)(a1:Array Value)(z0_4:Int)(z0_11:Int)(z1_4:Int)(z1_25:Int):Option (SV×Eff×Bool):=some (.a (.i .i64 (z1_4)),.none,true)
theorem Zrm(N:Nat)(b_a0:Option (Option Addr))(n_a0:Nat)(a0:Array Value)(b_a1:Option (Option Addr))(n_a1:Nat)(a1:Array Value)(z0_4:Int)(z0_11:Int)(z1_4:Int)(z1_25:Int):(Uad 2 (kSeq (veC PZ Za2 N (cAt cKCuA55 [1,1,1,1]) (pAt (Uaa cKCuA55 [([4,11],[]),([4,25],[])]).1 [1,1,1,1]) (SV×Eff×Bool)) (finK PZ [.sl (.came b_a0) n_a0 a0 37,.sl (.came b_a1) n_a1 a1 70] [.tmp 4]))) .ret (left (writes (cAt cKCuA55 [1,1,1,0,1,0,0])) [4,25] [] (Zdv b_a0 n_a0 a0 b_a1 n_a1 a1 z0_4 z0_11) ([.a (.i .i64 (z1_4)),.a (.i .i64 (z1_25))],[]))=Zkc PZ N b_a0 n_a0 a0 b_a1 n_a1 a1 z0_4 z0_11 z1_4 z1_25:=by refine Eq.trans (b:=(some (.a (.i .i64 (z1_4)),.none,true))) (by kernel_rfl) ?_;rfl
def Zj5(P:Program)(N:Nat)(b_a0:Option (Option Addr))(n_a0:Nat)(a0:Array Value)(b_a1:Option (Option Addr))(n_a1:Nat)(a1:Array Value)(z0_4:Int)(z0_11:Int)(z1_4:Int)(z1_25:Int):Option (SV×Eff×Bool):=some (.a (.i .i64 (0:Int)),.none,true)
theorem Zrj(N:Nat)(b_a0:Option (Option Addr))(n_a0:Nat)(a0:Array Value)(b_a1:Option (Option Addr))(n_a1:Nat)(a1:Array Value)(z0_4:Int)(z0_11:Int)(z1_4:Int)(z1_25:Int):(Uad 2 (kSeq (veC PZ Za2 N (cAt cKCuA55 [1,1,1,1]) (pAt (Uaa cKCuA55 [([4,11],[]),([4,25],[])]).1 [1,1,1,1]) (SV×Eff×Bool)) (finK PZ [.sl (.came b_a0) n_a0 a0 37,.sl (.came b_a1) n_a1 a1 70] [.tmp 4]))) (.exit 2) (left (writes (cAt cKCuA55 [1,1,1,0,1,0,0])) [4,25] [] (Zdv b_a0 n_a0 a0 b_a1 n_a1 a1 z0_4 z0_11) ([.a (.i .i64 (z1_4)),.a (.i .i64 (z1_25))],[]))=Zj5 PZ N b_a0 n_a0 a0 b_a1 n_a1 a1 z0_4 z0_11 z1_4 z1_25:=by refine Eq.trans (b:=(some (.a (.i .i64 (0:Int)),.none,true))) (by kernel_rfl) ?_;rfl
theorem Yci(N:Nat)(b_a0:Option (Option Addr))(n_a0:Nat)(a0:Array Value)(b_a1:Option (Option Addr))(n_a1:Nat)(a1:Array Value)(z0_4:Int)(z0_11:Int):Uaj (Uab (Uag PZ Za2 N (cAt cKCuA55 [1,1,1,0,1,0,0]) (pAt (Uaa cKCuA55 [([4,11],[]),([4,25],[])]).1 [1,1,1,0,1,0]) [4,25] [] (Zdv b_a0 n_a0 a0 b_a1 n_a1 a1 z0_4 z0_11)) N ([.a (.i .i64 (z0_4)),.a (.i .i64 (0:Int))],[])) (λe s=>(Uad 2 (kSeq (veC PZ Za2 N (cAt cKCuA55 [1,1,1,1]) (pAt (Uaa cKCuA55 [([4,11],[]),([4,25],[])]).1 [1,1,1,1]) (SV×Eff×Bool)) (finK PZ [.sl (.came b_a0) n_a0 a0 37,.sl (.came b_a1) n_a1 a1 70] [.tmp 4]))) e (left (writes (cAt cKCuA55 [1,1,1,0,1,0,0])) [4,25] [] (Zdv b_a0 n_a0 a0 b_a1 n_a1 a1 z0_4 z0_11) s))=Uak (Uab (Zb6 PZ b_a0 n_a0 a0 b_a1 n_a1 a1 z0_4 z0_11) N (z0_4,(0:Int))) (st2 (λx=>Zkc PZ N b_a0 n_a0 a0 b_a1 n_a1 a1 z0_4 z0_11 x.1 x.2) (λx=>Zj5 PZ N b_a0 n_a0 a0 b_a1 n_a1 a1 z0_4 z0_11 x.1 x.2)):=by
 refine Zau Zeu Zl4 _ _ (Ycm N b_a0 n_a0 a0 b_a1 n_a1 a1 z0_4 z0_11) N (z0_4,(0:Int)) _ _ ?_;intro x;cases x with
 |more x=>exact Zrm N b_a0 n_a0 a0 b_a1 n_a1 a1 z0_4 z0_11 x.1 x.2
 |done x=>exact Zrj N b_a0 n_a0 a0 b_a1 n_a1 a1 z0_4 z0_11 x.1 x.2
def Zke(P:Program)(N:Nat)(b_a0:Option (Option Addr))(n_a0:Nat)(a0:Array Value)(b_a1:Option (Option Addr))(n_a1:Nat)(a1:Array Value)(z0_4:Int)(z0_11:Int):Option (SV×Eff×Bool):=some (.a (.i .i64 (z0_4)),.none,true)
theorem Zsb(N:Nat)(b_a0:Option (Option Addr))(n_a0:Nat)(a0:Array Value)(b_a1:Option (Option Addr))(n_a1:Nat)(a1:Array Value)(z0_4:Int)(z0_11:Int):(Uad 0 (kSeq (veC PZ Za2 N (cAt cKCuA55 [1,1]) (pAt (Uaa cKCuA55 [([4,11],[]),([4,25],[])]).1 [1,1]) (SV×Eff×Bool)) (finK PZ [.sl (.came b_a0) n_a0 a0 37,.sl (.came b_a1) n_a1 a1 70] [.tmp 4]))) .ret (left (writes (cAt cKCuA55 [1,0,1,0,0])) [4,11] [] (Zdu b_a0 n_a0 a0 b_a1 n_a1 a1) ([.a (.i .i64 (z0_4)),.a (.i .i64 (z0_11))],[]))=Zke PZ N b_a0 n_a0 a0 b_a1 n_a1 a1 z0_4 z0_11:=by refine Eq.trans (b:=(some (.a (.i .i64 (z0_4)),.none,true))) (by kernel_rfl) ?_;rfl
def Zfo(P:Program)(N:Nat)(b_a0:Option (Option Addr))(n_a0:Nat)(a0:Array Value)(b_a1:Option (Option Addr))(n_a1:Nat)(a1:Array Value)(z0_4:Int)(z0_11:Int):Option (SV×Eff×Bool):=bif decide ((n_a0:Int) > (8:Int)) then (some (.a (.i .i64 (3:Int)),.none,true))
  else (Uak (Uab (Zb6 P b_a0 n_a0 a0 b_a1 n_a1 a1 z0_4 z0_11) N (z0_4,(0:Int))) (st2 (λx=>Zkc P N b_a0 n_a0 a0 b_a1 n_a1 a1 z0_4 z0_11 x.1 x.2) (λx=>Zj5 P N b_a0 n_a0 a0 b_a1 n_a1 a1 z0_4 z0_11 x.1 x.2)))
theorem Zrd(N:Nat)(b_a0:Option (Option Addr))(n_a0:Nat)(a0:Array Value)(b_a1:Option (Option Addr))(n_a1:Nat)(a1:Array Value)(z0_4:Int)(z0_11:Int):(Uad 0 (kSeq (veC PZ Za2 N (cAt cKCuA55 [1,1]) (pAt (Uaa cKCuA55 [([4,11],[]),([4,25],[])]).1 [1,1]) (SV×Eff×Bool)) (finK PZ [.sl (.came b_a0) n_a0 a0 37,.sl (.came b_a1) n_a1 a1 70] [.tmp 4]))) (.exit 0) (left (writes (cAt cKCuA55 [1,0,1,0,0])) [4,11] [] (Zdu b_a0 n_a0 a0 b_a1 n_a1 a1) ([.a (.i .i64 (z0_4)),.a (.i .i64 (z0_11))],[]))=Zfo PZ N b_a0 n_a0 a0 b_a1 n_a1 a1 z0_4 z0_11:=by
 refine Eq.trans (b:=(bif decide ((n_a0:Int) > (8:Int)) then (some (.a (.i .i64 (3:Int)),.none,true))
  else (Uaj (Uab (Uag PZ Za2 N (cAt cKCuA55 [1,1,1,0,1,0,0]) (pAt (Uaa cKCuA55 [([4,11],[]),([4,25],[])]).1 [1,1,1,0,1,0]) [4,25] [] (Zdv b_a0 n_a0 a0 b_a1 n_a1 a1 z0_4 z0_11)) N ([.a (.i .i64 (z0_4)),.a (.i .i64 (0:Int))],[])) (λe s=>(Uad 2 (kSeq (veC PZ Za2 N (cAt cKCuA55 [1,1,1,1]) (pAt (Uaa cKCuA55 [([4,11],[]),([4,25],[])]).1 [1,1,1,1]) (SV×Eff×Bool)) (finK PZ [.sl (.came b_a0) n_a0 a0 37,.sl (.came b_a1) n_a1 a1 70] [.tmp 4]))) e (left (writes (cAt cKCuA55 [1,1,1,0,1,0,0])) [4,25] [] (Zdv b_a0 n_a0 a0 b_a1 n_a1 a1 z0_4 z0_11) s))))) (by kernel_rfl) ?_
 simp only[Yci N b_a0 n_a0 a0 b_a1 n_a1 a1 z0_4 z0_11,Zfo]
theorem Ybd(N:Nat)(b_a0:Option (Option Addr))(n_a0:Nat)(a0:Array Value)(b_a1:Option (Option Addr))(n_a1:Nat)(a1:Array Value):Uaj (Uab (Uag PZ Za2 N (cAt cKCuA55 [1,0,1,0,0]) (pAt (Uaa cKCuA55 [([4,11],[]),([4,25],[])]).1 [1,0,1,0]) [4,11] [] (Zdu b_a0 n_a0 a0 b_a1 n_a1 a1)) N ([.a (.i .i64 (0:Int)),.a (.i .i64 (0:Int))],[])) (λe s=>(Uad 0 (kSeq (veC PZ Za2 N (cAt cKCuA55 [1,1]) (pAt (Uaa cKCuA55 [([4,11],[]),([4,25],[])]).1 [1,1]) (SV×Eff×Bool)) (finK PZ [.sl (.came b_a0) n_a0 a0 37,.sl (.came b_a1) n_a1 a1 70] [.tmp 4]))) e (left (writes (cAt cKCuA55 [1,0,1,0,0])) [4,11] [] (Zdu b_a0 n_a0 a0 b_a1 n_a1 a1) s))=Uak (Uab (Zb8 PZ b_a0 n_a0 a0 b_a1 n_a1 a1) N ((0:Int),(0:Int))) (st2 (λx=>Zke PZ N b_a0 n_a0 a0 b_a1 n_a1 a1 x.1 x.2) (λx=>Zfo PZ N b_a0 n_a0 a0 b_a1 n_a1 a1 x.1 x.2)):=by
 refine Zau Ze1 Zl9 _ _ (Ybk N b_a0 n_a0 a0 b_a1 n_a1 a1) N ((0:Int),(0:Int)) _ _ ?_;intro x;cases x with
 |more x=>exact Zsb N b_a0 n_a0 a0 b_a1 n_a1 a1 x.1 x.2
 |done x=>exact Zrd N b_a0 n_a0 a0 b_a1 n_a1 a1 x.1 x.2
theorem Zz0(N:Nat)(b_a0:Option (Option Addr))(n_a0:Nat)(a0:Array Value)(b_a1:Option (Option Addr))(n_a1:Nat)(a1:Array Value):ansV PZ Za2 N f55 [([4,11],[]),([4,25],[])] [.l 0,.l 1] [.sl (.came b_a0) n_a0 a0 37,.sl (.came b_a1) n_a1 a1 70]=(Uak (Uab (Zb8 PZ b_a0 n_a0 a0 b_a1 n_a1 a1) N ((0:Int),(0:Int))) (st2 (λx=>Zke PZ N b_a0 n_a0 a0 b_a1 n_a1 a1 x.1 x.2) (λx=>Zfo PZ N b_a0 n_a0 a0 b_a1 n_a1 a1 x.1 x.2))):=by refine Eq.trans (b:=(Uaj (Uab (Uag PZ Za2 N (cAt cKCuA55 [1,0,1,0,0]) (pAt (Uaa cKCuA55 [([4,11],[]),([4,25],[])]).1 [1,0,1,0]) [4,11] [] (Zdu b_a0 n_a0 a0 b_a1 n_a1 a1)) N ([.a (.i .i64 (0:Int)),.a (.i .i64 (0:Int))],[])) (λe s=>(Uad 0 (kSeq (veC PZ Za2 N (cAt cKCuA55 [1,1]) (pAt (Uaa cKCuA55 [([4,11],[]),([4,25],[])]).1 [1,1]) (SV×Eff×Bool)) (finK PZ [.sl (.came b_a0) n_a0 a0 37,.sl (.came b_a1) n_a1 a1 70] [.tmp 4]))) e (left (writes (cAt cKCuA55 [1,0,1,0,0])) [4,11] [] (Zdu b_a0 n_a0 a0 b_a1 n_a1 a1) s)))) (by kernel_rfl) ?_;simp only[Ybd N b_a0 n_a0 a0 b_a1 n_a1 a1]
def badM(a:Array Value)(n:Nat)(D:Array Value)(k:Nat):Bool:= !(vf (a.extract (k*363) (k*363+363)) n D)
def offM(a:Array Value)(k:Nat):Bool:= !(Zbz (a.extract (k*363) (k*363+363)) (a.extract (0*363) (0*363+363)))
def Uaw(m:Nat)(a:Array Value)(n:Nat)(D:Array Value):Int:=bif ((jE m).find? (badM a n D)).isSome then 1 else bif ((jE m).find? (offM a)).isSome then 4 else 0
theorem Zye(b_a0:Option (Option Addr))(n_a0:Nat)(a0:Array Value)(b_a1:Option (Option Addr))(n_a1:Nat)(a1:Array Value)(h_a0:a0.size=n_a0*(lay PZ 37).length/\(∀k,k<n_a0->WT PZ 37 (a0.extract (k*(lay PZ 37).length) (k*(lay PZ 37).length+(lay PZ 37).length)))/\n_a0<=9223372036854775807)(h_a1:a1.size=n_a1*(lay PZ 70).length/\(∀k,k<n_a1->WT PZ 70 (a1.extract (k*(lay PZ 70).length) (k*(lay PZ 70).length+(lay PZ 70).length)))/\n_a1<=9223372036854775807)(hg:(jA n_a0 8)=true):ansV PZ Za2 1000 f55 [([4,11],[]),([4,25],[])] [.l 0,.l 1] [.sl (.came b_a0) n_a0 a0 37,.sl (.came b_a1) n_a1 a1 70]=some (.a (.i .i64 (Uaw n_a0 a0 n_a1 a1)),.none,true):=by
 have hn:n_a0<=8:=jG hg;refine(Zz0 1000 b_a0 n_a0 a0 b_a1 n_a1 a1).trans ?_;have w1:∀k:Nat,k<n_a0->i64.wrap ((k:Int)+1)=((k+1:Nat):Int):=λk hk=>by rw[w64 (by omega)];omega
 have l0:=Zr1 (g:=Zb8 PZ b_a0 n_a0 a0 b_a1 n_a1 a1) (λk=>((0:Int),(k:Int))) (badM a0 n_a1 a1) n_a0 (N:=1000) (xd:=.done ((0:Int),(n_a0:Int))) (by omega) (λk=>.more ((1:Int),(k:Int))) (λk hk hp=>by
  have h1:decide ((k:Int)<(n_a0:Int))=true:=Q3 (by omega);have h2:decide (0<=(k:Int))=true:=Q3 (by omega);unfold badM vf at hp;simp only[Zb8,h1,h2,w1 k hk,Q9,hp,jB,Q1,Q2]) (λk hk hp=>by
  have h1:decide ((k:Int)<(n_a0:Int))=true:=Q3 (by omega);have h2:decide (0<=(k:Int))=true:=Q3 (by omega);unfold badM vf at hp;simp only[Zb8,h1,h2,Q9,hp,jB,Q1,Q2]) (by
  have h1:decide ((n_a0:Int)<(n_a0:Int))=false:=Q4 (by omega);simp only[Zb8,h1,Q2])
 have l0':Uab (Zb8 PZ b_a0 n_a0 a0 b_a1 n_a1 a1) 1000 ((0:Int),(0:Int))=some (match (jE n_a0).find? (badM a0 n_a1 a1) with|some k=>.more ((1:Int),(k:Int))|none=>.done ((0:Int),(n_a0:Int))):=l0;rw[l0'];unfold Uaw;cases hb:(jE n_a0).find? (badM a0 n_a1 a1) with
 |some k=>rfl
 | none=>
  have h8:decide ((n_a0:Int) > (8:Int))=false:=Q4 (by omega);simp only[Uak,st2,Zfo,h8,Q2,Option.isSome_none];have l1:=Zr1 (g:=Zb6 PZ b_a0 n_a0 a0 b_a1 n_a1 a1 0 (n_a0:Int)) (λk=>((0:Int),(k:Int))) (offM a0) n_a0 (N:=1000) (xd:=.done ((0:Int),(n_a0:Int))) (by omega) (λk=>.more ((4:Int),(k:Int))) (λk hk hp=>by
   have h1:decide ((k:Int)<(n_a0:Int))=true:=Q3 (by omega);have h2:decide (0<=(k:Int))=true:=Q3 (by omega);have h3:decide ((0:Int)<(n_a0:Int))=true:=Q3 (by omega);have h4:decide ((0:Int)<=0)=true:=rfl;unfold offM at hp;simp only[Zb6,h1,h2,h3,h4,w1 k hk,Q9,Int.toNat_zero,hp,jB,Q1,Q2]) (λk hk hp=>by
   have h1:decide ((k:Int)<(n_a0:Int))=true:=Q3 (by omega);have h2:decide (0<=(k:Int))=true:=Q3 (by omega);have h3:decide ((0:Int)<(n_a0:Int))=true:=Q3 (by omega);have h4:decide ((0:Int)<=0)=true:=rfl;unfold offM at hp;simp only[Zb6,h1,h2,h3,h4,Q9,Int.toNat_zero,hp,jB,Q1,Q2]) (by
   have h1:decide ((n_a0:Int)<(n_a0:Int))=false:=Q4 (by omega);simp only[Zb6,h1,Q2])
  have l1':Uab (Zb6 PZ b_a0 n_a0 a0 b_a1 n_a1 a1 0 (n_a0:Int)) 1000 ((0:Int),(0:Int))=some (match (jE n_a0).find? (offM a0) with|some k=>.more ((4:Int),(k:Int))|none=>.done ((0:Int),(n_a0:Int))):=l1;rw[l1'];cases (jE n_a0).find? (offM a0)<;>rfl
def Zeh:Con:=λargs h=>match args,h with
 |[.l 0,.l 1],[.sl (.came b_a0) n_a0 a0 37,.sl (.came b_a1) n_a1 a1 70]=>some (.a (.i .i64 (Uaw n_a0 a0 n_a1 a1)),.none,jA n_a0 8)
 |_,_=>none
theorem Zgh:EntX PZ 55:=Zah (fn:=f55)
theorem Zja:Uac (md F) PZ 55 Zeh:=(ansY (N:=1000) (mKc (Zae Zxl) Zre (mKc (Zae Zx1) Zr5 mKn)) f55 [([4,11],[]),([4,25],[])]).of (by
 intro ρ h w args vals r e hA hH hr;unfold Zeh at hr;split at hr
 ·rename_i b_a0 n_a0 a0 b_a1 n_a1 a1
  obtain⟨rfl,rfl,hg2⟩:=BQi hr;exact Zye b_a0 n_a0 a0 b_a1 n_a1 a1 (hH.slw 0 rfl) (hH.slw 1 rfl) hg2
 ·cases hr)
def Zim:Cons:=(mkΓ [(55,con Zeh),(56,conG Zh2),(57,conG Zhg)])
theorem Zmz(N:Nat)(a0:Array Value)(a1:Bool)(g_e0 g_e1 g_e2 g_e3 g_e4:Addr)(bQ:Option (Option Addr))(nQ:Nat)(aQ:Array Value)(b_a2:Option (Option Addr))(n_a2:Nat)(a2:Array Value):ansV PZ Zim N f38 [] [.r a0 74 [(2,5)],.b (a1),.l 6] [.gl 0 185 g_e0 101973,.gl 1 185 g_e1 93330,.gl 3 185 g_e2 124718,.gl 2 185 g_e3 112315,.gl 4 185 g_e4 94254,.sl (.came bQ) nQ aQ 70,.sl (.came b_a2) n_a2 a2 37]=(bif jA n_a2 8 then (bif ((Uaw n_a2 a2 nQ aQ)==(0:Int)) then (bif decide ((n_a2:Int) > (0:Int)) then (bif (decide (0<=(0:Int))&&decide ((0:Int)<(n_a2:Int))) then (bif (okS (a2.extract ((0:Int).toNat*363) (((0:Int).toNat*363)+363))&&(rl (a2.extract ((0:Int).toNat*363) (((0:Int).toNat*363)+363)) (num a0 0) (num a0 1) a1&&(Zag (num a0 0) (a2.extract ((0:Int).toNat*363) (((0:Int).toNat*363)+363))))) then (some (.a (.i .i64 (4:Int)),.none,true))
      else (none))
     else (none))
    else (some (.a (.i .i64 (Uaw n_a2 a2 nQ aQ)),.none,true)))
   else (some (.a (.i .i64 (Uaw n_a2 a2 nQ aQ)),.none,true)))
  else (none)):=by kernel_rfl
def Zin:Cons:=(mkΓ [(55,con Zeh),(56,conG Zh2),(57,conG Zhh)])
theorem Zm2(N:Nat)(a0:Array Value)(a1:Bool)(g_e0 g_e1 g_e2 g_e3 g_e4:Addr)(bQ:Option (Option Addr))(nQ:Nat)(aQ:Array Value)(b_a2:Option (Option Addr))(n_a2:Nat)(a2:Array Value):ansV PZ Zin N f38 [] [.r a0 74 [(2,5)],.b (a1),.l 6] [.gl 0 185 g_e0 101973,.gl 1 185 g_e1 93330,.gl 3 185 g_e2 124718,.gl 2 185 g_e3 112315,.gl 4 185 g_e4 94254,.sl (.came bQ) nQ aQ 70,.sl (.came b_a2) n_a2 a2 37]=(bif jA n_a2 8 then (bif ((Uaw n_a2 a2 nQ aQ)==(0:Int)) then (bif decide ((n_a2:Int) > (0:Int)) then (bif (decide (0<=(0:Int))&&decide ((0:Int)<(n_a2:Int))) then (bif (okS (a2.extract ((0:Int).toNat*363) (((0:Int).toNat*363)+363))&&(rl (a2.extract ((0:Int).toNat*363) (((0:Int).toNat*363)+363)) (num a0 0) (num a0 1) a1&&((!(Zag (num a0 0) (a2.extract ((0:Int).toNat*363) (((0:Int).toNat*363)+363))))))) then (some (.a (.i .i64 (0:Int)),.none,true))
      else (none))
     else (none))
    else (some (.a (.i .i64 (Uaw n_a2 a2 nQ aQ)),.none,true)))
   else (some (.a (.i .i64 (Uaw n_a2 a2 nQ aQ)),.none,true)))
  else (none)):=by kernel_rfl
def Zik:Cons:=(mkΓ [(55,con Zeh),(56,conG Zh2),(57,conG Zhi)])
theorem Zm6(N:Nat)(a0:Array Value)(a1:Bool)(g_e0 g_e1 g_e2 g_e3 g_e4:Addr)(bQ:Option (Option Addr))(nQ:Nat)(aQ:Array Value)(b_a2:Option (Option Addr))(n_a2:Nat)(a2:Array Value):ansV PZ Zik N f38 [] [.r a0 74 [(2,5)],.b (a1),.l 6] [.gl 0 185 g_e0 101973,.gl 1 185 g_e1 93330,.gl 3 185 g_e2 124718,.gl 2 185 g_e3 112315,.gl 4 185 g_e4 94254,.sl (.came bQ) nQ aQ 70,.sl (.came b_a2) n_a2 a2 37]=(bif jA n_a2 8 then (bif ((Uaw n_a2 a2 nQ aQ)==(0:Int)) then (bif decide ((n_a2:Int) > (0:Int)) then (bif (decide (0<=(0:Int))&&decide ((0:Int)<(n_a2:Int))) then (bif (okS (a2.extract ((0:Int).toNat*363) (((0:Int).toNat*363)+363))&&((!(rl (a2.extract ((0:Int).toNat*363) (((0:Int).toNat*363)+363)) (num a0 0) (num a0 1) a1)))) then (some (.a (.i .i64 (2:Int)),.none,true))
      else (none))
     else (none))
    else (some (.a (.i .i64 (Uaw n_a2 a2 nQ aQ)),.none,true)))
   else (some (.a (.i .i64 (Uaw n_a2 a2 nQ aQ)),.none,true)))
  else (none)):=by kernel_rfl
def Zil:Cons:=(mkΓ [(55,con Zeh),(56,conG Zh2),(57,conG Zhf)])
theorem Zmy(N:Nat)(a0:Array Value)(a1:Bool)(g_e0 g_e1 g_e2 g_e3 g_e4:Addr)(bQ:Option (Option Addr))(nQ:Nat)(aQ:Array Value)(b_a2:Option (Option Addr))(n_a2:Nat)(a2:Array Value):ansV PZ Zil N f38 [] [.r a0 74 [(2,5)],.b (a1),.l 6] [.gl 0 185 g_e0 101973,.gl 1 185 g_e1 93330,.gl 3 185 g_e2 124718,.gl 2 185 g_e3 112315,.gl 4 185 g_e4 94254,.sl (.came bQ) nQ aQ 70,.sl (.came b_a2) n_a2 a2 37]=(bif jA n_a2 8 then (bif ((Uaw n_a2 a2 nQ aQ)==(0:Int)) then (bif decide ((n_a2:Int) > (0:Int)) then (bif (decide (0<=(0:Int))&&decide ((0:Int)<(n_a2:Int))) then (bif (!(okS (a2.extract ((0:Int).toNat*363) (((0:Int).toNat*363)+363)))) then (some (.a (.i .i64 (1:Int)),.none,true))
      else (none))
     else (none))
    else (some (.a (.i .i64 (Uaw n_a2 a2 nQ aQ)),.none,true)))
   else (some (.a (.i .i64 (Uaw n_a2 a2 nQ aQ)),.none,true)))
  else (none)):=by kernel_rfl
theorem Zm3(a0:Array Value)(a1:Bool)(g_e0 g_e1 g_e2 g_e3 g_e4:Addr)(bQ:Option (Option Addr))(nQ:Nat)(aQ:Array Value)(b_a2:Option (Option Addr))(n_a2:Nat)(a2:Array Value)(h_a0:WT PZ 74 a0)(h_a0x2:aQ.size=nQ*(lay PZ 70).length/\(∀k,k<nQ->WT PZ 70 (aQ.extract (k*(lay PZ 70).length) (k*(lay PZ 70).length+(lay PZ 70).length)))/\nQ<=9223372036854775807)(h_a2:a2.size=n_a2*(lay PZ 37).length/\(∀k,k<n_a2->WT PZ 37 (a2.extract (k*(lay PZ 37).length) (k*(lay PZ 37).length+(lay PZ 37).length)))/\n_a2<=9223372036854775807)(hc0:(okS (a2.extract 0 363))=false)(hg:((jA 1 n_a2&&jA n_a2 8))=true):ansV PZ Zil 1000 f38 [] [.r a0 74 [(2,5)],.b (a1),.l 6] [.gl 0 185 g_e0 101973,.gl 1 185 g_e1 93330,.gl 3 185 g_e2 124718,.gl 2 185 g_e3 112315,.gl 4 185 g_e4 94254,.sl (.came bQ) nQ aQ 70,.sl (.came b_a2) n_a2 a2 37]=some (.a (.i .i64 (bif (Uaw n_a2 a2 nQ aQ==(0:Int)) then (1:Int) else Uaw n_a2 a2 nQ aQ)),.none,true):=by
 rw[Q7]at hg;obtain⟨g1,g2⟩:=hg;have hn:=jG g1;refine(Zmy 1000 a0 a1 g_e0 g_e1 g_e2 g_e3 g_e4 bQ nQ aQ b_a2 n_a2 a2).trans ?_;have x0:a2.extract ((0:Int).toNat*363) ((0:Int).toNat*363+363)=(a2.extract 0 363):=rfl;have d2:decide ((n_a2:Int) > 0)=true:=Q3 (by omega);have d3:decide ((0:Int)<(n_a2:Int))=true:=Q3 (by omega);have d4:decide ((0:Int)<=0)=true:=rfl;rw[x0,g2,d2]
 try rw[d3]
 rw[d4];cases hz:(Uaw n_a2 a2 nQ aQ==(0:Int))<;>simp only[hc0,jB,Bool.and_true,jF,jD,jC,Q1,Q2]
theorem Zm1(a0:Array Value)(a1:Bool)(g_e0 g_e1 g_e2 g_e3 g_e4:Addr)(bQ:Option (Option Addr))(nQ:Nat)(aQ:Array Value)(b_a2:Option (Option Addr))(n_a2:Nat)(a2:Array Value)(h_a0:WT PZ 74 a0)(h_a0x2:aQ.size=nQ*(lay PZ 70).length/\(∀k,k<nQ->WT PZ 70 (aQ.extract (k*(lay PZ 70).length) (k*(lay PZ 70).length+(lay PZ 70).length)))/\nQ<=9223372036854775807)(h_a2:a2.size=n_a2*(lay PZ 37).length/\(∀k,k<n_a2->WT PZ 37 (a2.extract (k*(lay PZ 37).length) (k*(lay PZ 37).length+(lay PZ 37).length)))/\n_a2<=9223372036854775807)(hc0:(okS (a2.extract 0 363))=true)(hc1:(rl (a2.extract 0 363) (num a0 0) (num a0 1) a1)=false)(hg:((jA 1 n_a2&&jA n_a2 8))=true):ansV PZ Zik 1000 f38 [] [.r a0 74 [(2,5)],.b (a1),.l 6] [.gl 0 185 g_e0 101973,.gl 1 185 g_e1 93330,.gl 3 185 g_e2 124718,.gl 2 185 g_e3 112315,.gl 4 185 g_e4 94254,.sl (.came bQ) nQ aQ 70,.sl (.came b_a2) n_a2 a2 37]=some (.a (.i .i64 (bif (Uaw n_a2 a2 nQ aQ==(0:Int)) then (2:Int) else Uaw n_a2 a2 nQ aQ)),.none,true):=by
 rw[Q7]at hg;obtain⟨g1,g2⟩:=hg;have hn:=jG g1;refine(Zm6 1000 a0 a1 g_e0 g_e1 g_e2 g_e3 g_e4 bQ nQ aQ b_a2 n_a2 a2).trans ?_;have x0:a2.extract ((0:Int).toNat*363) ((0:Int).toNat*363+363)=(a2.extract 0 363):=rfl;have d2:decide ((n_a2:Int) > 0)=true:=Q3 (by omega);have d3:decide ((0:Int)<(n_a2:Int))=true:=Q3 (by omega);have d4:decide ((0:Int)<=0)=true:=rfl;rw[x0,g2,d2]
 try rw[d3]
 rw[d4];cases hz:(Uaw n_a2 a2 nQ aQ==(0:Int))<;>simp only[hc0,hc1,jB,Bool.and_true,jF,jD,jC,Q1,Q2]
theorem Zmv(a0:Array Value)(a1:Bool)(g_e0 g_e1 g_e2 g_e3 g_e4:Addr)(bQ:Option (Option Addr))(nQ:Nat)(aQ:Array Value)(b_a2:Option (Option Addr))(n_a2:Nat)(a2:Array Value)(h_a0:WT PZ 74 a0)(h_a0x2:aQ.size=nQ*(lay PZ 70).length/\(∀k,k<nQ->WT PZ 70 (aQ.extract (k*(lay PZ 70).length) (k*(lay PZ 70).length+(lay PZ 70).length)))/\nQ<=9223372036854775807)(h_a2:a2.size=n_a2*(lay PZ 37).length/\(∀k,k<n_a2->WT PZ 37 (a2.extract (k*(lay PZ 37).length) (k*(lay PZ 37).length+(lay PZ 37).length)))/\n_a2<=9223372036854775807)(hc0:(okS (a2.extract 0 363))=true)(hc1:(rl (a2.extract 0 363) (num a0 0) (num a0 1) a1)=true)(hc2:(Zag (num a0 0) (a2.extract 0 363))=false)(hg:((jA 1 n_a2&&jA n_a2 8))=true):ansV PZ Zin 1000 f38 [] [.r a0 74 [(2,5)],.b (a1),.l 6] [.gl 0 185 g_e0 101973,.gl 1 185 g_e1 93330,.gl 3 185 g_e2 124718,.gl 2 185 g_e3 112315,.gl 4 185 g_e4 94254,.sl (.came bQ) nQ aQ 70,.sl (.came b_a2) n_a2 a2 37]=some (.a (.i .i64 (bif (Uaw n_a2 a2 nQ aQ==(0:Int)) then (0:Int) else Uaw n_a2 a2 nQ aQ)),.none,true):=by
 rw[Q7]at hg;obtain⟨g1,g2⟩:=hg;have hn:=jG g1;refine(Zm2 1000 a0 a1 g_e0 g_e1 g_e2 g_e3 g_e4 bQ nQ aQ b_a2 n_a2 a2).trans ?_;have x0:a2.extract ((0:Int).toNat*363) ((0:Int).toNat*363+363)=(a2.extract 0 363):=rfl;have d2:decide ((n_a2:Int) > 0)=true:=Q3 (by omega);have d3:decide ((0:Int)<(n_a2:Int))=true:=Q3 (by omega);have d4:decide ((0:Int)<=0)=true:=rfl;rw[x0,g2,d2]
 try rw[d3]
 rw[d4];cases hz:(Uaw n_a2 a2 nQ aQ==(0:Int))<;>simp only[hc0,hc1,hc2,jB,Bool.and_true,jF,jD,jC,Q1,Q2]
theorem Zmu(a0:Array Value)(a1:Bool)(g_e0 g_e1 g_e2 g_e3 g_e4:Addr)(bQ:Option (Option Addr))(nQ:Nat)(aQ:Array Value)(b_a2:Option (Option Addr))(n_a2:Nat)(a2:Array Value)(h_a0:WT PZ 74 a0)(h_a0x2:aQ.size=nQ*(lay PZ 70).length/\(∀k,k<nQ->WT PZ 70 (aQ.extract (k*(lay PZ 70).length) (k*(lay PZ 70).length+(lay PZ 70).length)))/\nQ<=9223372036854775807)(h_a2:a2.size=n_a2*(lay PZ 37).length/\(∀k,k<n_a2->WT PZ 37 (a2.extract (k*(lay PZ 37).length) (k*(lay PZ 37).length+(lay PZ 37).length)))/\n_a2<=9223372036854775807)(hc0:(okS (a2.extract 0 363))=true)(hc1:(rl (a2.extract 0 363) (num a0 0) (num a0 1) a1)=true)(hc2:(Zag (num a0 0) (a2.extract 0 363))=true)(hg:((jA 1 n_a2&&jA n_a2 8))=true):ansV PZ Zim 1000 f38 [] [.r a0 74 [(2,5)],.b (a1),.l 6] [.gl 0 185 g_e0 101973,.gl 1 185 g_e1 93330,.gl 3 185 g_e2 124718,.gl 2 185 g_e3 112315,.gl 4 185 g_e4 94254,.sl (.came bQ) nQ aQ 70,.sl (.came b_a2) n_a2 a2 37]=some (.a (.i .i64 (bif (Uaw n_a2 a2 nQ aQ==(0:Int)) then (4:Int) else Uaw n_a2 a2 nQ aQ)),.none,true):=by
 rw[Q7]at hg;obtain⟨g1,g2⟩:=hg;have hn:=jG g1;refine(Zmz 1000 a0 a1 g_e0 g_e1 g_e2 g_e3 g_e4 bQ nQ aQ b_a2 n_a2 a2).trans ?_;have x0:a2.extract ((0:Int).toNat*363) ((0:Int).toNat*363+363)=(a2.extract 0 363):=rfl;have d2:decide ((n_a2:Int) > 0)=true:=Q3 (by omega);have d3:decide ((0:Int)<(n_a2:Int))=true:=Q3 (by omega);have d4:decide ((0:Int)<=0)=true:=rfl;rw[x0,g2,d2]
 try rw[d3]
 rw[d4];cases hz:(Uaw n_a2 a2 nQ aQ==(0:Int))<;>simp only[hc0,hc1,hc2,jB,Bool.and_true,jF,jD,jC,Q1,Q2]
def Zcn:SCon:=λargs h=>match args,h with
 |[.r a0 74 [(2,5)],.b a1,.l 6],[.gl 0 185 g_e0 101973,.gl 1 185 g_e1 93330,.gl 3 185 g_e2 124718,.gl 2 185 g_e3 112315,.gl 4 185 g_e4 94254,.sl (.came bQ) nQ aQ 70,.sl (.came b_a2) n_a2 a2 37]=>.two (okS (a2.extract 0 363)) (.two (rl (a2.extract 0 363) (num a0 0) (num a0 1) a1) (.two (Zag (num a0 0) (a2.extract 0 363)) (.one (some (.a (.i .i64 (bif (Uaw n_a2 a2 nQ aQ==(0:Int)) then (4:Int) else Uaw n_a2 a2 nQ aQ)),.none,(jA 1 n_a2&&jA n_a2 8)))) (.one (some (.a (.i .i64 (bif (Uaw n_a2 a2 nQ aQ==(0:Int)) then (0:Int) else Uaw n_a2 a2 nQ aQ)),.none,(jA 1 n_a2&&jA n_a2 8))))) (.one (some (.a (.i .i64 (bif (Uaw n_a2 a2 nQ aQ==(0:Int)) then (2:Int) else Uaw n_a2 a2 nQ aQ)),.none,(jA 1 n_a2&&jA n_a2 8))))) (.one (some (.a (.i .i64 (bif (Uaw n_a2 a2 nQ aQ==(0:Int)) then (1:Int) else Uaw n_a2 a2 nQ aQ)),.none,(jA 1 n_a2&&jA n_a2 8))))
 |_,_=>.one none
theorem Zd1:EntX PZ 38:=Zah (fn:=f38)
theorem Zn2:Uac (md F) PZ 38 (λargs h=>Uah (Zcn args h)):=by
 intro ρ h w args vals r e hn hr hA hH;dsimp only at hr;unfold Zcn at hr;split at hr
 ·rename_i a0 a1 g_e0 g_e1 g_e2 g_e3 g_e4 bQ nQ aQ b_a2 n_a2 a2
  simp only[Uah]at hr;cases hc0:(okS (a2.extract 0 363))
  ·rw[hc0]at hr
   simp only[Uah,Q1,Q2]at hr;obtain⟨rfl,rfl,hg2⟩:=BQi hr;exact((ansY (N:=1000) (mKc (Zae Zja) Zgh (mKc (Zid Zlp) Zif (mKc (Zid Zq8) Zd6 mKn))) f38 [])) ρ _ w _ vals _ _ hn ((Zm3 a0 a1 g_e0 g_e1 g_e2 g_e3 g_e4 bQ nQ aQ b_a2 n_a2 a2 (hA.wtr 0 rfl) (hH.slw 5 rfl) (hH.slw 6 rfl) hc0 hg2)) hA hH
  ·rw[hc0]at hr
   simp only[Uah,Q1,Q2]at hr;cases hc1:(rl (a2.extract 0 363) (num a0 0) (num a0 1) a1)
   ·rw[hc1]at hr
    simp only[Uah,Q1,Q2]at hr;obtain⟨rfl,rfl,hg2⟩:=BQi hr;exact((ansY (N:=1000) (mKc (Zae Zja) Zgh (mKc (Zid Zlp) Zif (mKc (Zid Zrc) Zd6 mKn))) f38 [])) ρ _ w _ vals _ _ hn ((Zm1 a0 a1 g_e0 g_e1 g_e2 g_e3 g_e4 bQ nQ aQ b_a2 n_a2 a2 (hA.wtr 0 rfl) (hH.slw 5 rfl) (hH.slw 6 rfl) hc0 hc1 hg2)) hA hH
   ·rw[hc1]at hr
    simp only[Uah,Q1,Q2]at hr;cases hc2:(Zag (num a0 0) (a2.extract 0 363))
    ·rw[hc2]at hr
     simp only[Uah,Q1,Q2]at hr;obtain⟨rfl,rfl,hg2⟩:=BQi hr;exact((ansY (N:=1000) (mKc (Zae Zja) Zgh (mKc (Zid Zlp) Zif (mKc (Zid Zqz) Zd6 mKn))) f38 [])) ρ _ w _ vals _ _ hn ((Zmv a0 a1 g_e0 g_e1 g_e2 g_e3 g_e4 bQ nQ aQ b_a2 n_a2 a2 (hA.wtr 0 rfl) (hH.slw 5 rfl) (hH.slw 6 rfl) hc0 hc1 hc2 hg2)) hA hH
    ·rw[hc2]at hr
     simp only[Uah,Q1,Q2]at hr;obtain⟨rfl,rfl,hg2⟩:=BQi hr;exact((ansY (N:=1000) (mKc (Zae Zja) Zgh (mKc (Zid Zlp) Zif (mKc (Zid Zsc) Zd6 mKn))) f38 [])) ρ _ w _ vals _ _ hn ((Zmu a0 a1 g_e0 g_e1 g_e2 g_e3 g_e4 bQ nQ aQ b_a2 n_a2 a2 (hA.wtr 0 rfl) (hH.slw 5 rfl) (hH.slw 6 rfl) hc0 hc1 hc2 hg2)) hA hH
 ·simp only[Uah]at hr
  cases hr
def Uc0(m:Nat)(a:Array Value)(n:Nat)(D:Array Value)(c b:Int)(f:Bool):Int:=bif (Uaw m a n D==(0:Int)) then Zas c b f (a.extract 0 363) else Uaw m a n D
def Zet:Con:=λargs h=>match args,h with
 |[.r a0 74 [(2,5)],.b a1,.l 6],[.gl 0 185 g_e0 101973,.gl 1 185 g_e1 93330,.gl 3 185 g_e2 124718,.gl 2 185 g_e3 112315,.gl 4 185 g_e4 94254,.sl (.came bQ) nQ aQ 70,.sl (.came b_a2) n_a2 a2 37]=>some (.a (.i .i64 (Uc0 n_a2 a2 nQ aQ (num a0 0) (num a0 1) a1)),.none,(jA 1 n_a2&&jA n_a2 8))
 |_,_=>none
theorem Zfs:Uac (md F) PZ 38 Zet:=Uac.of Zn2 (by
 intro ρ h w args vals r e hA hH hr;unfold Zet at hr;split at hr
 ·rename_i a0 a1 g_e0 g_e1 g_e2 g_e3 g_e4 bQ nQ aQ b_a2 n_a2 a2
  obtain⟨rfl,rfl,hg2⟩:=BQi hr
  show Uah (Zcn _ _)=_
  unfold Zcn;simp only[Uah];rw[hg2];unfold Uc0;rw[Yrl];cases (okS (a2.extract 0 363))<;>cases (rl (a2.extract 0 363) (num a0 0) (num a0 1) a1)<;>cases (Zag (num a0 0) (a2.extract 0 363))<;>simp only[Q1,Q2]
 ·cases hr)
theorem Ymb(S:Array Value):Zbz S S=true:=by unfold Zbz;simp
theorem Yda{S:Array Value}(h:WT PZ 37 S):S.size=363:=by rw[h.layLen];kernel_rfl
theorem Yl5{S:Array Value}(h:WT PZ 37 S):spl (repC (zc PZ 37) 1) 0 S.toList=S:=Yl7 PZ 37 (by rw[Yda h];kernel_rfl)
theorem Yis{S:Array Value}(h:S.size=363)(n:Nat)(D:Array Value)(c b:Int)(f:Bool):Uc0 1 S n D c b f=bif vf S n D then Zas c b f S else 1:=by
 have e0:S.extract (0*363) (0*363+363)=S:=Znb (by simpa using h);have e1:S.extract 0 363=S:=Znb (by simpa using h);have hm:Uaw 1 S n D=bif vf S n D then 0 else 1:=by unfold Uaw;have r1:jE 1=[0]:=rfl;rw[r1];simp only[List.find?,badM,offM,e0,Ymb,jC];cases vf S n D<;>rfl
 unfold Uc0;rw[hm,e1];cases vf S n D<;>rfl
end
end Go.Proofs.YtdfefaanfiheoaaGreatDoor
