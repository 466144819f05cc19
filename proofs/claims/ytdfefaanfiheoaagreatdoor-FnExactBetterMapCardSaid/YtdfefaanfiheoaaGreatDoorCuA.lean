/- The code of several seas, finds and a bottle. -/
import Derived.Test.YtdfefaanfiheoaaGreatDoorProg
import Derived.Test.YtdfefaanfiheoaaGreatDoorCyR
set_option linter.unusedVariables false
set_option linter.unusedSimpArgs false
open _root_.Array renaming getElem?_eq_none->jF
open _root_.Nat renaming ble->jA,le_of_ble_eq_true->jG
open _root_.Bool renaming and_self->jB,not_true->jC,not_false->jD,true_and->jE
namespace Go.Proofs.YtdfefaanfiheoaaGreatDoor
open Tryz (f12 f37 f38 f52 f55 f65 f77 f78 f88 f91)
open Go.ChangeShapes Go.WideShapes Go.ChangeAt Go.RowKit Ve Vc
open Tryz renaming prog -> PZ
open IntKind (i64)
set_option maxRecDepth 100000
noncomputable section
variable {F:Vc.Fd}
theorem Yqx {C:Array Value} {b m o:Nat} (ho:o<m):num (C.extract b (b+m)) o=num C (b+o):=by
 have e2:(C.extract b (b+m))[o]?=C[b+o]?:=by
  simp only [Array.getElem?_extract]
  by_cases h:b+o<C.size
  ·rw [if_pos (by omega)]
  ·rw [if_neg (by omega),jF (by omega)]
 unfold num;rw [e2]
theorem Yey (N:Nat) (a0:Array Value):ansV PZ (mkΓ []) N f37 [] [.g a0 72] []=(some (.a (.g #[.int .i8 (num a0 0),.int .i8 (num a0 1)] 70),.none,true)):=by kernel_rfl
theorem Yb5 (a0:Array Value) (h_a0:WT PZ 72 a0) (hg:(true)=true):ansV PZ (mkΓ []) 1000 f37 [] [.g a0 72] []=some (.a (.g a0 70),.none,true):=by
 have hz:a0.size=2:=by rw [h_a0.layLen];kernel_rfl
 have e0:=(h_a0.int (o:=0) (k:=.i8) (by kernel_rfl)).1
 have e1:=(h_a0.int (o:=1) (k:=.i8) (by kernel_rfl)).1
 have he:(#[.int .i8 (num a0 0),.int .i8 (num a0 1)]:Array Value)=a0:=Zig λ i=>by
  match i with
  | 0=>exact e0.symm
  | 1=>exact e1.symm
  | i+2=>rw [jF (by simp),jF (by omega)]
 refine (Yey 1000 a0).trans ?_
 rw [he]
def Zb4:Con:=λ args h=>match args,h with
 | [.g a0 72],[]=>some (.a (.g a0 70),.none,true)
 | _,_=>none
theorem Zyo:EntX PZ 37:=Zah (fn:=f37)
theorem Yfh:Uac (md F) PZ 37 Zb4:=(ansY (N:=1000) mKn f37 []).of (by
 intro ρ h w args vals r e hA hH hr
 unfold Zb4 at hr
 split at hr
 ·rename_i a0
  obtain ⟨rfl,rfl,hg2⟩:=BQi hr
  exact Yb5 a0 (hA.wt 0 rfl) hg2
 ·cases hr)
def Zft (b_a0:Option (Option Addr)) (n_a0:Nat) (a0:Array Value):St:=(⟨.a (.l 0) :: .a (.u) :: .a (.v (.slice none 0 0)) :: .a (.l 3) :: .a (.i .i64 (0:Int)) :: .a (.l 0) :: .a (.i .i64 (n_a0:Int)) :: .a (.l 3)::us 15 ([]),[.sl (.came b_a0) n_a0 a0 72,.no,.no,.sl .own ((n_a0:Int).toNat) (madeCells (zc PZ 70) ((n_a0:Int).toNat*2)) 70,.no],[]⟩:St)
def Zho (n_a0:Nat):Int×Array Value->LS
 | (y0_4,r0_3)=>([.a (.i .i64 (y0_4))],[.sl .own ((n_a0:Int).toNat) r0_3 70])
def Zna (n_a0:Nat):Int×Array Value->Exit×LS
 | t=>((.exit 0),(Zho n_a0) t)
def Zdf (P : Program) (b_a0 : Option (Option Addr)) (n_a0 : Nat) (a0 : Array Value) : Int × Array Value → Option (Stp (Int × Array Value) (Int × Array Value))
 | (y0_4, r0_3) => bif decide (y0_4 < (n_a0 : Int)) then (bif (decide (0 ≤ y0_4) && decide (y0_4 < (n_a0 : Int))) then (bif (decide (0 ≤ y0_4) && decide (y0_4 < (((n_a0 : Int).toNat) : Int))) then (some (.more ((i64.wrap (y0_4 + (1 : Int))), (spl r0_3 ((y0_4).toNat * 2) (a0.extract ((y0_4).toNat * 2) (((y0_4).toNat * 2) + 2)).toList))))
    else (none))
   else (none))
  else (some (.done (y0_4,r0_3)))
noncomputable abbrev cKCuA12:=codeOf f12
theorem Yej (N:Nat) (b_a0:Option (Option Addr)) (n_a0:Nat) (a0:Array Value):∀ t:Int×Array Value,Uag PZ (mkΓ [(37,con Zb4)]) N (cAt cKCuA12 [1,1,0,1,0,0]) (pAt (Uaa cKCuA12 [([4],[3])]).1 [1,1,0,1,0]) [4] [3] (Zft b_a0 n_a0 a0) ((Zho n_a0) t)=mapS (Zho n_a0) (Zna n_a0) (Zdf PZ b_a0 n_a0 a0 t):=by
 rintro ⟨y0_4,r0_3⟩
 refine Eq.trans (b:=(bif decide (y0_4<(n_a0:Int)) then (bif (decide (0<=y0_4)&&decide (y0_4<(n_a0:Int))) then (bif (decide (0<=y0_4)&&decide (y0_4<(((n_a0:Int).toNat):Int))) then (some (.more ([.a (.i .i64 (i64.wrap (y0_4+(1:Int))))],[.sl .own ((n_a0:Int).toNat) (spl r0_3 ((y0_4).toNat*2) (a0.extract ((y0_4).toNat*2) (((y0_4).toNat*2)+2)).toList) 70])))
    else (none))
   else (none))
  else (some (.done ((.exit 0),([.a (.i .i64 (y0_4))],[.sl .own ((n_a0:Int).toNat) r0_3 70])))))) (by kernel_rfl) ?_
 simp only [Zdf,Zar,Zap,Zas,Zaq,Zho,Zna]
def Zku (P:Program) (N:Nat) (b_a0:Option (Option Addr)) (n_a0:Nat) (a0:Array Value) (z0_4:Int) (q0_3:Array Value):Option (SV×Eff×Bool):=some (.a .x,.newS none ((n_a0:Int).toNat) q0_3 70,true)
theorem Ztq (N:Nat) (b_a0:Option (Option Addr)) (n_a0:Nat) (a0:Array Value) (z0_4:Int) (q0_3:Array Value):(Uad 0 (kSeq (veC PZ (mkΓ [(37,con Zb4)]) N (cAt cKCuA12 [1,1,1]) (pAt (Uaa cKCuA12 [([4],[3])]).1 [1,1,1]) (SV×Eff×Bool)) (finK PZ [.sl (.came b_a0) n_a0 a0 72] [.tmp 2]))) (.exit 0) (left (writes (cAt cKCuA12 [1,1,0,1,0,0])) [4] [3] (Zft b_a0 n_a0 a0) ([.a (.i .i64 (z0_4))],[.sl .own ((n_a0:Int).toNat) q0_3 70]))=Zku PZ N b_a0 n_a0 a0 z0_4 q0_3:=by
 refine Eq.trans (b:=(some (.a .x,.newS none ((n_a0:Int).toNat) q0_3 70,true))) (by kernel_rfl) ?_
 rfl
theorem Yek (N:Nat) (b_a0:Option (Option Addr)) (n_a0:Nat) (a0:Array Value):Uah (Uab (Uag PZ (mkΓ [(37,con Zb4)]) N (cAt cKCuA12 [1,1,0,1,0,0]) (pAt (Uaa cKCuA12 [([4],[3])]).1 [1,1,0,1,0]) [4] [3] (Zft b_a0 n_a0 a0)) N ([.a (.i .i64 (0:Int))],[.sl .own ((n_a0:Int).toNat) (madeCells (zc PZ 70) ((n_a0:Int).toNat*2)) 70])) (λ e s=>(Uad 0 (kSeq (veC PZ (mkΓ [(37,con Zb4)]) N (cAt cKCuA12 [1,1,1]) (pAt (Uaa cKCuA12 [([4],[3])]).1 [1,1,1]) (SV×Eff×Bool)) (finK PZ [.sl (.came b_a0) n_a0 a0 72] [.tmp 2]))) e (left (writes (cAt cKCuA12 [1,1,0,1,0,0])) [4] [3] (Zft b_a0 n_a0 a0) s))=Uai (Uab (Zdf PZ b_a0 n_a0 a0) N ((0:Int),(madeCells (zc PZ 70) ((n_a0:Int).toNat*2)))) (λ x=>Zku PZ N b_a0 n_a0 a0 x.1 x.2):=by
 refine Zau (Zho n_a0) (Zna n_a0) _ _ (Yej N b_a0 n_a0 a0) N ((0:Int),(madeCells (zc PZ 70) ((n_a0:Int).toNat*2))) _ _ ?_
 intro x;exact Ztq N b_a0 n_a0 a0 x.1 x.2
theorem Ycf (N:Nat) (b_a0:Option (Option Addr)) (n_a0:Nat) (a0:Array Value):ansV PZ (mkΓ [(37,con Zb4)]) N f12 [([4],[3])] [.l 0] [.sl (.came b_a0) n_a0 a0 72]=(bif (decide (0<=(n_a0:Int))&&((n_a0:Int)==(n_a0:Int)&&decide ((bytesOf PZ 70:Int)*(n_a0:Int)<=281474976710656))) then (Uai (Uab (Zdf PZ b_a0 n_a0 a0) N ((0:Int),(madeCells (zc PZ 70) ((n_a0:Int).toNat*2)))) (λ x=>Zku PZ N b_a0 n_a0 a0 x.1 x.2))
  else (none)):=by
 refine Eq.trans (b:=(bif (decide (0<=(n_a0:Int))&&((n_a0:Int)==(n_a0:Int)&&decide ((bytesOf PZ 70:Int)*(n_a0:Int)<=281474976710656))) then (Uah (Uab (Uag PZ (mkΓ [(37,con Zb4)]) N (cAt cKCuA12 [1,1,0,1,0,0]) (pAt (Uaa cKCuA12 [([4],[3])]).1 [1,1,0,1,0]) [4] [3] (Zft b_a0 n_a0 a0)) N ([.a (.i .i64 (0:Int))],[.sl .own ((n_a0:Int).toNat) (madeCells (zc PZ 70) ((n_a0:Int).toNat*2)) 70])) (λ e s=>(Uad 0 (kSeq (veC PZ (mkΓ [(37,con Zb4)]) N (cAt cKCuA12 [1,1,1]) (pAt (Uaa cKCuA12 [([4],[3])]).1 [1,1,1]) (SV×Eff×Bool)) (finK PZ [.sl (.came b_a0) n_a0 a0 72] [.tmp 2]))) e (left (writes (cAt cKCuA12 [1,1,0,1,0,0])) [4] [3] (Zft b_a0 n_a0 a0) s)))
  else (none))) (by kernel_rfl) ?_
 simp only [Yek N b_a0 n_a0 a0]
theorem Zz7 (b_a0:Option (Option Addr)) (n_a0:Nat) (a0:Array Value) (h_a0:a0.size=n_a0*(lay PZ 72).length/\(∀ k,k<n_a0->WT PZ 72 (a0.extract (k*(lay PZ 72).length) (k*(lay PZ 72).length+(lay PZ 72).length)))/\n_a0<=9223372036854775807) (hg:(decide (n_a0<=1048576))=true):ansV PZ (mkΓ [(37,con Zb4)]) 18446744073709551616 f12 [([4],[3])] [.l 0] [.sl (.came b_a0) n_a0 a0 72]=some (.a .x,.newS none n_a0 a0 70,true):=by
 have hn:n_a0<=1048576:=of_decide_eq_true hg
 have hm:(lay PZ 72).length=2:=by kernel_rfl
 have hb:bytesOf PZ 70=2:=by kernel_rfl
 obtain ⟨s1,s2,s3⟩:=h_a0
 rw [hm] at s1 s2
 have hq:(lay PZ 72)[0]?=some 0:=by kernel_rfl
 refine (Ycf 18446744073709551616 b_a0 n_a0 a0).trans ?_
 have hgd:(decide (0<=(n_a0:Int))&&((n_a0:Int)==(n_a0:Int)&&decide ((bytesOf PZ 70:Int)*(n_a0:Int)<=281474976710656)))=true:=by
  rw [hb,Q3 (show (0:Int)<=n_a0 by omega),beq_self_eq_true,Q3 (show (((2:Nat):Int))*(n_a0:Int)<=281474976710656 by omega)];rfl
 rw [hgd,Q1]
 have hs:a0.size=(madeCells (zc PZ 70) ((n_a0:Int).toNat*2)).size:=by rw [size_madeCells,Q9];exact s1
 generalize (madeCells (zc PZ 70) ((n_a0:Int).toNat*2))=Z at hs|-
 have h:=Zdg (g:=Zdf PZ b_a0 n_a0 a0) (λ k=>((k:Int),upto a0 Z (k*2))) (m:=n_a0) (x:=((n_a0:Int),upto a0 Z (n_a0*2))) (N:=18446744073709551616) (λ k hk=>by
  have h1:decide ((k:Int)<(n_a0:Int))=true:=Q3 (by omega)
  have h0:decide (0<=(k:Int))=true:=Q3 (by omega)
  have h3:i64.wrap ((k:Int)+1)=((k+1:Nat):Int):=by rw [IntWalk.i64_in _ (by omega)];omega
  have h5:spl (upto a0 Z (k*2)) (k*2) (a0.extract (k*2) (k*2+2)).toList=upto a0 Z ((k+1)*2):=by
   rw [Nat.add_mul];exact Ycu hs (by have:(k+1)*2<=n_a0*2:=Nat.mul_le_mul_right _ hk;omega) rfl
  simp only [Zdf,h1,h0,jB,Q9,Q1,h3,h5]) (by
  have h1:decide ((n_a0:Int)<(n_a0:Int))=false:=Q4 (by omega)
  simp only [Zdf,h1,Q2]) (by omega)
 rw [Zsf hs s1] at h
 simp only [Nat.zero_mul,Zoq hs] at h
 have h':Uab (Zdf PZ b_a0 n_a0 a0) 18446744073709551616 ((0:Int),Z)=some ((n_a0:Int),a0):=h
 rw [h']
 show some (_,Eff.newS none ((n_a0:Int).toNat) a0 70,true)=_
 rw [Q9]
def Zl0:Con:=λ args h=>match args,h with
 | [.l 0],[.sl (.came b_a0) n_a0 a0 72]=>some (.a .x,.newS none n_a0 a0 70,decide (n_a0<=1048576))
 | _,_=>none
theorem Zvr:EntX PZ 12:=Zah (fn:=f12)
theorem Yc9:Uac (md F) PZ 12 Zl0:=(ansY (N:=18446744073709551616) (mKc (Zae Yfh) Zyo mKn) f12 [([4],[3])]).of (by
 intro ρ h w args vals r e hA hH hr
 unfold Zl0 at hr
 split at hr
 ·rename_i b_a0 n_a0 a0
  obtain ⟨rfl,rfl,hg2⟩:=BQi hr
  exact Zz7 b_a0 n_a0 a0 (hH.slw 0 rfl) hg2
 ·cases hr)
def bcF (a1:Array Value) (k:Nat):Int:=i64.wrap (num a1 (k*2+0))
def hcF (a1:Array Value) (k:Nat):Int:=i64.wrap (num a1 (k*2+1))
def fndB (S a1:Array Value) (k:Nat):Bool:=Zab (bcF a1 k) S&&(Zag (bcF a1 k) S&&Zaa (hcF a1 k) 1 14)
def Ubc (S:Array Value) (n:Nat) (a1:Array Value):Bool:=(List.range n).all (fndB S a1)
theorem Zze (S:Array Value) (n:Nat) (a1:Array Value):Ubc S n a1=true ↔ ∀ k,k<n->fndB S a1 k=true:=by
 unfold Ubc
 rw [List.all_eq_true]
 exact ⟨λ h k hk=>h k (List.mem_range.2 hk),λ h k hk=>h k (List.mem_range.1 hk)⟩
theorem Yl5 (a1:Array Value) (k:Nat):i64.wrap (num (a1.extract (k*2) (k*2+2)) 0)=bcF a1 k/\i64.wrap (num (a1.extract (k*2) (k*2+2)) 1)=hcF a1 k:=by
 rw [Yqx (by omega),Yqx (by omega)];exact ⟨rfl,rfl⟩
theorem Ynw (n:Int):Zfj n=Zaa n 1 14:=rfl
def Zck:Cons:=(mkΓ [(72,con Zbt),(73,con Zfu),(74,con Zln)])
def Zdo (a0:Array Value) (b_a1:Option (Option Addr)) (n_a1:Nat) (a1:Array Value):St:=(⟨.a (.w 0) :: .a (.l 1) :: .a (.u) :: .a (.u) :: .a (.b (false)) :: .a (.i .i64 (0:Int))::us 36 ([]),[.row a0 37,.sl (.came b_a1) n_a1 a1 70],[]⟩:St)
def Zem:Bool×Int->LS
 | (y0_4,y0_5)=>([.a (.b (y0_4)),.a (.i .i64 (y0_5))],[])
def Zly:(Stp (Bool×Int) (Bool×Int))->Exit×LS
 | .more t=>(.ret,Zem t)
 | .done t=>((.exit 0),Zem t)
def Zbs (P:Program) (a0:Array Value) (b_a1:Option (Option Addr)) (n_a1:Nat) (a1:Array Value):Bool×Int→Option (Stp (Bool×Int) (Stp (Bool×Int) (Bool×Int)))
  | (y0_4,y0_5)=>bif decide (y0_5<(n_a1:Int)) then (bif (decide (0≤y0_5)&&decide (y0_5<(n_a1:Int))) then (bif (!((Zab (i64.wrap (num a1 (((y0_5).toNat*2)+0))) a0))) then (some (.done (.more (false,y0_5))))
        else (bif decide (0≤(IntKind.u64.wrap (i64.wrap (num a1 (((y0_5).toNat*2)+0))))) then (bif (!((Zag (i64.wrap (num a1 (((y0_5).toNat*2)+0))) a0))) then (some (.done (.more (false,y0_5))))
            else (bif (decide (0<=y0_5)&&decide (y0_5<(n_a1:Int))) then (bif (!((Zaa (i64.wrap (num a1 (((y0_5).toNat*2)+1))) (1:Int) (14:Int)))) then (some (.done (.more (false,y0_5))))
                else (some (.more (y0_4,(i64.wrap (y0_5+(1:Int)))))))
              else (none)))
          else (none)))
      else (none))
    else (some (.done (.done (y0_4,y0_5))))
noncomputable abbrev cKCuA52:=codeOf f52
theorem Yat (N:Nat) (a0:Array Value) (b_a1:Option (Option Addr)) (n_a1:Nat) (a1:Array Value):∀ t:Bool×Int,Uag PZ Zck N (cAt cKCuA52 [1,0,1,0,0]) (pAt (Uaa cKCuA52 [([4,5],[])]).1 [1,0,1,0]) [4,5] [] (Zdo a0 b_a1 n_a1 a1) (Zem t)=mapS Zem Zly (Zbs PZ a0 b_a1 n_a1 a1 t):=by
  rintro ⟨y0_4,y0_5⟩
  refine Eq.trans (b:=(bif decide (y0_5<(n_a1:Int)) then (bif (decide (0<=y0_5)&&decide (y0_5<(n_a1:Int))) then (bif (!((Zab (i64.wrap (num a1 (((y0_5).toNat*2)+0))) a0))) then (some (.done (.ret,([.a (.b (false)),.a (.i .i64 (y0_5))],[]))))
        else (bif decide (0≤(IntKind.u64.wrap (i64.wrap (num a1 (((y0_5).toNat*2)+0))))) then (bif (!((Zag (i64.wrap (num a1 (((y0_5).toNat*2)+0))) a0))) then (some (.done (.ret,([.a (.b (false)),.a (.i .i64 (y0_5))],[]))))
            else (bif (decide (0<=y0_5)&&decide (y0_5<(n_a1:Int))) then (bif (!((Zaa (i64.wrap (num a1 (((y0_5).toNat*2)+1))) (1:Int) (14:Int)))) then (some (.done (.ret,([.a (.b (false)),.a (.i .i64 (y0_5))],[]))))
                else (some (.more ([.a (.b (y0_4)),.a (.i .i64 (i64.wrap (y0_5+(1:Int))))],[]))))
              else (none)))
          else (none)))
      else (none))
    else (some (.done ((.exit 0),([.a (.b (y0_4)),.a (.i .i64 (y0_5))],[])))))) (by kernel_rfl) ?_
  simp only [Zbs,Zar,Zap,Zas,Zaq,Zem,Zly]
def Zjh (P:Program) (N:Nat) (a0:Array Value) (b_a1:Option (Option Addr)) (n_a1:Nat) (a1:Array Value) (z0_4:Bool) (z0_5:Int):Option (SV×Eff×Bool):=some (.a (.b (z0_4)),.none,true)
theorem Zrb (N:Nat) (a0:Array Value) (b_a1:Option (Option Addr)) (n_a1:Nat) (a1:Array Value) (z0_4:Bool) (z0_5:Int):(Uad 0 (kSeq (veC PZ Zck N (cAt cKCuA52 [1,1]) (pAt (Uaa cKCuA52 [([4,5],[])]).1 [1,1]) (SV×Eff×Bool)) (finK PZ [.row a0 37,.sl (.came b_a1) n_a1 a1 70] [.tmp 4]))) .ret (left (writes (cAt cKCuA52 [1,0,1,0,0])) [4,5] [] (Zdo a0 b_a1 n_a1 a1) ([.a (.b (z0_4)),.a (.i .i64 (z0_5))],[]))=Zjh PZ N a0 b_a1 n_a1 a1 z0_4 z0_5:=by
 refine Eq.trans (b:=(some (.a (.b (z0_4)),.none,true))) (by kernel_rfl) ?_
 rfl
def Zj4 (P:Program) (N:Nat) (a0:Array Value) (b_a1:Option (Option Addr)) (n_a1:Nat) (a1:Array Value) (z0_4:Bool) (z0_5:Int):Option (SV×Eff×Bool):=some (.a (.b (decide ((n_a1:Int)<=(60:Int)))),.none,true)
theorem Zsa (N:Nat) (a0:Array Value) (b_a1:Option (Option Addr)) (n_a1:Nat) (a1:Array Value) (z0_4:Bool) (z0_5:Int):(Uad 0 (kSeq (veC PZ Zck N (cAt cKCuA52 [1,1]) (pAt (Uaa cKCuA52 [([4,5],[])]).1 [1,1]) (SV×Eff×Bool)) (finK PZ [.row a0 37,.sl (.came b_a1) n_a1 a1 70] [.tmp 4]))) (.exit 0) (left (writes (cAt cKCuA52 [1,0,1,0,0])) [4,5] [] (Zdo a0 b_a1 n_a1 a1) ([.a (.b (z0_4)),.a (.i .i64 (z0_5))],[]))=Zj4 PZ N a0 b_a1 n_a1 a1 z0_4 z0_5:=by
 refine Eq.trans (b:=(some (.a (.b (decide ((n_a1:Int)<=(60:Int)))),.none,true))) (by kernel_rfl) ?_
 rfl
theorem Yb4 (N:Nat) (a0:Array Value) (b_a1:Option (Option Addr)) (n_a1:Nat) (a1:Array Value):Uah (Uab (Uag PZ Zck N (cAt cKCuA52 [1,0,1,0,0]) (pAt (Uaa cKCuA52 [([4,5],[])]).1 [1,0,1,0]) [4,5] [] (Zdo a0 b_a1 n_a1 a1)) N ([.a (.b (false)),.a (.i .i64 (0:Int))],[])) (λ e s=>(Uad 0 (kSeq (veC PZ Zck N (cAt cKCuA52 [1,1]) (pAt (Uaa cKCuA52 [([4,5],[])]).1 [1,1]) (SV×Eff×Bool)) (finK PZ [.row a0 37,.sl (.came b_a1) n_a1 a1 70] [.tmp 4]))) e (left (writes (cAt cKCuA52 [1,0,1,0,0])) [4,5] [] (Zdo a0 b_a1 n_a1 a1) s))=Uai (Uab (Zbs PZ a0 b_a1 n_a1 a1) N (false,(0:Int))) (st2 (λ x=>Zjh PZ N a0 b_a1 n_a1 a1 x.1 x.2) (λ x=>Zj4 PZ N a0 b_a1 n_a1 a1 x.1 x.2)):=by
 refine Zau Zem Zly _ _ (Yat N a0 b_a1 n_a1 a1) N (false,(0:Int)) _ _ ?_
 intro x
 cases x with
 | more x=>exact Zrb N a0 b_a1 n_a1 a1 x.1 x.2
 | done x=>exact Zsa N a0 b_a1 n_a1 a1 x.1 x.2
theorem Zz3 (N:Nat) (a0:Array Value) (b_a1:Option (Option Addr)) (n_a1:Nat) (a1:Array Value):ansV PZ Zck N f52 [([4,5],[])] [.w 0,.l 1] [.row a0 37,.sl (.came b_a1) n_a1 a1 70]=(Uai (Uab (Zbs PZ a0 b_a1 n_a1 a1) N (false,(0:Int))) (st2 (λ x=>Zjh PZ N a0 b_a1 n_a1 a1 x.1 x.2) (λ x=>Zj4 PZ N a0 b_a1 n_a1 a1 x.1 x.2))):=by
 refine Eq.trans (b:=(Uah (Uab (Uag PZ Zck N (cAt cKCuA52 [1,0,1,0,0]) (pAt (Uaa cKCuA52 [([4,5],[])]).1 [1,0,1,0]) [4,5] [] (Zdo a0 b_a1 n_a1 a1)) N ([.a (.b (false)),.a (.i .i64 (0:Int))],[])) (λ e s=>(Uad 0 (kSeq (veC PZ Zck N (cAt cKCuA52 [1,1]) (pAt (Uaa cKCuA52 [([4,5],[])]).1 [1,1]) (SV×Eff×Bool)) (finK PZ [.row a0 37,.sl (.came b_a1) n_a1 a1 70] [.tmp 4]))) e (left (writes (cAt cKCuA52 [1,0,1,0,0])) [4,5] [] (Zdo a0 b_a1 n_a1 a1) s)))) (by kernel_rfl) ?_
 simp only [Yb4 N a0 b_a1 n_a1 a1]
theorem Zyf (a0:Array Value) (b_a1:Option (Option Addr)) (n_a1:Nat) (a1:Array Value) (h_a0:WT PZ 37 a0) (h_a1:a1.size=n_a1*(lay PZ 70).length/\(∀ k,k<n_a1->WT PZ 70 (a1.extract (k*(lay PZ 70).length) (k*(lay PZ 70).length+(lay PZ 70).length)))/\n_a1<=9223372036854775807) (hg:(true)=true):ansV PZ Zck 18446744073709551616 f52 [([4,5],[])] [.w 0,.l 1] [.row a0 37,.sl (.came b_a1) n_a1 a1 70]=some (.a (.b ((Ubc a0 n_a1 a1&&decide ((n_a1:Int)<=60)))),.none,true):=by
 have hn:=h_a1.2.2
 refine (Zz3 18446744073709551616 a0 b_a1 n_a1 a1).trans ?_
 refine (Zzf (g:=Zbs PZ a0 b_a1 n_a1 a1) (λ k=>(false,(k:Int))) (fndB a0 a1) n_a1 (N:=18446744073709551616) (xd:=.done (false,(n_a1:Int))) (by omega) (λ k hk hp=>by
  have h1:decide ((k:Int)<(n_a1:Int))=true:=Q3 (by omega)
  have h0:decide (0<=(k:Int))=true:=Q3 (by omega)
  have h3:i64.wrap ((k:Int)+1)=((k+1:Nat):Int):=by rw [IntWalk.i64_in _ (by omega)];omega
  have h4:decide (0<=IntKind.u64.wrap (bcF a1 k))=true:=Q3 (Zfp .u64 _).1
  have hb:i64.wrap (num a1 (k*2+0))=bcF a1 k:=rfl
  have hc:i64.wrap (num a1 (k*2+1))=hcF a1 k:=rfl
  have hp':fndB a0 a1 k=true:=hp
  unfold fndB at hp'
  simp only [Q7] at hp'
  simp only [Zbs,h1,h0,h3,jB,Q9,Q1,Q2,hb,hc,h4,hp'.1,hp'.2.1,hp'.2.2,jC]) (by
  have h1:decide ((n_a1:Int)<(n_a1:Int))=false:=Q4 (by omega)
  simp only [Zbs,h1,Q2]) (Ubc a0 n_a1 a1) (Zze a0 n_a1 a1) (some (.a (.b (decide ((n_a1:Int)<=60))),.none,true)) (some (.a (.b false),.none,true)) rfl (λ k hk hp=>by
  refine ⟨.more (false,(k:Int)), ?_,rfl⟩
  have h1:decide ((k:Int)<(n_a1:Int))=true:=Q3 (by omega)
  have h0:decide (0<=(k:Int))=true:=Q3 (by omega)
  have h3:i64.wrap ((k:Int)+1)=((k+1:Nat):Int):=by rw [IntWalk.i64_in _ (by omega)];omega
  have h4:decide (0<=IntKind.u64.wrap (bcF a1 k))=true:=Q3 (Zfp .u64 _).1
  have hb:i64.wrap (num a1 (k*2+0))=bcF a1 k:=rfl
  have hc:i64.wrap (num a1 (k*2+1))=hcF a1 k:=rfl
  have hp':fndB a0 a1 k=false:=hp
  unfold fndB at hp'
  cases x1:Zab (bcF a1 k) a0
  ·simp only [Zbs,h1,h0,h3,jB,Q9,Q1,hb,x1,jD]
  ·cases x2:Zag (bcF a1 k) a0
   ·simp only [Zbs,h1,h0,h3,jB,Q9,Q1,Q2,hb,h4,x1,x2,jC,jD]
   ·rw [x1,x2] at hp'
    simp only [jE] at hp'
    simp only [Zbs,h1,h0,h3,jB,Q9,Q1,Q2,hb,hc,h4,x1,x2,hp',jC,jD])).trans ?_
 cases Ubc a0 n_a1 a1<;>rfl
def Zkx:Con:=λ args h=>match args,h with
 | [.w 0,.l 1],[.row a0 37,.sl (.came b_a1) n_a1 a1 70]=>some (.a (.b ((Ubc a0 n_a1 a1&&decide ((n_a1:Int)<=60)))),.none,true)
 | _,_=>none
theorem Zuj:EntX PZ 52:=Zah (fn:=f52)
theorem Ya5:Uac (md F) PZ 52 Zkx:=(ansY (N:=18446744073709551616) (mKc (Zae Zka) Zgq (mKc (Zae Zk4) Zh3 (mKc (Zae Yef) Zvt mKn))) f52 [([4,5],[])]).of (by
 intro ρ h w args vals r e hA hH hr
 unfold Zkx at hr
 split at hr
 ·rename_i a0 b_a1 n_a1 a1
  obtain ⟨rfl,rfl,hg2⟩:=BQi hr
  exact Zyf a0 b_a1 n_a1 a1 (hH.wt 0 rfl) (hH.slw 1 rfl) hg2
 ·cases hr)
def Zbv:Cons:=(mkΓ [(80,con Zhx),(81,con Zgd),(94,con Zew),(95,con Zlf)])
def Zci (a0:Array Value) (b_a1:Option (Option Addr)) (n_a1:Nat) (a1:Array Value):St:=(⟨.a (.g a0 37) :: .a (.l 0) :: .a (.w 1) :: .a (.u) :: .a (.b (false))::us 3 (.a (.g a0 37) :: .a (.b ((okS a0))) :: .a (.b ((!((okS a0))))) :: .a (.b (false)) :: .a (.l 0) :: .a (.i .i64 (n_a1:Int)) :: .a (.b (decide ((n_a1:Int) > (60:Int)))) :: .a (.b (decide ((n_a1:Int) > (60:Int)))) :: .a (.l 0) :: .a (.i .i64 (n_a1:Int)) :: .a (.i .i64 (0:Int))::us 23 ([])),[.sl (.came b_a1) n_a1 a1 70,.row a0 37,.no],[]⟩:St)
def Zdm:Bool×Int->LS
 | (y0_4,y0_18)=>([.a (.b (y0_4)),.a (.i .i64 (y0_18))],[])
def Zjm:(Stp (Bool×Int) (Bool×Int))->Exit×LS
 | .more t=>(.ret,Zdm t)
 | .done t=>((.exit 0),Zdm t)
def Zbg (P:Program) (a0:Array Value) (b_a1:Option (Option Addr)) (n_a1:Nat) (a1:Array Value):Bool×Int→Option (Stp (Bool×Int) (Stp (Bool×Int) (Bool×Int)))
  | (y0_4,y0_18)=>bif decide (y0_18<(n_a1:Int)) then (bif (decide (0≤y0_18)&&decide (y0_18<(n_a1:Int))) then (bif (!((Zal a0 (i64.wrap (num (a1.extract ((y0_18).toNat*2) (((y0_18).toNat*2)+2)) 0))))) then (some (.done (.more (false,y0_18))))
        else (bif decide (0≤(i64.wrap (num (a1.extract ((y0_18).toNat*2) (((y0_18).toNat*2)+2)) 0))) then (bif (Zad a0 (i64.wrap (num (a1.extract ((y0_18).toNat*2) (((y0_18).toNat*2)+2)) 0))) then (some (.done (.more (false,y0_18))))
            else (bif (!((Zfj (i64.wrap (num (a1.extract ((y0_18).toNat*2) (((y0_18).toNat*2)+2)) 1))))) then (some (.done (.more (false,y0_18))))
              else (some (.more (y0_4,(i64.wrap (y0_18+(1:Int))))))))
          else (none)))
      else (none))
    else (some (.done (.done (y0_4,y0_18))))
noncomputable abbrev cKCuA77:=codeOf f77
theorem Zxs (N:Nat) (a0:Array Value) (b_a1:Option (Option Addr)) (n_a1:Nat) (a1:Array Value):∀ t:Bool×Int,Uag PZ Zbv N (cAt cKCuA77 [1,1,0,1,0,0]) (pAt (Uaa cKCuA77 [([4,18],[])]).1 [1,1,0,1,0]) [4,18] [] (Zci a0 b_a1 n_a1 a1) (Zdm t)=mapS Zdm Zjm (Zbg PZ a0 b_a1 n_a1 a1 t):=by
  rintro ⟨y0_4,y0_18⟩
  refine Eq.trans (b:=(bif decide (y0_18<(n_a1:Int)) then (bif (decide (0<=y0_18)&&decide (y0_18<(n_a1:Int))) then (bif (!((Zal a0 (i64.wrap (num (a1.extract ((y0_18).toNat*2) (((y0_18).toNat*2)+2)) 0))))) then (some (.done (.ret,([.a (.b (false)),.a (.i .i64 (y0_18))],[]))))
        else (bif decide (0≤(i64.wrap (num (a1.extract ((y0_18).toNat*2) (((y0_18).toNat*2)+2)) 0))) then (bif (Zad a0 (i64.wrap (num (a1.extract ((y0_18).toNat*2) (((y0_18).toNat*2)+2)) 0))) then (some (.done (.ret,([.a (.b (false)),.a (.i .i64 (y0_18))],[]))))
            else (bif (!((Zfj (i64.wrap (num (a1.extract ((y0_18).toNat*2) (((y0_18).toNat*2)+2)) 1))))) then (some (.done (.ret,([.a (.b (false)),.a (.i .i64 (y0_18))],[]))))
              else (some (.more ([.a (.b (y0_4)),.a (.i .i64 (i64.wrap (y0_18+(1:Int))))],[])))))
          else (none)))
      else (none))
    else (some (.done ((.exit 0),([.a (.b (y0_4)),.a (.i .i64 (y0_18))],[])))))) (by kernel_rfl) ?_
  simp only [Zbg,Zar,Zap,Zas,Zaq,Zdm,Zjm]
def Zii (P:Program) (N:Nat) (a0:Array Value) (b_a1:Option (Option Addr)) (n_a1:Nat) (a1:Array Value) (z0_4:Bool) (z0_18:Int):Option (SV×Eff×Bool):=some (.a (.b (z0_4)),.none,true)
theorem Zpg (N:Nat) (a0:Array Value) (b_a1:Option (Option Addr)) (n_a1:Nat) (a1:Array Value) (z0_4:Bool) (z0_18:Int):(Uad 0 (kSeq (veC PZ Zbv N (cAt cKCuA77 [1,1,1]) (pAt (Uaa cKCuA77 [([4,18],[])]).1 [1,1,1]) (SV×Eff×Bool)) (finK PZ [.sl (.came b_a1) n_a1 a1 70] [.tmp 4]))) .ret (left (writes (cAt cKCuA77 [1,1,0,1,0,0])) [4,18] [] (Zci a0 b_a1 n_a1 a1) ([.a (.b (z0_4)),.a (.i .i64 (z0_18))],[]))=Zii PZ N a0 b_a1 n_a1 a1 z0_4 z0_18:=by
 refine Eq.trans (b:=(some (.a (.b (z0_4)),.none,true))) (by kernel_rfl) ?_
 rfl
def Zie (P:Program) (N:Nat) (a0:Array Value) (b_a1:Option (Option Addr)) (n_a1:Nat) (a1:Array Value) (z0_4:Bool) (z0_18:Int):Option (SV×Eff×Bool):=some (.a (.b (true)),.none,true)
theorem Zpj (N:Nat) (a0:Array Value) (b_a1:Option (Option Addr)) (n_a1:Nat) (a1:Array Value) (z0_4:Bool) (z0_18:Int):(Uad 0 (kSeq (veC PZ Zbv N (cAt cKCuA77 [1,1,1]) (pAt (Uaa cKCuA77 [([4,18],[])]).1 [1,1,1]) (SV×Eff×Bool)) (finK PZ [.sl (.came b_a1) n_a1 a1 70] [.tmp 4]))) (.exit 0) (left (writes (cAt cKCuA77 [1,1,0,1,0,0])) [4,18] [] (Zci a0 b_a1 n_a1 a1) ([.a (.b (z0_4)),.a (.i .i64 (z0_18))],[]))=Zie PZ N a0 b_a1 n_a1 a1 z0_4 z0_18:=by
 refine Eq.trans (b:=(some (.a (.b (true)),.none,true))) (by kernel_rfl) ?_
 rfl
theorem Zvv (N:Nat) (a0:Array Value) (b_a1:Option (Option Addr)) (n_a1:Nat) (a1:Array Value):Uah (Uab (Uag PZ Zbv N (cAt cKCuA77 [1,1,0,1,0,0]) (pAt (Uaa cKCuA77 [([4,18],[])]).1 [1,1,0,1,0]) [4,18] [] (Zci a0 b_a1 n_a1 a1)) N ([.a (.b (false)),.a (.i .i64 (0:Int))],[])) (λ e s=>(Uad 0 (kSeq (veC PZ Zbv N (cAt cKCuA77 [1,1,1]) (pAt (Uaa cKCuA77 [([4,18],[])]).1 [1,1,1]) (SV×Eff×Bool)) (finK PZ [.sl (.came b_a1) n_a1 a1 70] [.tmp 4]))) e (left (writes (cAt cKCuA77 [1,1,0,1,0,0])) [4,18] [] (Zci a0 b_a1 n_a1 a1) s))=Uai (Uab (Zbg PZ a0 b_a1 n_a1 a1) N (false,(0:Int))) (st2 (λ x=>Zii PZ N a0 b_a1 n_a1 a1 x.1 x.2) (λ x=>Zie PZ N a0 b_a1 n_a1 a1 x.1 x.2)):=by
 refine Zau Zdm Zjm _ _ (Zxs N a0 b_a1 n_a1 a1) N (false,(0:Int)) _ _ ?_
 intro x
 cases x with
 | more x=>exact Zpg N a0 b_a1 n_a1 a1 x.1 x.2
 | done x=>exact Zpj N a0 b_a1 n_a1 a1 x.1 x.2
theorem Zu7 (N:Nat) (a0:Array Value) (b_a1:Option (Option Addr)) (n_a1:Nat) (a1:Array Value):ansV PZ Zbv N f77 [([4,18],[])] [.g a0 37,.l 0] [.sl (.came b_a1) n_a1 a1 70]=(bif (!((okS a0))) then (some (.a (.b (false)),.none,true))
  else (bif decide ((n_a1:Int) > (60:Int)) then (some (.a (.b (false)),.none,true))
   else (Uai (Uab (Zbg PZ a0 b_a1 n_a1 a1) N (false,(0:Int))) (st2 (λ x=>Zii PZ N a0 b_a1 n_a1 a1 x.1 x.2) (λ x=>Zie PZ N a0 b_a1 n_a1 a1 x.1 x.2))))):=by
 refine Eq.trans (b:=(bif (!((okS a0))) then (some (.a (.b (false)),.none,true))
  else (bif decide ((n_a1:Int) > (60:Int)) then (some (.a (.b (false)),.none,true))
   else (Uah (Uab (Uag PZ Zbv N (cAt cKCuA77 [1,1,0,1,0,0]) (pAt (Uaa cKCuA77 [([4,18],[])]).1 [1,1,0,1,0]) [4,18] [] (Zci a0 b_a1 n_a1 a1)) N ([.a (.b (false)),.a (.i .i64 (0:Int))],[])) (λ e s=>(Uad 0 (kSeq (veC PZ Zbv N (cAt cKCuA77 [1,1,1]) (pAt (Uaa cKCuA77 [([4,18],[])]).1 [1,1,1]) (SV×Eff×Bool)) (finK PZ [.sl (.came b_a1) n_a1 a1 70] [.tmp 4]))) e (left (writes (cAt cKCuA77 [1,1,0,1,0,0])) [4,18] [] (Zci a0 b_a1 n_a1 a1) s)))))) (by kernel_rfl) ?_
 simp only [Zvv N a0 b_a1 n_a1 a1]
theorem Ztb (a0:Array Value) (b_a1:Option (Option Addr)) (n_a1:Nat) (a1:Array Value) (h_a0:WT PZ 37 a0) (h_a1:a1.size=n_a1*(lay PZ 70).length∧(∀ k,k<n_a1→WT PZ 70 (a1.extract (k*(lay PZ 70).length) (k*(lay PZ 70).length+(lay PZ 70).length)))∧n_a1≤9223372036854775807) (hg:(true)=true):ansV PZ Zbv 18446744073709551616 f77 [([4,18],[])] [.g a0 37,.l 0] [.sl (.came b_a1) n_a1 a1 70]=some (.a (.b ((okS a0&&(Ubc a0 n_a1 a1&&decide ((n_a1:Int)≤60))))),.none,true):=by
  have hn:=h_a1.2.2
  have hS:=Yqd h_a0
  refine (Zu7 18446744073709551616 a0 b_a1 n_a1 a1).trans ?_
  cases hok:okS a0
  . rfl
  by_cases hl:(n_a1:Int) > 60
  · rw [Q3 hl,Q4 (show ¬ (n_a1:Int)≤60 by omega),Bool.and_false]
    rfl
  rw [Q4 hl,Q3 (show (n_a1:Int)<=60 by omega),Bool.and_true]
  simp only [jC,Q2,jE]
  refine (Zzf (g:=Zbg PZ a0 b_a1 n_a1 a1) (fun k=>(false,(k:Int))) (fndB a0 a1) n_a1 (N:=18446744073709551616) (xd:=.done (false,(n_a1:Int))) (by omega) (fun k hk hp=>by
    have h1:decide ((k:Int)<(n_a1:Int))=true:=Q3 (by omega)
    have h0:decide (0<=(k:Int))=true:=Q3 (by omega)
    have h3:i64.wrap ((k:Int)+1)=((k+1:Nat):Int):=by rw [IntWalk.i64_in _ (by omega)];omega
    have hx:=Yl5 a1 k
    have hp':fndB a0 a1 k=true:=hp
    unfold fndB at hp'
    simp only [Q7] at hp'
    have hr:=Zhu hp'.1
    have h4:decide (0<=bcF a1 k)=true:=Q3 hr.1
    have hw:Zad a0 (bcF a1 k)=false:=by
      unfold Zad
      rw [Zwb h_a0 hr,hp'.2.1];rfl
    simp only [Zbg,h1,h0,h3,jB,Q9,Q1,Q2,hx.1,hx.2,Zrp,Ynw,h4,hw,hp'.1,hp'.2.2,jC]) (by
    have h1:decide ((n_a1:Int)<(n_a1:Int))=false:=Q4 (by omega)
    simp only [Zbg,h1,Q2]) (Ubc a0 n_a1 a1) (Zze a0 n_a1 a1) (some (.a (.b true),.none,true)) (some (.a (.b false),.none,true)) rfl (λ k hk hp=>by
    refine ⟨.more (false,(k:Int)), ?_,rfl⟩
    have h1:decide ((k:Int)<(n_a1:Int))=true:=Q3 (by omega)
    have h0:decide (0<=(k:Int))=true:=Q3 (by omega)
    have h3:i64.wrap ((k:Int)+1)=((k+1:Nat):Int):=by rw [IntWalk.i64_in _ (by omega)];omega
    have hx:=Yl5 a1 k
    have hp':fndB a0 a1 k=false:=hp
    unfold fndB at hp'
    cases x1:Zab (bcF a1 k) a0
    . simp only [Zbg,h1,h0,h3,jB,Q9,Q1,hx.1,Zrp,x1,jD]
    · have hr:=Zhu x1
      have h4:decide (0<=bcF a1 k)=true:=Q3 hr.1
      cases x2:Zag (bcF a1 k) a0
      · have hw:Zad a0 (bcF a1 k)=true:=by
          unfold Zad
          rw [Zwb h_a0 hr,x2];rfl
        simp only [Zbg,h1,h0,h3,jB,Q9,Q1,Q2,hx.1,Zrp,h4,x1,hw,jC]
      · have hw:Zad a0 (bcF a1 k)=false:=by
          unfold Zad
          rw [Zwb h_a0 hr,x2];rfl
        rw [x1,x2] at hp'
        simp only [jE] at hp'
        simp only [Zbg,h1,h0,h3,jB,Q9,Q1,Q2,hx.1,hx.2,Zrp,Ynw,h4,x1,hw,hp',jC,jD])).trans ?_
  cases Ubc a0 n_a1 a1<;>rfl
def Zi9:Con:=λ args h=>match args,h with
 | [.g a0 37,.l 0],[.sl (.came b_a1) n_a1 a1 70]=>some (.a (.b ((okS a0&&(Ubc a0 n_a1 a1&&decide ((n_a1:Int)<=60))))),.none,true)
 | _,_=>none
theorem Zsb:EntX PZ 77:=Zah (fn:=f77)
theorem Zyc:Uac (md F) PZ 77 Zi9:=(ansY (N:=18446744073709551616) (mKc (Zae Zgi) Zee (mKc (Zae Zfk) Zdj (mKc (Zae Zji) Zha (mKc (Zae Yer) Zxh mKn)))) f77 [([4,18],[])]).of (by
 intro ρ h w args vals r e hA hH hr
 unfold Zi9 at hr
 split at hr
 ·rename_i a0 b_a1 n_a1 a1
  obtain ⟨rfl,rfl,hg2⟩:=BQi hr
  exact Ztb a0 b_a1 n_a1 a1 (hA.wt 0 rfl) (hH.slw 0 rfl) hg2
 ·cases hr)
def vf (S:Array Value) (n:Nat) (a:Array Value):Bool:=(okS S&&(Ubc S n a&&decide ((n:Int)<=60)))
theorem vf_of {S a:Array Value} {n:Nat} (h:vf S n a=true):okS S=true/\n<=60/\∀ k,k<n->fndB S a k=true:=by
 unfold vf at h
 simp only [Q7,decide_eq_true_eq] at h
 exact ⟨h.1,by omega,(Zze S n a).1 h.2.1⟩
theorem fnd_of {S a:Array Value} {k:Nat} (h:fndB S a k=true):Zab (bcF a k) S=true/\Zag (bcF a k) S=true/\Zaa (hcF a k) 1 14=true:=by
 unfold fndB at h
 simp only [Q7] at h
 exact h
theorem Zru {C:Array Value} (h:WT PZ 70 C):C.size=2/\i64.wrap (num C 0)=num C 0/\i64.wrap (num C 1)=num C 1/\bcF C 0=num C 0/\hcF C 0=num C 1:=by
 have h0:=(h.int (o:=0) (k:=.i8) (by kernel_rfl)).2
 have h1:=(h.int (o:=1) (k:=.i8) (by kernel_rfl)).2
 have m8:IntKind.i8.min = -128/\IntKind.i8.max=127:=⟨rfl,rfl⟩
 rw [m8.1,m8.2] at h0 h1
 have e0:i64.wrap (num C 0)=num C 0:=w64 (by omega)
 have e1:i64.wrap (num C 1)=num C 1:=w64 (by omega)
 exact ⟨by rw [h.layLen];kernel_rfl,e0,e1,e0,e1⟩
def prtV (a0 a1:Array Value):Int:=(num (subV (a0.extract ((num a1 1).toNat*36) ((num a1 1).toNat*36+36)) (a0.extract (((num a1 1).toNat - 1)*36) (((num a1 1).toNat - 1)*36+36)) 12) (num a1 0).toNat)
theorem Zrs (N:Nat) (a1:Array Value) (b_a0:Option (Option Addr)) (n_a0:Nat) (a0:Array Value):ansV PZ (mkΓ [(108,con Ze0)]) N f88 [] [.l 0,.g a1 70] [.sl (.came b_a0) n_a0 a0 105]=(bif ((decide (0<=(i64.wrap ((i64.wrap (num a1 1)) - (1:Int))))&&decide ((i64.wrap ((i64.wrap (num a1 1)) - (1:Int)))<=(i64.wrap (num a1 1))))&&(decide ((i64.wrap (num a1 1))<=(i64.wrap ((i64.wrap (num a1 1)) - (1:Int)))+14)&&decide ((i64.wrap (num a1 1))<(n_a0:Int)))) then (bif (decide (0<=(num a1 0))&&decide ((num a1 0)<36)) then (some (.a (.i .i64 (num (subV (a0.extract ((i64.wrap (num a1 1)).toNat*36) ((i64.wrap (num a1 1)).toNat*36+36)) (a0.extract ((i64.wrap ((i64.wrap (num a1 1)) - (1:Int))).toNat*36) ((i64.wrap ((i64.wrap (num a1 1)) - (1:Int))).toNat*36+36)) (12^((i64.wrap (num a1 1)) - (i64.wrap ((i64.wrap (num a1 1)) - (1:Int)))).toNat)) ((num a1 0).toNat*1))),.none,true))
   else (none))
  else (none)):=by kernel_rfl
theorem Zp4 (a1:Array Value) (b_a0:Option (Option Addr)) (n_a0:Nat) (a0:Array Value) (h_a1:WT PZ 70 a1) (h_a0:a0.size=n_a0*(lay PZ 105).length/\(∀ k,k<n_a0->WT PZ 105 (a0.extract (k*(lay PZ 105).length) (k*(lay PZ 105).length+(lay PZ 105).length)))/\n_a0<=9223372036854775807) (hg:((Zaa (num a1 1) 1 14&&(decide (num a1 1<(n_a0:Int))&&(decide (0<=num a1 0)&&decide (num a1 0<36)))))=true):ansV PZ (mkΓ [(108,con Ze0)]) 1000 f88 [] [.l 0,.g a1 70] [.sl (.came b_a0) n_a0 a0 105]=some (.a (.i .i64 (prtV a0 a1)),.none,true):=by
 obtain ⟨z,e0,e1,_,_⟩:=Zru h_a1
 rw [Q7,Q7] at hg
 obtain ⟨q3,q4,q5⟩:=hg
 have r3:=Ziw q3
 have e2:i64.wrap (num a1 1 - 1)=num a1 1 - 1:=w64 (by omega)
 have e3:(num a1 1 - (num a1 1 - 1)).toNat=1:=by omega
 have e4:(num a1 1 - 1).toNat=(num a1 1).toNat - 1:=by omega
 have e5:(12:Int)^1=12:=by decide
 have g1:decide (0<=num a1 1 - 1)=true:=Q3 (by omega)
 have g2:decide (num a1 1 - 1<=num a1 1)=true:=Q3 (by omega)
 have g3:decide (num a1 1<=num a1 1 - 1+14)=true:=Q3 (by omega)
 refine (Zrs 1000 a1 b_a0 n_a0 a0).trans ?_
 unfold prtV
 simp only [e1,e2,e3,e4,e5,g1,g2,g3,q4,q5,jB,Q1,Nat.mul_one]
def Zhj:Con:=λ args h=>match args,h with
 | [.l 0,.g a1 70],[.sl (.came b_a0) n_a0 a0 105]=>some (.a (.i .i64 (prtV a0 a1)),.none,(Zaa (num a1 1) 1 14&&(decide (num a1 1<(n_a0:Int))&&(decide (0<=num a1 0)&&decide (num a1 0<36)))))
 | _,_=>none
theorem Zpa:EntX PZ 88:=Zah (fn:=f88)
theorem Ztm:Uac (md F) PZ 88 Zhj:=(ansY (N:=1000) (mKc (Zae Zsv) Zpn mKn) f88 []).of (by
 intro ρ h w args vals r e hA hH hr
 unfold Zhj at hr
 split at hr
 ·rename_i a1 b_a0 n_a0 a0
  obtain ⟨rfl,rfl,hg2⟩:=BQi hr
  exact Zp4 a1 b_a0 n_a0 a0 (hA.wt 1 rfl) (hH.slw 0 rfl) hg2
 ·cases hr)
theorem Zve (N:Nat) (a0 a1:Array Value):ansV PZ (mkΓ []) N f78 [] [.g a0 37,.g a1 37] []=(bif ((num a0 0)==(num a1 0)) then (bif ((num a0 1)==(num a1 1)) then (some (.a (.b (((num a0 2)==(num a1 2)))),.none,true))
   else (some (.a (.b (false)),.none,true)))
  else (some (.a (.b (false)),.none,true))):=by kernel_rfl
def Zbf (a0 a1:Array Value):Bool:=(bif ((num a0 0)==(num a1 0)) then (bif ((num a0 1)==(num a1 1)) then ((num a0 2)==(num a1 2)) else false) else false)
theorem Zs8 (a0 a1:Array Value) (h_a0:WT PZ 37 a0) (h_a1:WT PZ 37 a1) (hg:(true)=true):ansV PZ (mkΓ []) 1000 f78 [] [.g a0 37,.g a1 37] []=some (.a (.b ((Zbf a0 a1))),.none,true):=by
 refine (Zve 1000 a0 a1).trans ?_
 unfold Zbf
 revert hg
 generalize (((num a0 0)==(num a1 0)))=b2
 intro hg
 cases b2
 ·skip
  first | (simp only [Q1,Q2,BQ6];done) | rfl | exact (nomatch (hg:false=true))
 ·skip
  revert hg
  generalize (((num a0 1)==(num a1 1)))=b4
  intro hg
  cases b4
  ·skip
   first | (simp only [Q1,Q2,BQ6];done) | rfl | exact (nomatch (hg:false=true))
  ·skip
   first | (simp only [Q1,Q2,BQ6];done) | rfl | exact (nomatch (hg:false=true))
def Zi6:Con:=λ args h=>match args,h with
 | [.g a0 37,.g a1 37],[]=>some (.a (.b ((Zbf a0 a1))),.none,true)
 | _,_=>none
theorem Zrn:EntX PZ 78:=Zah (fn:=f78)
theorem Zxt:Uac (md F) PZ 78 Zi6:=(ansY (N:=1000) mKn f78 []).of (by
 intro ρ h w args vals r e hA hH hr
 unfold Zi6 at hr
 split at hr
 ·rename_i a0 a1
  obtain ⟨rfl,rfl,hg2⟩:=BQi hr
  exact Zs8 a0 a1 (hA.wt 0 rfl) (hA.wt 1 rfl) hg2
 ·cases hr)
theorem Zz5 (N:Nat) (a0 a1:Array Value):ansV PZ (mkΓ []) N f91 [] [.w 0,.w 1] [.row a0 37,.row a1 37]=(bif ((num a0 0)==(num a1 0)) then (bif ((num a0 1)==(num a1 1)) then (some (.a (.b (((num a0 2)==(num a1 2)))),.none,true))
   else (some (.a (.b (false)),.none,true)))
  else (some (.a (.b (false)),.none,true))):=by kernel_rfl
def Zaw (a0 a1:Array Value):Bool:=(bif ((num a0 0)==(num a1 0)) then (bif ((num a0 1)==(num a1 1)) then ((num a0 2)==(num a1 2)) else false) else false)
theorem Zxc (a0 a1:Array Value) (h_a0:WT PZ 37 a0) (h_a1:WT PZ 37 a1) (hg:(true)=true):ansV PZ (mkΓ []) 1000 f91 [] [.w 0,.w 1] [.row a0 37,.row a1 37]=some (.a (.b ((Zaw a0 a1))),.none,true):=by
 refine (Zz5 1000 a0 a1).trans ?_
 unfold Zaw
 revert hg
 generalize (((num a0 0)==(num a1 0)))=b2
 intro hg
 cases b2
 ·skip
  first | (simp only [Q1,Q2,BQ6];done) | rfl | exact (nomatch (hg:false=true))
 ·skip
  revert hg
  generalize (((num a0 1)==(num a1 1)))=b4
  intro hg
  cases b4
  ·skip
   first | (simp only [Q1,Q2,BQ6];done) | rfl | exact (nomatch (hg:false=true))
  ·skip
   first | (simp only [Q1,Q2,BQ6];done) | rfl | exact (nomatch (hg:false=true))
def Zky:Con:=λ args h=>match args,h with
 | [.w 0,.w 1],[.row a0 37,.row a1 37]=>some (.a (.b ((Zaw a0 a1))),.none,true)
 | _,_=>none
theorem Zud:EntX PZ 91:=Zah (fn:=f91)
theorem Ych:Uac (md F) PZ 91 Zky:=(ansY (N:=1000) mKn f91 []).of (by
 intro ρ h w args vals r e hA hH hr
 unfold Zky at hr
 split at hr
 ·rename_i a0 a1
  obtain ⟨rfl,rfl,hg2⟩:=BQi hr
  exact Zxc a0 a1 (hH.wt 0 rfl) (hH.wt 1 rfl) hg2
 ·cases hr)
def Zt5:Cons:=(mkΓ [(51,con Zin),(91,con Zky)])
theorem Yao (N:Nat) (a0 a1:Array Value):ansV PZ Zt5 N f65 [] [.w 0,.w 1] [.row a0 37,.row a1 37]=(bif (!((okS a0))) then (some (.a (.i .i64 (1:Int)),.none,true))
  else (bif (!((okS a1))) then (some (.a (.i .i64 (1:Int)),.none,true))
   else (bif (!((Zaw a0 a1))) then (some (.a (.i .i64 (4:Int)),.none,true))
    else (some (.a (.i .i64 (0:Int)),.none,true))))):=by kernel_rfl
def Zb3 (a0 a1:Array Value):Int:=(bif (!((okS a0))) then (1:Int) else (bif (!((okS a1))) then (1:Int) else (bif (!((Zaw a0 a1))) then (4:Int) else (0:Int))))
theorem Zy1 (a0 a1:Array Value) (h_a0:WT PZ 37 a0) (h_a1:WT PZ 37 a1) (hg:(true)=true):ansV PZ Zt5 1000 f65 [] [.w 0,.w 1] [.row a0 37,.row a1 37]=some (.a (.i .i64 (Zb3 a0 a1)),.none,true):=by
 refine (Yao 1000 a0 a1).trans ?_
 unfold Zb3
 revert hg
 generalize ((!((okS a0))))=b2
 intro hg
 cases b2
 ·skip
  revert hg
  generalize ((!((okS a1))))=b4
  intro hg
  cases b4
  ·skip
   revert hg
   generalize ((!((Zaw a0 a1))))=b6
   intro hg
   cases b6
   ·skip
    first | (simp only [Q1,Q2,BQ6];done) | rfl | exact (nomatch (hg:false=true))
   ·skip
    first | (simp only [Q1,Q2,BQ6];done) | rfl | exact (nomatch (hg:false=true))
  ·skip
   first | (simp only [Q1,Q2,BQ6];done) | rfl | exact (nomatch (hg:false=true))
 ·skip
  first | (simp only [Q1,Q2,BQ6];done) | rfl | exact (nomatch (hg:false=true))
def Zl7:Con:=λ args h=>match args,h with
 | [.w 0,.w 1],[.row a0 37,.row a1 37]=>some (.a (.i .i64 (Zb3 a0 a1)),.none,true)
 | _,_=>none
theorem Zv4:EntX PZ 65:=Zah (fn:=f65)
theorem Yeb:Uac (md F) PZ 65 Zl7:=(ansY (N:=1000) (mKc (Zae Zo4) Zlm (mKc (Zae Ych) Zud mKn)) f65 []).of (by
 intro ρ h w args vals r e hA hH hr
 unfold Zl7 at hr
 split at hr
 ·rename_i a0 a1
  obtain ⟨rfl,rfl,hg2⟩:=BQi hr
  exact Zy1 a0 a1 (hH.wt 0 rfl) (hH.wt 1 rfl) hg2
 ·cases hr)
def Za2:Cons:=(mkΓ [(77,con Zi9),(78,con Zi6)])
def Zdq (b_a0:Option (Option Addr)) (n_a0:Nat) (a0:Array Value) (b_a1:Option (Option Addr)) (n_a1:Nat) (a1:Array Value):St:=(⟨.a (.l 0) :: .a (.l 1) :: .a (.u) :: .a (.u) :: .a (.i .i64 (0:Int))::us 4 (.a (.l 0) :: .a (.i .i64 (n_a0:Int)) :: .a (.i .i64 (0:Int))::us 24 ([])),[.sl (.came b_a0) n_a0 a0 37,.sl (.came b_a1) n_a1 a1 70],[]⟩:St)
def Zet:Int×Int->LS
 | (y0_4,y0_11)=>([.a (.i .i64 (y0_4)),.a (.i .i64 (y0_11))],[])
def Zlt:(Stp (Int×Int) (Int×Int))->Exit×LS
 | .more t=>(.ret,Zet t)
 | .done t=>((.exit 0),Zet t)
def Zb7 (P : Program) (b_a0 : Option (Option Addr)) (n_a0 : Nat) (a0 : Array Value) (b_a1 : Option (Option Addr)) (n_a1 : Nat) (a1 : Array Value) : Int × Int → Option (Stp (Int × Int) (Stp (Int × Int) (Int × Int)))
 | (y0_4, y0_11) => bif decide (y0_11 < (n_a0 : Int)) then (bif (decide (0 ≤ y0_11) && decide (y0_11 < (n_a0 : Int))) then (bif (!((okS (a0.extract ((y0_11).toNat * 363) (((y0_11).toNat * 363) + 363)) && (Ubc (a0.extract ((y0_11).toNat * 363) (((y0_11).toNat * 363) + 363)) n_a1 a1 && decide ((n_a1 : Int) ≤ 60))))) then (some (.done (.more ((1 : Int), y0_11))))
    else (some (.more (y0_4,(i64.wrap (y0_11+(1:Int)))))))
   else (none))
  else (some (.done (.done (y0_4,y0_11))))
noncomputable abbrev cKCuA55:=codeOf f55
theorem Yb6 (N:Nat) (b_a0:Option (Option Addr)) (n_a0:Nat) (a0:Array Value) (b_a1:Option (Option Addr)) (n_a1:Nat) (a1:Array Value):∀ t:Int×Int,Uag PZ Za2 N (cAt cKCuA55 [1,0,1,0,0]) (pAt (Uaa cKCuA55 [([4,11],[]),([4,25],[])]).1 [1,0,1,0]) [4,11] [] (Zdq b_a0 n_a0 a0 b_a1 n_a1 a1) (Zet t)=mapS Zet Zlt (Zb7 PZ b_a0 n_a0 a0 b_a1 n_a1 a1 t):=by
 rintro ⟨y0_4,y0_11⟩
 refine Eq.trans (b:=(bif decide (y0_11<(n_a0:Int)) then (bif (decide (0<=y0_11)&&decide (y0_11<(n_a0:Int))) then (bif (!((okS (a0.extract ((y0_11).toNat*363) (((y0_11).toNat*363)+363))&&(Ubc (a0.extract ((y0_11).toNat*363) (((y0_11).toNat*363)+363)) n_a1 a1&&decide ((n_a1:Int)<=60))))) then (some (.done (.ret,([.a (.i .i64 (1:Int)),.a (.i .i64 (y0_11))],[]))))
    else (some (.more ([.a (.i .i64 (y0_4)),.a (.i .i64 (i64.wrap (y0_11+(1:Int))))],[]))))
   else (none))
  else (some (.done ((.exit 0),([.a (.i .i64 (y0_4)),.a (.i .i64 (y0_11))],[])))))) (by kernel_rfl) ?_
 simp only [Zb7,Zar,Zap,Zas,Zaq,Zet,Zlt]
def Zdp (b_a0:Option (Option Addr)) (n_a0:Nat) (a0:Array Value) (b_a1:Option (Option Addr)) (n_a1:Nat) (a1:Array Value) (z0_4:Int) (z0_11:Int):St:=(⟨.a (.l 0) :: .a (.l 1) :: .a (.u) :: .a (.u) :: .a (.i .i64 (z0_4)) :: .a (.u) :: .a (.x) :: .a (.u) :: .a (.u) :: .a (.l 0) :: .a (.i .i64 (n_a0:Int)) :: .a (.i .i64 (z0_11))::xs 8 (.a (.l 0) :: .a (.i .i64 (n_a0:Int)) :: .a (.b (decide ((n_a0:Int) > (8:Int)))) :: .a (.l 0) :: .a (.i .i64 (n_a0:Int)) :: .a (.i .i64 (0:Int))::us 10 ([])),[.sl (.came b_a0) n_a0 a0 37,.sl (.came b_a1) n_a1 a1 70],[]⟩:St)
def Zeu:Int×Int->LS
 | (y1_4,y1_25)=>([.a (.i .i64 (y1_4)),.a (.i .i64 (y1_25))],[])
def Zlg:(Stp (Int×Int) (Int×Int))->Exit×LS
 | .more t=>(.ret,Zeu t)
 | .done t=>((.exit 2),Zeu t)
def Zb6 (P : Program) (b_a0 : Option (Option Addr)) (n_a0 : Nat) (a0 : Array Value) (b_a1 : Option (Option Addr)) (n_a1 : Nat) (a1 : Array Value) (z0_4 : Int) (z0_11 : Int) : Int × Int → Option (Stp (Int × Int) (Stp (Int × Int) (Int × Int)))
 | (y1_4, y1_25) => bif decide (y1_25 < (n_a0 : Int)) then (bif (decide (0 ≤ y1_25) && decide (y1_25 < (n_a0 : Int))) then (bif (decide (0 ≤ (0 : Int)) && decide ((0 : Int) < (n_a0 : Int))) then (bif (!((Zbf (a0.extract ((y1_25).toNat * 363) (((y1_25).toNat * 363) + 363)) (a0.extract ((0 : Int).toNat * 363) (((0 : Int).toNat * 363) + 363))))) then (some (.done (.more ((4 : Int), y1_25))))
     else (some (.more (y1_4,(i64.wrap (y1_25+(1:Int)))))))
    else (none))
   else (none))
  else (some (.done (.done (y1_4,y1_25))))
theorem Yaq (N:Nat) (b_a0:Option (Option Addr)) (n_a0:Nat) (a0:Array Value) (b_a1:Option (Option Addr)) (n_a1:Nat) (a1:Array Value) (z0_4:Int) (z0_11:Int):∀ t:Int×Int,Uag PZ Za2 N (cAt cKCuA55 [1,1,1,0,1,0,0]) (pAt (Uaa cKCuA55 [([4,11],[]),([4,25],[])]).1 [1,1,1,0,1,0]) [4,25] [] (Zdp b_a0 n_a0 a0 b_a1 n_a1 a1 z0_4 z0_11) (Zeu t)=mapS Zeu Zlg (Zb6 PZ b_a0 n_a0 a0 b_a1 n_a1 a1 z0_4 z0_11 t):=by
 rintro ⟨y1_4,y1_25⟩
 refine Eq.trans (b:=(bif decide (y1_25<(n_a0:Int)) then (bif (decide (0<=y1_25)&&decide (y1_25<(n_a0:Int))) then (bif (decide (0<=(0:Int))&&decide ((0:Int)<(n_a0:Int))) then (bif (!((Zbf (a0.extract ((y1_25).toNat*363) (((y1_25).toNat*363)+363)) (a0.extract ((0:Int).toNat*363) (((0:Int).toNat*363)+363))))) then (some (.done (.ret,([.a (.i .i64 (4:Int)),.a (.i .i64 (y1_25))],[]))))
     else (some (.more ([.a (.i .i64 (y1_4)),.a (.i .i64 (i64.wrap (y1_25+(1:Int))))],[]))))
    else (none))
   else (none))
  else (some (.done ((.exit 2),([.a (.i .i64 (y1_4)),.a (.i .i64 (y1_25))],[])))))) (by kernel_rfl) ?_
 simp only [Zb6,Zar,Zap,Zas,Zaq,Zeu,Zlg]
def Zjc (P:Program) (N:Nat) (b_a0:Option (Option Addr)) (n_a0:Nat) (a0:Array Value) (b_a1:Option (Option Addr)) (n_a1:Nat) (a1:Array Value) (z0_4:Int) (z0_11:Int) (z1_4:Int) (z1_25:Int):Option (SV×Eff×Bool):=some (.a (.i .i64 (z1_4)),.none,true)
theorem Zqn (N:Nat) (b_a0:Option (Option Addr)) (n_a0:Nat) (a0:Array Value) (b_a1:Option (Option Addr)) (n_a1:Nat) (a1:Array Value) (z0_4:Int) (z0_11:Int) (z1_4:Int) (z1_25:Int):(Uad 2 (kSeq (veC PZ Za2 N (cAt cKCuA55 [1,1,1,1]) (pAt (Uaa cKCuA55 [([4,11],[]),([4,25],[])]).1 [1,1,1,1]) (SV×Eff×Bool)) (finK PZ [.sl (.came b_a0) n_a0 a0 37,.sl (.came b_a1) n_a1 a1 70] [.tmp 4]))) .ret (left (writes (cAt cKCuA55 [1,1,1,0,1,0,0])) [4,25] [] (Zdp b_a0 n_a0 a0 b_a1 n_a1 a1 z0_4 z0_11) ([.a (.i .i64 (z1_4)),.a (.i .i64 (z1_25))],[]))=Zjc PZ N b_a0 n_a0 a0 b_a1 n_a1 a1 z0_4 z0_11 z1_4 z1_25:=by
 refine Eq.trans (b:=(some (.a (.i .i64 (z1_4)),.none,true))) (by kernel_rfl) ?_
 rfl
def Zj2 (P:Program) (N:Nat) (b_a0:Option (Option Addr)) (n_a0:Nat) (a0:Array Value) (b_a1:Option (Option Addr)) (n_a1:Nat) (a1:Array Value) (z0_4:Int) (z0_11:Int) (z1_4:Int) (z1_25:Int):Option (SV×Eff×Bool):=some (.a (.i .i64 (0:Int)),.none,true)
theorem Zrm (N:Nat) (b_a0:Option (Option Addr)) (n_a0:Nat) (a0:Array Value) (b_a1:Option (Option Addr)) (n_a1:Nat) (a1:Array Value) (z0_4:Int) (z0_11:Int) (z1_4:Int) (z1_25:Int):(Uad 2 (kSeq (veC PZ Za2 N (cAt cKCuA55 [1,1,1,1]) (pAt (Uaa cKCuA55 [([4,11],[]),([4,25],[])]).1 [1,1,1,1]) (SV×Eff×Bool)) (finK PZ [.sl (.came b_a0) n_a0 a0 37,.sl (.came b_a1) n_a1 a1 70] [.tmp 4]))) (.exit 2) (left (writes (cAt cKCuA55 [1,1,1,0,1,0,0])) [4,25] [] (Zdp b_a0 n_a0 a0 b_a1 n_a1 a1 z0_4 z0_11) ([.a (.i .i64 (z1_4)),.a (.i .i64 (z1_25))],[]))=Zj2 PZ N b_a0 n_a0 a0 b_a1 n_a1 a1 z0_4 z0_11 z1_4 z1_25:=by
 refine Eq.trans (b:=(some (.a (.i .i64 (0:Int)),.none,true))) (by kernel_rfl) ?_
 rfl
theorem Ybz (N:Nat) (b_a0:Option (Option Addr)) (n_a0:Nat) (a0:Array Value) (b_a1:Option (Option Addr)) (n_a1:Nat) (a1:Array Value) (z0_4:Int) (z0_11:Int):Uah (Uab (Uag PZ Za2 N (cAt cKCuA55 [1,1,1,0,1,0,0]) (pAt (Uaa cKCuA55 [([4,11],[]),([4,25],[])]).1 [1,1,1,0,1,0]) [4,25] [] (Zdp b_a0 n_a0 a0 b_a1 n_a1 a1 z0_4 z0_11)) N ([.a (.i .i64 (z0_4)),.a (.i .i64 (0:Int))],[])) (λ e s=>(Uad 2 (kSeq (veC PZ Za2 N (cAt cKCuA55 [1,1,1,1]) (pAt (Uaa cKCuA55 [([4,11],[]),([4,25],[])]).1 [1,1,1,1]) (SV×Eff×Bool)) (finK PZ [.sl (.came b_a0) n_a0 a0 37,.sl (.came b_a1) n_a1 a1 70] [.tmp 4]))) e (left (writes (cAt cKCuA55 [1,1,1,0,1,0,0])) [4,25] [] (Zdp b_a0 n_a0 a0 b_a1 n_a1 a1 z0_4 z0_11) s))=Uai (Uab (Zb6 PZ b_a0 n_a0 a0 b_a1 n_a1 a1 z0_4 z0_11) N (z0_4,(0:Int))) (st2 (λ x=>Zjc PZ N b_a0 n_a0 a0 b_a1 n_a1 a1 z0_4 z0_11 x.1 x.2) (λ x=>Zj2 PZ N b_a0 n_a0 a0 b_a1 n_a1 a1 z0_4 z0_11 x.1 x.2)):=by
 refine Zau Zeu Zlg _ _ (Yaq N b_a0 n_a0 a0 b_a1 n_a1 a1 z0_4 z0_11) N (z0_4,(0:Int)) _ _ ?_
 intro x
 cases x with
 | more x=>exact Zqn N b_a0 n_a0 a0 b_a1 n_a1 a1 z0_4 z0_11 x.1 x.2
 | done x=>exact Zrm N b_a0 n_a0 a0 b_a1 n_a1 a1 z0_4 z0_11 x.1 x.2
def Zj0 (P:Program) (N:Nat) (b_a0:Option (Option Addr)) (n_a0:Nat) (a0:Array Value) (b_a1:Option (Option Addr)) (n_a1:Nat) (a1:Array Value) (z0_4:Int) (z0_11:Int):Option (SV×Eff×Bool):=some (.a (.i .i64 (z0_4)),.none,true)
theorem Zrv (N:Nat) (b_a0:Option (Option Addr)) (n_a0:Nat) (a0:Array Value) (b_a1:Option (Option Addr)) (n_a1:Nat) (a1:Array Value) (z0_4:Int) (z0_11:Int):(Uad 0 (kSeq (veC PZ Za2 N (cAt cKCuA55 [1,1]) (pAt (Uaa cKCuA55 [([4,11],[]),([4,25],[])]).1 [1,1]) (SV×Eff×Bool)) (finK PZ [.sl (.came b_a0) n_a0 a0 37,.sl (.came b_a1) n_a1 a1 70] [.tmp 4]))) .ret (left (writes (cAt cKCuA55 [1,0,1,0,0])) [4,11] [] (Zdq b_a0 n_a0 a0 b_a1 n_a1 a1) ([.a (.i .i64 (z0_4)),.a (.i .i64 (z0_11))],[]))=Zj0 PZ N b_a0 n_a0 a0 b_a1 n_a1 a1 z0_4 z0_11:=by
 refine Eq.trans (b:=(some (.a (.i .i64 (z0_4)),.none,true))) (by kernel_rfl) ?_
 rfl
def Zfb (P:Program) (N:Nat) (b_a0:Option (Option Addr)) (n_a0:Nat) (a0:Array Value) (b_a1:Option (Option Addr)) (n_a1:Nat) (a1:Array Value) (z0_4:Int) (z0_11:Int):Option (SV×Eff×Bool):=bif decide ((n_a0:Int) > (8:Int)) then (some (.a (.i .i64 (3:Int)),.none,true))
  else (Uai (Uab (Zb6 P b_a0 n_a0 a0 b_a1 n_a1 a1 z0_4 z0_11) N (z0_4,(0:Int))) (st2 (λ x=>Zjc P N b_a0 n_a0 a0 b_a1 n_a1 a1 z0_4 z0_11 x.1 x.2) (λ x=>Zj2 P N b_a0 n_a0 a0 b_a1 n_a1 a1 z0_4 z0_11 x.1 x.2)))
theorem Zr7 (N:Nat) (b_a0:Option (Option Addr)) (n_a0:Nat) (a0:Array Value) (b_a1:Option (Option Addr)) (n_a1:Nat) (a1:Array Value) (z0_4:Int) (z0_11:Int):(Uad 0 (kSeq (veC PZ Za2 N (cAt cKCuA55 [1,1]) (pAt (Uaa cKCuA55 [([4,11],[]),([4,25],[])]).1 [1,1]) (SV×Eff×Bool)) (finK PZ [.sl (.came b_a0) n_a0 a0 37,.sl (.came b_a1) n_a1 a1 70] [.tmp 4]))) (.exit 0) (left (writes (cAt cKCuA55 [1,0,1,0,0])) [4,11] [] (Zdq b_a0 n_a0 a0 b_a1 n_a1 a1) ([.a (.i .i64 (z0_4)),.a (.i .i64 (z0_11))],[]))=Zfb PZ N b_a0 n_a0 a0 b_a1 n_a1 a1 z0_4 z0_11:=by
 refine Eq.trans (b:=(bif decide ((n_a0:Int) > (8:Int)) then (some (.a (.i .i64 (3:Int)),.none,true))
  else (Uah (Uab (Uag PZ Za2 N (cAt cKCuA55 [1,1,1,0,1,0,0]) (pAt (Uaa cKCuA55 [([4,11],[]),([4,25],[])]).1 [1,1,1,0,1,0]) [4,25] [] (Zdp b_a0 n_a0 a0 b_a1 n_a1 a1 z0_4 z0_11)) N ([.a (.i .i64 (z0_4)),.a (.i .i64 (0:Int))],[])) (λ e s=>(Uad 2 (kSeq (veC PZ Za2 N (cAt cKCuA55 [1,1,1,1]) (pAt (Uaa cKCuA55 [([4,11],[]),([4,25],[])]).1 [1,1,1,1]) (SV×Eff×Bool)) (finK PZ [.sl (.came b_a0) n_a0 a0 37,.sl (.came b_a1) n_a1 a1 70] [.tmp 4]))) e (left (writes (cAt cKCuA55 [1,1,1,0,1,0,0])) [4,25] [] (Zdp b_a0 n_a0 a0 b_a1 n_a1 a1 z0_4 z0_11) s))))) (by kernel_rfl) ?_
 simp only [Ybz N b_a0 n_a0 a0 b_a1 n_a1 a1 z0_4 z0_11,Zfb]
theorem Yap (N:Nat) (b_a0:Option (Option Addr)) (n_a0:Nat) (a0:Array Value) (b_a1:Option (Option Addr)) (n_a1:Nat) (a1:Array Value):Uah (Uab (Uag PZ Za2 N (cAt cKCuA55 [1,0,1,0,0]) (pAt (Uaa cKCuA55 [([4,11],[]),([4,25],[])]).1 [1,0,1,0]) [4,11] [] (Zdq b_a0 n_a0 a0 b_a1 n_a1 a1)) N ([.a (.i .i64 (0:Int)),.a (.i .i64 (0:Int))],[])) (λ e s=>(Uad 0 (kSeq (veC PZ Za2 N (cAt cKCuA55 [1,1]) (pAt (Uaa cKCuA55 [([4,11],[]),([4,25],[])]).1 [1,1]) (SV×Eff×Bool)) (finK PZ [.sl (.came b_a0) n_a0 a0 37,.sl (.came b_a1) n_a1 a1 70] [.tmp 4]))) e (left (writes (cAt cKCuA55 [1,0,1,0,0])) [4,11] [] (Zdq b_a0 n_a0 a0 b_a1 n_a1 a1) s))=Uai (Uab (Zb7 PZ b_a0 n_a0 a0 b_a1 n_a1 a1) N ((0:Int),(0:Int))) (st2 (λ x=>Zj0 PZ N b_a0 n_a0 a0 b_a1 n_a1 a1 x.1 x.2) (λ x=>Zfb PZ N b_a0 n_a0 a0 b_a1 n_a1 a1 x.1 x.2)):=by
 refine Zau Zet Zlt _ _ (Yb6 N b_a0 n_a0 a0 b_a1 n_a1 a1) N ((0:Int),(0:Int)) _ _ ?_
 intro x
 cases x with
 | more x=>exact Zrv N b_a0 n_a0 a0 b_a1 n_a1 a1 x.1 x.2
 | done x=>exact Zr7 N b_a0 n_a0 a0 b_a1 n_a1 a1 x.1 x.2
theorem Zyv (N:Nat) (b_a0:Option (Option Addr)) (n_a0:Nat) (a0:Array Value) (b_a1:Option (Option Addr)) (n_a1:Nat) (a1:Array Value):ansV PZ Za2 N f55 [([4,11],[]),([4,25],[])] [.l 0,.l 1] [.sl (.came b_a0) n_a0 a0 37,.sl (.came b_a1) n_a1 a1 70]=(Uai (Uab (Zb7 PZ b_a0 n_a0 a0 b_a1 n_a1 a1) N ((0:Int),(0:Int))) (st2 (λ x=>Zj0 PZ N b_a0 n_a0 a0 b_a1 n_a1 a1 x.1 x.2) (λ x=>Zfb PZ N b_a0 n_a0 a0 b_a1 n_a1 a1 x.1 x.2))):=by
 refine Eq.trans (b:=(Uah (Uab (Uag PZ Za2 N (cAt cKCuA55 [1,0,1,0,0]) (pAt (Uaa cKCuA55 [([4,11],[]),([4,25],[])]).1 [1,0,1,0]) [4,11] [] (Zdq b_a0 n_a0 a0 b_a1 n_a1 a1)) N ([.a (.i .i64 (0:Int)),.a (.i .i64 (0:Int))],[])) (λ e s=>(Uad 0 (kSeq (veC PZ Za2 N (cAt cKCuA55 [1,1]) (pAt (Uaa cKCuA55 [([4,11],[]),([4,25],[])]).1 [1,1]) (SV×Eff×Bool)) (finK PZ [.sl (.came b_a0) n_a0 a0 37,.sl (.came b_a1) n_a1 a1 70] [.tmp 4]))) e (left (writes (cAt cKCuA55 [1,0,1,0,0])) [4,11] [] (Zdq b_a0 n_a0 a0 b_a1 n_a1 a1) s)))) (by kernel_rfl) ?_
 simp only [Yap N b_a0 n_a0 a0 b_a1 n_a1 a1]
def badM (a:Array Value) (n:Nat) (D:Array Value) (k:Nat):Bool:= !(vf (a.extract (k*363) (k*363+363)) n D)
def offM (a:Array Value) (k:Nat):Bool:= !(Zbf (a.extract (k*363) (k*363+363)) (a.extract (0*363) (0*363+363)))
def Uav (m:Nat) (a:Array Value) (n:Nat) (D:Array Value):Int:=bif ((List.range m).find? (badM a n D)).isSome then 1 else bif ((List.range m).find? (offM a)).isSome then 4 else 0
theorem Zvs (b_a0:Option (Option Addr)) (n_a0:Nat) (a0:Array Value) (b_a1:Option (Option Addr)) (n_a1:Nat) (a1:Array Value) (h_a0:a0.size=n_a0*(lay PZ 37).length/\(∀ k,k<n_a0->WT PZ 37 (a0.extract (k*(lay PZ 37).length) (k*(lay PZ 37).length+(lay PZ 37).length)))/\n_a0<=9223372036854775807) (h_a1:a1.size=n_a1*(lay PZ 70).length/\(∀ k,k<n_a1->WT PZ 70 (a1.extract (k*(lay PZ 70).length) (k*(lay PZ 70).length+(lay PZ 70).length)))/\n_a1<=9223372036854775807) (hg:(jA n_a0 8)=true):ansV PZ Za2 1000 f55 [([4,11],[]),([4,25],[])] [.l 0,.l 1] [.sl (.came b_a0) n_a0 a0 37,.sl (.came b_a1) n_a1 a1 70]=some (.a (.i .i64 (Uav n_a0 a0 n_a1 a1)),.none,true):=by
 have hn:n_a0<=8:=jG hg
 refine (Zyv 1000 b_a0 n_a0 a0 b_a1 n_a1 a1).trans ?_
 have w1:∀ k:Nat,k<n_a0->i64.wrap ((k:Int)+1)=((k+1:Nat):Int):=λ k hk=>by rw [w64 (by omega)];omega
 have l0:=Zm7 (g:=Zb7 PZ b_a0 n_a0 a0 b_a1 n_a1 a1) (λ k=>((0:Int),(k:Int))) (badM a0 n_a1 a1) n_a0 (N:=1000) (xd:=.done ((0:Int),(n_a0:Int))) (by omega) (λ k=>.more ((1:Int),(k:Int))) (λ k hk hp=>by
  have h1:decide ((k:Int)<(n_a0:Int))=true:=Q3 (by omega)
  have h2:decide (0<=(k:Int))=true:=Q3 (by omega)
  unfold badM vf at hp
  simp only [Zb7,h1,h2,w1 k hk,Q9,hp,jB,Q1,Q2]) (λ k hk hp=>by
  have h1:decide ((k:Int)<(n_a0:Int))=true:=Q3 (by omega)
  have h2:decide (0<=(k:Int))=true:=Q3 (by omega)
  unfold badM vf at hp
  simp only [Zb7,h1,h2,Q9,hp,jB,Q1,Q2]) (by
  have h1:decide ((n_a0:Int)<(n_a0:Int))=false:=Q4 (by omega)
  simp only [Zb7,h1,Q2])
 have l0':Uab (Zb7 PZ b_a0 n_a0 a0 b_a1 n_a1 a1) 1000 ((0:Int),(0:Int))=some (match (List.range n_a0).find? (badM a0 n_a1 a1) with | some k=>.more ((1:Int),(k:Int)) | none=>.done ((0:Int),(n_a0:Int))):=l0
 rw [l0']
 unfold Uav
 cases hb:(List.range n_a0).find? (badM a0 n_a1 a1) with
 | some k=>rfl
 | none=>
  have h8:decide ((n_a0:Int) > (8:Int))=false:=Q4 (by omega)
  simp only [Uai,st2,Zfb,h8,Q2,Option.isSome_none]
  have l1:=Zm7 (g:=Zb6 PZ b_a0 n_a0 a0 b_a1 n_a1 a1 0 (n_a0:Int)) (λ k=>((0:Int),(k:Int))) (offM a0) n_a0 (N:=1000) (xd:=.done ((0:Int),(n_a0:Int))) (by omega) (λ k=>.more ((4:Int),(k:Int))) (λ k hk hp=>by
   have h1:decide ((k:Int)<(n_a0:Int))=true:=Q3 (by omega)
   have h2:decide (0<=(k:Int))=true:=Q3 (by omega)
   have h3:decide ((0:Int)<(n_a0:Int))=true:=Q3 (by omega)
   have h4:decide ((0:Int)<=0)=true:=rfl
   unfold offM at hp
   simp only [Zb6,h1,h2,h3,h4,w1 k hk,Q9,Int.toNat_zero,hp,jB,Q1,Q2]) (λ k hk hp=>by
   have h1:decide ((k:Int)<(n_a0:Int))=true:=Q3 (by omega)
   have h2:decide (0<=(k:Int))=true:=Q3 (by omega)
   have h3:decide ((0:Int)<(n_a0:Int))=true:=Q3 (by omega)
   have h4:decide ((0:Int)<=0)=true:=rfl
   unfold offM at hp
   simp only [Zb6,h1,h2,h3,h4,Q9,Int.toNat_zero,hp,jB,Q1,Q2]) (by
   have h1:decide ((n_a0:Int)<(n_a0:Int))=false:=Q4 (by omega)
   simp only [Zb6,h1,Q2])
  have l1':Uab (Zb6 PZ b_a0 n_a0 a0 b_a1 n_a1 a1 0 (n_a0:Int)) 1000 ((0:Int),(0:Int))=some (match (List.range n_a0).find? (offM a0) with | some k=>.more ((4:Int),(k:Int)) | none=>.done ((0:Int),(n_a0:Int))):=l1
  rw [l1']
  cases (List.range n_a0).find? (offM a0)<;>rfl
def Zea:Con:=λ args h=>match args,h with
 | [.l 0,.l 1],[.sl (.came b_a0) n_a0 a0 37,.sl (.came b_a1) n_a1 a1 70]=>some (.a (.i .i64 (Uav n_a0 a0 n_a1 a1)),.none,jA n_a0 8)
 | _,_=>none
theorem Zf5:EntX PZ 55:=Zah (fn:=f55)
theorem Ziu:Uac (md F) PZ 55 Zea:=(ansY (N:=1000) (mKc (Zae Zyc) Zsb (mKc (Zae Zxt) Zrn mKn)) f55 [([4,11],[]),([4,25],[])]).of (by
 intro ρ h w args vals r e hA hH hr
 unfold Zea at hr
 split at hr
 ·rename_i b_a0 n_a0 a0 b_a1 n_a1 a1
  obtain ⟨rfl,rfl,hg2⟩:=BQi hr
  exact Zvs b_a0 n_a0 a0 b_a1 n_a1 a1 (hH.slw 0 rfl) (hH.slw 1 rfl) hg2
 ·cases hr)
def Zia:Cons:=(mkΓ [(55,con Zea),(56,conG Zhk),(57,conG Zg4)])
theorem Zmm (N:Nat) (a0:Array Value) (a1:Bool) (g_e0 g_e1 g_e2 g_e3 g_e4:Addr) (bQ:Option (Option Addr)) (nQ:Nat) (aQ:Array Value) (b_a2:Option (Option Addr)) (n_a2:Nat) (a2:Array Value):ansV PZ Zia N f38 [] [.r a0 74 [(2,5)],.b (a1),.l 6] [.gl 0 185 g_e0 101973,.gl 1 185 g_e1 93330,.gl 3 185 g_e2 124718,.gl 2 185 g_e3 112315,.gl 4 185 g_e4 94254,.sl (.came bQ) nQ aQ 70,.sl (.came b_a2) n_a2 a2 37]=(bif jA n_a2 8 then (bif ((Uav n_a2 a2 nQ aQ)==(0:Int)) then (bif decide ((n_a2:Int) > (0:Int)) then (bif (decide (0<=(0:Int))&&decide ((0:Int)<(n_a2:Int))) then (bif (okS (a2.extract ((0:Int).toNat*363) (((0:Int).toNat*363)+363))&&(rl (a2.extract ((0:Int).toNat*363) (((0:Int).toNat*363)+363)) (num a0 0) (num a0 1) a1&&(Zag (num a0 0) (a2.extract ((0:Int).toNat*363) (((0:Int).toNat*363)+363))))) then (some (.a (.i .i64 (4:Int)),.none,true))
      else (none))
     else (none))
    else (some (.a (.i .i64 (Uav n_a2 a2 nQ aQ)),.none,true)))
   else (some (.a (.i .i64 (Uav n_a2 a2 nQ aQ)),.none,true)))
  else (none)):=by kernel_rfl
def Zh7:Cons:=(mkΓ [(55,con Zea),(56,conG Zhk),(57,conG Zg3)])
theorem Zmb (N:Nat) (a0:Array Value) (a1:Bool) (g_e0 g_e1 g_e2 g_e3 g_e4:Addr) (bQ:Option (Option Addr)) (nQ:Nat) (aQ:Array Value) (b_a2:Option (Option Addr)) (n_a2:Nat) (a2:Array Value):ansV PZ Zh7 N f38 [] [.r a0 74 [(2,5)],.b (a1),.l 6] [.gl 0 185 g_e0 101973,.gl 1 185 g_e1 93330,.gl 3 185 g_e2 124718,.gl 2 185 g_e3 112315,.gl 4 185 g_e4 94254,.sl (.came bQ) nQ aQ 70,.sl (.came b_a2) n_a2 a2 37]=(bif jA n_a2 8 then (bif ((Uav n_a2 a2 nQ aQ)==(0:Int)) then (bif decide ((n_a2:Int) > (0:Int)) then (bif (decide (0<=(0:Int))&&decide ((0:Int)<(n_a2:Int))) then (bif (okS (a2.extract ((0:Int).toNat*363) (((0:Int).toNat*363)+363))&&(rl (a2.extract ((0:Int).toNat*363) (((0:Int).toNat*363)+363)) (num a0 0) (num a0 1) a1&&((!(Zag (num a0 0) (a2.extract ((0:Int).toNat*363) (((0:Int).toNat*363)+363))))))) then (some (.a (.i .i64 (0:Int)),.none,true))
      else (none))
     else (none))
    else (some (.a (.i .i64 (Uav n_a2 a2 nQ aQ)),.none,true)))
   else (some (.a (.i .i64 (Uav n_a2 a2 nQ aQ)),.none,true)))
  else (none)):=by kernel_rfl
def Zh8:Cons:=(mkΓ [(55,con Zea),(56,conG Zhk),(57,conG Zg6)])
theorem Zml (N:Nat) (a0:Array Value) (a1:Bool) (g_e0 g_e1 g_e2 g_e3 g_e4:Addr) (bQ:Option (Option Addr)) (nQ:Nat) (aQ:Array Value) (b_a2:Option (Option Addr)) (n_a2:Nat) (a2:Array Value):ansV PZ Zh8 N f38 [] [.r a0 74 [(2,5)],.b (a1),.l 6] [.gl 0 185 g_e0 101973,.gl 1 185 g_e1 93330,.gl 3 185 g_e2 124718,.gl 2 185 g_e3 112315,.gl 4 185 g_e4 94254,.sl (.came bQ) nQ aQ 70,.sl (.came b_a2) n_a2 a2 37]=(bif jA n_a2 8 then (bif ((Uav n_a2 a2 nQ aQ)==(0:Int)) then (bif decide ((n_a2:Int) > (0:Int)) then (bif (decide (0<=(0:Int))&&decide ((0:Int)<(n_a2:Int))) then (bif (okS (a2.extract ((0:Int).toNat*363) (((0:Int).toNat*363)+363))&&((!(rl (a2.extract ((0:Int).toNat*363) (((0:Int).toNat*363)+363)) (num a0 0) (num a0 1) a1)))) then (some (.a (.i .i64 (2:Int)),.none,true))
      else (none))
     else (none))
    else (some (.a (.i .i64 (Uav n_a2 a2 nQ aQ)),.none,true)))
   else (some (.a (.i .i64 (Uav n_a2 a2 nQ aQ)),.none,true)))
  else (none)):=by kernel_rfl
def Zh9:Cons:=(mkΓ [(55,con Zea),(56,conG Zhk),(57,conG Zgz)])
theorem Zmc (N:Nat) (a0:Array Value) (a1:Bool) (g_e0 g_e1 g_e2 g_e3 g_e4:Addr) (bQ:Option (Option Addr)) (nQ:Nat) (aQ:Array Value) (b_a2:Option (Option Addr)) (n_a2:Nat) (a2:Array Value):ansV PZ Zh9 N f38 [] [.r a0 74 [(2,5)],.b (a1),.l 6] [.gl 0 185 g_e0 101973,.gl 1 185 g_e1 93330,.gl 3 185 g_e2 124718,.gl 2 185 g_e3 112315,.gl 4 185 g_e4 94254,.sl (.came bQ) nQ aQ 70,.sl (.came b_a2) n_a2 a2 37]=(bif jA n_a2 8 then (bif ((Uav n_a2 a2 nQ aQ)==(0:Int)) then (bif decide ((n_a2:Int) > (0:Int)) then (bif (decide (0<=(0:Int))&&decide ((0:Int)<(n_a2:Int))) then (bif (!(okS (a2.extract ((0:Int).toNat*363) (((0:Int).toNat*363)+363)))) then (some (.a (.i .i64 (1:Int)),.none,true))
      else (none))
     else (none))
    else (some (.a (.i .i64 (Uav n_a2 a2 nQ aQ)),.none,true)))
   else (some (.a (.i .i64 (Uav n_a2 a2 nQ aQ)),.none,true)))
  else (none)):=by kernel_rfl
theorem Zmj (a0:Array Value) (a1:Bool) (g_e0 g_e1 g_e2 g_e3 g_e4:Addr) (bQ:Option (Option Addr)) (nQ:Nat) (aQ:Array Value) (b_a2:Option (Option Addr)) (n_a2:Nat) (a2:Array Value) (h_a0:WT PZ 74 a0) (h_a0x2:aQ.size=nQ*(lay PZ 70).length/\(∀ k,k<nQ->WT PZ 70 (aQ.extract (k*(lay PZ 70).length) (k*(lay PZ 70).length+(lay PZ 70).length)))/\nQ<=9223372036854775807) (h_a2:a2.size=n_a2*(lay PZ 37).length/\(∀ k,k<n_a2->WT PZ 37 (a2.extract (k*(lay PZ 37).length) (k*(lay PZ 37).length+(lay PZ 37).length)))/\n_a2<=9223372036854775807) (hc0:(okS (a2.extract 0 363))=false) (hg:((jA 1 n_a2&&jA n_a2 8))=true):ansV PZ Zh9 1000 f38 [] [.r a0 74 [(2,5)],.b (a1),.l 6] [.gl 0 185 g_e0 101973,.gl 1 185 g_e1 93330,.gl 3 185 g_e2 124718,.gl 2 185 g_e3 112315,.gl 4 185 g_e4 94254,.sl (.came bQ) nQ aQ 70,.sl (.came b_a2) n_a2 a2 37]=some (.a (.i .i64 (bif (Uav n_a2 a2 nQ aQ==(0:Int)) then (1:Int) else Uav n_a2 a2 nQ aQ)),.none,true):=by
 rw [Q7] at hg
 obtain ⟨g1,g2⟩:=hg
 have hn:=jG g1
 refine (Zmc 1000 a0 a1 g_e0 g_e1 g_e2 g_e3 g_e4 bQ nQ aQ b_a2 n_a2 a2).trans ?_
 have x0:a2.extract ((0:Int).toNat*363) ((0:Int).toNat*363+363)=(a2.extract 0 363):=rfl
 have d2:decide ((n_a2:Int) > 0)=true:=Q3 (by omega)
 have d3:decide ((0:Int)<(n_a2:Int))=true:=Q3 (by omega)
 have d4:decide ((0:Int)<=0)=true:=rfl
 rw [x0,g2,d2]
 try rw [d3]
 rw [d4]
 cases hz:(Uav n_a2 a2 nQ aQ==(0:Int))<;>simp only [hc0,jB,Bool.and_true,jE,jD,jC,Q1,Q2]
theorem Zmk (a0:Array Value) (a1:Bool) (g_e0 g_e1 g_e2 g_e3 g_e4:Addr) (bQ:Option (Option Addr)) (nQ:Nat) (aQ:Array Value) (b_a2:Option (Option Addr)) (n_a2:Nat) (a2:Array Value) (h_a0:WT PZ 74 a0) (h_a0x2:aQ.size=nQ*(lay PZ 70).length/\(∀ k,k<nQ->WT PZ 70 (aQ.extract (k*(lay PZ 70).length) (k*(lay PZ 70).length+(lay PZ 70).length)))/\nQ<=9223372036854775807) (h_a2:a2.size=n_a2*(lay PZ 37).length/\(∀ k,k<n_a2->WT PZ 37 (a2.extract (k*(lay PZ 37).length) (k*(lay PZ 37).length+(lay PZ 37).length)))/\n_a2<=9223372036854775807) (hc0:(okS (a2.extract 0 363))=true) (hc1:(rl (a2.extract 0 363) (num a0 0) (num a0 1) a1)=false) (hg:((jA 1 n_a2&&jA n_a2 8))=true):ansV PZ Zh8 1000 f38 [] [.r a0 74 [(2,5)],.b (a1),.l 6] [.gl 0 185 g_e0 101973,.gl 1 185 g_e1 93330,.gl 3 185 g_e2 124718,.gl 2 185 g_e3 112315,.gl 4 185 g_e4 94254,.sl (.came bQ) nQ aQ 70,.sl (.came b_a2) n_a2 a2 37]=some (.a (.i .i64 (bif (Uav n_a2 a2 nQ aQ==(0:Int)) then (2:Int) else Uav n_a2 a2 nQ aQ)),.none,true):=by
 rw [Q7] at hg
 obtain ⟨g1,g2⟩:=hg
 have hn:=jG g1
 refine (Zml 1000 a0 a1 g_e0 g_e1 g_e2 g_e3 g_e4 bQ nQ aQ b_a2 n_a2 a2).trans ?_
 have x0:a2.extract ((0:Int).toNat*363) ((0:Int).toNat*363+363)=(a2.extract 0 363):=rfl
 have d2:decide ((n_a2:Int) > 0)=true:=Q3 (by omega)
 have d3:decide ((0:Int)<(n_a2:Int))=true:=Q3 (by omega)
 have d4:decide ((0:Int)<=0)=true:=rfl
 rw [x0,g2,d2]
 try rw [d3]
 rw [d4]
 cases hz:(Uav n_a2 a2 nQ aQ==(0:Int))<;>simp only [hc0,hc1,jB,Bool.and_true,jE,jD,jC,Q1,Q2]
theorem Zmn (a0:Array Value) (a1:Bool) (g_e0 g_e1 g_e2 g_e3 g_e4:Addr) (bQ:Option (Option Addr)) (nQ:Nat) (aQ:Array Value) (b_a2:Option (Option Addr)) (n_a2:Nat) (a2:Array Value) (h_a0:WT PZ 74 a0) (h_a0x2:aQ.size=nQ*(lay PZ 70).length/\(∀ k,k<nQ->WT PZ 70 (aQ.extract (k*(lay PZ 70).length) (k*(lay PZ 70).length+(lay PZ 70).length)))/\nQ<=9223372036854775807) (h_a2:a2.size=n_a2*(lay PZ 37).length/\(∀ k,k<n_a2->WT PZ 37 (a2.extract (k*(lay PZ 37).length) (k*(lay PZ 37).length+(lay PZ 37).length)))/\n_a2<=9223372036854775807) (hc0:(okS (a2.extract 0 363))=true) (hc1:(rl (a2.extract 0 363) (num a0 0) (num a0 1) a1)=true) (hc2:(Zag (num a0 0) (a2.extract 0 363))=false) (hg:((jA 1 n_a2&&jA n_a2 8))=true):ansV PZ Zh7 1000 f38 [] [.r a0 74 [(2,5)],.b (a1),.l 6] [.gl 0 185 g_e0 101973,.gl 1 185 g_e1 93330,.gl 3 185 g_e2 124718,.gl 2 185 g_e3 112315,.gl 4 185 g_e4 94254,.sl (.came bQ) nQ aQ 70,.sl (.came b_a2) n_a2 a2 37]=some (.a (.i .i64 (bif (Uav n_a2 a2 nQ aQ==(0:Int)) then (0:Int) else Uav n_a2 a2 nQ aQ)),.none,true):=by
 rw [Q7] at hg
 obtain ⟨g1,g2⟩:=hg
 have hn:=jG g1
 refine (Zmb 1000 a0 a1 g_e0 g_e1 g_e2 g_e3 g_e4 bQ nQ aQ b_a2 n_a2 a2).trans ?_
 have x0:a2.extract ((0:Int).toNat*363) ((0:Int).toNat*363+363)=(a2.extract 0 363):=rfl
 have d2:decide ((n_a2:Int) > 0)=true:=Q3 (by omega)
 have d3:decide ((0:Int)<(n_a2:Int))=true:=Q3 (by omega)
 have d4:decide ((0:Int)<=0)=true:=rfl
 rw [x0,g2,d2]
 try rw [d3]
 rw [d4]
 cases hz:(Uav n_a2 a2 nQ aQ==(0:Int))<;>simp only [hc0,hc1,hc2,jB,Bool.and_true,jE,jD,jC,Q1,Q2]
theorem Zmf (a0:Array Value) (a1:Bool) (g_e0 g_e1 g_e2 g_e3 g_e4:Addr) (bQ:Option (Option Addr)) (nQ:Nat) (aQ:Array Value) (b_a2:Option (Option Addr)) (n_a2:Nat) (a2:Array Value) (h_a0:WT PZ 74 a0) (h_a0x2:aQ.size=nQ*(lay PZ 70).length/\(∀ k,k<nQ->WT PZ 70 (aQ.extract (k*(lay PZ 70).length) (k*(lay PZ 70).length+(lay PZ 70).length)))/\nQ<=9223372036854775807) (h_a2:a2.size=n_a2*(lay PZ 37).length/\(∀ k,k<n_a2->WT PZ 37 (a2.extract (k*(lay PZ 37).length) (k*(lay PZ 37).length+(lay PZ 37).length)))/\n_a2<=9223372036854775807) (hc0:(okS (a2.extract 0 363))=true) (hc1:(rl (a2.extract 0 363) (num a0 0) (num a0 1) a1)=true) (hc2:(Zag (num a0 0) (a2.extract 0 363))=true) (hg:((jA 1 n_a2&&jA n_a2 8))=true):ansV PZ Zia 1000 f38 [] [.r a0 74 [(2,5)],.b (a1),.l 6] [.gl 0 185 g_e0 101973,.gl 1 185 g_e1 93330,.gl 3 185 g_e2 124718,.gl 2 185 g_e3 112315,.gl 4 185 g_e4 94254,.sl (.came bQ) nQ aQ 70,.sl (.came b_a2) n_a2 a2 37]=some (.a (.i .i64 (bif (Uav n_a2 a2 nQ aQ==(0:Int)) then (4:Int) else Uav n_a2 a2 nQ aQ)),.none,true):=by
 rw [Q7] at hg
 obtain ⟨g1,g2⟩:=hg
 have hn:=jG g1
 refine (Zmm 1000 a0 a1 g_e0 g_e1 g_e2 g_e3 g_e4 bQ nQ aQ b_a2 n_a2 a2).trans ?_
 have x0:a2.extract ((0:Int).toNat*363) ((0:Int).toNat*363+363)=(a2.extract 0 363):=rfl
 have d2:decide ((n_a2:Int) > 0)=true:=Q3 (by omega)
 have d3:decide ((0:Int)<(n_a2:Int))=true:=Q3 (by omega)
 have d4:decide ((0:Int)<=0)=true:=rfl
 rw [x0,g2,d2]
 try rw [d3]
 rw [d4]
 cases hz:(Uav n_a2 a2 nQ aQ==(0:Int))<;>simp only [hc0,hc1,hc2,jB,Bool.and_true,jE,jD,jC,Q1,Q2]
def Zcm:SCon:=λ args h=>match args,h with
 | [.r a0 74 [(2,5)],.b a1,.l 6],[.gl 0 185 g_e0 101973,.gl 1 185 g_e1 93330,.gl 3 185 g_e2 124718,.gl 2 185 g_e3 112315,.gl 4 185 g_e4 94254,.sl (.came bQ) nQ aQ 70,.sl (.came b_a2) n_a2 a2 37]=>.two (okS (a2.extract 0 363)) (.two (rl (a2.extract 0 363) (num a0 0) (num a0 1) a1) (.two (Zag (num a0 0) (a2.extract 0 363)) (.one (some (.a (.i .i64 (bif (Uav n_a2 a2 nQ aQ==(0:Int)) then (4:Int) else Uav n_a2 a2 nQ aQ)),.none,(jA 1 n_a2&&jA n_a2 8)))) (.one (some (.a (.i .i64 (bif (Uav n_a2 a2 nQ aQ==(0:Int)) then (0:Int) else Uav n_a2 a2 nQ aQ)),.none,(jA 1 n_a2&&jA n_a2 8))))) (.one (some (.a (.i .i64 (bif (Uav n_a2 a2 nQ aQ==(0:Int)) then (2:Int) else Uav n_a2 a2 nQ aQ)),.none,(jA 1 n_a2&&jA n_a2 8))))) (.one (some (.a (.i .i64 (bif (Uav n_a2 a2 nQ aQ==(0:Int)) then (1:Int) else Uav n_a2 a2 nQ aQ)),.none,(jA 1 n_a2&&jA n_a2 8))))
 | _,_=>.one none
theorem Zmo:EntX PZ 38:=Zah (fn:=f38)
theorem Znp:Uac (md F) PZ 38 (λ args h=>Uaq (Zcm args h)):=by
 intro ρ h w args vals r e hn hr hA hH
 dsimp only at hr
 unfold Zcm at hr
 split at hr
 ·rename_i a0 a1 g_e0 g_e1 g_e2 g_e3 g_e4 bQ nQ aQ b_a2 n_a2 a2
  simp only [Uaq] at hr
  cases hc0:(okS (a2.extract 0 363))
  ·rw [hc0] at hr
   simp only [Uaq,Q1,Q2] at hr
   obtain ⟨rfl,rfl,hg2⟩:=BQi hr
   exact ((ansY (N:=1000) (mKc (Zae Ziu) Zf5 (mKc (Zj5 Zk6) Zh0 (mKc (Zj5 Zrg) Zdx mKn))) f38 [])) ρ _ w _ vals _ _ hn ((Zmj a0 a1 g_e0 g_e1 g_e2 g_e3 g_e4 bQ nQ aQ b_a2 n_a2 a2 (hA.wtr 0 rfl) (hH.slw 5 rfl) (hH.slw 6 rfl) hc0 hg2)) hA hH
  ·rw [hc0] at hr
   simp only [Uaq,Q1,Q2] at hr
   cases hc1:(rl (a2.extract 0 363) (num a0 0) (num a0 1) a1)
   ·rw [hc1] at hr
    simp only [Uaq,Q1,Q2] at hr
    obtain ⟨rfl,rfl,hg2⟩:=BQi hr
    exact ((ansY (N:=1000) (mKc (Zae Ziu) Zf5 (mKc (Zj5 Zk6) Zh0 (mKc (Zj5 Zrx) Zdx mKn))) f38 [])) ρ _ w _ vals _ _ hn ((Zmk a0 a1 g_e0 g_e1 g_e2 g_e3 g_e4 bQ nQ aQ b_a2 n_a2 a2 (hA.wtr 0 rfl) (hH.slw 5 rfl) (hH.slw 6 rfl) hc0 hc1 hg2)) hA hH
   ·rw [hc1] at hr
    simp only [Uaq,Q1,Q2] at hr
    cases hc2:(Zag (num a0 0) (a2.extract 0 363))
    ·rw [hc2] at hr
     simp only [Uaq,Q1,Q2] at hr
     obtain ⟨rfl,rfl,hg2⟩:=BQi hr
     exact ((ansY (N:=1000) (mKc (Zae Ziu) Zf5 (mKc (Zj5 Zk6) Zh0 (mKc (Zj5 Zrl) Zdx mKn))) f38 [])) ρ _ w _ vals _ _ hn ((Zmn a0 a1 g_e0 g_e1 g_e2 g_e3 g_e4 bQ nQ aQ b_a2 n_a2 a2 (hA.wtr 0 rfl) (hH.slw 5 rfl) (hH.slw 6 rfl) hc0 hc1 hc2 hg2)) hA hH
    ·rw [hc2] at hr
     simp only [Uaq,Q1,Q2] at hr
     obtain ⟨rfl,rfl,hg2⟩:=BQi hr
     exact ((ansY (N:=1000) (mKc (Zae Ziu) Zf5 (mKc (Zj5 Zk6) Zh0 (mKc (Zj5 Zqk) Zdx mKn))) f38 [])) ρ _ w _ vals _ _ hn ((Zmf a0 a1 g_e0 g_e1 g_e2 g_e3 g_e4 bQ nQ aQ b_a2 n_a2 a2 (hA.wtr 0 rfl) (hH.slw 5 rfl) (hH.slw 6 rfl) hc0 hc1 hc2 hg2)) hA hH
 ·simp only [Uaq] at hr
  cases hr
def Ufu (m:Nat) (a:Array Value) (n:Nat) (D:Array Value) (c b:Int) (f:Bool):Int:=bif (Uav m a n D==(0:Int)) then Zbp c b f (a.extract 0 363) else Uav m a n D
def Zel:Con:=λ args h=>match args,h with
 | [.r a0 74 [(2,5)],.b a1,.l 6],[.gl 0 185 g_e0 101973,.gl 1 185 g_e1 93330,.gl 3 185 g_e2 124718,.gl 2 185 g_e3 112315,.gl 4 185 g_e4 94254,.sl (.came bQ) nQ aQ 70,.sl (.came b_a2) n_a2 a2 37]=>some (.a (.i .i64 (Ufu n_a2 a2 nQ aQ (num a0 0) (num a0 1) a1)),.none,(jA 1 n_a2&&jA n_a2 8))
 | _,_=>none
theorem Zn3:Uac (md F) PZ 38 Zel:=Uac.of Znp (by
 intro ρ h w args vals r e hA hH hr
 unfold Zel at hr
 split at hr
 ·rename_i a0 a1 g_e0 g_e1 g_e2 g_e3 g_e4 bQ nQ aQ b_a2 n_a2 a2
  obtain ⟨rfl,rfl,hg2⟩:=BQi hr
  show Uaq (Zcm _ _)=_
  unfold Zcm
  simp only [Uaq]
  rw [hg2]
  unfold Ufu
  rw [Yqi]
  cases (okS (a2.extract 0 363))<;>cases (rl (a2.extract 0 363) (num a0 0) (num a0 1) a1)<;>cases (Zag (num a0 0) (a2.extract 0 363))<;>simp only [Q1,Q2]
 ·cases hr)
theorem pair_ext {A C:Array Value} (hA:A.size=363) (hC:C.size=363):(spl (spl (repC (zc PZ 37) 2) 0 A.toList) 363 C.toList).extract 0 363=A/\(spl (spl (repC (zc PZ 37) 2) 0 A.toList) 363 C.toList).extract 363 726=C:=by
 have hz:(repC (zc PZ 37) 2).size=726:=by kernel_rfl
 have hl:A.toList.length=363:=by rw [Array.length_toList,hA]
 have hm:C.toList.length=363:=by rw [Array.length_toList,hC]
 constructor
 ·refine Array.ext_getElem? λ i=> ?_
  rw [Array.getElem?_extract,Zg1 _ _ _ (by rw [Zh1,hz,hm];omega),Zg1 _ _ _ (by rw [hz,hl];omega),Zh1,Zh1,hz,hl,hm]
  by_cases hi:i<363
  ·rw [if_pos (by omega),if_neg (by omega),if_pos (by omega)]
   simp
  ·rw [if_neg (by omega),jF (by omega)]
 ·refine Array.ext_getElem? λ i=> ?_
  rw [Array.getElem?_extract,Zg1 _ _ _ (by rw [Zh1,hz,hm];omega),Zh1,Zh1,hz,hm]
  by_cases hi:i<363
  ·rw [if_pos (by omega),if_pos (by omega),show 363+i - 363=i by omega]
   simp
  ·rw [if_neg (by omega),jF (by omega)]
theorem Ylh (S:Array Value):Zbf S S=true:=by
 unfold Zbf
 simp
theorem Ymt {S:Array Value} (h:WT PZ 37 S):S.size=363:=by rw [h.layLen];kernel_rfl
end
end Go.Proofs.YtdfefaanfiheoaaGreatDoor
