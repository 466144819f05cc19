/- Plans that come in: copied, compared, valid, taken, in company. -/
import Derived.Test.YtohnggmlmglhmaaGreatDoorProg
import Derived.Test.YtohnggmlmglhmaaGreatDoorCmG
namespace Go.Proofs.YtohnggmlmglhmaaGreatDoor
open Go.ChangeShapes Go.WideShapes Go.ChangeAt Go.RowKit Ve Vc
open Tryz renaming prog → PZ
open IntKind (i64)
set_option linter.unusedVariables false
set_option linter.unusedSimpArgs false
set_option maxRecDepth 100000
noncomputable section
variable {mn:Md}
theorem Zwq (N:Nat) (a0:Array Value):ansV PZ (mkΓ []) N Tryz.f58 [] [.g a0 114] []=(some (.a (.g #[.int .i8 (num a0 0),.int .i8 (num a0 1),.int .i16 (num a0 2)] 82),.none,true)):=by kernel_rfl
theorem Zuq (a0:Array Value) (h_a0:WT PZ 114 a0) (hg:(true)=true):ansV PZ (mkΓ []) 1000 Tryz.f58 [] [.g a0 114] []=some (.a (.g a0 82),.none,true):=by
 have hz:a0.size=3:=by rw [h_a0.layLen];kernel_rfl
 have e0:=(h_a0.int (o:=0) (k:=.i8) (by kernel_rfl)).1
 have e1:=(h_a0.int (o:=1) (k:=.i8) (by kernel_rfl)).1
 have e2:=(h_a0.int (o:=2) (k:=.i16) (by kernel_rfl)).1
 have he:(#[.int .i8 (num a0 0),.int .i8 (num a0 1),.int .i16 (num a0 2)]:Array Value)=a0:=Zfs fun i=>by
  match i with
  | 0=>exact e0.symm
  | 1=>exact e1.symm
  | 2=>exact e2.symm
  | i+3=>rw [Array.getElem?_eq_none (by simp),Array.getElem?_eq_none (by omega)]
 refine (Zwq 1000 a0).trans ?_
 rw [he]
def Zbo:Con:=fun args h=>match args,h with
 | [.g a0 114],[]=>some (.a (.g a0 82),.none,true)
 | _,_=>none
theorem Ztq:EntX PZ 58:=Zag (fn:=Tryz.f58) (by kernel_rfl) (by kernel_rfl) (by kernel_rfl)
theorem Zyp:Uad mn PZ 58 Zbo:=(Zai (N:=1000) (by kernel_rfl) mkΓ_nilX (fn:=Tryz.f58) (by kernel_rfl) (by kernel_rfl) []).of (by
 intro ρ h w args vals r e hA hH hr
 unfold Zbo at hr
 split at hr
 ·rename_i a0
  obtain ⟨rfl,rfl,hg2⟩:=BQi hr
  exact Zuq a0 (hA.wt 0 rfl) hg2
 ·cases hr)
def Zec (b_a0:Option (Option Addr)) (n_a0:Nat) (a0:Array Value):St:=(⟨.a (.l 0) :: .a (.u) :: .a (.v (.slice none 0 0)) :: .a (.l 3) :: .a (.i .i64 (0:Int)) :: .a (.l 0) :: .a (.i .i64 (n_a0:Int)) :: .a (.l 3)::us 15 ([]),[.sl (.came b_a0) n_a0 a0 114,.no,.no,.sl .own ((n_a0:Int).toNat) (madeCells (zc PZ 82) ((n_a0:Int).toNat*3)) 82,.no],[]⟩:St)
def Zfk (n_a0:Nat):Int×Array Value→LS
 | (y0_4,r0_3)=>([.a (.i .i64 (y0_4))],[.sl .own ((n_a0:Int).toNat) r0_3 82])
def Zj5 (n_a0:Nat):Int×Array Value→Exit×LS
 | t=>((.exit 0),(Zfk n_a0) t)
def Zcq (P : Program) (b_a0 : Option (Option Addr)) (n_a0 : Nat) (a0 : Array Value) : Int × Array Value → Option (Stp (Int × Array Value) (Int × Array Value))
 | (y0_4, r0_3) => bif decide (y0_4 < (n_a0 : Int)) then (bif (decide (0 ≤ y0_4) && decide (y0_4 < (n_a0 : Int))) then (bif (decide (0 ≤ y0_4) && decide (y0_4 < (((n_a0 : Int).toNat) : Int))) then (some (.more ((i64.wrap (y0_4 + (1 : Int))), (spl r0_3 ((y0_4).toNat * 3) (a0.extract ((y0_4).toNat * 3) (((y0_4).toNat * 3) + 3)).toList))))
    else (none))
   else (none))
  else (some (.done (y0_4, r0_3)))
theorem Zv0 (N:Nat) (b_a0:Option (Option Addr)) (n_a0:Nat) (a0:Array Value):∀ t:Int×Array Value,Uai PZ (mkΓ [(58,con Zbo)]) N (cAt (codeOf Tryz.f30) [1,1,0,1,0,0]) (pAt (Uaa (codeOf Tryz.f30) [([4],[3])]).1 [1,1,0,1,0]) [4] [3] (Zec b_a0 n_a0 a0) ((Zfk n_a0) t)=mapS (Zfk n_a0) (Zj5 n_a0) (Zcq PZ b_a0 n_a0 a0 t):=by
 rintro ⟨y0_4,r0_3⟩
 refine Eq.trans (b:=(bif decide (y0_4<(n_a0:Int)) then (bif (decide (0≤y0_4)&&decide (y0_4<(n_a0:Int))) then (bif (decide (0≤y0_4)&&decide (y0_4<(((n_a0:Int).toNat):Int))) then (some (.more ([.a (.i .i64 (i64.wrap (y0_4+(1:Int))))],[.sl .own ((n_a0:Int).toNat) (spl r0_3 ((y0_4).toNat*3) (a0.extract ((y0_4).toNat*3) (((y0_4).toNat*3)+3)).toList) 82])))
    else (none))
   else (none))
  else (some (.done ((.exit 0),([.a (.i .i64 (y0_4))],[.sl .own ((n_a0:Int).toNat) r0_3 82])))))) (by kernel_rfl) ?_
 simp only [Zcq,Za3,Za4,Za5,Za2,Zfk,Zj5]
def Zif (P:Program) (N:Nat) (b_a0:Option (Option Addr)) (n_a0:Nat) (a0:Array Value) (z0_4:Int) (q0_3:Array Value):Option (SV×Eff×Bool):=some (.a .x,.newS none ((n_a0:Int).toNat) q0_3 82,true)
theorem Zpa (N:Nat) (b_a0:Option (Option Addr)) (n_a0:Nat) (a0:Array Value) (z0_4:Int) (q0_3:Array Value):(Uab 0 (kSeq (veC PZ (mkΓ [(58,con Zbo)]) N (cAt (codeOf Tryz.f30) [1,1,1]) (pAt (Uaa (codeOf Tryz.f30) [([4],[3])]).1 [1,1,1]) (SV×Eff×Bool)) (finK PZ [.sl (.came b_a0) n_a0 a0 114] [.tmp 2]))) (.exit 0) (left (writes (cAt (codeOf Tryz.f30) [1,1,0,1,0,0])) [4] [3] (Zec b_a0 n_a0 a0) ([.a (.i .i64 (z0_4))],[.sl .own ((n_a0:Int).toNat) q0_3 82]))=Zif PZ N b_a0 n_a0 a0 z0_4 q0_3:=by
 refine Eq.trans (b:=(some (.a .x,.newS none ((n_a0:Int).toNat) q0_3 82,true))) (by kernel_rfl) ?_
 rfl
theorem Zxy (N:Nat) (b_a0:Option (Option Addr)) (n_a0:Nat) (a0:Array Value):Uag (Uac (Uai PZ (mkΓ [(58,con Zbo)]) N (cAt (codeOf Tryz.f30) [1,1,0,1,0,0]) (pAt (Uaa (codeOf Tryz.f30) [([4],[3])]).1 [1,1,0,1,0]) [4] [3] (Zec b_a0 n_a0 a0)) N ([.a (.i .i64 (0:Int))],[.sl .own ((n_a0:Int).toNat) (madeCells (zc PZ 82) ((n_a0:Int).toNat*3)) 82])) (fun e s=>(Uab 0 (kSeq (veC PZ (mkΓ [(58,con Zbo)]) N (cAt (codeOf Tryz.f30) [1,1,1]) (pAt (Uaa (codeOf Tryz.f30) [([4],[3])]).1 [1,1,1]) (SV×Eff×Bool)) (finK PZ [.sl (.came b_a0) n_a0 a0 114] [.tmp 2]))) e (left (writes (cAt (codeOf Tryz.f30) [1,1,0,1,0,0])) [4] [3] (Zec b_a0 n_a0 a0) s))=Ual (Uac (Zcq PZ b_a0 n_a0 a0) N ((0:Int),(madeCells (zc PZ 82) ((n_a0:Int).toNat*3)))) (fun x=>Zif PZ N b_a0 n_a0 a0 x.1 x.2):=by
 refine Zbg (Zfk n_a0) (Zj5 n_a0) _ _ (Zv0 N b_a0 n_a0 a0) N ((0:Int),(madeCells (zc PZ 82) ((n_a0:Int).toNat*3))) _ _ ?_
 intro x;exact Zpa N b_a0 n_a0 a0 x.1 x.2
theorem Zu8 (N:Nat) (b_a0:Option (Option Addr)) (n_a0:Nat) (a0:Array Value):ansV PZ (mkΓ [(58,con Zbo)]) N Tryz.f30 [([4],[3])] [.l 0] [.sl (.came b_a0) n_a0 a0 114]=(bif (decide (0≤(n_a0:Int))&&((n_a0:Int)==(n_a0:Int)&&decide ((bytesOf PZ 82:Int)*(n_a0:Int)≤281474976710656))) then (Ual (Uac (Zcq PZ b_a0 n_a0 a0) N ((0:Int),(madeCells (zc PZ 82) ((n_a0:Int).toNat*3)))) (fun x=>Zif PZ N b_a0 n_a0 a0 x.1 x.2))
  else (none)):=by
 refine Eq.trans (b:=(bif (decide (0≤(n_a0:Int))&&((n_a0:Int)==(n_a0:Int)&&decide ((bytesOf PZ 82:Int)*(n_a0:Int)≤281474976710656))) then (Uag (Uac (Uai PZ (mkΓ [(58,con Zbo)]) N (cAt (codeOf Tryz.f30) [1,1,0,1,0,0]) (pAt (Uaa (codeOf Tryz.f30) [([4],[3])]).1 [1,1,0,1,0]) [4] [3] (Zec b_a0 n_a0 a0)) N ([.a (.i .i64 (0:Int))],[.sl .own ((n_a0:Int).toNat) (madeCells (zc PZ 82) ((n_a0:Int).toNat*3)) 82])) (fun e s=>(Uab 0 (kSeq (veC PZ (mkΓ [(58,con Zbo)]) N (cAt (codeOf Tryz.f30) [1,1,1]) (pAt (Uaa (codeOf Tryz.f30) [([4],[3])]).1 [1,1,1]) (SV×Eff×Bool)) (finK PZ [.sl (.came b_a0) n_a0 a0 114] [.tmp 2]))) e (left (writes (cAt (codeOf Tryz.f30) [1,1,0,1,0,0])) [4] [3] (Zec b_a0 n_a0 a0) s)))
  else (none))) (by kernel_rfl) ?_
 simp only [Zxy N b_a0 n_a0 a0]
theorem Zth (b_a0:Option (Option Addr)) (n_a0:Nat) (a0:Array Value) (h_a0:a0.size=n_a0*(lay PZ 114).length∧(∀ k,k<n_a0→WT PZ 114 (a0.extract (k*(lay PZ 114).length) (k*(lay PZ 114).length+(lay PZ 114).length)))∧n_a0≤9223372036854775807) (hg:(decide (n_a0≤1048576))=true):ansV PZ (mkΓ [(58,con Zbo)]) 18446744073709551616 Tryz.f30 [([4],[3])] [.l 0] [.sl (.came b_a0) n_a0 a0 114]=some (.a .x,.newS none n_a0 a0 82,true):=by
 have hn:n_a0≤1048576:=of_decide_eq_true hg
 have hm:(lay PZ 114).length=3:=by kernel_rfl
 have hb:bytesOf PZ 82=4:=by kernel_rfl
 obtain ⟨s1,s2,s3⟩:=h_a0
 rw [hm] at s1 s2
 have hq:(lay PZ 114)[0]? = some 0:=by kernel_rfl
 refine (Zu8 18446744073709551616 b_a0 n_a0 a0).trans ?_
 have hgd:(decide (0≤(n_a0:Int))&&((n_a0:Int)==(n_a0:Int)&&decide ((bytesOf PZ 82:Int)*(n_a0:Int)≤281474976710656)))=true:=by
  rw [hb,Q3 (show (0:Int)≤n_a0 by omega),beq_self_eq_true,Q3 (show (((4:Nat):Int))*(n_a0:Int)≤281474976710656 by omega)];rfl
 rw [hgd,Q1]
 have hs:a0.size=(madeCells (zc PZ 82) ((n_a0:Int).toNat*3)).size:=by rw [size_madeCells,Q9];exact s1
 generalize (madeCells (zc PZ 82) ((n_a0:Int).toNat*3))=Z at hs⊢
 have h:=Zdr (g:=Zcq PZ b_a0 n_a0 a0) (fun k=>((k:Int),upto a0 Z (k*3))) (m:=n_a0) (x:=((n_a0:Int),upto a0 Z (n_a0*3))) (N:=18446744073709551616) (fun k hk=>by
  have h1:decide ((k:Int)<(n_a0:Int))=true:=Q3 (by omega)
  have h0:decide (0≤(k:Int))=true:=Q3 (by omega)
  have h3:i64.wrap ((k:Int)+1)=((k+1:Nat):Int):=by rw [IntWalk.i64_in _ (by omega)];omega
  have h5:spl (upto a0 Z (k*3)) (k*3) (a0.extract (k*3) (k*3+3)).toList=upto a0 Z ((k+1)*3):=by
   rw [Nat.add_mul];exact Yb0 hs (by have:(k+1)*3≤n_a0*3:=Nat.mul_le_mul_right _ hk;omega) rfl
  simp only [Zcq,h1,h0,Bool.and_self,Q9,Q1,h3,h5]) (by
  have h1:decide ((n_a0:Int)<(n_a0:Int))=false:=Q4 (by omega)
  simp only [Zcq,h1,Q2]) (by omega)
 rw [Zxa hs s1] at h
 simp only [Nat.zero_mul,Zrc hs] at h
 have h':Uac (Zcq PZ b_a0 n_a0 a0) 18446744073709551616 ((0:Int),Z)=some ((n_a0:Int),a0):=h
 rw [h']
 show some (_,Eff.newS none ((n_a0:Int).toNat) a0 82,true)=_
 rw [Q9]
def Zgf:Con:=fun args h=>match args,h with
 | [.l 0],[.sl (.came b_a0) n_a0 a0 114]=>some (.a .x,.newS none n_a0 a0 82,decide (n_a0≤1048576))
 | _,_=>none
theorem Zrn:EntX PZ 30:=Zag (fn:=Tryz.f30) (by kernel_rfl) (by kernel_rfl) (by kernel_rfl)
theorem Zxd:Uad mn PZ 30 Zgf:=(Zai (N:=18446744073709551616) (by kernel_rfl) (mkΓ_consX (Zad Zyp) Ztq mkΓ_nilX) (fn:=Tryz.f30) (by kernel_rfl) (by kernel_rfl) [([4],[3])]).of (by
 intro ρ h w args vals r e hA hH hr
 unfold Zgf at hr
 split at hr
 ·rename_i b_a0 n_a0 a0
  obtain ⟨rfl,rfl,hg2⟩:=BQi hr
  exact Zth b_a0 n_a0 a0 (hH.slw 0 rfl) hg2
 ·cases hr)
theorem Zv8 (N:Nat) (a0 a1:Array Value):ansV PZ (mkΓ []) N Tryz.f66 [] [.g a0 82,.g a1 82] []=(bif ((num a0 0) != (num a1 0)) then (some (.a (.b (false)),.none,true))
  else (bif ((num a0 1) != (num a1 1)) then (some (.a (.b (false)),.none,true))
   else (bif ((num a0 2) != (num a1 2)) then (some (.a (.b (false)),.none,true))
    else (some (.a (.b (true)),.none,true))))):=by kernel_rfl
theorem Zvr (a0 a1:Array Value) (h_a0:WT PZ 82 a0) (h_a1:WT PZ 82 a1) (hg:(true)=true):ansV PZ (mkΓ []) 1000 Tryz.f66 [] [.g a0 82,.g a1 82] []=some (.a (.b (Ubb a0 a1)),.none,true):=by
 have hz:a0.size=3:=by rw [h_a0.layLen];kernel_rfl
 have hy:a1.size=3:=by rw [h_a1.layLen];kernel_rfl
 refine (Zv8 1000 a0 a1).trans ?_
 cases hb:Ubb a0 a1
 ·have hne:=Ykf.1 hb
  cases h0:(num a0 0 != num a1 0)
  ·skip
   cases h1:(num a0 1 != num a1 1)
   ·skip
    cases h2:(num a0 2 != num a1 2)
    ·skip
     exfalso
     refine hne (Zfs fun i=> ?_)
     by_cases c0:i=0
     ·subst c0
      rw [(h_a0.int (k:=.i8) (o:=0) (by kernel_rfl)).1,(h_a1.int (k:=.i8) (o:=0) (by kernel_rfl)).1,Ynw h0]
     by_cases c1:i=1
     ·subst c1
      rw [(h_a0.int (k:=.i8) (o:=1) (by kernel_rfl)).1,(h_a1.int (k:=.i8) (o:=1) (by kernel_rfl)).1,Ynw h1]
     by_cases c2:i=2
     ·subst c2
      rw [(h_a0.int (k:=.i16) (o:=2) (by kernel_rfl)).1,(h_a1.int (k:=.i16) (o:=2) (by kernel_rfl)).1,Ynw h2]
     rw [Array.getElem?_eq_none (by omega),Array.getElem?_eq_none (by omega)]
    ·rfl
   ·rfl
  ·rfl
 ·rw [Zm2.1 hb]
  simp only [bne_self_eq_false,Q2,Zsw,Bool.not_true]
def Zbf:Con:=fun args h=>match args,h with
 | [.g a0 82,.g a1 82],[]=>some (.a (.b (Ubb a0 a1)),.none,true)
 | _,_=>none
theorem Ztu:EntX PZ 66:=Zag (fn:=Tryz.f66) (by kernel_rfl) (by kernel_rfl) (by kernel_rfl)
theorem Zzd:Uad mn PZ 66 Zbf:=(Zai (N:=1000) (by kernel_rfl) mkΓ_nilX (fn:=Tryz.f66) (by kernel_rfl) (by kernel_rfl) []).of (by
 intro ρ h w args vals r e hA hH hr
 unfold Zbf at hr
 split at hr
 ·rename_i a0 a1
  obtain ⟨rfl,rfl,hg2⟩:=BQi hr
  exact Zvr a0 a1 (hA.wt 0 rfl) (hA.wt 1 rfl) hg2
 ·cases hr)
def Zda (b_a0:Option (Option Addr)) (n_a0:Nat) (a0:Array Value) (b_a1:Option (Option Addr)) (n_a1:Nat) (a1:Array Value):St:=(⟨.a (.l 0) :: .a (.l 1) :: .a (.u) :: .a (.u) :: .a (.b (false)) :: .a (.i .i64 (0:Int)) :: .a (.l 0) :: .a (.i .i64 (n_a0:Int)) :: .a (.l 1) :: .a (.i .i64 (n_a1:Int)) :: .a (.b (((n_a0:Int) != (n_a1:Int))))::us 16 ([]),[.sl (.came b_a0) n_a0 a0 82,.sl (.came b_a1) n_a1 a1 82],[]⟩:St)
def Zeb:Bool×Int→LS
 | (y0_4,y0_5)=>([.a (.b (y0_4)),.a (.i .i64 (y0_5))],[])
def Zjj:(Stp (Bool×Int) (Bool×Int))→Exit×LS
 | .more t=>(.ret,Zeb t)
 | .done t=>((.exit 0),Zeb t)
def Zco (P : Program) (b_a0 : Option (Option Addr)) (n_a0 : Nat) (a0 : Array Value) (b_a1 : Option (Option Addr)) (n_a1 : Nat) (a1 : Array Value) : Bool × Int → Option (Stp (Bool × Int) (Stp (Bool × Int) (Bool × Int)))
 | (y0_4, y0_5) => bif decide (y0_5 < (n_a0 : Int)) then (bif (decide (0 ≤ y0_5) && decide (y0_5 < (n_a0 : Int))) then (bif (decide (0 ≤ y0_5) && decide (y0_5 < (n_a1 : Int))) then (bif (!(Ubb (a0.extract ((y0_5).toNat * 3) (((y0_5).toNat * 3) + 3)) (a1.extract ((y0_5).toNat * 3) (((y0_5).toNat * 3) + 3)))) then (some (.done (.more (false, y0_5))))
     else (some (.more (y0_4, (i64.wrap (y0_5 + (1 : Int)))))))
    else (none))
   else (none))
  else (some (.done (.done (y0_4, y0_5))))
theorem Zxg (N:Nat) (b_a0:Option (Option Addr)) (n_a0:Nat) (a0:Array Value) (b_a1:Option (Option Addr)) (n_a1:Nat) (a1:Array Value):∀ t:Bool×Int,Uai PZ (mkΓ [(66,con Zbf)]) N (cAt (codeOf Tryz.f37) [1,1,0,1,0,0]) (pAt (Uaa (codeOf Tryz.f37) [([4,5],[])]).1 [1,1,0,1,0]) [4,5] [] (Zda b_a0 n_a0 a0 b_a1 n_a1 a1) (Zeb t)=mapS Zeb Zjj (Zco PZ b_a0 n_a0 a0 b_a1 n_a1 a1 t):=by
 rintro ⟨y0_4,y0_5⟩
 refine Eq.trans (b:=(bif decide (y0_5<(n_a0:Int)) then (bif (decide (0≤y0_5)&&decide (y0_5<(n_a0:Int))) then (bif (decide (0≤y0_5)&&decide (y0_5<(n_a1:Int))) then (bif (!(Ubb (a0.extract ((y0_5).toNat*3) (((y0_5).toNat*3)+3)) (a1.extract ((y0_5).toNat*3) (((y0_5).toNat*3)+3)))) then (some (.done (.ret,([.a (.b (false)),.a (.i .i64 (y0_5))],[]))))
     else (some (.more ([.a (.b (y0_4)),.a (.i .i64 (i64.wrap (y0_5+(1:Int))))],[]))))
    else (none))
   else (none))
  else (some (.done ((.exit 0),([.a (.b (y0_4)),.a (.i .i64 (y0_5))],[])))))) (by kernel_rfl) ?_
 simp only [Zco,Za3,Za4,Za5,Za2,Zeb,Zjj]
def Zii (P:Program) (N:Nat) (b_a0:Option (Option Addr)) (n_a0:Nat) (a0:Array Value) (b_a1:Option (Option Addr)) (n_a1:Nat) (a1:Array Value) (z0_4:Bool) (z0_5:Int):Option (SV×Eff×Bool):=some (.a (.b (z0_4)),.none,true)
theorem Zpy (N:Nat) (b_a0:Option (Option Addr)) (n_a0:Nat) (a0:Array Value) (b_a1:Option (Option Addr)) (n_a1:Nat) (a1:Array Value) (z0_4:Bool) (z0_5:Int):(Uab 0 (kSeq (veC PZ (mkΓ [(66,con Zbf)]) N (cAt (codeOf Tryz.f37) [1,1,1]) (pAt (Uaa (codeOf Tryz.f37) [([4,5],[])]).1 [1,1,1]) (SV×Eff×Bool)) (finK PZ [.sl (.came b_a0) n_a0 a0 82,.sl (.came b_a1) n_a1 a1 82] [.tmp 4]))) .ret (left (writes (cAt (codeOf Tryz.f37) [1,1,0,1,0,0])) [4,5] [] (Zda b_a0 n_a0 a0 b_a1 n_a1 a1) ([.a (.b (z0_4)),.a (.i .i64 (z0_5))],[]))=Zii PZ N b_a0 n_a0 a0 b_a1 n_a1 a1 z0_4 z0_5:=by
 refine Eq.trans (b:=(some (.a (.b (z0_4)),.none,true))) (by kernel_rfl) ?_
 rfl
def Zid (P:Program) (N:Nat) (b_a0:Option (Option Addr)) (n_a0:Nat) (a0:Array Value) (b_a1:Option (Option Addr)) (n_a1:Nat) (a1:Array Value) (z0_4:Bool) (z0_5:Int):Option (SV×Eff×Bool):=some (.a (.b (true)),.none,true)
theorem Zpw (N:Nat) (b_a0:Option (Option Addr)) (n_a0:Nat) (a0:Array Value) (b_a1:Option (Option Addr)) (n_a1:Nat) (a1:Array Value) (z0_4:Bool) (z0_5:Int):(Uab 0 (kSeq (veC PZ (mkΓ [(66,con Zbf)]) N (cAt (codeOf Tryz.f37) [1,1,1]) (pAt (Uaa (codeOf Tryz.f37) [([4,5],[])]).1 [1,1,1]) (SV×Eff×Bool)) (finK PZ [.sl (.came b_a0) n_a0 a0 82,.sl (.came b_a1) n_a1 a1 82] [.tmp 4]))) (.exit 0) (left (writes (cAt (codeOf Tryz.f37) [1,1,0,1,0,0])) [4,5] [] (Zda b_a0 n_a0 a0 b_a1 n_a1 a1) ([.a (.b (z0_4)),.a (.i .i64 (z0_5))],[]))=Zid PZ N b_a0 n_a0 a0 b_a1 n_a1 a1 z0_4 z0_5:=by
 refine Eq.trans (b:=(some (.a (.b (true)),.none,true))) (by kernel_rfl) ?_
 rfl
theorem Zw2 (N:Nat) (b_a0:Option (Option Addr)) (n_a0:Nat) (a0:Array Value) (b_a1:Option (Option Addr)) (n_a1:Nat) (a1:Array Value):Uag (Uac (Uai PZ (mkΓ [(66,con Zbf)]) N (cAt (codeOf Tryz.f37) [1,1,0,1,0,0]) (pAt (Uaa (codeOf Tryz.f37) [([4,5],[])]).1 [1,1,0,1,0]) [4,5] [] (Zda b_a0 n_a0 a0 b_a1 n_a1 a1)) N ([.a (.b (false)),.a (.i .i64 (0:Int))],[])) (fun e s=>(Uab 0 (kSeq (veC PZ (mkΓ [(66,con Zbf)]) N (cAt (codeOf Tryz.f37) [1,1,1]) (pAt (Uaa (codeOf Tryz.f37) [([4,5],[])]).1 [1,1,1]) (SV×Eff×Bool)) (finK PZ [.sl (.came b_a0) n_a0 a0 82,.sl (.came b_a1) n_a1 a1 82] [.tmp 4]))) e (left (writes (cAt (codeOf Tryz.f37) [1,1,0,1,0,0])) [4,5] [] (Zda b_a0 n_a0 a0 b_a1 n_a1 a1) s))=Ual (Uac (Zco PZ b_a0 n_a0 a0 b_a1 n_a1 a1) N (false,(0:Int))) (st2 (fun x=>Zii PZ N b_a0 n_a0 a0 b_a1 n_a1 a1 x.1 x.2) (fun x=>Zid PZ N b_a0 n_a0 a0 b_a1 n_a1 a1 x.1 x.2)):=by
 refine Zbg Zeb Zjj _ _ (Zxg N b_a0 n_a0 a0 b_a1 n_a1 a1) N (false,(0:Int)) _ _ ?_
 intro x
 cases x with
 | more x=>exact Zpy N b_a0 n_a0 a0 b_a1 n_a1 a1 x.1 x.2
 | done x=>exact Zpw N b_a0 n_a0 a0 b_a1 n_a1 a1 x.1 x.2
theorem Zu3 (N:Nat) (b_a0:Option (Option Addr)) (n_a0:Nat) (a0:Array Value) (b_a1:Option (Option Addr)) (n_a1:Nat) (a1:Array Value):ansV PZ (mkΓ [(66,con Zbf)]) N Tryz.f37 [([4,5],[])] [.l 0,.l 1] [.sl (.came b_a0) n_a0 a0 82,.sl (.came b_a1) n_a1 a1 82]=(bif ((n_a0:Int) != (n_a1:Int)) then (some (.a (.b (false)),.none,true))
  else (Ual (Uac (Zco PZ b_a0 n_a0 a0 b_a1 n_a1 a1) N (false,(0:Int))) (st2 (fun x=>Zii PZ N b_a0 n_a0 a0 b_a1 n_a1 a1 x.1 x.2) (fun x=>Zid PZ N b_a0 n_a0 a0 b_a1 n_a1 a1 x.1 x.2)))):=by
 refine Eq.trans (b:=(bif ((n_a0:Int) != (n_a1:Int)) then (some (.a (.b (false)),.none,true))
  else (Uag (Uac (Uai PZ (mkΓ [(66,con Zbf)]) N (cAt (codeOf Tryz.f37) [1,1,0,1,0,0]) (pAt (Uaa (codeOf Tryz.f37) [([4,5],[])]).1 [1,1,0,1,0]) [4,5] [] (Zda b_a0 n_a0 a0 b_a1 n_a1 a1)) N ([.a (.b (false)),.a (.i .i64 (0:Int))],[])) (fun e s=>(Uab 0 (kSeq (veC PZ (mkΓ [(66,con Zbf)]) N (cAt (codeOf Tryz.f37) [1,1,1]) (pAt (Uaa (codeOf Tryz.f37) [([4,5],[])]).1 [1,1,1]) (SV×Eff×Bool)) (finK PZ [.sl (.came b_a0) n_a0 a0 82,.sl (.came b_a1) n_a1 a1 82] [.tmp 4]))) e (left (writes (cAt (codeOf Tryz.f37) [1,1,0,1,0,0])) [4,5] [] (Zda b_a0 n_a0 a0 b_a1 n_a1 a1) s))))) (by kernel_rfl) ?_
 simp only [Zw2 N b_a0 n_a0 a0 b_a1 n_a1 a1]
theorem Ztc (b_a0:Option (Option Addr)) (n_a0:Nat) (a0:Array Value) (b_a1:Option (Option Addr)) (n_a1:Nat) (a1:Array Value) (h_a0:a0.size=n_a0*(lay PZ 82).length∧(∀ k,k<n_a0→WT PZ 82 (a0.extract (k*(lay PZ 82).length) (k*(lay PZ 82).length+(lay PZ 82).length)))∧n_a0≤9223372036854775807) (h_a1:a1.size=n_a1*(lay PZ 82).length∧(∀ k,k<n_a1→WT PZ 82 (a1.extract (k*(lay PZ 82).length) (k*(lay PZ 82).length+(lay PZ 82).length)))∧n_a1≤9223372036854775807) (hg:(true)=true):ansV PZ (mkΓ [(66,con Zbf)]) 18446744073709551616 Tryz.f37 [([4,5],[])] [.l 0,.l 1] [.sl (.came b_a0) n_a0 a0 82,.sl (.came b_a1) n_a1 a1 82]=some (.a (.b ((decide (n_a0=n_a1)&&Ubb a0 a1))),.none,true):=by
 have hm:(lay PZ 82).length=3:=by kernel_rfl
 obtain ⟨s1,s2,s3⟩:=h_a0
 obtain ⟨t1,t2,t3⟩:=h_a1
 rw [hm] at s1 s2 t1 t2
 have hq:(lay PZ 82)[0]? = some 0:=by kernel_rfl
 refine (Zu3 18446744073709551616 b_a0 n_a0 a0 b_a1 n_a1 a1).trans ?_
 by_cases hl:n_a0=n_a1
 case neg=>
  rw [Q4 hl,show ((n_a0:Int) != (n_a1:Int))=true from bne_iff_ne.2 (by omega)]
  rfl
 subst hl
 rw [Q3 rfl,show ((n_a0:Int) != (n_a0:Int))=false from bne_self_eq_false _]
 simp only [Q2,Bool.true_and]
 have hb:Ubb a0 a1=true ↔ ∀ k,k<n_a0→(fun k=>Ubb (a0.extract (k*3) (k*3+3)) (a1.extract (k*3) (k*3+3))) k=true:=by
  constructor
  ·intro h k hk
   rw [Zm2.1 h]
   exact Zsw _
  ·intro h
   refine Zm2.2 ?_
   exact Yis (n:=n_a0) (m:=3) (by omega) s1 t1 (fun k hk=>Zm2.1 (h k hk))
 refine (Zzv (g:=Zco PZ b_a0 n_a0 a0 b_a1 n_a0 a1) (fun k=>(false,(k:Int))) (fun k=>Ubb (a0.extract (k*3) (k*3+3)) (a1.extract (k*3) (k*3+3))) n_a0 (N:=18446744073709551616) (xd:=.done (false,(n_a0:Int))) (by omega) (fun k hk hp=>by
  have h1:decide ((k:Int)<(n_a0:Int))=true:=Q3 (by omega)
  have h0:decide (0≤(k:Int))=true:=Q3 (by omega)
  have h3:i64.wrap ((k:Int)+1)=((k+1:Nat):Int):=by rw [IntWalk.i64_in _ (by omega)];omega
  have hp':Ubb (a0.extract (k*3) (k*3+3)) (a1.extract (k*3) (k*3+3))=true:=hp
  simp only [Zco,h1,h0,Bool.and_self,Q9,Q1,h3,hp',Bool.not_true,Q2]) (by
  have h1:decide ((n_a0:Int)<(n_a0:Int))=false:=Q4 (by omega)
  simp only [Zco,h1,Q2]) (Ubb a0 a1) hb (some (.a (.b true),.none,true)) (some (.a (.b false),.none,true)) rfl (fun k hk hp=>by
  refine ⟨.more (false,(k:Int)), ?_,rfl⟩
  have h1:decide ((k:Int)<(n_a0:Int))=true:=Q3 (by omega)
  have h0:decide (0≤(k:Int))=true:=Q3 (by omega)
  have hp':Ubb (a0.extract (k*3) (k*3+3)) (a1.extract (k*3) (k*3+3))=false:=hp
  simp only [Zco,h1,h0,Bool.and_self,Q9,Q1,hp',Bool.not_false])).trans ?_
 cases Ubb a0 a1<;>rfl
def Zgj:Con:=fun args h=>match args,h with
 | [.l 0,.l 1],[.sl (.came b_a0) n_a0 a0 82,.sl (.came b_a1) n_a1 a1 82]=>some (.a (.b ((decide (n_a0=n_a1)&&Ubb a0 a1))),.none,true)
 | _,_=>none
theorem Zsi:EntX PZ 37:=Zag (fn:=Tryz.f37) (by kernel_rfl) (by kernel_rfl) (by kernel_rfl)
theorem Zxb:Uad mn PZ 37 Zgj:=(Zai (N:=18446744073709551616) (by kernel_rfl) (mkΓ_consX (Zad Zzd) Ztu mkΓ_nilX) (fn:=Tryz.f37) (by kernel_rfl) (by kernel_rfl) [([4,5],[])]).of (by
 intro ρ h w args vals r e hA hH hr
 unfold Zgj at hr
 split at hr
 ·rename_i b_a0 n_a0 a0 b_a1 n_a1 a1
  obtain ⟨rfl,rfl,hg2⟩:=BQi hr
  exact Ztc b_a0 n_a0 a0 b_a1 n_a1 a1 (hH.slw 0 rfl) (hH.slw 1 rfl) hg2
 ·cases hr)
theorem Zu1 (N:Nat) (a1:Int) (b_a0:Option (Option Addr)) (n_a0:Nat) (a0:Array Value):ansV PZ (mkΓ []) N Tryz.f22 [] [.l 0,.i .i64 (a1)] [.sl (.came b_a0) n_a0 a0 114]=(bif decide ((i64.wrap (a1 - (n_a0:Int)))<(0:Int)) then (some (.a (.i .i64 (-1:Int)),.none,true))
  else (some (.a (.i .i64 (i64.wrap (a1 - (n_a0:Int)))),.none,true))):=by kernel_rfl
def Zb4 (a1:Int) (b_a0:Option (Option Addr)) (n_a0:Nat) (a0:Array Value):Int:=(bif decide ((i64.wrap (a1 - (n_a0:Int)))<(0:Int)) then (-1:Int) else (i64.wrap (a1 - (n_a0:Int))))
theorem Ztf (a1:Int) (b_a0:Option (Option Addr)) (n_a0:Nat) (a0:Array Value) (h_a1:i64.min≤a1∧a1≤i64.max) (h_a0:a0.size=n_a0*(lay PZ 114).length∧(∀ k,k<n_a0→WT PZ 114 (a0.extract (k*(lay PZ 114).length) (k*(lay PZ 114).length+(lay PZ 114).length)))∧n_a0≤9223372036854775807) (hg:(true)=true):ansV PZ (mkΓ []) 1000 Tryz.f22 [] [.l 0,.i .i64 (a1)] [.sl (.came b_a0) n_a0 a0 114]=some (.a (.i .i64 (Zb4 a1 b_a0 n_a0 a0)),.none,true):=by
 refine (Zu1 1000 a1 b_a0 n_a0 a0).trans ?_
 unfold Zb4
 revert hg
 generalize (decide ((i64.wrap (a1 - (n_a0:Int)))<(0:Int)))=b2
 intro hg
 cases b2
 ·skip
  first | (simp only [Q1,Q2,BQ6];done) | rfl | exact (nomatch (hg:false=true))
 ·skip
  first | (simp only [Q1,Q2,BQ6];done) | rfl | exact (nomatch (hg:false=true))
def Zgb:Con:=fun args h=>match args,h with
 | [.l 0,.i .i64 a1],[.sl (.came b_a0) n_a0 a0 114]=>some (.a (.i .i64 (Zb4 a1 b_a0 n_a0 a0)),.none,true)
 | _,_=>none
theorem Zrk:EntX PZ 22:=Zag (fn:=Tryz.f22) (by kernel_rfl) (by kernel_rfl) (by kernel_rfl)
theorem Zvz:Uad mn PZ 22 Zgb:=(Zai (N:=1000) (by kernel_rfl) mkΓ_nilX (fn:=Tryz.f22) (by kernel_rfl) (by kernel_rfl) []).of (by
 intro ρ h w args vals r e hA hH hr
 unfold Zgb at hr
 split at hr
 ·rename_i a1 b_a0 n_a0 a0
  obtain ⟨rfl,rfl,hg2⟩:=BQi hr
  exact Ztf a1 b_a0 n_a0 a0 (hA.rng 1 rfl) (hH.slw 0 rfl) hg2
 ·cases hr)
theorem Ycx (N:Nat) (a0:Array Value) (bR:Option (Option Addr)) (nR:Nat) (aR:Array Value):ansV PZ (mkΓ [(30,con Zgf)]) N Tryz.f10 [] [.r a0 31 [(2,0)]] [.sl (.came bR) nR aR 114]=(bif decide (nR≤1048576) then (some (.a (.r #[.int .i8 (num a0 0),.int .i8 (num a0 1),.slice none 0 0] 45 [(2,HOLE)]),.newS (some 1000000) nR aR 82,true))
  else (none)):=by kernel_rfl
theorem Yat (a0:Array Value) (bR:Option (Option Addr)) (nR:Nat) (aR:Array Value) (h_a0:WT PZ 31 a0) (h_a0x2:aR.size=nR*(lay PZ 114).length∧(∀ k,k<nR→WT PZ 114 (aR.extract (k*(lay PZ 114).length) (k*(lay PZ 114).length+(lay PZ 114).length)))∧nR≤9223372036854775807) (hg:(decide (nR≤1048576))=true):ansV PZ (mkΓ [(30,con Zgf)]) 1000 Tryz.f10 [] [.r a0 31 [(2,0)]] [.sl (.came bR) nR aR 114]=some (.a (.r a0 45 [(2,HOLE)]),.newS (some 1000000) nR aR 82,true):=by
 have hz:a0.size=3:=by rw [h_a0.layLen];kernel_rfl
 have e0:=(h_a0.int (o:=0) (k:=.i8) (by kernel_rfl)).1
 have e1:=(h_a0.int (o:=1) (k:=.i8) (by kernel_rfl)).1
 have e2:=h_a0.nil (o:=2) (by kernel_rfl)
 have he:(#[.int .i8 (num a0 0),.int .i8 (num a0 1),.slice none 0 0]:Array Value)=a0:=Zfs fun i=>by
  match i with
  | 0=>exact e0.symm
  | 1=>exact e1.symm
  | 2=>exact e2.symm
  | i+3=>rw [Array.getElem?_eq_none (by simp),Array.getElem?_eq_none (by omega)]
 refine (Ycx 1000 a0 bR nR aR).trans ?_
 rw [hg,he]
 rfl
def Zma:Con:=fun args h=>match args,h with
 | [.r a0 31 [(2,0)]],[.sl (.came bR) nR aR 114]=>some (.a (.r a0 45 [(2,HOLE)]),.newS (some 1000000) nR aR 82,decide (nR≤1048576))
 | _,_=>none
theorem Zzk:EntX PZ 10:=Zag (fn:=Tryz.f10) (by kernel_rfl) (by kernel_rfl) (by kernel_rfl)
theorem Yet:Uad mn PZ 10 Zma:=(Zai (N:=1000) (by kernel_rfl) (mkΓ_consX (Zad Zxd) Zrn mkΓ_nilX) (fn:=Tryz.f10) (by kernel_rfl) (by kernel_rfl) []).of (by
 intro ρ h w args vals r e hA hH hr
 unfold Zma at hr
 split at hr
 ·rename_i a0 bR nR aR
  obtain ⟨rfl,rfl,hg2⟩:=BQi hr
  exact Yat a0 bR nR aR (hA.wtr 0 rfl) (hH.slw 0 rfl) hg2
 ·cases hr)
theorem Ydc (N:Nat) (a0 a1:Array Value) (bR:Option (Option Addr)) (nR:Nat) (aR:Array Value) (bQ:Option (Option Addr)) (nQ:Nat) (aQ:Array Value):ansV PZ (mkΓ [(37,con Zgj)]) N Tryz.f13 [] [.r a0 45 [(2,0)],.r a1 45 [(2,1)]] [.sl (.came bR) nR aR 82,.sl (.came bQ) nQ aQ 82]=(bif ((num a0 0) != (num a1 0)) then (some (.a (.b (false)),.none,true))
  else (bif ((num a0 1) != (num a1 1)) then (some (.a (.b (false)),.none,true))
   else (bif (!((decide (nR=nQ)&&Ubb aR aQ))) then (some (.a (.b (false)),.none,true))
    else (some (.a (.b (true)),.none,true))))):=by kernel_rfl
def Zev (a0 a1:Array Value) (bR:Option (Option Addr)) (nR:Nat) (aR:Array Value) (bQ:Option (Option Addr)) (nQ:Nat) (aQ:Array Value):Bool:=(bif ((num a0 0) != (num a1 0)) then false else (bif ((num a0 1) != (num a1 1)) then false else (bif (!((decide (nR=nQ)&&Ubb aR aQ))) then false else true)))
theorem Ybn (a0 a1:Array Value) (bR:Option (Option Addr)) (nR:Nat) (aR:Array Value) (bQ:Option (Option Addr)) (nQ:Nat) (aQ:Array Value) (h_a0:WT PZ 45 a0) (h_a1:WT PZ 45 a1) (h_a0x2:aR.size=nR*(lay PZ 82).length∧(∀ k,k<nR→WT PZ 82 (aR.extract (k*(lay PZ 82).length) (k*(lay PZ 82).length+(lay PZ 82).length)))∧nR≤9223372036854775807) (h_a1x2:aQ.size=nQ*(lay PZ 82).length∧(∀ k,k<nQ→WT PZ 82 (aQ.extract (k*(lay PZ 82).length) (k*(lay PZ 82).length+(lay PZ 82).length)))∧nQ≤9223372036854775807) (hg:(true)=true):ansV PZ (mkΓ [(37,con Zgj)]) 1000 Tryz.f13 [] [.r a0 45 [(2,0)],.r a1 45 [(2,1)]] [.sl (.came bR) nR aR 82,.sl (.came bQ) nQ aQ 82]=some (.a (.b ((Zev a0 a1 bR nR aR bQ nQ aQ))),.none,true):=by
 refine (Ydc 1000 a0 a1 bR nR aR bQ nQ aQ).trans ?_
 unfold Zev
 revert hg
 generalize (((num a0 0) != (num a1 0)))=b2
 intro hg
 cases b2
 ·skip
  revert hg
  generalize (((num a0 1) != (num a1 1)))=b4
  intro hg
  cases b4
  ·skip
   revert hg
   generalize ((!((decide (nR=nQ)&&Ubb aR aQ))))=b6
   intro hg
   cases b6
   ·skip
    first | (simp only [Q1,Q2,BQ6];done) | rfl | exact (nomatch (hg:false=true))
   ·skip
    first | (simp only [Q1,Q2,BQ6];done) | rfl | exact (nomatch (hg:false=true))
  ·skip
   first | (simp only [Q1,Q2,BQ6];done) | rfl | exact (nomatch (hg:false=true))
 ·skip
  first | (simp only [Q1,Q2,BQ6];done) | rfl | exact (nomatch (hg:false=true))
def Zmh:Con:=fun args h=>match args,h with
 | [.r a0 45 [(2,0)],.r a1 45 [(2,1)]],[.sl (.came bR) nR aR 82,.sl (.came bQ) nQ aQ 82]=>some (.a (.b ((Zev a0 a1 bR nR aR bQ nQ aQ))),.none,true)
 | _,_=>none
theorem Zz2:EntX PZ 13:=Zag (fn:=Tryz.f13) (by kernel_rfl) (by kernel_rfl) (by kernel_rfl)
theorem Ye8:Uad mn PZ 13 Zmh:=(Zai (N:=1000) (by kernel_rfl) (mkΓ_consX (Zad Zxb) Zsi mkΓ_nilX) (fn:=Tryz.f13) (by kernel_rfl) (by kernel_rfl) []).of (by
 intro ρ h w args vals r e hA hH hr
 unfold Zmh at hr
 split at hr
 ·rename_i a0 a1 bR nR aR bQ nQ aQ
  obtain ⟨rfl,rfl,hg2⟩:=BQi hr
  exact Ybn a0 a1 bR nR aR bQ nQ aQ (hA.wtr 0 rfl) (hA.wtr 1 rfl) (hH.slw 0 rfl) (hH.slw 1 rfl) hg2
 ·cases hr)
theorem Yd8 (N:Nat) (a0:Array Value) (a1:Int) (bR:Option (Option Addr)) (nR:Nat) (aR:Array Value):ansV PZ (mkΓ [(22,con Zgb)]) N Tryz.f7 [] [.r a0 31 [(2,0)],.i .i64 (a1)] [.sl (.came bR) nR aR 114]=(bif decide ((Zb4 a1 bR nR aR)<(0:Int)) then (some (.a (.i .i64 (-1:Int)),.none,true))
  else (some (.a (.i .i64 (Zb4 a1 bR nR aR)),.none,true))):=by kernel_rfl
def Zd1 (a0:Array Value) (a1:Int) (bR:Option (Option Addr)) (nR:Nat) (aR:Array Value):Int:=(bif decide ((Zb4 a1 bR nR aR)<(0:Int)) then (-1:Int) else (Zb4 a1 bR nR aR))
theorem Ybj (a0:Array Value) (a1:Int) (bR:Option (Option Addr)) (nR:Nat) (aR:Array Value) (h_a0:WT PZ 31 a0) (h_a1:i64.min≤a1∧a1≤i64.max) (h_a0x2:aR.size=nR*(lay PZ 114).length∧(∀ k,k<nR→WT PZ 114 (aR.extract (k*(lay PZ 114).length) (k*(lay PZ 114).length+(lay PZ 114).length)))∧nR≤9223372036854775807) (hg:(true)=true):ansV PZ (mkΓ [(22,con Zgb)]) 1000 Tryz.f7 [] [.r a0 31 [(2,0)],.i .i64 (a1)] [.sl (.came bR) nR aR 114]=some (.a (.i .i64 (Zd1 a0 a1 bR nR aR)),.none,true):=by
 refine (Yd8 1000 a0 a1 bR nR aR).trans ?_
 unfold Zd1
 revert hg
 generalize (decide ((Zb4 a1 bR nR aR)<(0:Int)))=b2
 intro hg
 cases b2
 ·skip
  first | (simp only [Q1,Q2,BQ6];done) | rfl | exact (nomatch (hg:false=true))
 ·skip
  first | (simp only [Q1,Q2,BQ6];done) | rfl | exact (nomatch (hg:false=true))
def Zmt:Con:=fun args h=>match args,h with
 | [.r a0 31 [(2,0)],.i .i64 a1],[.sl (.came bR) nR aR 114]=>some (.a (.i .i64 (Zd1 a0 a1 bR nR aR)),.none,true)
 | _,_=>none
theorem Zzc:EntX PZ 7:=Zag (fn:=Tryz.f7) (by kernel_rfl) (by kernel_rfl) (by kernel_rfl)
theorem Yez:Uad mn PZ 7 Zmt:=(Zai (N:=1000) (by kernel_rfl) (mkΓ_consX (Zad Zvz) Zrk mkΓ_nilX) (fn:=Tryz.f7) (by kernel_rfl) (by kernel_rfl) []).of (by
 intro ρ h w args vals r e hA hH hr
 unfold Zmt at hr
 split at hr
 ·rename_i a0 a1 bR nR aR
  obtain ⟨rfl,rfl,hg2⟩:=BQi hr
  exact Ybj a0 a1 bR nR aR (hA.wtr 0 rfl) (hA.rng 1 rfl) (hH.slw 0 rfl) hg2
 ·cases hr)
theorem Zzy (N:Nat) (a0 a1:Array Value) (bQ:Option (Option Addr)) (nQ:Nat) (aQ:Array Value):ansV PZ (mkΓ []) N Tryz.f85 [] [.g a0 41,.r a1 45 [(2,0)]] [.sl (.came bQ) nQ aQ 82]=(some (.a (.r ((spl (spl (zc PZ 73) 0 (#[.int .i64 (i64.wrap (num a1 0)),.int .i64 (i64.wrap (num a1 1))]:Array Value).toList) 2 a0.toList).setIfInBounds 365 (.slice none 0 0)) 73 [(365,0)]),.none,true)):=by kernel_rfl
theorem Zv4 (a0 a1:Array Value) (bQ:Option (Option Addr)) (nQ:Nat) (aQ:Array Value) (h_a0:WT PZ 41 a0) (h_a1:WT PZ 45 a1) (h_a1x2:aQ.size=nQ*(lay PZ 82).length∧(∀ k,k<nQ→WT PZ 82 (aQ.extract (k*(lay PZ 82).length) (k*(lay PZ 82).length+(lay PZ 82).length)))∧nQ≤9223372036854775807) (hg:(true)=true):ansV PZ (mkΓ []) 1000 Tryz.f85 [] [.g a0 41,.r a1 45 [(2,0)]] [.sl (.came bQ) nQ aQ 82]=some (.a (.r ((spl (spl (zc PZ 73) 0 (#[.int .i64 (i64.wrap (num a1 0)),.int .i64 (i64.wrap (num a1 1))]:Array Value).toList) 2 a0.toList).setIfInBounds 365 (.slice none 0 0)) 73 [(365,0)]),.none,true):=by
 refine (Zzy 1000 a0 a1 bQ nQ aQ).trans ?_
 rfl
def Zh0:Con:=fun args h=>match args,h with
 | [.g a0 41,.r a1 45 [(2,0)]],[.sl (.came bQ) nQ aQ 82]=>some (.a (.r ((spl (spl (zc PZ 73) 0 (#[.int .i64 (i64.wrap (num a1 0)),.int .i64 (i64.wrap (num a1 1))]:Array Value).toList) 2 a0.toList).setIfInBounds 365 (.slice none 0 0)) 73 [(365,0)]),.none,true)
 | _,_=>none
theorem Zi3:EntX PZ 85:=Zag (fn:=Tryz.f85) (by kernel_rfl) (by kernel_rfl) (by kernel_rfl)
theorem Zlg:Uad mn PZ 85 Zh0:=(Zai (N:=1000) (by kernel_rfl) mkΓ_nilX (fn:=Tryz.f85) (by kernel_rfl) (by kernel_rfl) []).of (by
 intro ρ h w args vals r e hA hH hr
 unfold Zh0 at hr
 split at hr
 ·rename_i a0 a1 bQ nQ aQ
  obtain ⟨rfl,rfl,hg2⟩:=BQi hr
  exact Zv4 a0 a1 bQ nQ aQ (hA.wt 0 rfl) (hA.wtr 1 rfl) (hH.slw 0 rfl) hg2
 ·cases hr)
theorem Zqx (N:Nat) (a0:Array Value) (a1:Int):ansV PZ (mkΓ []) N Tryz.f124 [] [.g a0 71,.i .i64 (a1)] []=(bif decide (a1 ≥ (0:Int)) then (some (.a (.b (decide (a1<(num a0 1)))),.none,true))
  else (some (.a (.b (false)),.none,true))):=by kernel_rfl
def Zb9 (a0:Array Value) (a1:Int):Bool:=(bif decide (a1 ≥ (0:Int)) then decide (a1<(num a0 1)) else false)
theorem Zpq (a0:Array Value) (a1:Int) (h_a0:WT PZ 71 a0) (h_a1:i64.min≤a1∧a1≤i64.max) (hg:(true)=true):ansV PZ (mkΓ []) 1000 Tryz.f124 [] [.g a0 71,.i .i64 (a1)] []=some (.a (.b ((Zb9 a0 a1))),.none,true):=by
 refine (Zqx 1000 a0 a1).trans ?_
 unfold Zb9
 revert hg
 generalize (decide (a1 ≥ (0:Int)))=b2
 intro hg
 cases b2
 ·skip
  first | (simp only [Q1,Q2,BQ6];done) | rfl | exact (nomatch (hg:false=true))
 ·skip
  first | (simp only [Q1,Q2,BQ6];done) | rfl | exact (nomatch (hg:false=true))
def Zg3:Con:=fun args h=>match args,h with
 | [.g a0 71,.i .i64 a1],[]=>some (.a (.b ((Zb9 a0 a1))),.none,true)
 | _,_=>none
theorem Zoq:EntX PZ 124:=Zag (fn:=Tryz.f124) (by kernel_rfl) (by kernel_rfl) (by kernel_rfl)
theorem Zrf:Uad mn PZ 124 Zg3:=(Zai (N:=1000) (by kernel_rfl) mkΓ_nilX (fn:=Tryz.f124) (by kernel_rfl) (by kernel_rfl) []).of (by
 intro ρ h w args vals r e hA hH hr
 unfold Zg3 at hr
 split at hr
 ·rename_i a0 a1
  obtain ⟨rfl,rfl,hg2⟩:=BQi hr
  exact Zpq a0 a1 (hA.wt 0 rfl) (hA.rng 1 rfl) hg2
 ·cases hr)
def Zme:Cons:=(mkΓ [(33,con Ziu),(117,con Zir),(124,con Zg3)])
theorem Zrs (N:Nat) (a0 a1:Array Value) (bS:Option (Option Addr)) (n_a0x365:Nat) (aS:Array Value):ansV PZ Zme N Tryz.f108 [] [.r a0 73 [(365,0)],.g a1 82] [.sl (.came bS) n_a0x365 aS 82]=(bif (Zan (a0.extract 2 (2+363)) (i64.wrap (num a1 0))) then (bif decide (0≤(i64.wrap (num a1 0))) then (bif (Zb7 (a0.extract 2 (2+363)) (i64.wrap (num a1 0))) then (bif (Zb9 (a0.extract 0 (0+2)) (i64.wrap (num a1 1))) then (bif decide ((num a1 2) ≥ (1:Int)) then (some (.a (.b (decide ((num a1 2)≤(200:Int)))),.none,true))
      else (some (.a (.b (false)),.none,true)))
     else (some (.a (.b (false)),.none,true)))
    else (some (.a (.b (false)),.none,true)))
   else (none))
  else (some (.a (.b (false)),.none,true))):=by kernel_rfl
def Zcm (a0 a1:Array Value) (bS:Option (Option Addr)) (n_a0x365:Nat) (aS:Array Value):Bool:=(bif (Zan (a0.extract 2 (2+363)) (i64.wrap (num a1 0))) then (bif (Zb7 (a0.extract 2 (2+363)) (i64.wrap (num a1 0))) then (bif (Zb9 (a0.extract 0 (0+2)) (i64.wrap (num a1 1))) then (bif decide ((num a1 2) ≥ (1:Int)) then decide ((num a1 2)≤(200:Int)) else false) else false) else false) else false)
def Zck (a0 a1:Array Value) (bS:Option (Option Addr)) (n_a0x365:Nat) (aS:Array Value):Bool:=(bif (Zan (a0.extract 2 (2+363)) (i64.wrap (num a1 0))) then decide (0≤(i64.wrap (num a1 0))) else true)
theorem Zqv (a0 a1:Array Value) (bS:Option (Option Addr)) (n_a0x365:Nat) (aS:Array Value) (h_a0:WT PZ 73 a0) (h_a1:WT PZ 82 a1) (h_a0x365:aS.size=n_a0x365*(lay PZ 82).length∧(∀ k,k<n_a0x365→WT PZ 82 (aS.extract (k*(lay PZ 82).length) (k*(lay PZ 82).length+(lay PZ 82).length)))∧n_a0x365≤9223372036854775807) (hg:((Zck a0 a1 bS n_a0x365 aS))=true):ansV PZ Zme 1000 Tryz.f108 [] [.r a0 73 [(365,0)],.g a1 82] [.sl (.came bS) n_a0x365 aS 82]=some (.a (.b ((Zcm a0 a1 bS n_a0x365 aS))),.none,true):=by
 refine (Zrs 1000 a0 a1 bS n_a0x365 aS).trans ?_
 unfold Zck at hg
 unfold Zcm
 revert hg
 generalize ((Zan (a0.extract 2 (2+363)) (i64.wrap (num a1 0))))=b2
 intro hg
 cases b2
 ·skip
  first | (simp only [Q1,Q2,BQ6];done) | rfl | exact (nomatch (hg:false=true))
 ·skip
  revert hg
  generalize (decide (0≤(i64.wrap (num a1 0))))=b4
  intro hg
  cases b4
  ·skip
   first | exact (nomatch (hg:false=true)) | (simp only [Q1,Q2,BQ6];done) | rfl
  ·skip
   revert hg
   generalize ((Zb7 (a0.extract 2 (2+363)) (i64.wrap (num a1 0))))=b6
   intro hg
   cases b6
   ·skip
    first | (simp only [Q1,Q2,BQ6];done) | rfl | exact (nomatch (hg:false=true))
   ·skip
    revert hg
    generalize ((Zb9 (a0.extract 0 (0+2)) (i64.wrap (num a1 1))))=b8
    intro hg
    cases b8
    ·skip
     first | (simp only [Q1,Q2,BQ6];done) | rfl | exact (nomatch (hg:false=true))
    ·skip
     revert hg
     generalize (decide ((num a1 2) ≥ (1:Int)))=b10
     intro hg
     cases b10
     ·skip
      first | (simp only [Q1,Q2,BQ6];done) | rfl | exact (nomatch (hg:false=true))
     ·skip
      first | (simp only [Q1,Q2,BQ6];done) | rfl | exact (nomatch (hg:false=true))
def Zhf:Con:=fun args h=>match args,h with
 | [.r a0 73 [(365,0)],.g a1 82],[.sl (.came bS) n_a0x365 aS 82]=>some (.a (.b ((Zcm a0 a1 bS n_a0x365 aS))),.none,(Zck a0 a1 bS n_a0x365 aS))
 | _,_=>none
theorem Zp4:EntX PZ 108:=Zag (fn:=Tryz.f108) (by kernel_rfl) (by kernel_rfl) (by kernel_rfl)
theorem Ztw:Uad mn PZ 108 Zhf:=(Zai (N:=1000) (by kernel_rfl) (mkΓ_consX (Zad Zsl) Znk (mkΓ_consX (Zad Zrg) Zno (mkΓ_consX (Zad Zrf) Zoq mkΓ_nilX))) (fn:=Tryz.f108) (by kernel_rfl) (by kernel_rfl) []).of (by
 intro ρ h w args vals r e hA hH hr
 unfold Zhf at hr
 split at hr
 ·rename_i a0 a1 bS n_a0x365 aS
  obtain ⟨rfl,rfl,hg2⟩:=BQi hr
  exact Zqv a0 a1 bS n_a0x365 aS (hA.wtr 0 rfl) (hA.wt 1 rfl) (hH.slw 0 rfl) hg2
 ·cases hr)
theorem Yh8 {S p:Array Value} (hS:S.size=363):((spl (spl (zc PZ 73) 0 (#[.int .i64 (i64.wrap (num p 0)),.int .i64 (i64.wrap (num p 1))]:Array Value).toList) 2 S.toList).setIfInBounds 365 (.slice none 0 0)).extract 2 (2+363)=S∧((spl (spl (zc PZ 73) 0 (#[.int .i64 (i64.wrap (num p 0)),.int .i64 (i64.wrap (num p 1))]:Array Value).toList) 2 S.toList).setIfInBounds 365 (.slice none 0 0)).extract 0 (0+2)=#[.int .i64 (i64.wrap (num p 0)),.int .i64 (i64.wrap (num p 1))]:=by
 have hz:(zc PZ 73).size=366:=by kernel_rfl
 generalize (zc PZ 73)=Z at hz
 have hl:S.toList.length=363:=by rw [Array.length_toList,hS]
 constructor
 ·refine Array.ext_getElem? fun i=> ?_
  rw [Array.getElem?_extract,Array.getElem?_setIfInBounds,Array.size_setIfInBounds,Zgi _ _ _ (by rw [Zhr,hz,hl];omega),Zhr,Zhr,hz,hl]
  by_cases hi:i<363
  ·rw [if_pos (by omega),if_neg (by omega),if_pos (by omega),Array.getElem?_toList,show 2+i - 2=i by omega]
  ·rw [if_neg (by omega),Array.getElem?_eq_none (by omega)]
 ·refine Array.ext_getElem? fun i=> ?_
  rw [Array.getElem?_extract,Array.getElem?_setIfInBounds,Array.size_setIfInBounds,Zgi _ _ _ (by rw [Zhr,hz,hl];omega),Zgi _ _ _ (by rw [hz];simp),Zhr,Zhr,hz,hl]
  by_cases hi:i<2
  ·rw [if_pos (by omega),if_neg (by omega),if_neg (by omega),if_pos (by simp;omega),Array.getElem?_toList,show 0+i - 0=i by omega]
  ·rw [if_neg (by omega),Array.getElem?_eq_none (by simp;omega)]
theorem takes_eq {S V X:Array Value} {h:Int} {x:Int} (bb:Option (Option Addr)) (n:Nat) (A:Array Value) (hS:WT PZ 41 S) (h1:V.extract 2 (2+363)=S) (h2:V.extract 0 (0+2)=#[.int .i64 x,.int .i64 h]) (hh: -128≤h∧h≤127) (hX:WT PZ 82 X) :
  Zck V X bb n A=true∧Zcm V X bb n A=relB S h X:=by
 obtain ⟨-,b0⟩:=hX.int (o:=0) (k:=.i8) (by kernel_rfl)
 obtain ⟨-,b1⟩:=hX.int (o:=1) (k:=.i8) (by kernel_rfl)
 obtain ⟨-,b2⟩:=hX.int (o:=2) (k:=.i16) (by kernel_rfl)
 have e1:IntKind.i16.min = -32768:=rfl
 have e2:IntKind.i16.max=32767:=rfl
 have w2:i64.wrap (num X 2)=num X 2:=IntWalk.i64_in _ (by omega)
 have w3:i64.wrap (h - 1)=h - 1:=IntWalk.i64_in _ (by omega)
 have w4:num (#[.int .i64 x,.int .i64 h]:Array Value) 1=h:=rfl
 unfold Zck Zcm relB Zac Zaa Zb9
 rw [h1,h2,Ynt,w2,w3,w4]
 cases hi:Zaz (i64.wrap (num X 0)) S with
 | false=>exact ⟨rfl,rfl⟩
 | true=>
  have hr:=Ylf hi
  refine ⟨Q3 hr.1, ?_⟩
  unfold Zb7
  rw [land_all hS hr]
  have e3:decide (i64.wrap (num X 1)<h)=decide (i64.wrap (num X 1)≤h - 1):=decide_eq_decide.2 (by omega)
  rw [e3]
  cases Zcd (i64.wrap (num X 0)) S<;>cases decide (i64.wrap (num X 1) ≥ 0)<;>cases decide (i64.wrap (num X 1)≤h - 1)<;>cases decide (num X 2 ≥ 1)<;>cases decide (num X 2≤200)<;>rfl
def Zct (a0:Array Value) (bS:Option (Option Addr)) (n_a0x365:Nat) (aS:Array Value):St:=(⟨.a (.r a0 73 [(365,0)]) :: .a (.w 1) :: .a (.i .i64 (0:Int)) :: .a (.i .i64 (0:Int)) :: .a (.u) :: .a (.u) :: .a (.p 1 (365) 43) :: .a (.l 0) :: .a (.i .i64 (n_a0x365:Int)) :: .a (.i .i64 (0:Int))::us 10 ([]),[.sl (.came bS) n_a0x365 aS 82,.one (.r a0 73 [(365,0)]) 73,.no],[]⟩:St)
def Zdt:Int×Int→LS
 | (y0_3,y0_9)=>([.a (.i .i64 (y0_3)),.a (.i .i64 (y0_9))],[])
def Zg1:Int×Int→Exit×LS
 | t=>((.exit 0),Zdt t)
def Zbh (P:Program) (a0:Array Value) (bS:Option (Option Addr)) (n_a0x365:Nat) (aS:Array Value):Int×Int→Option (Stp (Int×Int) (Int×Int))
 | (y0_3,y0_9)=>bif decide (y0_9<(n_a0x365:Int)) then (bif (decide (0≤y0_9)&&decide (y0_9<(n_a0x365:Int))) then (some (.more ((i64.wrap (y0_3+(i64.wrap (num (aS.extract ((y0_9).toNat*3) (((y0_9).toNat*3)+3)) 2)))),(i64.wrap (y0_9+(1:Int))))))
   else (none))
  else (some (.done (y0_3,y0_9)))
theorem Zqt (N:Nat) (a0:Array Value) (bS:Option (Option Addr)) (n_a0x365:Nat) (aS:Array Value):∀ t:Int×Int,Uai PZ (mkΓ []) N (cAt (codeOf Tryz.f50) [1,1,0,1,0,0]) (pAt (Uaa (codeOf Tryz.f50) [([3,9],[])]).1 [1,1,0,1,0]) [3,9] [] (Zct a0 bS n_a0x365 aS) (Zdt t)=mapS Zdt Zg1 (Zbh PZ a0 bS n_a0x365 aS t):=by
 rintro ⟨y0_3,y0_9⟩
 refine Eq.trans (b:=(bif decide (y0_9<(n_a0x365:Int)) then (bif (decide (0≤y0_9)&&decide (y0_9<(n_a0x365:Int))) then (some (.more ([.a (.i .i64 (i64.wrap (y0_3+(i64.wrap (num (aS.extract ((y0_9).toNat*3) (((y0_9).toNat*3)+3)) 2))))),.a (.i .i64 (i64.wrap (y0_9+(1:Int))))],[])))
   else (none))
  else (some (.done ((.exit 0),([.a (.i .i64 (y0_3)),.a (.i .i64 (y0_9))],[])))))) (by kernel_rfl) ?_
 simp only [Zbh,Za3,Za4,Za5,Za2,Zdt,Zg1]
def Zfv (P:Program) (N:Nat) (a0:Array Value) (bS:Option (Option Addr)) (n_a0x365:Nat) (aS:Array Value) (z0_3:Int) (z0_9:Int):Option (SV×Eff×Bool):=some (.a (.i .i64 (z0_3)),.none,true)
theorem Zmb (N:Nat) (a0:Array Value) (bS:Option (Option Addr)) (n_a0x365:Nat) (aS:Array Value) (z0_3:Int) (z0_9:Int):(Uab 0 (kSeq (veC PZ (mkΓ []) N (cAt (codeOf Tryz.f50) [1,1,1]) (pAt (Uaa (codeOf Tryz.f50) [([3,9],[])]).1 [1,1,1]) (SV×Eff×Bool)) (finK PZ [.sl (.came bS) n_a0x365 aS 82] [.tmp 2]))) (.exit 0) (left (writes (cAt (codeOf Tryz.f50) [1,1,0,1,0,0])) [3,9] [] (Zct a0 bS n_a0x365 aS) ([.a (.i .i64 (z0_3)),.a (.i .i64 (z0_9))],[]))=Zfv PZ N a0 bS n_a0x365 aS z0_3 z0_9:=by
 refine Eq.trans (b:=(some (.a (.i .i64 (z0_3)),.none,true))) (by kernel_rfl) ?_
 rfl
theorem Zqi (N:Nat) (a0:Array Value) (bS:Option (Option Addr)) (n_a0x365:Nat) (aS:Array Value):Uag (Uac (Uai PZ (mkΓ []) N (cAt (codeOf Tryz.f50) [1,1,0,1,0,0]) (pAt (Uaa (codeOf Tryz.f50) [([3,9],[])]).1 [1,1,0,1,0]) [3,9] [] (Zct a0 bS n_a0x365 aS)) N ([.a (.i .i64 (0:Int)),.a (.i .i64 (0:Int))],[])) (fun e s=>(Uab 0 (kSeq (veC PZ (mkΓ []) N (cAt (codeOf Tryz.f50) [1,1,1]) (pAt (Uaa (codeOf Tryz.f50) [([3,9],[])]).1 [1,1,1]) (SV×Eff×Bool)) (finK PZ [.sl (.came bS) n_a0x365 aS 82] [.tmp 2]))) e (left (writes (cAt (codeOf Tryz.f50) [1,1,0,1,0,0])) [3,9] [] (Zct a0 bS n_a0x365 aS) s))=Ual (Uac (Zbh PZ a0 bS n_a0x365 aS) N ((0:Int),(0:Int))) (fun x=>Zfv PZ N a0 bS n_a0x365 aS x.1 x.2):=by
 refine Zbg Zdt Zg1 _ _ (Zqt N a0 bS n_a0x365 aS) N ((0:Int),(0:Int)) _ _ ?_
 intro x;exact Zmb N a0 bS n_a0x365 aS x.1 x.2
theorem Zpb (N:Nat) (a0:Array Value) (bS:Option (Option Addr)) (n_a0x365:Nat) (aS:Array Value):ansV PZ (mkΓ []) N Tryz.f50 [([3,9],[])] [.r a0 73 [(365,0)]] [.sl (.came bS) n_a0x365 aS 82]=(Ual (Uac (Zbh PZ a0 bS n_a0x365 aS) N ((0:Int),(0:Int))) (fun x=>Zfv PZ N a0 bS n_a0x365 aS x.1 x.2)):=by
 refine Eq.trans (b:=(Uag (Uac (Uai PZ (mkΓ []) N (cAt (codeOf Tryz.f50) [1,1,0,1,0,0]) (pAt (Uaa (codeOf Tryz.f50) [([3,9],[])]).1 [1,1,0,1,0]) [3,9] [] (Zct a0 bS n_a0x365 aS)) N ([.a (.i .i64 (0:Int)),.a (.i .i64 (0:Int))],[])) (fun e s=>(Uab 0 (kSeq (veC PZ (mkΓ []) N (cAt (codeOf Tryz.f50) [1,1,1]) (pAt (Uaa (codeOf Tryz.f50) [([3,9],[])]).1 [1,1,1]) (SV×Eff×Bool)) (finK PZ [.sl (.came bS) n_a0x365 aS 82] [.tmp 2]))) e (left (writes (cAt (codeOf Tryz.f50) [1,1,0,1,0,0])) [3,9] [] (Zct a0 bS n_a0x365 aS) s)))) (by kernel_rfl) ?_
 simp only [Zqi N a0 bS n_a0x365 aS]
theorem Zoo (a0:Array Value) (bS:Option (Option Addr)) (n_a0x365:Nat) (aS:Array Value) (h_a0:WT PZ 73 a0) (h_a0x365:aS.size=n_a0x365*(lay PZ 82).length∧(∀ k,k<n_a0x365→WT PZ 82 (aS.extract (k*(lay PZ 82).length) (k*(lay PZ 82).length+(lay PZ 82).length)))∧n_a0x365≤9223372036854775807) (hg:(true)=true):ansV PZ (mkΓ []) 18446744073709551616 Tryz.f50 [([3,9],[])] [.r a0 73 [(365,0)]] [.sl (.came bS) n_a0x365 aS 82]=some (.a (.i .i64 (wsum aS n_a0x365)),.none,true):=by
 have hn:=h_a0x365.2.2
 refine (Zpb 18446744073709551616 a0 bS n_a0x365 aS).trans ?_
 have h:=Zdr (g:=Zbh PZ a0 bS n_a0x365 aS) (fun k=>(wsum aS k,(k:Int))) (m:=n_a0x365) (x:=(wsum aS n_a0x365,(n_a0x365:Int))) (N:=18446744073709551616) (fun k hk=>by
  have h1:decide ((k:Int)<(n_a0x365:Int))=true:=Q3 (by omega)
  have h0:decide (0≤(k:Int))=true:=Q3 (by omega)
  have h3:i64.wrap ((k:Int)+1)=((k+1:Nat):Int):=by rw [IntWalk.i64_in _ (by omega)];omega
  simp only [Zbh,h1,h0,Bool.and_self,Q9,Q1,h3]
  rfl) (by
  have h1:decide ((n_a0x365:Int)<(n_a0x365:Int))=false:=Q4 (by omega)
  simp only [Zbh,h1,Q2]) (by omega)
 have h':Uac (Zbh PZ a0 bS n_a0x365 aS) 18446744073709551616 ((0:Int),(0:Int))=some (wsum aS n_a0x365,(n_a0x365:Int)):=h
 rw [h']
 rfl
def Zge:Con:=fun args h=>match args,h with
 | [.r a0 73 [(365,0)]],[.sl (.came bS) n_a0x365 aS 82]=>some (.a (.i .i64 (wsum aS n_a0x365)),.none,true)
 | _,_=>none
theorem Znq:EntX PZ 50:=Zag (fn:=Tryz.f50) (by kernel_rfl) (by kernel_rfl) (by kernel_rfl)
theorem Zqh:Uad mn PZ 50 Zge:=(Zai (N:=18446744073709551616) (by kernel_rfl) mkΓ_nilX (fn:=Tryz.f50) (by kernel_rfl) (by kernel_rfl) [([3,9],[])]).of (by
 intro ρ h w args vals r e hA hH hr
 unfold Zge at hr
 split at hr
 ·rename_i a0 bS n_a0x365 aS
  obtain ⟨rfl,rfl,hg2⟩:=BQi hr
  exact Zoo a0 bS n_a0x365 aS (hA.wtr 0 rfl) (hH.slw 0 rfl) hg2
 ·cases hr)
def Zfc:Cons:=(mkΓ [(38,con Zf3),(47,con Zc7),(82,con Zlh)])
def Zgm (a0 a1:Array Value) (bQ:Option (Option Addr)) (nQ:Nat) (aQ:Array Value):St:=(⟨.a (.w 0) :: .a (.w 1) :: .a (.u) :: .a (.u) :: .a (.b (false)) :: .a (.i .i64 (0:Int)) :: .a (.i .i64 (0:Int)) :: .a (.u) :: .a (.w 1) :: .a (.w 1) :: .a (.p 1 (0) 22) :: .a (.i .i8 (num a1 0)) :: .a (.i .i64 (i64.wrap (num a1 0))) :: .a (.b ((Zaa (i64.wrap (num a1 0)) (0:Int) (1:Int)))) :: .a (.b ((!((Zaa (i64.wrap (num a1 0)) (0:Int) (1:Int)))))) :: .a (.b (false)) :: .a (.w 1) :: .a (.w 1) :: .a (.p 1 (1) 22) :: .a (.i .i8 (num a1 1)) :: .a (.i .i64 (i64.wrap (num a1 1))) :: .a (.b ((Zaa (i64.wrap (num a1 1)) (1:Int) (8:Int)))) :: .a (.b ((!((Zaa (i64.wrap (num a1 1)) (1:Int) (8:Int)))))) :: .a (.b ((!((Zaa (i64.wrap (num a1 1)) (1:Int) (8:Int)))))) :: .a (.b (false)) :: .a (.w 1) :: .a (.w 1) :: .a (.p 1 (2) 43) :: .a (.l 2) :: .a (.i .i64 (nQ:Int)) :: .a (.b (decide ((nQ:Int) > (12:Int)))) :: .a (.b (decide ((nQ:Int) > (12:Int))))::us 49 ([]),[.row a0 41,.one (.r a1 45 [(2,2)]) 45,.sl (.came bQ) nQ aQ 82],[]⟩:St)
def Zhx:Bool×Int×Int→LS
 | (y0_4,y0_5,y0_6)=>([.a (.b (y0_4)),.a (.i .i64 (y0_5)),.a (.i .i64 (y0_6))],[])
def Zpn:(Stp (Bool×Int×Int) (Bool×Int×Int))→Exit×LS
 | .more t=>(.ret,Zhx t)
 | .done t=>((.exit 0),Zhx t)
def Zd3 (P : Program) (a0 a1 : Array Value) (bQ : Option (Option Addr)) (nQ : Nat) (aQ : Array Value) : Bool × Int × Int → Option (Stp (Bool × Int × Int) (Stp (Bool × Int × Int) (Bool × Int × Int)))
 | (y0_4, y0_5, y0_6) => bif decide (y0_6 < (nQ : Int)) then (bif (decide (0 ≤ y0_6) && decide (y0_6 < (nQ : Int))) then (bif (Zay (i64.wrap (num (aQ.extract ((y0_6).toNat * 3) (((y0_6).toNat * 3) + 3)) 0)) a0) then (bif (!((Zac (i64.wrap (num (aQ.extract ((y0_6).toNat * 3) (((y0_6).toNat * 3) + 3)) 0)) a0))) then (some (.done (.more (false, y0_5, y0_6))))
     else (bif (!((Zaa (i64.wrap (num (aQ.extract ((y0_6).toNat * 3) (((y0_6).toNat * 3) + 3)) 1)) (0 : Int) (i64.wrap ((i64.wrap (num a1 1)) - (1 : Int)))))) then (some (.done (.more (false, y0_5, y0_6))))
      else (bif (!((Zaa (i64.wrap (num (aQ.extract ((y0_6).toNat * 3) (((y0_6).toNat * 3) + 3)) 2)) (1 : Int) (200 : Int)))) then (some (.done (.more (false, y0_5, y0_6))))
       else (some (.more (y0_4, (i64.wrap (y0_5 + (i64.wrap (num (aQ.extract ((y0_6).toNat * 3) (((y0_6).toNat * 3) + 3)) 2)))), (i64.wrap (y0_6 + (1 : Int)))))))))
    else (none))
   else (none))
  else (some (.done (.done (y0_4, y0_5, y0_6))))
theorem Ygo (N:Nat) (a0 a1:Array Value) (bQ:Option (Option Addr)) (nQ:Nat) (aQ:Array Value):∀ t:Bool×Int×Int,Uai PZ Zfc N (cAt (codeOf Tryz.f54) [1,1,1,0,1,0,0]) (pAt (Uaa (codeOf Tryz.f54) [([4,5,6],[])]).1 [1,1,1,0,1,0]) [4,5,6] [] (Zgm a0 a1 bQ nQ aQ) (Zhx t)=mapS Zhx Zpn (Zd3 PZ a0 a1 bQ nQ aQ t):=by
 rintro ⟨y0_4,y0_5,y0_6⟩
 refine Eq.trans (b:=(bif decide (y0_6<(nQ:Int)) then (bif (decide (0≤y0_6)&&decide (y0_6<(nQ:Int))) then (bif (Zay (i64.wrap (num (aQ.extract ((y0_6).toNat*3) (((y0_6).toNat*3)+3)) 0)) a0) then (bif (!((Zac (i64.wrap (num (aQ.extract ((y0_6).toNat*3) (((y0_6).toNat*3)+3)) 0)) a0))) then (some (.done (.ret,([.a (.b (false)),.a (.i .i64 (y0_5)),.a (.i .i64 (y0_6))],[]))))
     else (bif (!((Zaa (i64.wrap (num (aQ.extract ((y0_6).toNat*3) (((y0_6).toNat*3)+3)) 1)) (0:Int) (i64.wrap ((i64.wrap (num a1 1)) - (1:Int)))))) then (some (.done (.ret,([.a (.b (false)),.a (.i .i64 (y0_5)),.a (.i .i64 (y0_6))],[]))))
      else (bif (!((Zaa (i64.wrap (num (aQ.extract ((y0_6).toNat*3) (((y0_6).toNat*3)+3)) 2)) (1:Int) (200:Int)))) then (some (.done (.ret,([.a (.b (false)),.a (.i .i64 (y0_5)),.a (.i .i64 (y0_6))],[]))))
       else (some (.more ([.a (.b (y0_4)),.a (.i .i64 (i64.wrap (y0_5+(i64.wrap (num (aQ.extract ((y0_6).toNat*3) (((y0_6).toNat*3)+3)) 2))))),.a (.i .i64 (i64.wrap (y0_6+(1:Int))))],[]))))))
    else (none))
   else (none))
  else (some (.done ((.exit 0),([.a (.b (y0_4)),.a (.i .i64 (y0_5)),.a (.i .i64 (y0_6))],[])))))) (by kernel_rfl) ?_
 simp only [Zd3,Za3,Za4,Za5,Za2,Zhx,Zpn]
def Zm3 (P:Program) (N:Nat) (a0 a1:Array Value) (bQ:Option (Option Addr)) (nQ:Nat) (aQ:Array Value) (z0_4:Bool) (z0_5:Int) (z0_6:Int):Option (SV×Eff×Bool):=some (.a (.b (z0_4)),.none,true)
theorem Zxw (N:Nat) (a0 a1:Array Value) (bQ:Option (Option Addr)) (nQ:Nat) (aQ:Array Value) (z0_4:Bool) (z0_5:Int) (z0_6:Int):(Uab 0 (kSeq (veC PZ Zfc N (cAt (codeOf Tryz.f54) [1,1,1,1]) (pAt (Uaa (codeOf Tryz.f54) [([4,5,6],[])]).1 [1,1,1,1]) (SV×Eff×Bool)) (finK PZ [.row a0 41,.one (.r a1 45 [(2,2)]) 45,.sl (.came bQ) nQ aQ 82] [.tmp 4]))) .ret (left (writes (cAt (codeOf Tryz.f54) [1,1,1,0,1,0,0])) [4,5,6] [] (Zgm a0 a1 bQ nQ aQ) ([.a (.b (z0_4)),.a (.i .i64 (z0_5)),.a (.i .i64 (z0_6))],[]))=Zm3 PZ N a0 a1 bQ nQ aQ z0_4 z0_5 z0_6:=by
 refine Eq.trans (b:=(some (.a (.b (z0_4)),.none,true))) (by kernel_rfl) ?_
 rfl
def Zl9 (P:Program) (N:Nat) (a0 a1:Array Value) (bQ:Option (Option Addr)) (nQ:Nat) (aQ:Array Value) (z0_4:Bool) (z0_5:Int) (z0_6:Int):Option (SV×Eff×Bool):=some (.a (.b (decide (z0_5≤(1000:Int)))),.none,true)
theorem Zwp (N:Nat) (a0 a1:Array Value) (bQ:Option (Option Addr)) (nQ:Nat) (aQ:Array Value) (z0_4:Bool) (z0_5:Int) (z0_6:Int):(Uab 0 (kSeq (veC PZ Zfc N (cAt (codeOf Tryz.f54) [1,1,1,1]) (pAt (Uaa (codeOf Tryz.f54) [([4,5,6],[])]).1 [1,1,1,1]) (SV×Eff×Bool)) (finK PZ [.row a0 41,.one (.r a1 45 [(2,2)]) 45,.sl (.came bQ) nQ aQ 82] [.tmp 4]))) (.exit 0) (left (writes (cAt (codeOf Tryz.f54) [1,1,1,0,1,0,0])) [4,5,6] [] (Zgm a0 a1 bQ nQ aQ) ([.a (.b (z0_4)),.a (.i .i64 (z0_5)),.a (.i .i64 (z0_6))],[]))=Zl9 PZ N a0 a1 bQ nQ aQ z0_4 z0_5 z0_6:=by
 refine Eq.trans (b:=(some (.a (.b (decide (z0_5≤(1000:Int)))),.none,true))) (by kernel_rfl) ?_
 rfl
theorem Yg6 (N:Nat) (a0 a1:Array Value) (bQ:Option (Option Addr)) (nQ:Nat) (aQ:Array Value):Uag (Uac (Uai PZ Zfc N (cAt (codeOf Tryz.f54) [1,1,1,0,1,0,0]) (pAt (Uaa (codeOf Tryz.f54) [([4,5,6],[])]).1 [1,1,1,0,1,0]) [4,5,6] [] (Zgm a0 a1 bQ nQ aQ)) N ([.a (.b (false)),.a (.i .i64 (0:Int)),.a (.i .i64 (0:Int))],[])) (fun e s=>(Uab 0 (kSeq (veC PZ Zfc N (cAt (codeOf Tryz.f54) [1,1,1,1]) (pAt (Uaa (codeOf Tryz.f54) [([4,5,6],[])]).1 [1,1,1,1]) (SV×Eff×Bool)) (finK PZ [.row a0 41,.one (.r a1 45 [(2,2)]) 45,.sl (.came bQ) nQ aQ 82] [.tmp 4]))) e (left (writes (cAt (codeOf Tryz.f54) [1,1,1,0,1,0,0])) [4,5,6] [] (Zgm a0 a1 bQ nQ aQ) s))=Ual (Uac (Zd3 PZ a0 a1 bQ nQ aQ) N (false,(0:Int),(0:Int))) (st2 (fun x=>Zm3 PZ N a0 a1 bQ nQ aQ x.1 x.2.1 x.2.2) (fun x=>Zl9 PZ N a0 a1 bQ nQ aQ x.1 x.2.1 x.2.2)):=by
 refine Zbg Zhx Zpn _ _ (Ygo N a0 a1 bQ nQ aQ) N (false,(0:Int),(0:Int)) _ _ ?_
 intro x
 cases x with
 | more x=>exact Zxw N a0 a1 bQ nQ aQ x.1 x.2.1 x.2.2
 | done x=>exact Zwp N a0 a1 bQ nQ aQ x.1 x.2.1 x.2.2
theorem Yeq (N:Nat) (a0 a1:Array Value) (bQ:Option (Option Addr)) (nQ:Nat) (aQ:Array Value):ansV PZ Zfc N Tryz.f54 [([4,5,6],[])] [.w 0,.w 1] [.row a0 41,.one (.r a1 45 [(2,2)]) 45,.sl (.came bQ) nQ aQ 82]=(bif (!((Zaa (i64.wrap (num a1 0)) (0:Int) (1:Int)))) then (some (.a (.b (false)),.none,true))
  else (bif (!((Zaa (i64.wrap (num a1 1)) (1:Int) (8:Int)))) then (some (.a (.b (false)),.none,true))
   else (bif decide ((nQ:Int) > (12:Int)) then (some (.a (.b (false)),.none,true))
    else (Ual (Uac (Zd3 PZ a0 a1 bQ nQ aQ) N (false,(0:Int),(0:Int))) (st2 (fun x=>Zm3 PZ N a0 a1 bQ nQ aQ x.1 x.2.1 x.2.2) (fun x=>Zl9 PZ N a0 a1 bQ nQ aQ x.1 x.2.1 x.2.2)))))):=by
 refine Eq.trans (b:=(bif (!((Zaa (i64.wrap (num a1 0)) (0:Int) (1:Int)))) then (some (.a (.b (false)),.none,true))
  else (bif (!((Zaa (i64.wrap (num a1 1)) (1:Int) (8:Int)))) then (some (.a (.b (false)),.none,true))
   else (bif decide ((nQ:Int) > (12:Int)) then (some (.a (.b (false)),.none,true))
    else (Uag (Uac (Uai PZ Zfc N (cAt (codeOf Tryz.f54) [1,1,1,0,1,0,0]) (pAt (Uaa (codeOf Tryz.f54) [([4,5,6],[])]).1 [1,1,1,0,1,0]) [4,5,6] [] (Zgm a0 a1 bQ nQ aQ)) N ([.a (.b (false)),.a (.i .i64 (0:Int)),.a (.i .i64 (0:Int))],[])) (fun e s=>(Uab 0 (kSeq (veC PZ Zfc N (cAt (codeOf Tryz.f54) [1,1,1,1]) (pAt (Uaa (codeOf Tryz.f54) [([4,5,6],[])]).1 [1,1,1,1]) (SV×Eff×Bool)) (finK PZ [.row a0 41,.one (.r a1 45 [(2,2)]) 45,.sl (.came bQ) nQ aQ 82] [.tmp 4]))) e (left (writes (cAt (codeOf Tryz.f54) [1,1,1,0,1,0,0])) [4,5,6] [] (Zgm a0 a1 bQ nQ aQ) s))))))) (by kernel_rfl) ?_
 simp only [Yg6 N a0 a1 bQ nQ aQ]
theorem Yci (a0 a1:Array Value) (bQ:Option (Option Addr)) (nQ:Nat) (aQ:Array Value) (h_a0:WT PZ 41 a0) (h_a1:WT PZ 45 a1) (h_a1x2:aQ.size=nQ*(lay PZ 82).length∧(∀ k,k<nQ→WT PZ 82 (aQ.extract (k*(lay PZ 82).length) (k*(lay PZ 82).length+(lay PZ 82).length)))∧nQ≤9223372036854775807) (hg:(true)=true):ansV PZ Zfc 18446744073709551616 Tryz.f54 [([4,5,6],[])] [.w 0,.w 1] [.row a0 41,.one (.r a1 45 [(2,2)]) 45,.sl (.came bQ) nQ aQ 82]=some (.a (.b ((Ua7 a0 a1 nQ aQ))),.none,true):=by
 have hn:=h_a1x2.2.2
 refine (Yeq 18446744073709551616 a0 a1 bQ nQ aQ).trans ?_
 unfold Ua7
 cases Zaa (i64.wrap (num a1 0)) 0 1
 ·rfl
 cases Zaa (i64.wrap (num a1 1)) 1 8
 ·rfl
 cases decide ((nQ:Int) > 12)
 rotate_left
 ·rfl
 simp only [Bool.not_true,Bool.not_false,Q2,Bool.true_and]
 have wet:∀ k,Zay (i64.wrap (num (aQ.extract (k*3) (k*3+3)) 0)) a0=true:=fun k=>by
  unfold Zay
  cases Zaz (i64.wrap (num (aQ.extract (k*3) (k*3+3)) 0)) a0
  ·rfl
  ·exact Q3 (Zh7 .u64 _).1
 refine (Zzv (g:=Zd3 PZ a0 a1 bQ nQ aQ) (fun k=>(false,wsum aQ k,(k:Int))) (fun k=>relB a0 (i64.wrap (num a1 1)) (aQ.extract (k*3) (k*3+3))) nQ (N:=18446744073709551616) (xd:=.done (false,wsum aQ nQ,(nQ:Int))) (by omega) (fun k hk hp=>by
  have h1:decide ((k:Int)<(nQ:Int))=true:=Q3 (by omega)
  have h0:decide (0≤(k:Int))=true:=Q3 (by omega)
  have h3:i64.wrap ((k:Int)+1)=((k+1:Nat):Int):=by rw [IntWalk.i64_in _ (by omega)];omega
  have hp':relB a0 (i64.wrap (num a1 1)) (aQ.extract (k*3) (k*3+3))=true:=hp
  unfold relB at hp'
  simp only [Q7] at hp'
  simp only [Zd3,h1,h0,h3,Bool.and_self,Q9,Q1,Q2,wet,hp'.1,hp'.2.1,hp'.2.2,Bool.not_true]
  rfl) (by
  have h1:decide ((nQ:Int)<(nQ:Int))=false:=Q4 (by omega)
  simp only [Zd3,h1,Q2]) (Uc7 a0 (i64.wrap (num a1 1)) nQ aQ) (Yf4 a0 _ nQ aQ) (some (.a (.b (decide (wsum aQ nQ≤1000))),.none,true)) (some (.a (.b false),.none,true)) rfl (fun k hk hp=>by
  refine ⟨.more (false,wsum aQ k,(k:Int)), ?_,rfl⟩
  have h1:decide ((k:Int)<(nQ:Int))=true:=Q3 (by omega)
  have h0:decide (0≤(k:Int))=true:=Q3 (by omega)
  have h3:i64.wrap ((k:Int)+1)=((k+1:Nat):Int):=by rw [IntWalk.i64_in _ (by omega)];omega
  have hp':relB a0 (i64.wrap (num a1 1)) (aQ.extract (k*3) (k*3+3))=false:=hp
  unfold relB at hp'
  cases x1:Zac (i64.wrap (num (aQ.extract (k*3) (k*3+3)) 0)) a0
  ·simp only [Zd3,h1,h0,h3,Bool.and_self,Q9,Q1,wet,x1,Bool.not_false]
  ·cases x2:Zaa (i64.wrap (num (aQ.extract (k*3) (k*3+3)) 1)) 0 (i64.wrap (i64.wrap (num a1 1) - 1))
   ·simp only [Zd3,h1,h0,h3,Bool.and_self,Q9,Q1,Q2,wet,x1,x2,Bool.not_true,Bool.not_false]
   ·rw [x1,x2] at hp'
    simp only [Bool.true_and] at hp'
    simp only [Zd3,h1,h0,h3,Bool.and_self,Q9,Q1,Q2,wet,x1,x2,hp',Bool.not_true,Bool.not_false])).trans ?_
 cases Uc7 a0 (i64.wrap (num a1 1)) nQ aQ<;>rfl
def Zn0:Con:=fun args h=>match args,h with
 | [.w 0,.w 1],[.row a0 41,.one (.r a1 45 [(2,2)]) 45,.sl (.came bQ) nQ aQ 82]=>some (.a (.b ((Ua7 a0 a1 nQ aQ))),.none,true)
 | _,_=>none
theorem Yaw:EntX PZ 54:=Zag (fn:=Tryz.f54) (by kernel_rfl) (by kernel_rfl) (by kernel_rfl)
theorem Yhf:Uad mn PZ 54 Zn0:=(Zai (N:=18446744073709551616) (by kernel_rfl) (mkΓ_consX (Zad Zk3) Zhv (mkΓ_consX (Zad Zjn) Zgp (mkΓ_consX (Zad Yct) Zxk mkΓ_nilX))) (fn:=Tryz.f54) (by kernel_rfl) (by kernel_rfl) [([4,5,6],[])]).of (by
 intro ρ h w args vals r e hA hH hr
 unfold Zn0 at hr
 split at hr
 ·rename_i a0 a1 bQ nQ aQ
  obtain ⟨rfl,rfl,hg2⟩:=BQi hr
  exact Yci a0 a1 bQ nQ aQ (hH.wt 0 rfl) (hH.wtr 1 rfl) (hH.slw 2 rfl) hg2
 ·cases hr)
def Zcz:Cons:=(mkΓ [(50,con Zge),(70,con Zkj),(71,con Ze0),(85,con Zh0),(108,con Zhf)])
def Zdw (a0 a1:Array Value) (bQ:Option (Option Addr)) (nQ:Nat) (aQ:Array Value):St:=(⟨.a (.g a0 41) :: .a (.r a1 45 [(2,0)]) :: .a (.w 1) :: .a (.w 2) :: .a (.b (false)) :: .a (.w 7) :: .a (.u) :: .a (.u) :: .a (.g a0 41) :: .a (.r a1 45 [(2,0)]) :: .a (.r ((spl (spl (zc PZ 73) 0 (#[.int .i64 (i64.wrap (num a1 0)),.int .i64 (i64.wrap (num a1 1))]:Array Value).toList) 2 a0.toList).setIfInBounds 365 (.slice none 0 0)) 73 [(365,0)]) :: .a (.g a0 41) :: .a (.b ((okS a0))) :: .a (.b ((!((okS a0))))) :: .a (.b (false)) :: .a (.p 7 (0) 71) :: .a (.g (((spl (spl (zc PZ 73) 0 (#[.int .i64 (i64.wrap (num a1 0)),.int .i64 (i64.wrap (num a1 1))]:Array Value).toList) 2 a0.toList).setIfInBounds 365 (.slice none 0 0)).extract 0 (0+2)) 71) :: .a (.b ((Zau (((spl (spl (zc PZ 73) 0 (#[.int .i64 (i64.wrap (num a1 0)),.int .i64 (i64.wrap (num a1 1))]:Array Value).toList) 2 a0.toList).setIfInBounds 365 (.slice none 0 0)).extract 0 (0+2))))) :: .a (.b ((!((Zau (((spl (spl (zc PZ 73) 0 (#[.int .i64 (i64.wrap (num a1 0)),.int .i64 (i64.wrap (num a1 1))]:Array Value).toList) 2 a0.toList).setIfInBounds 365 (.slice none 0 0)).extract 0 (0+2))))))) :: .a (.b ((!((Zau (((spl (spl (zc PZ 73) 0 (#[.int .i64 (i64.wrap (num a1 0)),.int .i64 (i64.wrap (num a1 1))]:Array Value).toList) 2 a0.toList).setIfInBounds 365 (.slice none 0 0)).extract 0 (0+2))))))) :: .a (.b (false)) :: .a (.p 2 (2) 43) :: .a (.l 0) :: .a (.i .i64 (nQ:Int)) :: .a (.b (decide ((nQ:Int) > (12:Int)))) :: .a (.b (decide ((nQ:Int) > (12:Int)))) :: .a (.p 2 (2) 43) :: .a (.l 0) :: .a (.i .i64 (nQ:Int)) :: .a (.i .i64 (0:Int))::us 11 ([]),[.sl (.came bQ) nQ aQ 82,.row a0 41,.one (.r a1 45 [(2,0)]) 45,.no,.no,.no,.no,.one (.r ((spl (spl (zc PZ 73) 0 (#[.int .i64 (i64.wrap (num a1 0)),.int .i64 (i64.wrap (num a1 1))]:Array Value).toList) 2 a0.toList).setIfInBounds 365 (.slice none 0 0)) 73 [(365,0)]) 73,.no],[7]⟩:St)
def Zex:Bool×Int→LS
 | (y0_4,y0_29)=>([.a (.b (y0_4)),.a (.i .i64 (y0_29))],[])
def Zky:(Stp (Bool×Int) (Bool×Int))→Exit×LS
 | .more t=>(.ret,Zex t)
 | .done t=>((.exit 0),Zex t)
def Zc4 (P : Program) (a0 a1 : Array Value) (bQ : Option (Option Addr)) (nQ : Nat) (aQ : Array Value) : Bool × Int → Option (Stp (Bool × Int) (Stp (Bool × Int) (Bool × Int)))
 | (y0_4, y0_29) => bif decide (y0_29 < (nQ : Int)) then (bif (decide (0 ≤ y0_29) && decide (y0_29 < (nQ : Int))) then (bif (Zck ((spl (spl (zc PZ 73) 0 (#[.int .i64 (i64.wrap (num a1 0)), .int .i64 (i64.wrap (num a1 1))] : Array Value).toList) 2 a0.toList).setIfInBounds 365 (.slice none 0 0)) (aQ.extract ((y0_29).toNat * 3) (((y0_29).toNat * 3) + 3)) bQ nQ aQ) then (bif (!((Zcm ((spl (spl (zc PZ 73) 0 (#[.int .i64 (i64.wrap (num a1 0)), .int .i64 (i64.wrap (num a1 1))] : Array Value).toList) 2 a0.toList).setIfInBounds 365 (.slice none 0 0)) (aQ.extract ((y0_29).toNat * 3) (((y0_29).toNat * 3) + 3)) bQ nQ aQ))) then (some (.done (.more (false, y0_29))))
     else (some (.more (y0_4, (i64.wrap (y0_29 + (1 : Int)))))))
    else (none))
   else (none))
  else (some (.done (.done (y0_4, y0_29))))
theorem Zz8 (N:Nat) (a0 a1:Array Value) (bQ:Option (Option Addr)) (nQ:Nat) (aQ:Array Value):∀ t:Bool×Int,Uai PZ Zcz N (cAt (codeOf Tryz.f84) [1,1,1,0,1,0,0]) (pAt (Uaa (codeOf Tryz.f84) [([4,29],[])]).1 [1,1,1,0,1,0]) [4,29] [] (Zdw a0 a1 bQ nQ aQ) (Zex t)=mapS Zex Zky (Zc4 PZ a0 a1 bQ nQ aQ t):=by
 rintro ⟨y0_4,y0_29⟩
 refine Eq.trans (b:=(bif decide (y0_29<(nQ:Int)) then (bif (decide (0≤y0_29)&&decide (y0_29<(nQ:Int))) then (bif (Zck ((spl (spl (zc PZ 73) 0 (#[.int .i64 (i64.wrap (num a1 0)),.int .i64 (i64.wrap (num a1 1))]:Array Value).toList) 2 a0.toList).setIfInBounds 365 (.slice none 0 0)) (aQ.extract ((y0_29).toNat*3) (((y0_29).toNat*3)+3)) bQ nQ aQ) then (bif (!((Zcm ((spl (spl (zc PZ 73) 0 (#[.int .i64 (i64.wrap (num a1 0)),.int .i64 (i64.wrap (num a1 1))]:Array Value).toList) 2 a0.toList).setIfInBounds 365 (.slice none 0 0)) (aQ.extract ((y0_29).toNat*3) (((y0_29).toNat*3)+3)) bQ nQ aQ))) then (some (.done (.ret,([.a (.b (false)),.a (.i .i64 (y0_29))],[]))))
     else (some (.more ([.a (.b (y0_4)),.a (.i .i64 (i64.wrap (y0_29+(1:Int))))],[]))))
    else (none))
   else (none))
  else (some (.done ((.exit 0),([.a (.b (y0_4)),.a (.i .i64 (y0_29))],[])))))) (by kernel_rfl) ?_
 simp only [Zc4,Za3,Za4,Za5,Za2,Zex,Zky]
def Ziy (P:Program) (N:Nat) (a0 a1:Array Value) (bQ:Option (Option Addr)) (nQ:Nat) (aQ:Array Value) (z0_4:Bool) (z0_29:Int):Option (SV×Eff×Bool):=some (.a (.b (z0_4)),.none,true)
theorem Zqp (N:Nat) (a0 a1:Array Value) (bQ:Option (Option Addr)) (nQ:Nat) (aQ:Array Value) (z0_4:Bool) (z0_29:Int):(Uab 0 (kSeq (veC PZ Zcz N (cAt (codeOf Tryz.f84) [1,1,1,1]) (pAt (Uaa (codeOf Tryz.f84) [([4,29],[])]).1 [1,1,1,1]) (SV×Eff×Bool)) (finK PZ [.sl (.came bQ) nQ aQ 82] [.tmp 4]))) .ret (left (writes (cAt (codeOf Tryz.f84) [1,1,1,0,1,0,0])) [4,29] [] (Zdw a0 a1 bQ nQ aQ) ([.a (.b (z0_4)),.a (.i .i64 (z0_29))],[]))=Ziy PZ N a0 a1 bQ nQ aQ z0_4 z0_29:=by
 refine Eq.trans (b:=(some (.a (.b (z0_4)),.none,true))) (by kernel_rfl) ?_
 rfl
def Zi2 (P:Program) (N:Nat) (a0 a1:Array Value) (bQ:Option (Option Addr)) (nQ:Nat) (aQ:Array Value) (z0_4:Bool) (z0_29:Int):Option (SV×Eff×Bool):=some (.a (.b (decide ((wsum aQ nQ)≤(1000:Int)))),.none,true)
theorem Zqq (N:Nat) (a0 a1:Array Value) (bQ:Option (Option Addr)) (nQ:Nat) (aQ:Array Value) (z0_4:Bool) (z0_29:Int):(Uab 0 (kSeq (veC PZ Zcz N (cAt (codeOf Tryz.f84) [1,1,1,1]) (pAt (Uaa (codeOf Tryz.f84) [([4,29],[])]).1 [1,1,1,1]) (SV×Eff×Bool)) (finK PZ [.sl (.came bQ) nQ aQ 82] [.tmp 4]))) (.exit 0) (left (writes (cAt (codeOf Tryz.f84) [1,1,1,0,1,0,0])) [4,29] [] (Zdw a0 a1 bQ nQ aQ) ([.a (.b (z0_4)),.a (.i .i64 (z0_29))],[]))=Zi2 PZ N a0 a1 bQ nQ aQ z0_4 z0_29:=by
 refine Eq.trans (b:=(some (.a (.b (decide ((wsum aQ nQ)≤(1000:Int)))),.none,true))) (by kernel_rfl) ?_
 rfl
theorem Zzb (N:Nat) (a0 a1:Array Value) (bQ:Option (Option Addr)) (nQ:Nat) (aQ:Array Value):Uag (Uac (Uai PZ Zcz N (cAt (codeOf Tryz.f84) [1,1,1,0,1,0,0]) (pAt (Uaa (codeOf Tryz.f84) [([4,29],[])]).1 [1,1,1,0,1,0]) [4,29] [] (Zdw a0 a1 bQ nQ aQ)) N ([.a (.b (false)),.a (.i .i64 (0:Int))],[])) (fun e s=>(Uab 0 (kSeq (veC PZ Zcz N (cAt (codeOf Tryz.f84) [1,1,1,1]) (pAt (Uaa (codeOf Tryz.f84) [([4,29],[])]).1 [1,1,1,1]) (SV×Eff×Bool)) (finK PZ [.sl (.came bQ) nQ aQ 82] [.tmp 4]))) e (left (writes (cAt (codeOf Tryz.f84) [1,1,1,0,1,0,0])) [4,29] [] (Zdw a0 a1 bQ nQ aQ) s))=Ual (Uac (Zc4 PZ a0 a1 bQ nQ aQ) N (false,(0:Int))) (st2 (fun x=>Ziy PZ N a0 a1 bQ nQ aQ x.1 x.2) (fun x=>Zi2 PZ N a0 a1 bQ nQ aQ x.1 x.2)):=by
 refine Zbg Zex Zky _ _ (Zz8 N a0 a1 bQ nQ aQ) N (false,(0:Int)) _ _ ?_
 intro x
 cases x with
 | more x=>exact Zqp N a0 a1 bQ nQ aQ x.1 x.2
 | done x=>exact Zqq N a0 a1 bQ nQ aQ x.1 x.2
theorem Zx2 (N:Nat) (a0 a1:Array Value) (bQ:Option (Option Addr)) (nQ:Nat) (aQ:Array Value):ansV PZ Zcz N Tryz.f84 [([4,29],[])] [.g a0 41,.r a1 45 [(2,0)]] [.sl (.came bQ) nQ aQ 82]=(bif (!((okS a0))) then (some (.a (.b (false)),.none,true))
  else (bif (!((Zau (((spl (spl (zc PZ 73) 0 (#[.int .i64 (i64.wrap (num a1 0)),.int .i64 (i64.wrap (num a1 1))]:Array Value).toList) 2 a0.toList).setIfInBounds 365 (.slice none 0 0)).extract 0 (0+2))))) then (some (.a (.b (false)),.none,true))
   else (bif decide ((nQ:Int) > (12:Int)) then (some (.a (.b (false)),.none,true))
    else (Ual (Uac (Zc4 PZ a0 a1 bQ nQ aQ) N (false,(0:Int))) (st2 (fun x=>Ziy PZ N a0 a1 bQ nQ aQ x.1 x.2) (fun x=>Zi2 PZ N a0 a1 bQ nQ aQ x.1 x.2)))))):=by
 refine Eq.trans (b:=(bif (!((okS a0))) then (some (.a (.b (false)),.none,true))
  else (bif (!((Zau (((spl (spl (zc PZ 73) 0 (#[.int .i64 (i64.wrap (num a1 0)),.int .i64 (i64.wrap (num a1 1))]:Array Value).toList) 2 a0.toList).setIfInBounds 365 (.slice none 0 0)).extract 0 (0+2))))) then (some (.a (.b (false)),.none,true))
   else (bif decide ((nQ:Int) > (12:Int)) then (some (.a (.b (false)),.none,true))
    else (Uag (Uac (Uai PZ Zcz N (cAt (codeOf Tryz.f84) [1,1,1,0,1,0,0]) (pAt (Uaa (codeOf Tryz.f84) [([4,29],[])]).1 [1,1,1,0,1,0]) [4,29] [] (Zdw a0 a1 bQ nQ aQ)) N ([.a (.b (false)),.a (.i .i64 (0:Int))],[])) (fun e s=>(Uab 0 (kSeq (veC PZ Zcz N (cAt (codeOf Tryz.f84) [1,1,1,1]) (pAt (Uaa (codeOf Tryz.f84) [([4,29],[])]).1 [1,1,1,1]) (SV×Eff×Bool)) (finK PZ [.sl (.came bQ) nQ aQ 82] [.tmp 4]))) e (left (writes (cAt (codeOf Tryz.f84) [1,1,1,0,1,0,0])) [4,29] [] (Zdw a0 a1 bQ nQ aQ) s))))))) (by kernel_rfl) ?_
 simp only [Zzb N a0 a1 bQ nQ aQ]
theorem Zue (a0 a1:Array Value) (bQ:Option (Option Addr)) (nQ:Nat) (aQ:Array Value) (h_a0:WT PZ 41 a0) (h_a1:WT PZ 45 a1) (h_a1x2:aQ.size=nQ*(lay PZ 82).length∧(∀ k,k<nQ→WT PZ 82 (aQ.extract (k*(lay PZ 82).length) (k*(lay PZ 82).length+(lay PZ 82).length)))∧nQ≤9223372036854775807) (hg:(true)=true):ansV PZ Zcz 18446744073709551616 Tryz.f84 [([4,29],[])] [.g a0 41,.r a1 45 [(2,0)]] [.sl (.came bQ) nQ aQ 82]=some (.a (.b ((okS a0&&Ua7 a0 a1 nQ aQ))),.none,true):=by
 have hn:=h_a1x2.2.2
 have hS:=h_a0
 have hz:a0.size=363:=by rw [h_a0.layLen];kernel_rfl
 obtain ⟨v1,v2⟩:=Yh8 (p:=a1) hz
 obtain ⟨-,b0⟩:=h_a1.int (o:=0) (k:=.i8) (by kernel_rfl)
 obtain ⟨-,b1⟩:=h_a1.int (o:=1) (k:=.i8) (by kernel_rfl)
 have e1:IntKind.i8.min = -128:=rfl
 have e2:IntKind.i8.max=127:=rfl
 have w1: -128≤i64.wrap (num a1 1)∧i64.wrap (num a1 1)≤127:=by rw [IntWalk.i64_in _ (by omega)];omega
 have hRE:(lay PZ 82).length=3:=by kernel_rfl
 refine (Zx2 18446744073709551616 a0 a1 bQ nQ aQ).trans ?_
 cases hok:okS a0
 ·rfl
 have hr:Zau (((spl (spl (zc PZ 73) 0 (#[.int .i64 (i64.wrap (num a1 0)),.int .i64 (i64.wrap (num a1 1))]:Array Value).toList) 2 a0.toList).setIfInBounds 365 (.slice none 0 0)).extract 0 (0+2))=(Zaa (i64.wrap (num a1 0)) 0 1&&Zaa (i64.wrap (num a1 1)) 1 8):=by
  rw [v2]
  unfold Zau
  rw [tide_eq]
  show (bif Zaa (i64.wrap (num a1 0)) 0 1 then Zaa (i64.wrap (num a1 1)) 1 8 else false)=_
  cases Zaa (i64.wrap (num a1 0)) 0 1<;>rfl
 unfold Ua7
 rw [hr]
 cases Zaa (i64.wrap (num a1 0)) 0 1
 ·rfl
 cases Zaa (i64.wrap (num a1 1)) 1 8
 ·rfl
 cases decide ((nQ:Int) > 12)
 rotate_left
 ·rfl
 simp only [Bool.not_true,Bool.not_false,Q2,Bool.true_and,Bool.and_self]
 have tk:=fun k hk=>takes_eq (S:=a0) (V:=((spl (spl (zc PZ 73) 0 (#[.int .i64 (i64.wrap (num a1 0)),.int .i64 (i64.wrap (num a1 1))]:Array Value).toList) 2 a0.toList).setIfInBounds 365 (.slice none 0 0))) (X:=aQ.extract (k*3) (k*3+3)) bQ nQ aQ hS v1 v2 w1 (by have:=h_a1x2.2.1 k hk;rw [hRE] at this;exact this)
 refine (Zzv (g:=Zc4 PZ a0 a1 bQ nQ aQ) (fun k=>(false,(k:Int))) (fun k=>relB a0 (i64.wrap (num a1 1)) (aQ.extract (k*3) (k*3+3))) nQ (N:=18446744073709551616) (xd:=.done (false,(nQ:Int))) (by omega) (fun k hk hp=>by
  have h1:decide ((k:Int)<(nQ:Int))=true:=Q3 (by omega)
  have h0:decide (0≤(k:Int))=true:=Q3 (by omega)
  have h3:i64.wrap ((k:Int)+1)=((k+1:Nat):Int):=by rw [IntWalk.i64_in _ (by omega)];omega
  have hp':relB a0 (i64.wrap (num a1 1)) (aQ.extract (k*3) (k*3+3))=true:=hp
  simp only [Zc4,h1,h0,h3,Bool.and_self,Q9,Q1,Q2,(tk k hk).1,(tk k hk).2,hp',Bool.not_true]) (by
  have h1:decide ((nQ:Int)<(nQ:Int))=false:=Q4 (by omega)
  simp only [Zc4,h1,Q2]) (Uc7 a0 (i64.wrap (num a1 1)) nQ aQ) (Yf4 a0 _ nQ aQ) (some (.a (.b (decide (wsum aQ nQ≤1000))),.none,true)) (some (.a (.b false),.none,true)) rfl (fun k hk hp=>by
  refine ⟨.more (false,(k:Int)), ?_,rfl⟩
  have h1:decide ((k:Int)<(nQ:Int))=true:=Q3 (by omega)
  have h0:decide (0≤(k:Int))=true:=Q3 (by omega)
  have h3:i64.wrap ((k:Int)+1)=((k+1:Nat):Int):=by rw [IntWalk.i64_in _ (by omega)];omega
  have hp':relB a0 (i64.wrap (num a1 1)) (aQ.extract (k*3) (k*3+3))=false:=hp
  simp only [Zc4,h1,h0,h3,Bool.and_self,Q9,Q1,Q2,(tk k hk).1,(tk k hk).2,hp',Bool.not_false])).trans ?_
 cases Uc7 a0 (i64.wrap (num a1 1)) nQ aQ<;>rfl
def Zjs:Con:=fun args h=>match args,h with
 | [.g a0 41,.r a1 45 [(2,0)]],[.sl (.came bQ) nQ aQ 82]=>some (.a (.b ((okS a0&&Ua7 a0 a1 nQ aQ))),.none,true)
 | _,_=>none
theorem Zlx:EntX PZ 84:=Zag (fn:=Tryz.f84) (by kernel_rfl) (by kernel_rfl) (by kernel_rfl)
theorem Zof:Uad mn PZ 84 Zjs:=(Zai (N:=18446744073709551616) (by kernel_rfl) (mkΓ_consX (Zad Zqh) Znq (mkΓ_consX (Zad Ybc) Zux (mkΓ_consX (Zad Zne) Zlp (mkΓ_consX (Zad Zlg) Zi3 (mkΓ_consX (Zad Ztw) Zp4 mkΓ_nilX))))) (fn:=Tryz.f84) (by kernel_rfl) (by kernel_rfl) [([4,29],[])]).of (by
 intro ρ h w args vals r e hA hH hr
 unfold Zjs at hr
 split at hr
 ·rename_i a0 a1 bQ nQ aQ
  obtain ⟨rfl,rfl,hg2⟩:=BQi hr
  exact Zue a0 a1 bQ nQ aQ (hA.wt 0 rfl) (hA.wtr 1 rfl) (hH.slw 0 rfl) hg2
 ·cases hr)
def voyV (P:Program) (a0 a1:Array Value):Array Value:=((spl (spl (zc P 73) 0 (#[.int .i64 (i64.wrap (num a1 0)),.int .i64 (i64.wrap (num a1 1))]:Array Value).toList) 2 a0.toList).setIfInBounds 365 (.slice none 0 0))
def Zn8:Cons:=(mkΓ [(84,con Zjs),(85,con Zh0)])
theorem Zqe (N:Nat) (a0 a1:Array Value) (bQ:Option (Option Addr)) (nQ:Nat) (aQ:Array Value):ansV PZ Zn8 N Tryz.f59 [] [.g a0 41,.r a1 45 [(2,0)]] [.sl (.came bQ) nQ aQ 82]=(bif (!((okS a0&&Ua7 a0 a1 nQ aQ))) then (some (.t [.r (zc PZ 73) 73 [],.v (.iface 117 (.int .i64 (1:Int)))],.none,true))
  else (some (.t [.r ((spl (spl (zc PZ 73) 0 (#[.int .i64 (i64.wrap (num a1 0)),.int .i64 (i64.wrap (num a1 1))]:Array Value).toList) 2 a0.toList).setIfInBounds 365 (.slice none 0 0)) 73 [(365,0)],.v (.nilIface)],.none,true))):=by kernel_rfl
theorem Zwv (a0 a1:Array Value) (bQ:Option (Option Addr)) (nQ:Nat) (aQ:Array Value) (h_a0:WT PZ 41 a0) (h_a1:WT PZ 45 a1) (h_a1x2:aQ.size=nQ*(lay PZ 82).length∧(∀ k,k<nQ→WT PZ 82 (aQ.extract (k*(lay PZ 82).length) (k*(lay PZ 82).length+(lay PZ 82).length)))∧nQ≤9223372036854775807) (hc0:((okS a0&&Ua7 a0 a1 nQ aQ))=false) (hg:(true)=true):ansV PZ Zn8 1000 Tryz.f59 [] [.g a0 41,.r a1 45 [(2,0)]] [.sl (.came bQ) nQ aQ 82]=some (.t [.r (zc PZ 73) 73 [],.v (.iface 117 (.int .i64 (1:Int)))],.none,true):=by
 refine (Zqe 1000 a0 a1 bQ nQ aQ).trans ?_
 simp only [hc0,Bool.not_false,Q1]
theorem Zw6 (a0 a1:Array Value) (bQ:Option (Option Addr)) (nQ:Nat) (aQ:Array Value) (h_a0:WT PZ 41 a0) (h_a1:WT PZ 45 a1) (h_a1x2:aQ.size=nQ*(lay PZ 82).length∧(∀ k,k<nQ→WT PZ 82 (aQ.extract (k*(lay PZ 82).length) (k*(lay PZ 82).length+(lay PZ 82).length)))∧nQ≤9223372036854775807) (hc0:((okS a0&&Ua7 a0 a1 nQ aQ))=true) (hg:(true)=true):ansV PZ Zn8 1000 Tryz.f59 [] [.g a0 41,.r a1 45 [(2,0)]] [.sl (.came bQ) nQ aQ 82]=some (.t [.r (voyV PZ a0 a1) 73 [(365,0)],.v (.nilIface)],.none,true):=by
 unfold voyV
 refine (Zqe 1000 a0 a1 bQ nQ aQ).trans ?_
 simp only [hc0,Bool.not_true,Q2]
def Zks:SCon:=fun args h=>match args,h with
 | [.g a0 41,.r a1 45 [(2,0)]],[.sl (.came bQ) nQ aQ 82]=>.two ((okS a0&&Ua7 a0 a1 nQ aQ)) (.one (some (.t [.r (voyV PZ a0 a1) 73 [(365,0)],.v (.nilIface)],.none,true))) (.one (some (.t [.r (zc PZ 73) 73 [],.v (.iface 117 (.int .i64 (1:Int)))],.none,true)))
 | _,_=>.one none
theorem Zjp:EntX PZ 59:=Zag (fn:=Tryz.f59) (by kernel_rfl) (by kernel_rfl) (by kernel_rfl)
theorem Zlo:Uad mn PZ 59 (fun args h=>Uah (Zks args h)):=by
 intro ρ h w args vals r e hn hr hA hH
 dsimp only at hr
 unfold Zks at hr
 split at hr
 ·rename_i a0 a1 bQ nQ aQ
  simp only [Uah] at hr
  cases hc0:((okS a0&&Ua7 a0 a1 nQ aQ))
  ·rw [hc0] at hr
   simp only [Uah,Q1,Q2] at hr
   obtain ⟨rfl,rfl,hg2⟩:=BQi hr
   exact ((Zai (N:=1000) (by kernel_rfl) (mkΓ_consX (Zad Zof) Zlx (mkΓ_consX (Zad Zlg) Zi3 mkΓ_nilX)) (fn:=Tryz.f59) (by kernel_rfl) (by kernel_rfl) [])) ρ _ w _ vals _ _ hn ((Zwv a0 a1 bQ nQ aQ (hA.wt 0 rfl) (hA.wtr 1 rfl) (hH.slw 0 rfl) hc0 hg2)) hA hH
  ·rw [hc0] at hr
   simp only [Uah,Q1,Q2] at hr
   obtain ⟨rfl,rfl,hg2⟩:=BQi hr
   exact ((Zai (N:=1000) (by kernel_rfl) (mkΓ_consX (Zad Zof) Zlx (mkΓ_consX (Zad Zlg) Zi3 mkΓ_nilX)) (fn:=Tryz.f59) (by kernel_rfl) (by kernel_rfl) [])) ρ _ w _ vals _ _ hn ((Zw6 a0 a1 bQ nQ aQ (hA.wt 0 rfl) (hA.wtr 1 rfl) (hH.slw 0 rfl) hc0 hg2)) hA hH
 ·simp only [Uah] at hr
  cases hr
def Zhs:Cons:=(mkΓw [(59,conS Zks)] [(60,con Zkx)] [] [])
theorem Zje (N:Nat) (a0 a1:Array Value) (a2:Int) (bQ:Option (Option Addr)) (nQ:Nat) (aQ:Array Value):ansV PZ Zhs N Tryz.f31 [] [.g a0 41,.r a1 45 [(2,0)],.i .u64 (a2)] [.sl (.came bQ) nQ aQ 82]=(bif (okS a0&&Ua7 a0 a1 nQ aQ) then (bif (Zdm a0 a2) then (bif (!((Zaf a0 a2))) then (some (.t [.r (zc PZ 73) 73 [],.v (.iface 117 (.int .i64 (2:Int)))],.none,true))
    else (some (.t [.r (voyV PZ a0 a1) 73 [(365,0)],.v (.nilIface)],.none,true)))
   else (none))
  else (some (.t [.r (zc PZ 73) 73 [],.v (.iface 117 (.int .i64 (1:Int)))],.none,true))):=by kernel_rfl
theorem Zsk (a0 a1:Array Value) (a2:Int) (bQ:Option (Option Addr)) (nQ:Nat) (aQ:Array Value) (h_a0:WT PZ 41 a0) (h_a1:WT PZ 45 a1) (h_a2:IntKind.u64.min≤a2∧a2≤IntKind.u64.max) (h_a1x2:aQ.size=nQ*(lay PZ 82).length∧(∀ k,k<nQ→WT PZ 82 (aQ.extract (k*(lay PZ 82).length) (k*(lay PZ 82).length+(lay PZ 82).length)))∧nQ≤9223372036854775807) (hc0:((okS a0&&Ua7 a0 a1 nQ aQ))=false) (hg:(true)=true):ansV PZ Zhs 1000 Tryz.f31 [] [.g a0 41,.r a1 45 [(2,0)],.i .u64 (a2)] [.sl (.came bQ) nQ aQ 82]=some (.t [.r (zc PZ 73) 73 [],.v (.iface 117 (.int .i64 (1:Int)))],.none,true):=by
 refine (Zje 1000 a0 a1 a2 bQ nQ aQ).trans ?_
 simp only [hc0,Q2]
theorem Zrh (a0 a1:Array Value) (a2:Int) (bQ:Option (Option Addr)) (nQ:Nat) (aQ:Array Value) (h_a0:WT PZ 41 a0) (h_a1:WT PZ 45 a1) (h_a2:IntKind.u64.min≤a2∧a2≤IntKind.u64.max) (h_a1x2:aQ.size=nQ*(lay PZ 82).length∧(∀ k,k<nQ→WT PZ 82 (aQ.extract (k*(lay PZ 82).length) (k*(lay PZ 82).length+(lay PZ 82).length)))∧nQ≤9223372036854775807) (hc0:((okS a0&&Ua7 a0 a1 nQ aQ))=true) (hc1:((Zaf a0 a2))=false) (hg:(true)=true):ansV PZ Zhs 1000 Tryz.f31 [] [.g a0 41,.r a1 45 [(2,0)],.i .u64 (a2)] [.sl (.came bQ) nQ aQ 82]=some (.t [.r (zc PZ 73) 73 [],.v (.iface 117 (.int .i64 (2:Int)))],.none,true):=by
 refine (Zje 1000 a0 a1 a2 bQ nQ aQ).trans ?_
 have hgd:Zdm a0 a2=true:=by
  rw [Q7] at hc0
  exact Yc8 hc0.1
 simp only [hc0,hc1,hgd,Bool.not_false,Q1]
theorem Zsd (a0 a1:Array Value) (a2:Int) (bQ:Option (Option Addr)) (nQ:Nat) (aQ:Array Value) (h_a0:WT PZ 41 a0) (h_a1:WT PZ 45 a1) (h_a2:IntKind.u64.min≤a2∧a2≤IntKind.u64.max) (h_a1x2:aQ.size=nQ*(lay PZ 82).length∧(∀ k,k<nQ→WT PZ 82 (aQ.extract (k*(lay PZ 82).length) (k*(lay PZ 82).length+(lay PZ 82).length)))∧nQ≤9223372036854775807) (hc0:((okS a0&&Ua7 a0 a1 nQ aQ))=true) (hc1:((Zaf a0 a2))=true) (hg:(true)=true):ansV PZ Zhs 1000 Tryz.f31 [] [.g a0 41,.r a1 45 [(2,0)],.i .u64 (a2)] [.sl (.came bQ) nQ aQ 82]=some (.t [.r (voyV PZ a0 a1) 73 [(365,0)],.v (.nilIface)],.none,true):=by
 refine (Zje 1000 a0 a1 a2 bQ nQ aQ).trans ?_
 have hgd:Zdm a0 a2=true:=by
  rw [Q7] at hc0
  exact Yc8 hc0.1
 simp only [hc0,hc1,hgd,Bool.not_true,Q2,Q1]
def Zfq:SCon:=fun args h=>match args,h with
 | [.g a0 41,.r a1 45 [(2,0)],.i .u64 a2],[.sl (.came bQ) nQ aQ 82]=>.two ((okS a0&&Ua7 a0 a1 nQ aQ)) (.two ((Zaf a0 a2)) (.one (some (.t [.r (voyV PZ a0 a1) 73 [(365,0)],.v (.nilIface)],.none,true))) (.one (some (.t [.r (zc PZ 73) 73 [],.v (.iface 117 (.int .i64 (2:Int)))],.none,true)))) (.one (some (.t [.r (zc PZ 73) 73 [],.v (.iface 117 (.int .i64 (1:Int)))],.none,true)))
 | _,_=>.one none
theorem Zk8:EntX PZ 31:=Zag (fn:=Tryz.f31) (by kernel_rfl) (by kernel_rfl) (by kernel_rfl)
theorem Zmf:Uad mn PZ 31 (fun args h=>Uah (Zfq args h)):=by
 intro ρ h w args vals r e hn hr hA hH
 dsimp only at hr
 unfold Zfq at hr
 split at hr
 ·rename_i a0 a1 a2 bQ nQ aQ
  simp only [Uah] at hr
  cases hc0:((okS a0&&Ua7 a0 a1 nQ aQ))
  ·rw [hc0] at hr
   simp only [Uah,Q1,Q2] at hr
   obtain ⟨rfl,rfl,hg2⟩:=BQi hr
   exact ((Zai (N:=1000) (by kernel_rfl) (mkΓw_sX (Zpi Zlo) Zjp (mkΓw_cX (Zad Zlr) Zi5 mkΓx_nilX)) (fn:=Tryz.f31) (by kernel_rfl) (by kernel_rfl) [])) ρ _ w _ vals _ _ hn ((Zsk a0 a1 a2 bQ nQ aQ (hA.wt 0 rfl) (hA.wtr 1 rfl) (hA.rng 2 rfl) (hH.slw 0 rfl) hc0 hg2)) hA hH
  ·rw [hc0] at hr
   simp only [Uah,Q1,Q2] at hr
   cases hc1:((Zaf a0 a2))
   ·rw [hc1] at hr
    simp only [Uah,Q1,Q2] at hr
    obtain ⟨rfl,rfl,hg2⟩:=BQi hr
    exact ((Zai (N:=1000) (by kernel_rfl) (mkΓw_sX (Zpi Zlo) Zjp (mkΓw_cX (Zad Zlr) Zi5 mkΓx_nilX)) (fn:=Tryz.f31) (by kernel_rfl) (by kernel_rfl) [])) ρ _ w _ vals _ _ hn ((Zrh a0 a1 a2 bQ nQ aQ (hA.wt 0 rfl) (hA.wtr 1 rfl) (hA.rng 2 rfl) (hH.slw 0 rfl) hc0 hc1 hg2)) hA hH
   ·rw [hc1] at hr
    simp only [Uah,Q1,Q2] at hr
    obtain ⟨rfl,rfl,hg2⟩:=BQi hr
    exact ((Zai (N:=1000) (by kernel_rfl) (mkΓw_sX (Zpi Zlo) Zjp (mkΓw_cX (Zad Zlr) Zi5 mkΓx_nilX)) (fn:=Tryz.f31) (by kernel_rfl) (by kernel_rfl) [])) ρ _ w _ vals _ _ hn ((Zsd a0 a1 a2 bQ nQ aQ (hA.wt 0 rfl) (hA.wtr 1 rfl) (hA.rng 2 rfl) (hH.slw 0 rfl) hc0 hc1 hg2)) hA hH
 ·simp only [Uah] at hr
  cases hr
def Zr4:Cons:=(mkΓ [(53,con Zn9),(54,con Zn0),(55,con Zho)])
theorem Zyz (N:Nat) (a2:Int) (a0 a1:Array Value) (bQ:Option (Option Addr)) (nQ:Nat) (aQ:Array Value):ansV PZ Zr4 N Tryz.f23 [] [.w 0,.w 1,.i .u64 (a2)] [.row a0 41,.one (.r a1 45 [(2,2)]) 45,.sl (.came bQ) nQ aQ 82]=(bif (!((okS a0))) then (some (.a (.i .i64 (1:Int)),.none,true))
  else (bif (!((Ua7 a0 a1 nQ aQ))) then (some (.a (.i .i64 (1:Int)),.none,true))
   else (bif ((IntKind.u64.wrap (BitVec.ofInt IntKind.u64.bits a2 &&& ~~~(BitVec.ofInt IntKind.u64.bits (Uau (num a0 0) (num a0 1) 36))).toNat) != (0:Int)) then (some (.a (.i .i64 (2:Int)),.none,true))
    else (some (.a (.i .i64 (0:Int)),.none,true))))):=by kernel_rfl
def Zbd (a2:Int) (a0 a1:Array Value) (bQ:Option (Option Addr)) (nQ:Nat) (aQ:Array Value):Int:=(bif (!((okS a0))) then (1:Int) else (bif (!((Ua7 a0 a1 nQ aQ))) then (1:Int) else (bif ((IntKind.u64.wrap (BitVec.ofInt IntKind.u64.bits a2 &&& ~~~(BitVec.ofInt IntKind.u64.bits (Uau (num a0 0) (num a0 1) 36))).toNat) != (0:Int)) then (2:Int) else (0:Int))))
theorem Zv2 (a2:Int) (a0 a1:Array Value) (bQ:Option (Option Addr)) (nQ:Nat) (aQ:Array Value) (h_a2:IntKind.u64.min≤a2∧a2≤IntKind.u64.max) (h_a0:WT PZ 41 a0) (h_a1:WT PZ 45 a1) (h_a1x2:aQ.size=nQ*(lay PZ 82).length∧(∀ k,k<nQ→WT PZ 82 (aQ.extract (k*(lay PZ 82).length) (k*(lay PZ 82).length+(lay PZ 82).length)))∧nQ≤9223372036854775807) (hg:(true)=true):ansV PZ Zr4 1000 Tryz.f23 [] [.w 0,.w 1,.i .u64 (a2)] [.row a0 41,.one (.r a1 45 [(2,2)]) 45,.sl (.came bQ) nQ aQ 82]=some (.a (.i .i64 (Zbd a2 a0 a1 bQ nQ aQ)),.none,true):=by
 refine (Zyz 1000 a2 a0 a1 bQ nQ aQ).trans ?_
 unfold Zbd
 revert hg
 generalize ((!((okS a0))))=b2
 intro hg
 cases b2
 ·skip
  revert hg
  generalize ((!((Ua7 a0 a1 nQ aQ))))=b4
  intro hg
  cases b4
  ·skip
   revert hg
   generalize (((IntKind.u64.wrap (BitVec.ofInt IntKind.u64.bits a2 &&& ~~~(BitVec.ofInt IntKind.u64.bits (Uau (num a0 0) (num a0 1) 36))).toNat) != (0:Int)))=b6
   intro hg
   cases b6
   ·skip
    first | (simp only [Q1,Q2,BQ6];done) | rfl | exact (nomatch (hg:false=true))
   ·skip
    first | (simp only [Q1,Q2,BQ6];done) | rfl | exact (nomatch (hg:false=true))
  ·skip
   first | (simp only [Q1,Q2,BQ6];done) | rfl | exact (nomatch (hg:false=true))
 ·skip
  first | (simp only [Q1,Q2,BQ6];done) | rfl | exact (nomatch (hg:false=true))
def Zko:Con:=fun args h=>match args,h with
 | [.w 0,.w 1,.i .u64 a2],[.row a0 41,.one (.r a1 45 [(2,2)]) 45,.sl (.came bQ) nQ aQ 82]=>some (.a (.i .i64 (Zbd a2 a0 a1 bQ nQ aQ)),.none,true)
 | _,_=>none
theorem Zvh:EntX PZ 23:=Zag (fn:=Tryz.f23) (by kernel_rfl) (by kernel_rfl) (by kernel_rfl)
theorem Ybk:Uad mn PZ 23 Zko:=(Zai (N:=1000) (by kernel_rfl) (mkΓ_consX (Zad Yh0) Yba (mkΓ_consX (Zad Yhf) Yaw (mkΓ_consX (Zad Zp7) Zm5 mkΓ_nilX))) (fn:=Tryz.f23) (by kernel_rfl) (by kernel_rfl) []).of (by
 intro ρ h w args vals r e hA hH hr
 unfold Zko at hr
 split at hr
 ·rename_i a2 a0 a1 bQ nQ aQ
  obtain ⟨rfl,rfl,hg2⟩:=BQi hr
  exact Zv2 a2 a0 a1 bQ nQ aQ (hA.rng 2 rfl) (hH.wt 0 rfl) (hH.wtr 1 rfl) (hH.slw 2 rfl) hg2
 ·cases hr)
def askC (S p:Array Value) (n:Nat) (A:Array Value) (c:Int):Int:=bif (okS S&&Ua7 S p n A) then (bif Zaf S c then 0 else 2) else 1
theorem ask_eq (S p:Array Value) (bb:Option (Option Addr)) (n:Nat) (A:Array Value) (c:Int):Zbd c S p bb n A=askC S p n A c:=by
 unfold Zbd askC Zaf
 simp only [bne]
 cases okS S<;>cases Ua7 S p n A<;>cases ((IntKind.u64.wrap (BitVec.ofInt IntKind.u64.bits c &&& ~~~(BitVec.ofInt IntKind.u64.bits (Uau (num S 0) (num S 1) 36))).toNat)==(0:Int))<;>rfl
end
end Go.Proofs.YtohnggmlmglhmaaGreatDoor
