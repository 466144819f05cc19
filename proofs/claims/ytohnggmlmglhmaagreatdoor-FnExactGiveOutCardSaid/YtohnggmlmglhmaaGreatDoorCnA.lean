/- Plans that come in: copied, compared, valid, taken, in company. -/
import Derived.Test.YtohnggmlmglhmaaGreatDoorProg
import Derived.Test.YtohnggmlmglhmaaGreatDoorCmG
open _root_.Array renaming getElem?_eq_none→jD
open _root_.Bool renaming and_self→jA,not_true→jB,not_false→jC
namespace Go.Proofs.YtohnggmlmglhmaaGreatDoor
open Go.ChangeShapes Go.WideShapes Go.ChangeAt Go.RowKit Ve Vc
open Tryz renaming prog → PZ
open IntKind (i64)
set_option linter.unusedVariables false
set_option linter.unusedSimpArgs false
set_option maxRecDepth 100000
noncomputable section
variable {mn:Md}
theorem Zxz (N:Nat) (a0:Array Value):ansV PZ (mkΓ []) N Tryz.f58 [] [.g a0 114] []=(some (.a (.g #[.int .i8 (num a0 0),.int .i8 (num a0 1),.int .i16 (num a0 2)] 82),.none,true)):=by kernel_rfl
theorem Zvv (a0:Array Value) (h_a0:WT PZ 114 a0) (hg:(true)=true):ansV PZ (mkΓ []) 1000 Tryz.f58 [] [.g a0 114] []=some (.a (.g a0 82),.none,true):=by
 have hz:a0.size=3:=by rw [h_a0.layLen];kernel_rfl
 have e0:=(h_a0.int (o:=0) (k:=.i8) (by kernel_rfl)).1
 have e1:=(h_a0.int (o:=1) (k:=.i8) (by kernel_rfl)).1
 have e2:=(h_a0.int (o:=2) (k:=.i16) (by kernel_rfl)).1
 have he:(#[.int .i8 (num a0 0),.int .i8 (num a0 1),.int .i16 (num a0 2)]:Array Value)=a0:=Zf9 fun i=>by
  match i with
  | 0=>exact e0.symm
  | 1=>exact e1.symm
  | 2=>exact e2.symm
  | i+3=>rw [jD (by simp),jD (by omega)]
 refine (Zxz 1000 a0).trans ?_
 rw [he]
def Zck:Con:=fun args h=>match args,h with
 | [.g a0 114],[]=>some (.a (.g a0 82),.none,true)
 | _,_=>none
theorem Zu9:EntX PZ 58:=Zag (fn:=Tryz.f58) (by kernel_rfl) (by kernel_rfl) (by kernel_rfl)
theorem Yaj:Uab mn PZ 58 Zck:=(Zaf (N:=1000) (by kernel_rfl) mkΓ_nilX (fn:=Tryz.f58) (by kernel_rfl) (by kernel_rfl) []).of (by
 intro ρ h w args vals r e hA hH hr
 unfold Zck at hr
 split at hr
 ·rename_i a0
  obtain ⟨rfl,rfl,hg2⟩:=BQi hr
  exact Zvv a0 (hA.wt 0 rfl) hg2
 ·cases hr)
def Zej (b_a0:Option (Option Addr)) (n_a0:Nat) (a0:Array Value):St:=(⟨.a (.l 0) :: .a (.u) :: .a (.v (.slice none 0 0)) :: .a (.l 3) :: .a (.i .i64 (0:Int)) :: .a (.l 0) :: .a (.i .i64 (n_a0:Int)) :: .a (.l 3)::us 15 ([]),[.sl (.came b_a0) n_a0 a0 114,.no,.no,.sl .own ((n_a0:Int).toNat) (madeCells (zc PZ 82) ((n_a0:Int).toNat*3)) 82,.no],[]⟩:St)
def Zfr (n_a0:Nat):Int×Array Value→LS
 | (y0_4,r0_3)=>([.a (.i .i64 (y0_4))],[.sl .own ((n_a0:Int).toNat) r0_3 82])
def Zki (n_a0:Nat):Int×Array Value→Exit×LS
 | t=>((.exit 0),(Zfr n_a0) t)
def Zcl (P : Program) (b_a0 : Option (Option Addr)) (n_a0 : Nat) (a0 : Array Value) : Int × Array Value → Option (Stp (Int × Array Value) (Int × Array Value))
 | (y0_4, r0_3) => bif decide (y0_4 < (n_a0 : Int)) then (bif (decide (0 ≤ y0_4) && decide (y0_4 < (n_a0 : Int))) then (bif (decide (0 ≤ y0_4) && decide (y0_4 < (((n_a0 : Int).toNat) : Int))) then (some (.more ((i64.wrap (y0_4 + (1 : Int))), (spl r0_3 ((y0_4).toNat * 3) (a0.extract ((y0_4).toNat * 3) (((y0_4).toNat * 3) + 3)).toList))))
    else (none))
   else (none))
  else (some (.done (y0_4, r0_3)))
def Ud0:=(Uaf (codeOf Tryz.f30) [([4],[3])]).1
theorem Zzf (N:Nat) (b_a0:Option (Option Addr)) (n_a0:Nat) (a0:Array Value):∀ t:Int×Array Value,Uag PZ (mkΓ [(58,con Zck)]) N (cAt (codeOf Tryz.f30) [1,1,0,1,0,0]) (pAt Ud0 [1,1,0,1,0]) [4] [3] (Zej b_a0 n_a0 a0) ((Zfr n_a0) t)=mapS (Zfr n_a0) (Zki n_a0) (Zcl PZ b_a0 n_a0 a0 t):=by
 rintro ⟨y0_4,r0_3⟩
 refine Eq.trans (b:=(bif decide (y0_4<(n_a0:Int)) then (bif (decide (0≤y0_4)&&decide (y0_4<(n_a0:Int))) then (bif (decide (0≤y0_4)&&decide (y0_4<(((n_a0:Int).toNat):Int))) then (some (.more ([.a (.i .i64 (i64.wrap (y0_4+(1:Int))))],[.sl .own ((n_a0:Int).toNat) (spl r0_3 ((y0_4).toNat*3) (a0.extract ((y0_4).toNat*3) (((y0_4).toNat*3)+3)).toList) 82])))
    else (none))
   else (none))
  else (some (.done ((.exit 0),([.a (.i .i64 (y0_4))],[.sl .own ((n_a0:Int).toNat) r0_3 82])))))) (by kernel_rfl) ?_
 simp only [Zcl,Zaz,Zay,Za1,Za0,Zfr,Zki]
def Ziw (P:Program) (N:Nat) (b_a0:Option (Option Addr)) (n_a0:Nat) (a0:Array Value) (z0_4:Int) (q0_3:Array Value):Option (SV×Eff×Bool):=some (.a .x,.newS none ((n_a0:Int).toNat) q0_3 82,true)
def Ufs (N:Nat) (b_a0:Option (Option Addr)) (n_a0:Nat) (a0:Array Value):=(Uan 0 (kSeq (veC PZ (mkΓ [(58,con Zck)]) N (cAt (codeOf Tryz.f30) [1,1,1]) (pAt Ud0 [1,1,1]) (SV×Eff×Bool)) (finK PZ [.sl (.came b_a0) n_a0 a0 114] [.tmp 2])))
theorem Zqf (N:Nat) (b_a0:Option (Option Addr)) (n_a0:Nat) (a0:Array Value) (z0_4:Int) (q0_3:Array Value):(Ufs N b_a0 n_a0 a0) (.exit 0) (left (writes (cAt (codeOf Tryz.f30) [1,1,0,1,0,0])) [4] [3] (Zej b_a0 n_a0 a0) ([.a (.i .i64 (z0_4))],[.sl .own ((n_a0:Int).toNat) q0_3 82]))=Ziw PZ N b_a0 n_a0 a0 z0_4 q0_3:=by
 refine Eq.trans (b:=(some (.a .x,.newS none ((n_a0:Int).toNat) q0_3 82,true))) (by kernel_rfl) ?_
 rfl
theorem Zx6 (N:Nat) (b_a0:Option (Option Addr)) (n_a0:Nat) (a0:Array Value):Uah (Uaa (Uag PZ (mkΓ [(58,con Zck)]) N (cAt (codeOf Tryz.f30) [1,1,0,1,0,0]) (pAt Ud0 [1,1,0,1,0]) [4] [3] (Zej b_a0 n_a0 a0)) N ([.a (.i .i64 (0:Int))],[.sl .own ((n_a0:Int).toNat) (madeCells (zc PZ 82) ((n_a0:Int).toNat*3)) 82])) (fun e s=>(Ufs N b_a0 n_a0 a0) e (left (writes (cAt (codeOf Tryz.f30) [1,1,0,1,0,0])) [4] [3] (Zej b_a0 n_a0 a0) s))=Uak (Uaa (Zcl PZ b_a0 n_a0 a0) N ((0:Int),(madeCells (zc PZ 82) ((n_a0:Int).toNat*3)))) (fun x=>Ziw PZ N b_a0 n_a0 a0 x.1 x.2):=by
 refine Zbd (Zfr n_a0) (Zki n_a0) _ _ (Zzf N b_a0 n_a0 a0) N ((0:Int),(madeCells (zc PZ 82) ((n_a0:Int).toNat*3))) _ _ ?_
 intro x;exact Zqf N b_a0 n_a0 a0 x.1 x.2
theorem Zwi (N:Nat) (b_a0:Option (Option Addr)) (n_a0:Nat) (a0:Array Value):ansV PZ (mkΓ [(58,con Zck)]) N Tryz.f30 [([4],[3])] [.l 0] [.sl (.came b_a0) n_a0 a0 114]=(bif (decide (0≤(n_a0:Int))&&((n_a0:Int)==(n_a0:Int)&&decide ((bytesOf PZ 82:Int)*(n_a0:Int)≤281474976710656))) then (Uak (Uaa (Zcl PZ b_a0 n_a0 a0) N ((0:Int),(madeCells (zc PZ 82) ((n_a0:Int).toNat*3)))) (fun x=>Ziw PZ N b_a0 n_a0 a0 x.1 x.2))
  else (none)):=by
 refine Eq.trans (b:=(bif (decide (0≤(n_a0:Int))&&((n_a0:Int)==(n_a0:Int)&&decide ((bytesOf PZ 82:Int)*(n_a0:Int)≤281474976710656))) then (Uah (Uaa (Uag PZ (mkΓ [(58,con Zck)]) N (cAt (codeOf Tryz.f30) [1,1,0,1,0,0]) (pAt Ud0 [1,1,0,1,0]) [4] [3] (Zej b_a0 n_a0 a0)) N ([.a (.i .i64 (0:Int))],[.sl .own ((n_a0:Int).toNat) (madeCells (zc PZ 82) ((n_a0:Int).toNat*3)) 82])) (fun e s=>(Ufs N b_a0 n_a0 a0) e (left (writes (cAt (codeOf Tryz.f30) [1,1,0,1,0,0])) [4] [3] (Zej b_a0 n_a0 a0) s)))
  else (none))) (by kernel_rfl) ?_
 simp only [Zx6 N b_a0 n_a0 a0]
theorem Zum (b_a0:Option (Option Addr)) (n_a0:Nat) (a0:Array Value) (h_a0:SlT 114 n_a0 a0) (hg:(decide (n_a0≤1048576))=true):ansV PZ (mkΓ [(58,con Zck)]) 18446744073709551616 Tryz.f30 [([4],[3])] [.l 0] [.sl (.came b_a0) n_a0 a0 114]=some (.a .x,.newS none n_a0 a0 82,true):=by
 have hn:n_a0≤1048576:=of_decide_eq_true hg
 have hm:(lay PZ 114).length=3:=by kernel_rfl
 have hb:bytesOf PZ 82=4:=by kernel_rfl
 obtain ⟨s1,s2,s3⟩:=h_a0
 rw [hm] at s1 s2
 have hq:(lay PZ 114)[0]? = some 0:=by kernel_rfl
 refine (Zwi 18446744073709551616 b_a0 n_a0 a0).trans ?_
 have hgd:(decide (0≤(n_a0:Int))&&((n_a0:Int)==(n_a0:Int)&&decide ((bytesOf PZ 82:Int)*(n_a0:Int)≤281474976710656)))=true:=by
  rw [hb,Q3 (show (0:Int)≤n_a0 by omega),beq_self_eq_true,Q3 (show (((4:Nat):Int))*(n_a0:Int)≤281474976710656 by omega)];rfl
 rw [hgd,Q1]
 have hs:a0.size=(madeCells (zc PZ 82) ((n_a0:Int).toNat*3)).size:=by rw [size_madeCells,Q9];exact s1
 generalize (madeCells (zc PZ 82) ((n_a0:Int).toNat*3))=Z at hs⊢
 have h:=Zcc (g:=Zcl PZ b_a0 n_a0 a0) (fun k=>((k:Int),upto a0 Z (k*3))) (m:=n_a0) (x:=((n_a0:Int),upto a0 Z (n_a0*3))) (N:=18446744073709551616) (fun k hk=>by
  have h1:decide ((k:Int)<(n_a0:Int))=true:=Q3 (by omega)
  have h0:decide (0≤(k:Int))=true:=Q3 (by omega)
  have h3:i64.wrap ((k:Int)+1)=((k+1:Nat):Int):=by rw [IntWalk.i64_in _ (by omega)];omega
  have h5:spl (upto a0 Z (k*3)) (k*3) (a0.extract (k*3) (k*3+3)).toList=upto a0 Z ((k+1)*3):=by
   rw [Nat.add_mul];exact Yc4 hs (by have:(k+1)*3≤n_a0*3:=Nat.mul_le_mul_right _ hk;omega) rfl
  simp only [Zcl,h1,h0,jA,Q9,Q1,h3,h5]) (by
  have h1:decide ((n_a0:Int)<(n_a0:Int))=false:=Q4 (by omega)
  simp only [Zcl,h1,Q2]) (by omega)
 rw [Zt0 hs s1] at h
 simp only [Nat.zero_mul,Zpu hs] at h
 have h':Uaa (Zcl PZ b_a0 n_a0 a0) 18446744073709551616 ((0:Int),Z)=some ((n_a0:Int),a0):=h
 rw [h']
 show some (_,Eff.newS none ((n_a0:Int).toNat) a0 82,true)=_
 rw [Q9]
def Zg2:Con:=fun args h=>match args,h with
 | [.l 0],[.sl (.came b_a0) n_a0 a0 114]=>some (.a .x,.newS none n_a0 a0 82,decide (n_a0≤1048576))
 | _,_=>none
theorem Zsq:EntX PZ 30:=Zag (fn:=Tryz.f30) (by kernel_rfl) (by kernel_rfl) (by kernel_rfl)
theorem Zyl:Uab mn PZ 30 Zg2:=(Zaf (N:=18446744073709551616) (by kernel_rfl) (mkΓ_consX (Zac Yaj) Zu9 mkΓ_nilX) (fn:=Tryz.f30) (by kernel_rfl) (by kernel_rfl) [([4],[3])]).of (by
 intro ρ h w args vals r e hA hH hr
 unfold Zg2 at hr
 split at hr
 ·rename_i b_a0 n_a0 a0
  obtain ⟨rfl,rfl,hg2⟩:=BQi hr
  exact Zum b_a0 n_a0 a0 (hH.slw 0 rfl) hg2
 ·cases hr)
theorem Zy5 (N:Nat) (a0 a1:Array Value):ansV PZ (mkΓ []) N Tryz.f66 [] [.g a0 82,.g a1 82] []=(bif ((num a0 0) != (num a1 0)) then (some (.a (.b (false)),.none,true))
  else (bif ((num a0 1) != (num a1 1)) then (some (.a (.b (false)),.none,true))
   else (bif ((num a0 2) != (num a1 2)) then (some (.a (.b (false)),.none,true))
    else (some (.a (.b (true)),.none,true))))):=by kernel_rfl
theorem Zwt (a0 a1:Array Value) (h_a0:WT PZ 82 a0) (h_a1:WT PZ 82 a1) (hg:(true)=true):ansV PZ (mkΓ []) 1000 Tryz.f66 [] [.g a0 82,.g a1 82] []=some (.a (.b (Ua4 a0 a1)),.none,true):=by
 have hz:a0.size=3:=by rw [h_a0.layLen];kernel_rfl
 have hy:a1.size=3:=by rw [h_a1.layLen];kernel_rfl
 refine (Zy5 1000 a0 a1).trans ?_
 cases hb:Ua4 a0 a1
 ·have hne:=Yl1.1 hb
  cases h0:(num a0 0 != num a1 0)
  ·skip
   cases h1:(num a0 1 != num a1 1)
   ·skip
    cases h2:(num a0 2 != num a1 2)
    ·skip
     exfalso
     refine hne (Zf9 fun i=> ?_)
     by_cases c0:i=0
     ·subst c0
      rw [(h_a0.int (k:=.i8) (o:=0) (by kernel_rfl)).1,(h_a1.int (k:=.i8) (o:=0) (by kernel_rfl)).1,Yoi h0]
     by_cases c1:i=1
     ·subst c1
      rw [(h_a0.int (k:=.i8) (o:=1) (by kernel_rfl)).1,(h_a1.int (k:=.i8) (o:=1) (by kernel_rfl)).1,Yoi h1]
     by_cases c2:i=2
     ·subst c2
      rw [(h_a0.int (k:=.i16) (o:=2) (by kernel_rfl)).1,(h_a1.int (k:=.i16) (o:=2) (by kernel_rfl)).1,Yoi h2]
     rw [jD (by omega),jD (by omega)]
    ·rfl
   ·rfl
  ·rfl
 ·rw [Zlt.1 hb]
  simp only [bne_self_eq_false,Q2,Zpr,jB]
def Zcp:Con:=fun args h=>match args,h with
 | [.g a0 82,.g a1 82],[]=>some (.a (.b (Ua4 a0 a1)),.none,true)
 | _,_=>none
theorem Zuo:EntX PZ 66:=Zag (fn:=Tryz.f66) (by kernel_rfl) (by kernel_rfl) (by kernel_rfl)
theorem Ybe:Uab mn PZ 66 Zcp:=(Zaf (N:=1000) (by kernel_rfl) mkΓ_nilX (fn:=Tryz.f66) (by kernel_rfl) (by kernel_rfl) []).of (by
 intro ρ h w args vals r e hA hH hr
 unfold Zcp at hr
 split at hr
 ·rename_i a0 a1
  obtain ⟨rfl,rfl,hg2⟩:=BQi hr
  exact Zwt a0 a1 (hA.wt 0 rfl) (hA.wt 1 rfl) hg2
 ·cases hr)
def Zc9 (b_a0:Option (Option Addr)) (n_a0:Nat) (a0:Array Value) (b_a1:Option (Option Addr)) (n_a1:Nat) (a1:Array Value):St:=(⟨.a (.l 0) :: .a (.l 1) :: .a (.u) :: .a (.u) :: .a (.b (false)) :: .a (.i .i64 (0:Int)) :: .a (.l 0) :: .a (.i .i64 (n_a0:Int)) :: .a (.l 1) :: .a (.i .i64 (n_a1:Int)) :: .a (.b (((n_a0:Int) != (n_a1:Int))))::us 16 ([]),[.sl (.came b_a0) n_a0 a0 82,.sl (.came b_a1) n_a1 a1 82],[]⟩:St)
def Zeg:Bool×Int→LS
 | (y0_4,y0_5)=>([.a (.b (y0_4)),.a (.i .i64 (y0_5))],[])
def Zkf:(Stp (Bool×Int) (Bool×Int))→Exit×LS
 | .more t=>(.ret,Zeg t)
 | .done t=>((.exit 0),Zeg t)
def Zcj (P : Program) (b_a0 : Option (Option Addr)) (n_a0 : Nat) (a0 : Array Value) (b_a1 : Option (Option Addr)) (n_a1 : Nat) (a1 : Array Value) : Bool × Int → Option (Stp (Bool × Int) (Stp (Bool × Int) (Bool × Int)))
 | (y0_4, y0_5) => bif decide (y0_5 < (n_a0 : Int)) then (bif (decide (0 ≤ y0_5) && decide (y0_5 < (n_a0 : Int))) then (bif (decide (0 ≤ y0_5) && decide (y0_5 < (n_a1 : Int))) then (bif (!(Ua4 (a0.extract ((y0_5).toNat * 3) (((y0_5).toNat * 3) + 3)) (a1.extract ((y0_5).toNat * 3) (((y0_5).toNat * 3) + 3)))) then (some (.done (.more (false, y0_5))))
     else (some (.more (y0_4, (i64.wrap (y0_5 + (1 : Int)))))))
    else (none))
   else (none))
  else (some (.done (.done (y0_4, y0_5))))
def Uee:=(Uaf (codeOf Tryz.f37) [([4,5],[])]).1
theorem Zzk (N:Nat) (b_a0:Option (Option Addr)) (n_a0:Nat) (a0:Array Value) (b_a1:Option (Option Addr)) (n_a1:Nat) (a1:Array Value):∀ t:Bool×Int,Uag PZ (mkΓ [(66,con Zcp)]) N (cAt (codeOf Tryz.f37) [1,1,0,1,0,0]) (pAt Uee [1,1,0,1,0]) [4,5] [] (Zc9 b_a0 n_a0 a0 b_a1 n_a1 a1) (Zeg t)=mapS Zeg Zkf (Zcj PZ b_a0 n_a0 a0 b_a1 n_a1 a1 t):=by
 rintro ⟨y0_4,y0_5⟩
 refine Eq.trans (b:=(bif decide (y0_5<(n_a0:Int)) then (bif (decide (0≤y0_5)&&decide (y0_5<(n_a0:Int))) then (bif (decide (0≤y0_5)&&decide (y0_5<(n_a1:Int))) then (bif (!(Ua4 (a0.extract ((y0_5).toNat*3) (((y0_5).toNat*3)+3)) (a1.extract ((y0_5).toNat*3) (((y0_5).toNat*3)+3)))) then (some (.done (.ret,([.a (.b (false)),.a (.i .i64 (y0_5))],[]))))
     else (some (.more ([.a (.b (y0_4)),.a (.i .i64 (i64.wrap (y0_5+(1:Int))))],[]))))
    else (none))
   else (none))
  else (some (.done ((.exit 0),([.a (.b (y0_4)),.a (.i .i64 (y0_5))],[])))))) (by kernel_rfl) ?_
 simp only [Zcj,Zaz,Zay,Za1,Za0,Zeg,Zkf]
def Zi0 (P:Program) (N:Nat) (b_a0:Option (Option Addr)) (n_a0:Nat) (a0:Array Value) (b_a1:Option (Option Addr)) (n_a1:Nat) (a1:Array Value) (z0_4:Bool) (z0_5:Int):Option (SV×Eff×Bool):=some (.a (.b (z0_4)),.none,true)
def Ueu (N:Nat) (b_a0:Option (Option Addr)) (n_a0:Nat) (a0:Array Value) (b_a1:Option (Option Addr)) (n_a1:Nat) (a1:Array Value):=(Uan 0 (kSeq (veC PZ (mkΓ [(66,con Zcp)]) N (cAt (codeOf Tryz.f37) [1,1,1]) (pAt Uee [1,1,1]) (SV×Eff×Bool)) (finK PZ [.sl (.came b_a0) n_a0 a0 82,.sl (.came b_a1) n_a1 a1 82] [.tmp 4])))
theorem Zqg (N:Nat) (b_a0:Option (Option Addr)) (n_a0:Nat) (a0:Array Value) (b_a1:Option (Option Addr)) (n_a1:Nat) (a1:Array Value) (z0_4:Bool) (z0_5:Int):(Ueu N b_a0 n_a0 a0 b_a1 n_a1 a1) .ret (left (writes (cAt (codeOf Tryz.f37) [1,1,0,1,0,0])) [4,5] [] (Zc9 b_a0 n_a0 a0 b_a1 n_a1 a1) ([.a (.b (z0_4)),.a (.i .i64 (z0_5))],[]))=Zi0 PZ N b_a0 n_a0 a0 b_a1 n_a1 a1 z0_4 z0_5:=by
 refine Eq.trans (b:=(some (.a (.b (z0_4)),.none,true))) (by kernel_rfl) ?_
 rfl
def Zis (P:Program) (N:Nat) (b_a0:Option (Option Addr)) (n_a0:Nat) (a0:Array Value) (b_a1:Option (Option Addr)) (n_a1:Nat) (a1:Array Value) (z0_4:Bool) (z0_5:Int):Option (SV×Eff×Bool):=some (.a (.b (true)),.none,true)
theorem Zqm (N:Nat) (b_a0:Option (Option Addr)) (n_a0:Nat) (a0:Array Value) (b_a1:Option (Option Addr)) (n_a1:Nat) (a1:Array Value) (z0_4:Bool) (z0_5:Int):(Ueu N b_a0 n_a0 a0 b_a1 n_a1 a1) (.exit 0) (left (writes (cAt (codeOf Tryz.f37) [1,1,0,1,0,0])) [4,5] [] (Zc9 b_a0 n_a0 a0 b_a1 n_a1 a1) ([.a (.b (z0_4)),.a (.i .i64 (z0_5))],[]))=Zis PZ N b_a0 n_a0 a0 b_a1 n_a1 a1 z0_4 z0_5:=by
 refine Eq.trans (b:=(some (.a (.b (true)),.none,true))) (by kernel_rfl) ?_
 rfl
theorem Zxr (N:Nat) (b_a0:Option (Option Addr)) (n_a0:Nat) (a0:Array Value) (b_a1:Option (Option Addr)) (n_a1:Nat) (a1:Array Value):Uah (Uaa (Uag PZ (mkΓ [(66,con Zcp)]) N (cAt (codeOf Tryz.f37) [1,1,0,1,0,0]) (pAt Uee [1,1,0,1,0]) [4,5] [] (Zc9 b_a0 n_a0 a0 b_a1 n_a1 a1)) N ([.a (.b (false)),.a (.i .i64 (0:Int))],[])) (fun e s=>(Ueu N b_a0 n_a0 a0 b_a1 n_a1 a1) e (left (writes (cAt (codeOf Tryz.f37) [1,1,0,1,0,0])) [4,5] [] (Zc9 b_a0 n_a0 a0 b_a1 n_a1 a1) s))=Uak (Uaa (Zcj PZ b_a0 n_a0 a0 b_a1 n_a1 a1) N (false,(0:Int))) (st2 (fun x=>Zi0 PZ N b_a0 n_a0 a0 b_a1 n_a1 a1 x.1 x.2) (fun x=>Zis PZ N b_a0 n_a0 a0 b_a1 n_a1 a1 x.1 x.2)):=by
 refine Zbd Zeg Zkf _ _ (Zzk N b_a0 n_a0 a0 b_a1 n_a1 a1) N (false,(0:Int)) _ _ ?_
 intro x
 cases x with
 | more x=>exact Zqg N b_a0 n_a0 a0 b_a1 n_a1 a1 x.1 x.2
 | done x=>exact Zqm N b_a0 n_a0 a0 b_a1 n_a1 a1 x.1 x.2
theorem Zwy (N:Nat) (b_a0:Option (Option Addr)) (n_a0:Nat) (a0:Array Value) (b_a1:Option (Option Addr)) (n_a1:Nat) (a1:Array Value):ansV PZ (mkΓ [(66,con Zcp)]) N Tryz.f37 [([4,5],[])] [.l 0,.l 1] [.sl (.came b_a0) n_a0 a0 82,.sl (.came b_a1) n_a1 a1 82]=(bif ((n_a0:Int) != (n_a1:Int)) then (some (.a (.b (false)),.none,true))
  else (Uak (Uaa (Zcj PZ b_a0 n_a0 a0 b_a1 n_a1 a1) N (false,(0:Int))) (st2 (fun x=>Zi0 PZ N b_a0 n_a0 a0 b_a1 n_a1 a1 x.1 x.2) (fun x=>Zis PZ N b_a0 n_a0 a0 b_a1 n_a1 a1 x.1 x.2)))):=by
 refine Eq.trans (b:=(bif ((n_a0:Int) != (n_a1:Int)) then (some (.a (.b (false)),.none,true))
  else (Uah (Uaa (Uag PZ (mkΓ [(66,con Zcp)]) N (cAt (codeOf Tryz.f37) [1,1,0,1,0,0]) (pAt Uee [1,1,0,1,0]) [4,5] [] (Zc9 b_a0 n_a0 a0 b_a1 n_a1 a1)) N ([.a (.b (false)),.a (.i .i64 (0:Int))],[])) (fun e s=>(Ueu N b_a0 n_a0 a0 b_a1 n_a1 a1) e (left (writes (cAt (codeOf Tryz.f37) [1,1,0,1,0,0])) [4,5] [] (Zc9 b_a0 n_a0 a0 b_a1 n_a1 a1) s))))) (by kernel_rfl) ?_
 simp only [Zxr N b_a0 n_a0 a0 b_a1 n_a1 a1]
theorem Zuv (b_a0:Option (Option Addr)) (n_a0:Nat) (a0:Array Value) (b_a1:Option (Option Addr)) (n_a1:Nat) (a1:Array Value) (h_a0:SlT 82 n_a0 a0) (h_a1:SlT 82 n_a1 a1) (hg:(true)=true):ansV PZ (mkΓ [(66,con Zcp)]) 18446744073709551616 Tryz.f37 [([4,5],[])] [.l 0,.l 1] [.sl (.came b_a0) n_a0 a0 82,.sl (.came b_a1) n_a1 a1 82]=some (.a (.b ((decide (n_a0=n_a1)&&Ua4 a0 a1))),.none,true):=by
 have hm:(lay PZ 82).length=3:=by kernel_rfl
 obtain ⟨s1,s2,s3⟩:=h_a0
 obtain ⟨t1,t2,t3⟩:=h_a1
 rw [hm] at s1 s2 t1 t2
 have hq:(lay PZ 82)[0]? = some 0:=by kernel_rfl
 refine (Zwy 18446744073709551616 b_a0 n_a0 a0 b_a1 n_a1 a1).trans ?_
 by_cases hl:n_a0=n_a1
 case neg=>
  rw [Q4 hl,show ((n_a0:Int) != (n_a1:Int))=true from bne_iff_ne.2 (by omega)]
  rfl
 subst hl
 rw [Q3 rfl,show ((n_a0:Int) != (n_a0:Int))=false from bne_self_eq_false _]
 simp only [Q2,Bool.true_and]
 have hb:Ua4 a0 a1=true ↔ ∀ k,k<n_a0→(fun k=>Ua4 (a0.extract (k*3) (k*3+3)) (a1.extract (k*3) (k*3+3))) k=true:=by
  constructor
  ·intro h k hk
   rw [Zlt.1 h]
   exact Zpr _
  ·intro h
   refine Zlt.2 ?_
   exact Yki (n:=n_a0) (m:=3) (by omega) s1 t1 (fun k hk=>Zlt.1 (h k hk))
 refine (Ybf (g:=Zcj PZ b_a0 n_a0 a0 b_a1 n_a0 a1) (fun k=>(false,(k:Int))) (fun k=>Ua4 (a0.extract (k*3) (k*3+3)) (a1.extract (k*3) (k*3+3))) n_a0 (N:=18446744073709551616) (xd:=.done (false,(n_a0:Int))) (by omega) (fun k hk hp=>by
  have h1:decide ((k:Int)<(n_a0:Int))=true:=Q3 (by omega)
  have h0:decide (0≤(k:Int))=true:=Q3 (by omega)
  have h3:i64.wrap ((k:Int)+1)=((k+1:Nat):Int):=by rw [IntWalk.i64_in _ (by omega)];omega
  have hp':Ua4 (a0.extract (k*3) (k*3+3)) (a1.extract (k*3) (k*3+3))=true:=hp
  simp only [Zcj,h1,h0,jA,Q9,Q1,h3,hp',jB,Q2]) (by
  have h1:decide ((n_a0:Int)<(n_a0:Int))=false:=Q4 (by omega)
  simp only [Zcj,h1,Q2]) (Ua4 a0 a1) hb (some (.a (.b true),.none,true)) (some (.a (.b false),.none,true)) rfl (fun k hk hp=>by
  refine ⟨.more (false,(k:Int)), ?_,rfl⟩
  have h1:decide ((k:Int)<(n_a0:Int))=true:=Q3 (by omega)
  have h0:decide (0≤(k:Int))=true:=Q3 (by omega)
  have hp':Ua4 (a0.extract (k*3) (k*3+3)) (a1.extract (k*3) (k*3+3))=false:=hp
  simp only [Zcj,h1,h0,jA,Q9,Q1,hp',jC])).trans ?_
 cases Ua4 a0 a1<;>rfl
def Zgq:Con:=fun args h=>match args,h with
 | [.l 0,.l 1],[.sl (.came b_a0) n_a0 a0 82,.sl (.came b_a1) n_a1 a1 82]=>some (.a (.b ((decide (n_a0=n_a1)&&Ua4 a0 a1))),.none,true)
 | _,_=>none
theorem Ztg:EntX PZ 37:=Zag (fn:=Tryz.f37) (by kernel_rfl) (by kernel_rfl) (by kernel_rfl)
theorem Zxt:Uab mn PZ 37 Zgq:=(Zaf (N:=18446744073709551616) (by kernel_rfl) (mkΓ_consX (Zac Ybe) Zuo mkΓ_nilX) (fn:=Tryz.f37) (by kernel_rfl) (by kernel_rfl) [([4,5],[])]).of (by
 intro ρ h w args vals r e hA hH hr
 unfold Zgq at hr
 split at hr
 ·rename_i b_a0 n_a0 a0 b_a1 n_a1 a1
  obtain ⟨rfl,rfl,hg2⟩:=BQi hr
  exact Zuv b_a0 n_a0 a0 b_a1 n_a1 a1 (hH.slw 0 rfl) (hH.slw 1 rfl) hg2
 ·cases hr)
theorem Zwv (N:Nat) (a1:Int) (b_a0:Option (Option Addr)) (n_a0:Nat) (a0:Array Value):ansV PZ (mkΓ []) N Tryz.f22 [] [.l 0,.i .i64 (a1)] [.sl (.came b_a0) n_a0 a0 114]=(bif decide ((i64.wrap (a1 - (n_a0:Int)))<(0:Int)) then (some (.a (.i .i64 (-1:Int)),.none,true))
  else (some (.a (.i .i64 (i64.wrap (a1 - (n_a0:Int)))),.none,true))):=by kernel_rfl
def Zb1 (a1:Int) (b_a0:Option (Option Addr)) (n_a0:Nat) (a0:Array Value):Int:=(bif decide ((i64.wrap (a1 - (n_a0:Int)))<(0:Int)) then (-1:Int) else (i64.wrap (a1 - (n_a0:Int))))
theorem Zu5 (a1:Int) (b_a0:Option (Option Addr)) (n_a0:Nat) (a0:Array Value) (h_a1:i64.min≤a1∧a1≤i64.max) (h_a0:SlT 114 n_a0 a0) (hg:(true)=true):ansV PZ (mkΓ []) 1000 Tryz.f22 [] [.l 0,.i .i64 (a1)] [.sl (.came b_a0) n_a0 a0 114]=some (.a (.i .i64 (Zb1 a1 b_a0 n_a0 a0)),.none,true):=by
 refine (Zwv 1000 a1 b_a0 n_a0 a0).trans ?_
 unfold Zb1
 revert hg
 generalize (decide ((i64.wrap (a1 - (n_a0:Int)))<(0:Int)))=b2
 intro hg
 cases b2
 ·skip
  first | (simp only [Q1,Q2,BQ6];done) | rfl | exact (nomatch (hg:false=true))
 ·skip
  first | (simp only [Q1,Q2,BQ6];done) | rfl | exact (nomatch (hg:false=true))
def Zg3:Con:=fun args h=>match args,h with
 | [.l 0,.i .i64 a1],[.sl (.came b_a0) n_a0 a0 114]=>some (.a (.i .i64 (Zb1 a1 b_a0 n_a0 a0)),.none,true)
 | _,_=>none
theorem Zsk:EntX PZ 22:=Zag (fn:=Tryz.f22) (by kernel_rfl) (by kernel_rfl) (by kernel_rfl)
theorem Zyr:Uab mn PZ 22 Zg3:=(Zaf (N:=1000) (by kernel_rfl) mkΓ_nilX (fn:=Tryz.f22) (by kernel_rfl) (by kernel_rfl) []).of (by
 intro ρ h w args vals r e hA hH hr
 unfold Zg3 at hr
 split at hr
 ·rename_i a1 b_a0 n_a0 a0
  obtain ⟨rfl,rfl,hg2⟩:=BQi hr
  exact Zu5 a1 b_a0 n_a0 a0 (hA.rng 1 rfl) (hH.slw 0 rfl) hg2
 ·cases hr)
theorem Ydj (N:Nat) (a0:Array Value) (bR:Option (Option Addr)) (nR:Nat) (aR:Array Value):ansV PZ (mkΓ [(30,con Zg2)]) N Tryz.f10 [] [.r a0 31 [(2,0)]] [.sl (.came bR) nR aR 114]=(bif decide (nR≤1048576) then (some (.a (.r #[.int .i8 (num a0 0),.int .i8 (num a0 1),.slice none 0 0] 45 [(2,HOLE)]),.newS (some 1000000) nR aR 82,true))
  else (none)):=by kernel_rfl
theorem Ycw (a0:Array Value) (bR:Option (Option Addr)) (nR:Nat) (aR:Array Value) (h_a0:WT PZ 31 a0) (h_a0x2:SlT 114 nR aR) (hg:(decide (nR≤1048576))=true):ansV PZ (mkΓ [(30,con Zg2)]) 1000 Tryz.f10 [] [.r a0 31 [(2,0)]] [.sl (.came bR) nR aR 114]=some (.a (.r a0 45 [(2,HOLE)]),.newS (some 1000000) nR aR 82,true):=by
 have hz:a0.size=3:=by rw [h_a0.layLen];kernel_rfl
 have e0:=(h_a0.int (o:=0) (k:=.i8) (by kernel_rfl)).1
 have e1:=(h_a0.int (o:=1) (k:=.i8) (by kernel_rfl)).1
 have e2:=h_a0.nil (o:=2) (by kernel_rfl)
 have he:(#[.int .i8 (num a0 0),.int .i8 (num a0 1),.slice none 0 0]:Array Value)=a0:=Zf9 fun i=>by
  match i with
  | 0=>exact e0.symm
  | 1=>exact e1.symm
  | 2=>exact e2.symm
  | i+3=>rw [jD (by simp),jD (by omega)]
 refine (Ydj 1000 a0 bR nR aR).trans ?_
 rw [hg,he]
 rfl
def Znf:Con:=fun args h=>match args,h with
 | [.r a0 31 [(2,0)]],[.sl (.came bR) nR aR 114]=>some (.a (.r a0 45 [(2,HOLE)]),.newS (some 1000000) nR aR 82,decide (nR≤1048576))
 | _,_=>none
theorem Zzy:EntX PZ 10:=Zag (fn:=Tryz.f10) (by kernel_rfl) (by kernel_rfl) (by kernel_rfl)
theorem Yfn:Uab mn PZ 10 Znf:=(Zaf (N:=1000) (by kernel_rfl) (mkΓ_consX (Zac Zyl) Zsq mkΓ_nilX) (fn:=Tryz.f10) (by kernel_rfl) (by kernel_rfl) []).of (by
 intro ρ h w args vals r e hA hH hr
 unfold Znf at hr
 split at hr
 ·rename_i a0 bR nR aR
  obtain ⟨rfl,rfl,hg2⟩:=BQi hr
  exact Ycw a0 bR nR aR (hA.wtr 0 rfl) (hH.slw 0 rfl) hg2
 ·cases hr)
theorem Yfi (N:Nat) (a0 a1:Array Value) (bR:Option (Option Addr)) (nR:Nat) (aR:Array Value) (bQ:Option (Option Addr)) (nQ:Nat) (aQ:Array Value):ansV PZ (mkΓ [(37,con Zgq)]) N Tryz.f13 [] [.r a0 45 [(2,0)],.r a1 45 [(2,1)]] [.sl (.came bR) nR aR 82,.sl (.came bQ) nQ aQ 82]=(bif ((num a0 0) != (num a1 0)) then (some (.a (.b (false)),.none,true))
  else (bif ((num a0 1) != (num a1 1)) then (some (.a (.b (false)),.none,true))
   else (bif (!((decide (nR=nQ)&&Ua4 aR aQ))) then (some (.a (.b (false)),.none,true))
    else (some (.a (.b (true)),.none,true))))):=by kernel_rfl
def Zc7 (a0 a1:Array Value) (bR:Option (Option Addr)) (nR:Nat) (aR:Array Value) (bQ:Option (Option Addr)) (nQ:Nat) (aQ:Array Value):Bool:=(bif ((num a0 0) != (num a1 0)) then false else (bif ((num a0 1) != (num a1 1)) then false else (bif (!((decide (nR=nQ)&&Ua4 aR aQ))) then false else true)))
theorem Yce (a0 a1:Array Value) (bR:Option (Option Addr)) (nR:Nat) (aR:Array Value) (bQ:Option (Option Addr)) (nQ:Nat) (aQ:Array Value) (h_a0:WT PZ 45 a0) (h_a1:WT PZ 45 a1) (h_a0x2:SlT 82 nR aR) (h_a1x2:SlT 82 nQ aQ) (hg:(true)=true):ansV PZ (mkΓ [(37,con Zgq)]) 1000 Tryz.f13 [] [.r a0 45 [(2,0)],.r a1 45 [(2,1)]] [.sl (.came bR) nR aR 82,.sl (.came bQ) nQ aQ 82]=some (.a (.b ((Zc7 a0 a1 bR nR aR bQ nQ aQ))),.none,true):=by
 refine (Yfi 1000 a0 a1 bR nR aR bQ nQ aQ).trans ?_
 unfold Zc7
 revert hg
 generalize (((num a0 0) != (num a1 0)))=b2
 intro hg
 cases b2
 ·skip
  revert hg
  generalize (((num a0 1) != (num a1 1)))=b4
  intro hg
  cases b4
  ·skip
   revert hg
   generalize ((!((decide (nR=nQ)&&Ua4 aR aQ))))=b6
   intro hg
   cases b6
   ·skip
    first | (simp only [Q1,Q2,BQ6];done) | rfl | exact (nomatch (hg:false=true))
   ·skip
    first | (simp only [Q1,Q2,BQ6];done) | rfl | exact (nomatch (hg:false=true))
  ·skip
   first | (simp only [Q1,Q2,BQ6];done) | rfl | exact (nomatch (hg:false=true))
 ·skip
  first | (simp only [Q1,Q2,BQ6];done) | rfl | exact (nomatch (hg:false=true))
def Zn0:Con:=fun args h=>match args,h with
 | [.r a0 45 [(2,0)],.r a1 45 [(2,1)]],[.sl (.came bR) nR aR 82,.sl (.came bQ) nQ aQ 82]=>some (.a (.b ((Zc7 a0 a1 bR nR aR bQ nQ aQ))),.none,true)
 | _,_=>none
theorem Yba:EntX PZ 13:=Zag (fn:=Tryz.f13) (by kernel_rfl) (by kernel_rfl) (by kernel_rfl)
theorem Yfk:Uab mn PZ 13 Zn0:=(Zaf (N:=1000) (by kernel_rfl) (mkΓ_consX (Zac Zxt) Ztg mkΓ_nilX) (fn:=Tryz.f13) (by kernel_rfl) (by kernel_rfl) []).of (by
 intro ρ h w args vals r e hA hH hr
 unfold Zn0 at hr
 split at hr
 ·rename_i a0 a1 bR nR aR bQ nQ aQ
  obtain ⟨rfl,rfl,hg2⟩:=BQi hr
  exact Yce a0 a1 bR nR aR bQ nQ aQ (hA.wtr 0 rfl) (hA.wtr 1 rfl) (hH.slw 0 rfl) (hH.slw 1 rfl) hg2
 ·cases hr)
theorem Ydw (N:Nat) (a0:Array Value) (a1:Int) (bR:Option (Option Addr)) (nR:Nat) (aR:Array Value):ansV PZ (mkΓ [(22,con Zg3)]) N Tryz.f7 [] [.r a0 31 [(2,0)],.i .i64 (a1)] [.sl (.came bR) nR aR 114]=(bif decide ((Zb1 a1 bR nR aR)<(0:Int)) then (some (.a (.i .i64 (-1:Int)),.none,true))
  else (some (.a (.i .i64 (Zb1 a1 bR nR aR)),.none,true))):=by kernel_rfl
def Zd4 (a0:Array Value) (a1:Int) (bR:Option (Option Addr)) (nR:Nat) (aR:Array Value):Int:=(bif decide ((Zb1 a1 bR nR aR)<(0:Int)) then (-1:Int) else (Zb1 a1 bR nR aR))
theorem Yb7 (a0:Array Value) (a1:Int) (bR:Option (Option Addr)) (nR:Nat) (aR:Array Value) (h_a0:WT PZ 31 a0) (h_a1:i64.min≤a1∧a1≤i64.max) (h_a0x2:SlT 114 nR aR) (hg:(true)=true):ansV PZ (mkΓ [(22,con Zg3)]) 1000 Tryz.f7 [] [.r a0 31 [(2,0)],.i .i64 (a1)] [.sl (.came bR) nR aR 114]=some (.a (.i .i64 (Zd4 a0 a1 bR nR aR)),.none,true):=by
 refine (Ydw 1000 a0 a1 bR nR aR).trans ?_
 unfold Zd4
 revert hg
 generalize (decide ((Zb1 a1 bR nR aR)<(0:Int)))=b2
 intro hg
 cases b2
 ·skip
  first | (simp only [Q1,Q2,BQ6];done) | rfl | exact (nomatch (hg:false=true))
 ·skip
  first | (simp only [Q1,Q2,BQ6];done) | rfl | exact (nomatch (hg:false=true))
def Znk:Con:=fun args h=>match args,h with
 | [.r a0 31 [(2,0)],.i .i64 a1],[.sl (.came bR) nR aR 114]=>some (.a (.i .i64 (Zd4 a0 a1 bR nR aR)),.none,true)
 | _,_=>none
theorem Yay:EntX PZ 7:=Zag (fn:=Tryz.f7) (by kernel_rfl) (by kernel_rfl) (by kernel_rfl)
theorem Yf6:Uab mn PZ 7 Znk:=(Zaf (N:=1000) (by kernel_rfl) (mkΓ_consX (Zac Zyr) Zsk mkΓ_nilX) (fn:=Tryz.f7) (by kernel_rfl) (by kernel_rfl) []).of (by
 intro ρ h w args vals r e hA hH hr
 unfold Znk at hr
 split at hr
 ·rename_i a0 a1 bR nR aR
  obtain ⟨rfl,rfl,hg2⟩:=BQi hr
  exact Yb7 a0 a1 bR nR aR (hA.wtr 0 rfl) (hA.rng 1 rfl) (hH.slw 0 rfl) hg2
 ·cases hr)
theorem Yar (N:Nat) (a0 a1:Array Value) (bQ:Option (Option Addr)) (nQ:Nat) (aQ:Array Value):ansV PZ (mkΓ []) N Tryz.f85 [] [.g a0 41,.r a1 45 [(2,0)]] [.sl (.came bQ) nQ aQ 82]=(some (.a (.r ((spl (spl (zc PZ 73) 0 (#[.int .i64 (i64.wrap (num a1 0)),.int .i64 (i64.wrap (num a1 1))]:Array Value).toList) 2 a0.toList).setIfInBounds 365 (.slice none 0 0)) 73 [(365,0)]),.none,true)):=by kernel_rfl
theorem Zxi (a0 a1:Array Value) (bQ:Option (Option Addr)) (nQ:Nat) (aQ:Array Value) (h_a0:WT PZ 41 a0) (h_a1:WT PZ 45 a1) (h_a1x2:SlT 82 nQ aQ) (hg:(true)=true):ansV PZ (mkΓ []) 1000 Tryz.f85 [] [.g a0 41,.r a1 45 [(2,0)]] [.sl (.came bQ) nQ aQ 82]=some (.a (.r ((spl (spl (zc PZ 73) 0 (#[.int .i64 (i64.wrap (num a1 0)),.int .i64 (i64.wrap (num a1 1))]:Array Value).toList) 2 a0.toList).setIfInBounds 365 (.slice none 0 0)) 73 [(365,0)]),.none,true):=by
 refine (Yar 1000 a0 a1 bQ nQ aQ).trans ?_
 rfl
def Zij:Con:=fun args h=>match args,h with
 | [.g a0 41,.r a1 45 [(2,0)]],[.sl (.came bQ) nQ aQ 82]=>some (.a (.r ((spl (spl (zc PZ 73) 0 (#[.int .i64 (i64.wrap (num a1 0)),.int .i64 (i64.wrap (num a1 1))]:Array Value).toList) 2 a0.toList).setIfInBounds 365 (.slice none 0 0)) 73 [(365,0)]),.none,true)
 | _,_=>none
theorem Zjn:EntX PZ 85:=Zag (fn:=Tryz.f85) (by kernel_rfl) (by kernel_rfl) (by kernel_rfl)
theorem Zmn:Uab mn PZ 85 Zij:=(Zaf (N:=1000) (by kernel_rfl) mkΓ_nilX (fn:=Tryz.f85) (by kernel_rfl) (by kernel_rfl) []).of (by
 intro ρ h w args vals r e hA hH hr
 unfold Zij at hr
 split at hr
 ·rename_i a0 a1 bQ nQ aQ
  obtain ⟨rfl,rfl,hg2⟩:=BQi hr
  exact Zxi a0 a1 bQ nQ aQ (hA.wt 0 rfl) (hA.wtr 1 rfl) (hH.slw 0 rfl) hg2
 ·cases hr)
theorem Zrv (N:Nat) (a0:Array Value) (a1:Int):ansV PZ (mkΓ []) N Tryz.f124 [] [.g a0 71,.i .i64 (a1)] []=(bif decide (a1 ≥ (0:Int)) then (some (.a (.b (decide (a1<(num a0 1)))),.none,true))
  else (some (.a (.b (false)),.none,true))):=by kernel_rfl
def Zb5 (a0:Array Value) (a1:Int):Bool:=(bif decide (a1 ≥ (0:Int)) then decide (a1<(num a0 1)) else false)
theorem Zqz (a0:Array Value) (a1:Int) (h_a0:WT PZ 71 a0) (h_a1:i64.min≤a1∧a1≤i64.max) (hg:(true)=true):ansV PZ (mkΓ []) 1000 Tryz.f124 [] [.g a0 71,.i .i64 (a1)] []=some (.a (.b ((Zb5 a0 a1))),.none,true):=by
 refine (Zrv 1000 a0 a1).trans ?_
 unfold Zb5
 revert hg
 generalize (decide (a1 ≥ (0:Int)))=b2
 intro hg
 cases b2
 ·skip
  first | (simp only [Q1,Q2,BQ6];done) | rfl | exact (nomatch (hg:false=true))
 ·skip
  first | (simp only [Q1,Q2,BQ6];done) | rfl | exact (nomatch (hg:false=true))
def Zhh:Con:=fun args h=>match args,h with
 | [.g a0 71,.i .i64 a1],[]=>some (.a (.b ((Zb5 a0 a1))),.none,true)
 | _,_=>none
theorem Zpl:EntX PZ 124:=Zag (fn:=Tryz.f124) (by kernel_rfl) (by kernel_rfl) (by kernel_rfl)
theorem Zth:Uab mn PZ 124 Zhh:=(Zaf (N:=1000) (by kernel_rfl) mkΓ_nilX (fn:=Tryz.f124) (by kernel_rfl) (by kernel_rfl) []).of (by
 intro ρ h w args vals r e hA hH hr
 unfold Zhh at hr
 split at hr
 ·rename_i a0 a1
  obtain ⟨rfl,rfl,hg2⟩:=BQi hr
  exact Zqz a0 a1 (hA.wt 0 rfl) (hA.rng 1 rfl) hg2
 ·cases hr)
def Zns:Cons:=(mkΓ [(33,con Zi8),(117,con Zi9),(124,con Zhh)])
theorem Zsb (N:Nat) (a0 a1:Array Value) (bS:Option (Option Addr)) (n_a0x365:Nat) (aS:Array Value):ansV PZ Zns N Tryz.f108 [] [.r a0 73 [(365,0)],.g a1 82] [.sl (.came bS) n_a0x365 aS 82]=(bif (Zao (a0.extract 2 (2+363)) (i64.wrap (num a1 0))) then (bif decide (0≤(i64.wrap (num a1 0))) then (bif (Zb3 (a0.extract 2 (2+363)) (i64.wrap (num a1 0))) then (bif (Zb5 (a0.extract 0 (0+2)) (i64.wrap (num a1 1))) then (bif decide ((num a1 2) ≥ (1:Int)) then (some (.a (.b (decide ((num a1 2)≤(200:Int)))),.none,true))
      else (some (.a (.b (false)),.none,true)))
     else (some (.a (.b (false)),.none,true)))
    else (some (.a (.b (false)),.none,true)))
   else (none))
  else (some (.a (.b (false)),.none,true))):=by kernel_rfl
def Zch (a0 a1:Array Value) (bS:Option (Option Addr)) (n_a0x365:Nat) (aS:Array Value):Bool:=(bif (Zao (a0.extract 2 (2+363)) (i64.wrap (num a1 0))) then (bif (Zb3 (a0.extract 2 (2+363)) (i64.wrap (num a1 0))) then (bif (Zb5 (a0.extract 0 (0+2)) (i64.wrap (num a1 1))) then (bif decide ((num a1 2) ≥ (1:Int)) then decide ((num a1 2)≤(200:Int)) else false) else false) else false) else false)
def Zcf (a0 a1:Array Value) (bS:Option (Option Addr)) (n_a0x365:Nat) (aS:Array Value):Bool:=(bif (Zao (a0.extract 2 (2+363)) (i64.wrap (num a1 0))) then decide (0≤(i64.wrap (num a1 0))) else true)
theorem Zrp (a0 a1:Array Value) (bS:Option (Option Addr)) (n_a0x365:Nat) (aS:Array Value) (h_a0:WT PZ 73 a0) (h_a1:WT PZ 82 a1) (h_a0x365:SlT 82 n_a0x365 aS) (hg:((Zcf a0 a1 bS n_a0x365 aS))=true):ansV PZ Zns 1000 Tryz.f108 [] [.r a0 73 [(365,0)],.g a1 82] [.sl (.came bS) n_a0x365 aS 82]=some (.a (.b ((Zch a0 a1 bS n_a0x365 aS))),.none,true):=by
 refine (Zsb 1000 a0 a1 bS n_a0x365 aS).trans ?_
 unfold Zcf at hg
 unfold Zch
 revert hg
 generalize ((Zao (a0.extract 2 (2+363)) (i64.wrap (num a1 0))))=b2
 intro hg
 cases b2
 ·skip
  first | (simp only [Q1,Q2,BQ6];done) | rfl | exact (nomatch (hg:false=true))
 ·skip
  revert hg
  generalize (decide (0≤(i64.wrap (num a1 0))))=b4
  intro hg
  cases b4
  ·skip
   first | exact (nomatch (hg:false=true)) | (simp only [Q1,Q2,BQ6];done) | rfl
  ·skip
   revert hg
   generalize ((Zb3 (a0.extract 2 (2+363)) (i64.wrap (num a1 0))))=b6
   intro hg
   cases b6
   ·skip
    first | (simp only [Q1,Q2,BQ6];done) | rfl | exact (nomatch (hg:false=true))
   ·skip
    revert hg
    generalize ((Zb5 (a0.extract 0 (0+2)) (i64.wrap (num a1 1))))=b8
    intro hg
    cases b8
    ·skip
     first | (simp only [Q1,Q2,BQ6];done) | rfl | exact (nomatch (hg:false=true))
    ·skip
     revert hg
     generalize (decide ((num a1 2) ≥ (1:Int)))=b10
     intro hg
     cases b10
     ·skip
      first | (simp only [Q1,Q2,BQ6];done) | rfl | exact (nomatch (hg:false=true))
     ·skip
      first | (simp only [Q1,Q2,BQ6];done) | rfl | exact (nomatch (hg:false=true))
def Zh4:Con:=fun args h=>match args,h with
 | [.r a0 73 [(365,0)],.g a1 82],[.sl (.came bS) n_a0x365 aS 82]=>some (.a (.b ((Zch a0 a1 bS n_a0x365 aS))),.none,(Zcf a0 a1 bS n_a0x365 aS))
 | _,_=>none
theorem Zp6:EntX PZ 108:=Zag (fn:=Tryz.f108) (by kernel_rfl) (by kernel_rfl) (by kernel_rfl)
theorem Zu8:Uab mn PZ 108 Zh4:=(Zaf (N:=1000) (by kernel_rfl) (mkΓ_consX (Zac Zsa) Zoe (mkΓ_consX (Zac Zs1) Zof (mkΓ_consX (Zac Zth) Zpl mkΓ_nilX))) (fn:=Tryz.f108) (by kernel_rfl) (by kernel_rfl) []).of (by
 intro ρ h w args vals r e hA hH hr
 unfold Zh4 at hr
 split at hr
 ·rename_i a0 a1 bS n_a0x365 aS
  obtain ⟨rfl,rfl,hg2⟩:=BQi hr
  exact Zrp a0 a1 bS n_a0x365 aS (hA.wtr 0 rfl) (hA.wt 1 rfl) (hH.slw 0 rfl) hg2
 ·cases hr)
theorem Yj7 {S p:Array Value} (hS:S.size=363):((spl (spl (zc PZ 73) 0 (#[.int .i64 (i64.wrap (num p 0)),.int .i64 (i64.wrap (num p 1))]:Array Value).toList) 2 S.toList).setIfInBounds 365 (.slice none 0 0)).extract 2 (2+363)=S∧((spl (spl (zc PZ 73) 0 (#[.int .i64 (i64.wrap (num p 0)),.int .i64 (i64.wrap (num p 1))]:Array Value).toList) 2 S.toList).setIfInBounds 365 (.slice none 0 0)).extract 0 (0+2)=#[.int .i64 (i64.wrap (num p 0)),.int .i64 (i64.wrap (num p 1))]:=by
 have hz:(zc PZ 73).size=366:=by kernel_rfl
 generalize (zc PZ 73)=Z at hz
 have hl:S.toList.length=363:=by rw [Array.length_toList,hS]
 constructor
 ·refine Array.ext_getElem? fun i=> ?_
  rw [Array.getElem?_extract,Array.getElem?_setIfInBounds,Array.size_setIfInBounds,Zg1 _ _ _ (by rw [Zh9,hz,hl];omega),Zh9,Zh9,hz,hl]
  by_cases hi:i<363
  ·rw [if_pos (by omega),if_neg (by omega),if_pos (by omega),Array.getElem?_toList,show 2+i - 2=i by omega]
  ·rw [if_neg (by omega),jD (by omega)]
 ·refine Array.ext_getElem? fun i=> ?_
  rw [Array.getElem?_extract,Array.getElem?_setIfInBounds,Array.size_setIfInBounds,Zg1 _ _ _ (by rw [Zh9,hz,hl];omega),Zg1 _ _ _ (by rw [hz];simp),Zh9,Zh9,hz,hl]
  by_cases hi:i<2
  ·rw [if_pos (by omega),if_neg (by omega),if_neg (by omega),if_pos (by simp;omega),Array.getElem?_toList,show 0+i - 0=i by omega]
  ·rw [if_neg (by omega),jD (by simp;omega)]
theorem takes_eq {S V X:Array Value} {h:Int} {x:Int} (bb:Option (Option Addr)) (n:Nat) (A:Array Value) (hS:WT PZ 41 S) (h1:V.extract 2 (2+363)=S) (h2:V.extract 0 (0+2)=#[.int .i64 x,.int .i64 h]) (hh: -128≤h∧h≤127) (hX:WT PZ 82 X) :
  Zcf V X bb n A=true∧Zch V X bb n A=relB S h X:=by
 obtain ⟨-,b0⟩:=hX.int (o:=0) (k:=.i8) (by kernel_rfl)
 obtain ⟨-,b1⟩:=hX.int (o:=1) (k:=.i8) (by kernel_rfl)
 obtain ⟨-,b2⟩:=hX.int (o:=2) (k:=.i16) (by kernel_rfl)
 have e1:IntKind.i16.min = -32768:=rfl
 have e2:IntKind.i16.max=32767:=rfl
 have w2:i64.wrap (num X 2)=num X 2:=IntWalk.i64_in _ (by omega)
 have w3:i64.wrap (h - 1)=h - 1:=IntWalk.i64_in _ (by omega)
 have w4:num (#[.int .i64 x,.int .i64 h]:Array Value) 1=h:=rfl
 unfold Zcf Zch relB Zae Zaa Zb5
 rw [h1,h2,Ypt,w2,w3,w4]
 cases hi:Zax (i64.wrap (num X 0)) S with
 | false=>exact ⟨rfl,rfl⟩
 | true=>
  have hr:=Yhu hi
  refine ⟨Q3 hr.1, ?_⟩
  unfold Zb3
  rw [land_all hS hr]
  have e3:decide (i64.wrap (num X 1)<h)=decide (i64.wrap (num X 1)≤h - 1):=decide_eq_decide.2 (by omega)
  rw [e3]
  cases Zcb (i64.wrap (num X 0)) S<;>cases decide (i64.wrap (num X 1) ≥ 0)<;>cases decide (i64.wrap (num X 1)≤h - 1)<;>cases decide (num X 2 ≥ 1)<;>cases decide (num X 2≤200)<;>rfl
def Zcu (a0:Array Value) (bS:Option (Option Addr)) (n_a0x365:Nat) (aS:Array Value):St:=(⟨.a (.r a0 73 [(365,0)]) :: .a (.w 1) :: .a (.i .i64 (0:Int)) :: .a (.i .i64 (0:Int)) :: .a (.u) :: .a (.u) :: .a (.p 1 (365) 43) :: .a (.l 0) :: .a (.i .i64 (n_a0x365:Int)) :: .a (.i .i64 (0:Int))::us 10 ([]),[.sl (.came bS) n_a0x365 aS 82,.one (.r a0 73 [(365,0)]) 73,.no],[]⟩:St)
def Zdy:Int×Int→LS
 | (y0_3,y0_9)=>([.a (.i .i64 (y0_3)),.a (.i .i64 (y0_9))],[])
def Zhk:Int×Int→Exit×LS
 | t=>((.exit 0),Zdy t)
def Zbf (P:Program) (a0:Array Value) (bS:Option (Option Addr)) (n_a0x365:Nat) (aS:Array Value):Int×Int→Option (Stp (Int×Int) (Int×Int))
 | (y0_3,y0_9)=>bif decide (y0_9<(n_a0x365:Int)) then (bif (decide (0≤y0_9)&&decide (y0_9<(n_a0x365:Int))) then (some (.more ((i64.wrap (y0_3+(i64.wrap (num (aS.extract ((y0_9).toNat*3) (((y0_9).toNat*3)+3)) 2)))),(i64.wrap (y0_9+(1:Int))))))
   else (none))
  else (some (.done (y0_3,y0_9)))
def Uey:=(Uaf (codeOf Tryz.f50) [([3,9],[])]).1
theorem Zrq (N:Nat) (a0:Array Value) (bS:Option (Option Addr)) (n_a0x365:Nat) (aS:Array Value):∀ t:Int×Int,Uag PZ (mkΓ []) N (cAt (codeOf Tryz.f50) [1,1,0,1,0,0]) (pAt Uey [1,1,0,1,0]) [3,9] [] (Zcu a0 bS n_a0x365 aS) (Zdy t)=mapS Zdy Zhk (Zbf PZ a0 bS n_a0x365 aS t):=by
 rintro ⟨y0_3,y0_9⟩
 refine Eq.trans (b:=(bif decide (y0_9<(n_a0x365:Int)) then (bif (decide (0≤y0_9)&&decide (y0_9<(n_a0x365:Int))) then (some (.more ([.a (.i .i64 (i64.wrap (y0_3+(i64.wrap (num (aS.extract ((y0_9).toNat*3) (((y0_9).toNat*3)+3)) 2))))),.a (.i .i64 (i64.wrap (y0_9+(1:Int))))],[])))
   else (none))
  else (some (.done ((.exit 0),([.a (.i .i64 (y0_3)),.a (.i .i64 (y0_9))],[])))))) (by kernel_rfl) ?_
 simp only [Zbf,Zaz,Zay,Za1,Za0,Zdy,Zhk]
def Zgc (P:Program) (N:Nat) (a0:Array Value) (bS:Option (Option Addr)) (n_a0x365:Nat) (aS:Array Value) (z0_3:Int) (z0_9:Int):Option (SV×Eff×Bool):=some (.a (.i .i64 (z0_3)),.none,true)
def Ufn (N:Nat) (bS:Option (Option Addr)) (n_a0x365:Nat) (aS:Array Value):=(Uan 0 (kSeq (veC PZ (mkΓ []) N (cAt (codeOf Tryz.f50) [1,1,1]) (pAt Uey [1,1,1]) (SV×Eff×Bool)) (finK PZ [.sl (.came bS) n_a0x365 aS 82] [.tmp 2])))
theorem Znb (N:Nat) (a0:Array Value) (bS:Option (Option Addr)) (n_a0x365:Nat) (aS:Array Value) (z0_3:Int) (z0_9:Int):(Ufn N bS n_a0x365 aS) (.exit 0) (left (writes (cAt (codeOf Tryz.f50) [1,1,0,1,0,0])) [3,9] [] (Zcu a0 bS n_a0x365 aS) ([.a (.i .i64 (z0_3)),.a (.i .i64 (z0_9))],[]))=Zgc PZ N a0 bS n_a0x365 aS z0_3 z0_9:=by
 refine Eq.trans (b:=(some (.a (.i .i64 (z0_3)),.none,true))) (by kernel_rfl) ?_
 rfl
theorem Zr1 (N:Nat) (a0:Array Value) (bS:Option (Option Addr)) (n_a0x365:Nat) (aS:Array Value):Uah (Uaa (Uag PZ (mkΓ []) N (cAt (codeOf Tryz.f50) [1,1,0,1,0,0]) (pAt Uey [1,1,0,1,0]) [3,9] [] (Zcu a0 bS n_a0x365 aS)) N ([.a (.i .i64 (0:Int)),.a (.i .i64 (0:Int))],[])) (fun e s=>(Ufn N bS n_a0x365 aS) e (left (writes (cAt (codeOf Tryz.f50) [1,1,0,1,0,0])) [3,9] [] (Zcu a0 bS n_a0x365 aS) s))=Uak (Uaa (Zbf PZ a0 bS n_a0x365 aS) N ((0:Int),(0:Int))) (fun x=>Zgc PZ N a0 bS n_a0x365 aS x.1 x.2):=by
 refine Zbd Zdy Zhk _ _ (Zrq N a0 bS n_a0x365 aS) N ((0:Int),(0:Int)) _ _ ?_
 intro x;exact Znb N a0 bS n_a0x365 aS x.1 x.2
theorem Zqo (N:Nat) (a0:Array Value) (bS:Option (Option Addr)) (n_a0x365:Nat) (aS:Array Value):ansV PZ (mkΓ []) N Tryz.f50 [([3,9],[])] [.r a0 73 [(365,0)]] [.sl (.came bS) n_a0x365 aS 82]=(Uak (Uaa (Zbf PZ a0 bS n_a0x365 aS) N ((0:Int),(0:Int))) (fun x=>Zgc PZ N a0 bS n_a0x365 aS x.1 x.2)):=by
 refine Eq.trans (b:=(Uah (Uaa (Uag PZ (mkΓ []) N (cAt (codeOf Tryz.f50) [1,1,0,1,0,0]) (pAt Uey [1,1,0,1,0]) [3,9] [] (Zcu a0 bS n_a0x365 aS)) N ([.a (.i .i64 (0:Int)),.a (.i .i64 (0:Int))],[])) (fun e s=>(Ufn N bS n_a0x365 aS) e (left (writes (cAt (codeOf Tryz.f50) [1,1,0,1,0,0])) [3,9] [] (Zcu a0 bS n_a0x365 aS) s)))) (by kernel_rfl) ?_
 simp only [Zr1 N a0 bS n_a0x365 aS]
theorem Zpt (a0:Array Value) (bS:Option (Option Addr)) (n_a0x365:Nat) (aS:Array Value) (h_a0:WT PZ 73 a0) (h_a0x365:SlT 82 n_a0x365 aS) (hg:(true)=true):ansV PZ (mkΓ []) 18446744073709551616 Tryz.f50 [([3,9],[])] [.r a0 73 [(365,0)]] [.sl (.came bS) n_a0x365 aS 82]=some (.a (.i .i64 (wsum aS n_a0x365)),.none,true):=by
 have hn:=h_a0x365.2.2
 refine (Zqo 18446744073709551616 a0 bS n_a0x365 aS).trans ?_
 have h:=Zcc (g:=Zbf PZ a0 bS n_a0x365 aS) (fun k=>(wsum aS k,(k:Int))) (m:=n_a0x365) (x:=(wsum aS n_a0x365,(n_a0x365:Int))) (N:=18446744073709551616) (fun k hk=>by
  have h1:decide ((k:Int)<(n_a0x365:Int))=true:=Q3 (by omega)
  have h0:decide (0≤(k:Int))=true:=Q3 (by omega)
  have h3:i64.wrap ((k:Int)+1)=((k+1:Nat):Int):=by rw [IntWalk.i64_in _ (by omega)];omega
  simp only [Zbf,h1,h0,jA,Q9,Q1,h3]
  rfl) (by
  have h1:decide ((n_a0x365:Int)<(n_a0x365:Int))=false:=Q4 (by omega)
  simp only [Zbf,h1,Q2]) (by omega)
 have h':Uaa (Zbf PZ a0 bS n_a0x365 aS) 18446744073709551616 ((0:Int),(0:Int))=some (wsum aS n_a0x365,(n_a0x365:Int)):=h
 rw [h']
 rfl
def Zdc:Con:=fun args h=>match args,h with
 | [.r a0 73 [(365,0)]],[.sl (.came bS) n_a0x365 aS 82]=>some (.a (.i .i64 (wsum aS n_a0x365)),.none,true)
 | _,_=>none
theorem Zd7:EntX PZ 50:=Zag (fn:=Tryz.f50) (by kernel_rfl) (by kernel_rfl) (by kernel_rfl)
theorem Zfb:Uab mn PZ 50 Zdc:=(Zaf (N:=18446744073709551616) (by kernel_rfl) mkΓ_nilX (fn:=Tryz.f50) (by kernel_rfl) (by kernel_rfl) [([3,9],[])]).of (by
 intro ρ h w args vals r e hA hH hr
 unfold Zdc at hr
 split at hr
 ·rename_i a0 bS n_a0x365 aS
  obtain ⟨rfl,rfl,hg2⟩:=BQi hr
  exact Zpt a0 bS n_a0x365 aS (hA.wtr 0 rfl) (hH.slw 0 rfl) hg2
 ·cases hr)
def Zj6:Cons:=(mkΓ [(38,con Zhu),(47,con Zcw),(82,con Zme)])
def Zgs (a0 a1:Array Value) (bQ:Option (Option Addr)) (nQ:Nat) (aQ:Array Value):St:=(⟨.a (.w 0) :: .a (.w 1) :: .a (.u) :: .a (.u) :: .a (.b (false)) :: .a (.i .i64 (0:Int)) :: .a (.i .i64 (0:Int)) :: .a (.u) :: .a (.w 1) :: .a (.w 1) :: .a (.p 1 (0) 22) :: .a (.i .i8 (num a1 0)) :: .a (.i .i64 (i64.wrap (num a1 0))) :: .a (.b ((Zaa (i64.wrap (num a1 0)) (0:Int) (1:Int)))) :: .a (.b ((!((Zaa (i64.wrap (num a1 0)) (0:Int) (1:Int)))))) :: .a (.b (false)) :: .a (.w 1) :: .a (.w 1) :: .a (.p 1 (1) 22) :: .a (.i .i8 (num a1 1)) :: .a (.i .i64 (i64.wrap (num a1 1))) :: .a (.b ((Zaa (i64.wrap (num a1 1)) (1:Int) (8:Int)))) :: .a (.b ((!((Zaa (i64.wrap (num a1 1)) (1:Int) (8:Int)))))) :: .a (.b ((!((Zaa (i64.wrap (num a1 1)) (1:Int) (8:Int)))))) :: .a (.b (false)) :: .a (.w 1) :: .a (.w 1) :: .a (.p 1 (2) 43) :: .a (.l 2) :: .a (.i .i64 (nQ:Int)) :: .a (.b (decide ((nQ:Int) > (12:Int)))) :: .a (.b (decide ((nQ:Int) > (12:Int))))::us 49 ([]),[.row a0 41,.one (.r a1 45 [(2,2)]) 45,.sl (.came bQ) nQ aQ 82],[]⟩:St)
def Zil:Bool×Int×Int→LS
 | (y0_4,y0_5,y0_6)=>([.a (.b (y0_4)),.a (.i .i64 (y0_5)),.a (.i .i64 (y0_6))],[])
def Zqj:(Stp (Bool×Int×Int) (Bool×Int×Int))→Exit×LS
 | .more t=>(.ret,Zil t)
 | .done t=>((.exit 0),Zil t)
def Zd9 (P : Program) (a0 a1 : Array Value) (bQ : Option (Option Addr)) (nQ : Nat) (aQ : Array Value) : Bool × Int × Int → Option (Stp (Bool × Int × Int) (Stp (Bool × Int × Int) (Bool × Int × Int)))
 | (y0_4, y0_5, y0_6) => bif decide (y0_6 < (nQ : Int)) then (bif (decide (0 ≤ y0_6) && decide (y0_6 < (nQ : Int))) then (bif (Za3 (i64.wrap (num (aQ.extract ((y0_6).toNat * 3) (((y0_6).toNat * 3) + 3)) 0)) a0) then (bif (!((Zae (i64.wrap (num (aQ.extract ((y0_6).toNat * 3) (((y0_6).toNat * 3) + 3)) 0)) a0))) then (some (.done (.more (false, y0_5, y0_6))))
     else (bif (!((Zaa (i64.wrap (num (aQ.extract ((y0_6).toNat * 3) (((y0_6).toNat * 3) + 3)) 1)) (0 : Int) (i64.wrap ((i64.wrap (num a1 1)) - (1 : Int)))))) then (some (.done (.more (false, y0_5, y0_6))))
      else (bif (!((Zaa (i64.wrap (num (aQ.extract ((y0_6).toNat * 3) (((y0_6).toNat * 3) + 3)) 2)) (1 : Int) (200 : Int)))) then (some (.done (.more (false, y0_5, y0_6))))
       else (some (.more (y0_4, (i64.wrap (y0_5 + (i64.wrap (num (aQ.extract ((y0_6).toNat * 3) (((y0_6).toNat * 3) + 3)) 2)))), (i64.wrap (y0_6 + (1 : Int)))))))))
    else (none))
   else (none))
  else (some (.done (.done (y0_4, y0_5, y0_6))))
def Ueo:=(Uaf (codeOf Tryz.f54) [([4,5,6],[])]).1
theorem Yhs (N:Nat) (a0 a1:Array Value) (bQ:Option (Option Addr)) (nQ:Nat) (aQ:Array Value):∀ t:Bool×Int×Int,Uag PZ Zj6 N (cAt (codeOf Tryz.f54) [1,1,1,0,1,0,0]) (pAt Ueo [1,1,1,0,1,0]) [4,5,6] [] (Zgs a0 a1 bQ nQ aQ) (Zil t)=mapS Zil Zqj (Zd9 PZ a0 a1 bQ nQ aQ t):=by
 rintro ⟨y0_4,y0_5,y0_6⟩
 refine Eq.trans (b:=(bif decide (y0_6<(nQ:Int)) then (bif (decide (0≤y0_6)&&decide (y0_6<(nQ:Int))) then (bif (Za3 (i64.wrap (num (aQ.extract ((y0_6).toNat*3) (((y0_6).toNat*3)+3)) 0)) a0) then (bif (!((Zae (i64.wrap (num (aQ.extract ((y0_6).toNat*3) (((y0_6).toNat*3)+3)) 0)) a0))) then (some (.done (.ret,([.a (.b (false)),.a (.i .i64 (y0_5)),.a (.i .i64 (y0_6))],[]))))
     else (bif (!((Zaa (i64.wrap (num (aQ.extract ((y0_6).toNat*3) (((y0_6).toNat*3)+3)) 1)) (0:Int) (i64.wrap ((i64.wrap (num a1 1)) - (1:Int)))))) then (some (.done (.ret,([.a (.b (false)),.a (.i .i64 (y0_5)),.a (.i .i64 (y0_6))],[]))))
      else (bif (!((Zaa (i64.wrap (num (aQ.extract ((y0_6).toNat*3) (((y0_6).toNat*3)+3)) 2)) (1:Int) (200:Int)))) then (some (.done (.ret,([.a (.b (false)),.a (.i .i64 (y0_5)),.a (.i .i64 (y0_6))],[]))))
       else (some (.more ([.a (.b (y0_4)),.a (.i .i64 (i64.wrap (y0_5+(i64.wrap (num (aQ.extract ((y0_6).toNat*3) (((y0_6).toNat*3)+3)) 2))))),.a (.i .i64 (i64.wrap (y0_6+(1:Int))))],[]))))))
    else (none))
   else (none))
  else (some (.done ((.exit 0),([.a (.b (y0_4)),.a (.i .i64 (y0_5)),.a (.i .i64 (y0_6))],[])))))) (by kernel_rfl) ?_
 simp only [Zd9,Zaz,Zay,Za1,Za0,Zil,Zqj]
def Znz (P:Program) (N:Nat) (a0 a1:Array Value) (bQ:Option (Option Addr)) (nQ:Nat) (aQ:Array Value) (z0_4:Bool) (z0_5:Int) (z0_6:Int):Option (SV×Eff×Bool):=some (.a (.b (z0_4)),.none,true)
def Uer (N:Nat) (a0 a1:Array Value) (bQ:Option (Option Addr)) (nQ:Nat) (aQ:Array Value):=(Uan 0 (kSeq (veC PZ Zj6 N (cAt (codeOf Tryz.f54) [1,1,1,1]) (pAt Ueo [1,1,1,1]) (SV×Eff×Bool)) (finK PZ [.row a0 41,.one (.r a1 45 [(2,2)]) 45,.sl (.came bQ) nQ aQ 82] [.tmp 4])))
theorem Zw6 (N:Nat) (a0 a1:Array Value) (bQ:Option (Option Addr)) (nQ:Nat) (aQ:Array Value) (z0_4:Bool) (z0_5:Int) (z0_6:Int):(Uer N a0 a1 bQ nQ aQ) .ret (left (writes (cAt (codeOf Tryz.f54) [1,1,1,0,1,0,0])) [4,5,6] [] (Zgs a0 a1 bQ nQ aQ) ([.a (.b (z0_4)),.a (.i .i64 (z0_5)),.a (.i .i64 (z0_6))],[]))=Znz PZ N a0 a1 bQ nQ aQ z0_4 z0_5 z0_6:=by
 refine Eq.trans (b:=(some (.a (.b (z0_4)),.none,true))) (by kernel_rfl) ?_
 rfl
def Znv (P:Program) (N:Nat) (a0 a1:Array Value) (bQ:Option (Option Addr)) (nQ:Nat) (aQ:Array Value) (z0_4:Bool) (z0_5:Int) (z0_6:Int):Option (SV×Eff×Bool):=some (.a (.b (decide (z0_5≤(1000:Int)))),.none,true)
theorem Zy0 (N:Nat) (a0 a1:Array Value) (bQ:Option (Option Addr)) (nQ:Nat) (aQ:Array Value) (z0_4:Bool) (z0_5:Int) (z0_6:Int):(Uer N a0 a1 bQ nQ aQ) (.exit 0) (left (writes (cAt (codeOf Tryz.f54) [1,1,1,0,1,0,0])) [4,5,6] [] (Zgs a0 a1 bQ nQ aQ) ([.a (.b (z0_4)),.a (.i .i64 (z0_5)),.a (.i .i64 (z0_6))],[]))=Znv PZ N a0 a1 bQ nQ aQ z0_4 z0_5 z0_6:=by
 refine Eq.trans (b:=(some (.a (.b (decide (z0_5≤(1000:Int)))),.none,true))) (by kernel_rfl) ?_
 rfl
theorem Yif (N:Nat) (a0 a1:Array Value) (bQ:Option (Option Addr)) (nQ:Nat) (aQ:Array Value):Uah (Uaa (Uag PZ Zj6 N (cAt (codeOf Tryz.f54) [1,1,1,0,1,0,0]) (pAt Ueo [1,1,1,0,1,0]) [4,5,6] [] (Zgs a0 a1 bQ nQ aQ)) N ([.a (.b (false)),.a (.i .i64 (0:Int)),.a (.i .i64 (0:Int))],[])) (fun e s=>(Uer N a0 a1 bQ nQ aQ) e (left (writes (cAt (codeOf Tryz.f54) [1,1,1,0,1,0,0])) [4,5,6] [] (Zgs a0 a1 bQ nQ aQ) s))=Uak (Uaa (Zd9 PZ a0 a1 bQ nQ aQ) N (false,(0:Int),(0:Int))) (st2 (fun x=>Znz PZ N a0 a1 bQ nQ aQ x.1 x.2.1 x.2.2) (fun x=>Znv PZ N a0 a1 bQ nQ aQ x.1 x.2.1 x.2.2)):=by
 refine Zbd Zil Zqj _ _ (Yhs N a0 a1 bQ nQ aQ) N (false,(0:Int),(0:Int)) _ _ ?_
 intro x
 cases x with
 | more x=>exact Zw6 N a0 a1 bQ nQ aQ x.1 x.2.1 x.2.2
 | done x=>exact Zy0 N a0 a1 bQ nQ aQ x.1 x.2.1 x.2.2
theorem Yf2 (N:Nat) (a0 a1:Array Value) (bQ:Option (Option Addr)) (nQ:Nat) (aQ:Array Value):ansV PZ Zj6 N Tryz.f54 [([4,5,6],[])] [.w 0,.w 1] [.row a0 41,.one (.r a1 45 [(2,2)]) 45,.sl (.came bQ) nQ aQ 82]=(bif (!((Zaa (i64.wrap (num a1 0)) (0:Int) (1:Int)))) then (some (.a (.b (false)),.none,true))
  else (bif (!((Zaa (i64.wrap (num a1 1)) (1:Int) (8:Int)))) then (some (.a (.b (false)),.none,true))
   else (bif decide ((nQ:Int) > (12:Int)) then (some (.a (.b (false)),.none,true))
    else (Uak (Uaa (Zd9 PZ a0 a1 bQ nQ aQ) N (false,(0:Int),(0:Int))) (st2 (fun x=>Znz PZ N a0 a1 bQ nQ aQ x.1 x.2.1 x.2.2) (fun x=>Znv PZ N a0 a1 bQ nQ aQ x.1 x.2.1 x.2.2)))))):=by
 refine Eq.trans (b:=(bif (!((Zaa (i64.wrap (num a1 0)) (0:Int) (1:Int)))) then (some (.a (.b (false)),.none,true))
  else (bif (!((Zaa (i64.wrap (num a1 1)) (1:Int) (8:Int)))) then (some (.a (.b (false)),.none,true))
   else (bif decide ((nQ:Int) > (12:Int)) then (some (.a (.b (false)),.none,true))
    else (Uah (Uaa (Uag PZ Zj6 N (cAt (codeOf Tryz.f54) [1,1,1,0,1,0,0]) (pAt Ueo [1,1,1,0,1,0]) [4,5,6] [] (Zgs a0 a1 bQ nQ aQ)) N ([.a (.b (false)),.a (.i .i64 (0:Int)),.a (.i .i64 (0:Int))],[])) (fun e s=>(Uer N a0 a1 bQ nQ aQ) e (left (writes (cAt (codeOf Tryz.f54) [1,1,1,0,1,0,0])) [4,5,6] [] (Zgs a0 a1 bQ nQ aQ) s))))))) (by kernel_rfl) ?_
 simp only [Yif N a0 a1 bQ nQ aQ]
theorem Ydx (a0 a1:Array Value) (bQ:Option (Option Addr)) (nQ:Nat) (aQ:Array Value) (h_a0:WT PZ 41 a0) (h_a1:WT PZ 45 a1) (h_a1x2:SlT 82 nQ aQ) (hg:(true)=true):ansV PZ Zj6 18446744073709551616 Tryz.f54 [([4,5,6],[])] [.w 0,.w 1] [.row a0 41,.one (.r a1 45 [(2,2)]) 45,.sl (.came bQ) nQ aQ 82]=some (.a (.b ((Uay a0 a1 nQ aQ))),.none,true):=by
 have hn:=h_a1x2.2.2
 refine (Yf2 18446744073709551616 a0 a1 bQ nQ aQ).trans ?_
 unfold Uay
 cases Zaa (i64.wrap (num a1 0)) 0 1
 ·rfl
 cases Zaa (i64.wrap (num a1 1)) 1 8
 ·rfl
 cases decide ((nQ:Int) > 12)
 rotate_left
 ·rfl
 simp only [jB,jC,Q2,Bool.true_and]
 have wet:∀ k,Za3 (i64.wrap (num (aQ.extract (k*3) (k*3+3)) 0)) a0=true:=fun k=>by
  unfold Za3
  cases Zax (i64.wrap (num (aQ.extract (k*3) (k*3+3)) 0)) a0
  ·rfl
  ·exact Q3 (Zjk .u64 _).1
 refine (Ybf (g:=Zd9 PZ a0 a1 bQ nQ aQ) (fun k=>(false,wsum aQ k,(k:Int))) (fun k=>relB a0 (i64.wrap (num a1 1)) (aQ.extract (k*3) (k*3+3))) nQ (N:=18446744073709551616) (xd:=.done (false,wsum aQ nQ,(nQ:Int))) (by omega) (fun k hk hp=>by
  have h1:decide ((k:Int)<(nQ:Int))=true:=Q3 (by omega)
  have h0:decide (0≤(k:Int))=true:=Q3 (by omega)
  have h3:i64.wrap ((k:Int)+1)=((k+1:Nat):Int):=by rw [IntWalk.i64_in _ (by omega)];omega
  have hp':relB a0 (i64.wrap (num a1 1)) (aQ.extract (k*3) (k*3+3))=true:=hp
  unfold relB at hp'
  simp only [Q7] at hp'
  simp only [Zd9,h1,h0,h3,jA,Q9,Q1,Q2,wet,hp'.1,hp'.2.1,hp'.2.2,jB]
  rfl) (by
  have h1:decide ((nQ:Int)<(nQ:Int))=false:=Q4 (by omega)
  simp only [Zd9,h1,Q2]) (Uc4 a0 (i64.wrap (num a1 1)) nQ aQ) (Yaw a0 _ nQ aQ) (some (.a (.b (decide (wsum aQ nQ≤1000))),.none,true)) (some (.a (.b false),.none,true)) rfl (fun k hk hp=>by
  refine ⟨.more (false,wsum aQ k,(k:Int)), ?_,rfl⟩
  have h1:decide ((k:Int)<(nQ:Int))=true:=Q3 (by omega)
  have h0:decide (0≤(k:Int))=true:=Q3 (by omega)
  have h3:i64.wrap ((k:Int)+1)=((k+1:Nat):Int):=by rw [IntWalk.i64_in _ (by omega)];omega
  have hp':relB a0 (i64.wrap (num a1 1)) (aQ.extract (k*3) (k*3+3))=false:=hp
  unfold relB at hp'
  cases x1:Zae (i64.wrap (num (aQ.extract (k*3) (k*3+3)) 0)) a0
  ·simp only [Zd9,h1,h0,h3,jA,Q9,Q1,wet,x1,jC]
  ·cases x2:Zaa (i64.wrap (num (aQ.extract (k*3) (k*3+3)) 1)) 0 (i64.wrap (i64.wrap (num a1 1) - 1))
   ·simp only [Zd9,h1,h0,h3,jA,Q9,Q1,Q2,wet,x1,x2,jB,jC]
   ·rw [x1,x2] at hp'
    simp only [Bool.true_and] at hp'
    simp only [Zd9,h1,h0,h3,jA,Q9,Q1,Q2,wet,x1,x2,hp',jB,jC])).trans ?_
 cases Uc4 a0 (i64.wrap (num a1 1)) nQ aQ<;>rfl
def Zox:Con:=fun args h=>match args,h with
 | [.w 0,.w 1],[.row a0 41,.one (.r a1 45 [(2,2)]) 45,.sl (.came bQ) nQ aQ 82]=>some (.a (.b ((Uay a0 a1 nQ aQ))),.none,true)
 | _,_=>none
theorem Zl4:EntX PZ 54:=Zag (fn:=Tryz.f54) (by kernel_rfl) (by kernel_rfl) (by kernel_rfl)
theorem Zqk:Uab mn PZ 54 Zox:=(Zaf (N:=18446744073709551616) (by kernel_rfl) (mkΓ_consX (Zac Zo1) Zln (mkΓ_consX (Zac Zgw) Zep (mkΓ_consX (Zac Yex) Zy6 mkΓ_nilX))) (fn:=Tryz.f54) (by kernel_rfl) (by kernel_rfl) [([4,5,6],[])]).of (by
 intro ρ h w args vals r e hA hH hr
 unfold Zox at hr
 split at hr
 ·rename_i a0 a1 bQ nQ aQ
  obtain ⟨rfl,rfl,hg2⟩:=BQi hr
  exact Ydx a0 a1 bQ nQ aQ (hH.wt 0 rfl) (hH.wtr 1 rfl) (hH.slw 2 rfl) hg2
 ·cases hr)
def Zff:Cons:=(mkΓ [(50,con Zdc),(70,con Zlf),(71,con Ze6),(85,con Zij),(108,con Zh4)])
def Zd1 (a0 a1:Array Value) (bQ:Option (Option Addr)) (nQ:Nat) (aQ:Array Value):St:=(⟨.a (.g a0 41) :: .a (.r a1 45 [(2,0)]) :: .a (.w 1) :: .a (.w 2) :: .a (.b (false)) :: .a (.w 7) :: .a (.u) :: .a (.u) :: .a (.g a0 41) :: .a (.r a1 45 [(2,0)]) :: .a (.r ((spl (spl (zc PZ 73) 0 (#[.int .i64 (i64.wrap (num a1 0)),.int .i64 (i64.wrap (num a1 1))]:Array Value).toList) 2 a0.toList).setIfInBounds 365 (.slice none 0 0)) 73 [(365,0)]) :: .a (.g a0 41) :: .a (.b ((okS a0))) :: .a (.b ((!((okS a0))))) :: .a (.b (false)) :: .a (.p 7 (0) 71) :: .a (.g (((spl (spl (zc PZ 73) 0 (#[.int .i64 (i64.wrap (num a1 0)),.int .i64 (i64.wrap (num a1 1))]:Array Value).toList) 2 a0.toList).setIfInBounds 365 (.slice none 0 0)).extract 0 (0+2)) 71) :: .a (.b ((Zau (((spl (spl (zc PZ 73) 0 (#[.int .i64 (i64.wrap (num a1 0)),.int .i64 (i64.wrap (num a1 1))]:Array Value).toList) 2 a0.toList).setIfInBounds 365 (.slice none 0 0)).extract 0 (0+2))))) :: .a (.b ((!((Zau (((spl (spl (zc PZ 73) 0 (#[.int .i64 (i64.wrap (num a1 0)),.int .i64 (i64.wrap (num a1 1))]:Array Value).toList) 2 a0.toList).setIfInBounds 365 (.slice none 0 0)).extract 0 (0+2))))))) :: .a (.b ((!((Zau (((spl (spl (zc PZ 73) 0 (#[.int .i64 (i64.wrap (num a1 0)),.int .i64 (i64.wrap (num a1 1))]:Array Value).toList) 2 a0.toList).setIfInBounds 365 (.slice none 0 0)).extract 0 (0+2))))))) :: .a (.b (false)) :: .a (.p 2 (2) 43) :: .a (.l 0) :: .a (.i .i64 (nQ:Int)) :: .a (.b (decide ((nQ:Int) > (12:Int)))) :: .a (.b (decide ((nQ:Int) > (12:Int)))) :: .a (.p 2 (2) 43) :: .a (.l 0) :: .a (.i .i64 (nQ:Int)) :: .a (.i .i64 (0:Int))::us 11 ([]),[.sl (.came bQ) nQ aQ 82,.row a0 41,.one (.r a1 45 [(2,0)]) 45,.no,.no,.no,.no,.one (.r ((spl (spl (zc PZ 73) 0 (#[.int .i64 (i64.wrap (num a1 0)),.int .i64 (i64.wrap (num a1 1))]:Array Value).toList) 2 a0.toList).setIfInBounds 365 (.slice none 0 0)) 73 [(365,0)]) 73,.no],[7]⟩:St)
def Ze5:Bool×Int→LS
 | (y0_4,y0_29)=>([.a (.b (y0_4)),.a (.i .i64 (y0_29))],[])
def Zlj:(Stp (Bool×Int) (Bool×Int))→Exit×LS
 | .more t=>(.ret,Ze5 t)
 | .done t=>((.exit 0),Ze5 t)
def Zc4 (P : Program) (a0 a1 : Array Value) (bQ : Option (Option Addr)) (nQ : Nat) (aQ : Array Value) : Bool × Int → Option (Stp (Bool × Int) (Stp (Bool × Int) (Bool × Int)))
 | (y0_4, y0_29) => bif decide (y0_29 < (nQ : Int)) then (bif (decide (0 ≤ y0_29) && decide (y0_29 < (nQ : Int))) then (bif (Zcf ((spl (spl (zc PZ 73) 0 (#[.int .i64 (i64.wrap (num a1 0)), .int .i64 (i64.wrap (num a1 1))] : Array Value).toList) 2 a0.toList).setIfInBounds 365 (.slice none 0 0)) (aQ.extract ((y0_29).toNat * 3) (((y0_29).toNat * 3) + 3)) bQ nQ aQ) then (bif (!((Zch ((spl (spl (zc PZ 73) 0 (#[.int .i64 (i64.wrap (num a1 0)), .int .i64 (i64.wrap (num a1 1))] : Array Value).toList) 2 a0.toList).setIfInBounds 365 (.slice none 0 0)) (aQ.extract ((y0_29).toNat * 3) (((y0_29).toNat * 3) + 3)) bQ nQ aQ))) then (some (.done (.more (false, y0_29))))
     else (some (.more (y0_4, (i64.wrap (y0_29 + (1 : Int)))))))
    else (none))
   else (none))
  else (some (.done (.done (y0_4, y0_29))))
def Ueb:=(Uaf (codeOf Tryz.f84) [([4,29],[])]).1
theorem Zz2 (N:Nat) (a0 a1:Array Value) (bQ:Option (Option Addr)) (nQ:Nat) (aQ:Array Value):∀ t:Bool×Int,Uag PZ Zff N (cAt (codeOf Tryz.f84) [1,1,1,0,1,0,0]) (pAt Ueb [1,1,1,0,1,0]) [4,29] [] (Zd1 a0 a1 bQ nQ aQ) (Ze5 t)=mapS Ze5 Zlj (Zc4 PZ a0 a1 bQ nQ aQ t):=by
 rintro ⟨y0_4,y0_29⟩
 refine Eq.trans (b:=(bif decide (y0_29<(nQ:Int)) then (bif (decide (0≤y0_29)&&decide (y0_29<(nQ:Int))) then (bif (Zcf ((spl (spl (zc PZ 73) 0 (#[.int .i64 (i64.wrap (num a1 0)),.int .i64 (i64.wrap (num a1 1))]:Array Value).toList) 2 a0.toList).setIfInBounds 365 (.slice none 0 0)) (aQ.extract ((y0_29).toNat*3) (((y0_29).toNat*3)+3)) bQ nQ aQ) then (bif (!((Zch ((spl (spl (zc PZ 73) 0 (#[.int .i64 (i64.wrap (num a1 0)),.int .i64 (i64.wrap (num a1 1))]:Array Value).toList) 2 a0.toList).setIfInBounds 365 (.slice none 0 0)) (aQ.extract ((y0_29).toNat*3) (((y0_29).toNat*3)+3)) bQ nQ aQ))) then (some (.done (.ret,([.a (.b (false)),.a (.i .i64 (y0_29))],[]))))
     else (some (.more ([.a (.b (y0_4)),.a (.i .i64 (i64.wrap (y0_29+(1:Int))))],[]))))
    else (none))
   else (none))
  else (some (.done ((.exit 0),([.a (.b (y0_4)),.a (.i .i64 (y0_29))],[])))))) (by kernel_rfl) ?_
 simp only [Zc4,Zaz,Zay,Za1,Za0,Ze5,Zlj]
def Zj0 (P:Program) (N:Nat) (a0 a1:Array Value) (bQ:Option (Option Addr)) (nQ:Nat) (aQ:Array Value) (z0_4:Bool) (z0_29:Int):Option (SV×Eff×Bool):=some (.a (.b (z0_4)),.none,true)
def Uez (N:Nat) (bQ:Option (Option Addr)) (nQ:Nat) (aQ:Array Value):=(Uan 0 (kSeq (veC PZ Zff N (cAt (codeOf Tryz.f84) [1,1,1,1]) (pAt Ueb [1,1,1,1]) (SV×Eff×Bool)) (finK PZ [.sl (.came bQ) nQ aQ 82] [.tmp 4])))
theorem Zrj (N:Nat) (a0 a1:Array Value) (bQ:Option (Option Addr)) (nQ:Nat) (aQ:Array Value) (z0_4:Bool) (z0_29:Int):(Uez N bQ nQ aQ) .ret (left (writes (cAt (codeOf Tryz.f84) [1,1,1,0,1,0,0])) [4,29] [] (Zd1 a0 a1 bQ nQ aQ) ([.a (.b (z0_4)),.a (.i .i64 (z0_29))],[]))=Zj0 PZ N a0 a1 bQ nQ aQ z0_4 z0_29:=by
 refine Eq.trans (b:=(some (.a (.b (z0_4)),.none,true))) (by kernel_rfl) ?_
 rfl
def Zj3 (P:Program) (N:Nat) (a0 a1:Array Value) (bQ:Option (Option Addr)) (nQ:Nat) (aQ:Array Value) (z0_4:Bool) (z0_29:Int):Option (SV×Eff×Bool):=some (.a (.b (decide ((wsum aQ nQ)≤(1000:Int)))),.none,true)
theorem Zrr (N:Nat) (a0 a1:Array Value) (bQ:Option (Option Addr)) (nQ:Nat) (aQ:Array Value) (z0_4:Bool) (z0_29:Int):(Uez N bQ nQ aQ) (.exit 0) (left (writes (cAt (codeOf Tryz.f84) [1,1,1,0,1,0,0])) [4,29] [] (Zd1 a0 a1 bQ nQ aQ) ([.a (.b (z0_4)),.a (.i .i64 (z0_29))],[]))=Zj3 PZ N a0 a1 bQ nQ aQ z0_4 z0_29:=by
 refine Eq.trans (b:=(some (.a (.b (decide ((wsum aQ nQ)≤(1000:Int)))),.none,true))) (by kernel_rfl) ?_
 rfl
theorem Yah (N:Nat) (a0 a1:Array Value) (bQ:Option (Option Addr)) (nQ:Nat) (aQ:Array Value):Uah (Uaa (Uag PZ Zff N (cAt (codeOf Tryz.f84) [1,1,1,0,1,0,0]) (pAt Ueb [1,1,1,0,1,0]) [4,29] [] (Zd1 a0 a1 bQ nQ aQ)) N ([.a (.b (false)),.a (.i .i64 (0:Int))],[])) (fun e s=>(Uez N bQ nQ aQ) e (left (writes (cAt (codeOf Tryz.f84) [1,1,1,0,1,0,0])) [4,29] [] (Zd1 a0 a1 bQ nQ aQ) s))=Uak (Uaa (Zc4 PZ a0 a1 bQ nQ aQ) N (false,(0:Int))) (st2 (fun x=>Zj0 PZ N a0 a1 bQ nQ aQ x.1 x.2) (fun x=>Zj3 PZ N a0 a1 bQ nQ aQ x.1 x.2)):=by
 refine Zbd Ze5 Zlj _ _ (Zz2 N a0 a1 bQ nQ aQ) N (false,(0:Int)) _ _ ?_
 intro x
 cases x with
 | more x=>exact Zrj N a0 a1 bQ nQ aQ x.1 x.2
 | done x=>exact Zrr N a0 a1 bQ nQ aQ x.1 x.2
theorem Zxb (N:Nat) (a0 a1:Array Value) (bQ:Option (Option Addr)) (nQ:Nat) (aQ:Array Value):ansV PZ Zff N Tryz.f84 [([4,29],[])] [.g a0 41,.r a1 45 [(2,0)]] [.sl (.came bQ) nQ aQ 82]=(bif (!((okS a0))) then (some (.a (.b (false)),.none,true))
  else (bif (!((Zau (((spl (spl (zc PZ 73) 0 (#[.int .i64 (i64.wrap (num a1 0)),.int .i64 (i64.wrap (num a1 1))]:Array Value).toList) 2 a0.toList).setIfInBounds 365 (.slice none 0 0)).extract 0 (0+2))))) then (some (.a (.b (false)),.none,true))
   else (bif decide ((nQ:Int) > (12:Int)) then (some (.a (.b (false)),.none,true))
    else (Uak (Uaa (Zc4 PZ a0 a1 bQ nQ aQ) N (false,(0:Int))) (st2 (fun x=>Zj0 PZ N a0 a1 bQ nQ aQ x.1 x.2) (fun x=>Zj3 PZ N a0 a1 bQ nQ aQ x.1 x.2)))))):=by
 refine Eq.trans (b:=(bif (!((okS a0))) then (some (.a (.b (false)),.none,true))
  else (bif (!((Zau (((spl (spl (zc PZ 73) 0 (#[.int .i64 (i64.wrap (num a1 0)),.int .i64 (i64.wrap (num a1 1))]:Array Value).toList) 2 a0.toList).setIfInBounds 365 (.slice none 0 0)).extract 0 (0+2))))) then (some (.a (.b (false)),.none,true))
   else (bif decide ((nQ:Int) > (12:Int)) then (some (.a (.b (false)),.none,true))
    else (Uah (Uaa (Uag PZ Zff N (cAt (codeOf Tryz.f84) [1,1,1,0,1,0,0]) (pAt Ueb [1,1,1,0,1,0]) [4,29] [] (Zd1 a0 a1 bQ nQ aQ)) N ([.a (.b (false)),.a (.i .i64 (0:Int))],[])) (fun e s=>(Uez N bQ nQ aQ) e (left (writes (cAt (codeOf Tryz.f84) [1,1,1,0,1,0,0])) [4,29] [] (Zd1 a0 a1 bQ nQ aQ) s))))))) (by kernel_rfl) ?_
 simp only [Yah N a0 a1 bQ nQ aQ]
theorem Zw0 (a0 a1:Array Value) (bQ:Option (Option Addr)) (nQ:Nat) (aQ:Array Value) (h_a0:WT PZ 41 a0) (h_a1:WT PZ 45 a1) (h_a1x2:SlT 82 nQ aQ) (hg:(true)=true):ansV PZ Zff 18446744073709551616 Tryz.f84 [([4,29],[])] [.g a0 41,.r a1 45 [(2,0)]] [.sl (.came bQ) nQ aQ 82]=some (.a (.b ((okS a0&&Uay a0 a1 nQ aQ))),.none,true):=by
 have hn:=h_a1x2.2.2
 have hS:=h_a0
 have hz:a0.size=363:=by rw [h_a0.layLen];kernel_rfl
 obtain ⟨v1,v2⟩:=Yj7 (p:=a1) hz
 obtain ⟨-,b0⟩:=h_a1.int (o:=0) (k:=.i8) (by kernel_rfl)
 obtain ⟨-,b1⟩:=h_a1.int (o:=1) (k:=.i8) (by kernel_rfl)
 have e1:IntKind.i8.min = -128:=rfl
 have e2:IntKind.i8.max=127:=rfl
 have w1: -128≤i64.wrap (num a1 1)∧i64.wrap (num a1 1)≤127:=by rw [IntWalk.i64_in _ (by omega)];omega
 have hRE:(lay PZ 82).length=3:=by kernel_rfl
 refine (Zxb 18446744073709551616 a0 a1 bQ nQ aQ).trans ?_
 cases hok:okS a0
 ·rfl
 have hr:Zau (((spl (spl (zc PZ 73) 0 (#[.int .i64 (i64.wrap (num a1 0)),.int .i64 (i64.wrap (num a1 1))]:Array Value).toList) 2 a0.toList).setIfInBounds 365 (.slice none 0 0)).extract 0 (0+2))=(Zaa (i64.wrap (num a1 0)) 0 1&&Zaa (i64.wrap (num a1 1)) 1 8):=by
  rw [v2]
  unfold Zau
  rw [tide_eq]
  show (bif Zaa (i64.wrap (num a1 0)) 0 1 then Zaa (i64.wrap (num a1 1)) 1 8 else false)=_
  cases Zaa (i64.wrap (num a1 0)) 0 1<;>rfl
 unfold Uay
 rw [hr]
 cases Zaa (i64.wrap (num a1 0)) 0 1
 ·rfl
 cases Zaa (i64.wrap (num a1 1)) 1 8
 ·rfl
 cases decide ((nQ:Int) > 12)
 rotate_left
 ·rfl
 simp only [jB,jC,Q2,Bool.true_and,jA]
 have tk:=fun k hk=>takes_eq (S:=a0) (V:=((spl (spl (zc PZ 73) 0 (#[.int .i64 (i64.wrap (num a1 0)),.int .i64 (i64.wrap (num a1 1))]:Array Value).toList) 2 a0.toList).setIfInBounds 365 (.slice none 0 0))) (X:=aQ.extract (k*3) (k*3+3)) bQ nQ aQ hS v1 v2 w1 (by have:=h_a1x2.2.1 k hk;rw [hRE] at this;exact this)
 refine (Ybf (g:=Zc4 PZ a0 a1 bQ nQ aQ) (fun k=>(false,(k:Int))) (fun k=>relB a0 (i64.wrap (num a1 1)) (aQ.extract (k*3) (k*3+3))) nQ (N:=18446744073709551616) (xd:=.done (false,(nQ:Int))) (by omega) (fun k hk hp=>by
  have h1:decide ((k:Int)<(nQ:Int))=true:=Q3 (by omega)
  have h0:decide (0≤(k:Int))=true:=Q3 (by omega)
  have h3:i64.wrap ((k:Int)+1)=((k+1:Nat):Int):=by rw [IntWalk.i64_in _ (by omega)];omega
  have hp':relB a0 (i64.wrap (num a1 1)) (aQ.extract (k*3) (k*3+3))=true:=hp
  simp only [Zc4,h1,h0,h3,jA,Q9,Q1,Q2,(tk k hk).1,(tk k hk).2,hp',jB]) (by
  have h1:decide ((nQ:Int)<(nQ:Int))=false:=Q4 (by omega)
  simp only [Zc4,h1,Q2]) (Uc4 a0 (i64.wrap (num a1 1)) nQ aQ) (Yaw a0 _ nQ aQ) (some (.a (.b (decide (wsum aQ nQ≤1000))),.none,true)) (some (.a (.b false),.none,true)) rfl (fun k hk hp=>by
  refine ⟨.more (false,(k:Int)), ?_,rfl⟩
  have h1:decide ((k:Int)<(nQ:Int))=true:=Q3 (by omega)
  have h0:decide (0≤(k:Int))=true:=Q3 (by omega)
  have h3:i64.wrap ((k:Int)+1)=((k+1:Nat):Int):=by rw [IntWalk.i64_in _ (by omega)];omega
  have hp':relB a0 (i64.wrap (num a1 1)) (aQ.extract (k*3) (k*3+3))=false:=hp
  simp only [Zc4,h1,h0,h3,jA,Q9,Q1,Q2,(tk k hk).1,(tk k hk).2,hp',jC])).trans ?_
 cases Uc4 a0 (i64.wrap (num a1 1)) nQ aQ<;>rfl
def Zkq:Con:=fun args h=>match args,h with
 | [.g a0 41,.r a1 45 [(2,0)]],[.sl (.came bQ) nQ aQ 82]=>some (.a (.b ((okS a0&&Uay a0 a1 nQ aQ))),.none,true)
 | _,_=>none
theorem Zmp:EntX PZ 84:=Zag (fn:=Tryz.f84) (by kernel_rfl) (by kernel_rfl) (by kernel_rfl)
theorem Zpf:Uab mn PZ 84 Zkq:=(Zaf (N:=18446744073709551616) (by kernel_rfl) (mkΓ_consX (Zac Zfb) Zd7 (mkΓ_consX (Zac Ybw) Zv3 (mkΓ_consX (Zac Zn5) Zma (mkΓ_consX (Zac Zmn) Zjn (mkΓ_consX (Zac Zu8) Zp6 mkΓ_nilX))))) (fn:=Tryz.f84) (by kernel_rfl) (by kernel_rfl) [([4,29],[])]).of (by
 intro ρ h w args vals r e hA hH hr
 unfold Zkq at hr
 split at hr
 ·rename_i a0 a1 bQ nQ aQ
  obtain ⟨rfl,rfl,hg2⟩:=BQi hr
  exact Zw0 a0 a1 bQ nQ aQ (hA.wt 0 rfl) (hA.wtr 1 rfl) (hH.slw 0 rfl) hg2
 ·cases hr)
def voyV (P:Program) (a0 a1:Array Value):Array Value:=((spl (spl (zc P 73) 0 (#[.int .i64 (i64.wrap (num a1 0)),.int .i64 (i64.wrap (num a1 1))]:Array Value).toList) 2 a0.toList).setIfInBounds 365 (.slice none 0 0))
def Zos:Cons:=(mkΓ [(84,con Zkq),(85,con Zij)])
theorem Zrb (N:Nat) (a0 a1:Array Value) (bQ:Option (Option Addr)) (nQ:Nat) (aQ:Array Value):ansV PZ Zos N Tryz.f59 [] [.g a0 41,.r a1 45 [(2,0)]] [.sl (.came bQ) nQ aQ 82]=(bif (!((okS a0&&Uay a0 a1 nQ aQ))) then (some (.t [.r (zc PZ 73) 73 [],.v (.iface 117 (.int .i64 (1:Int)))],.none,true))
  else (some (.t [.r ((spl (spl (zc PZ 73) 0 (#[.int .i64 (i64.wrap (num a1 0)),.int .i64 (i64.wrap (num a1 1))]:Array Value).toList) 2 a0.toList).setIfInBounds 365 (.slice none 0 0)) 73 [(365,0)],.v (.nilIface)],.none,true))):=by kernel_rfl
theorem Zzo (a0 a1:Array Value) (bQ:Option (Option Addr)) (nQ:Nat) (aQ:Array Value) (h_a0:WT PZ 41 a0) (h_a1:WT PZ 45 a1) (h_a1x2:SlT 82 nQ aQ) (hc0:((okS a0&&Uay a0 a1 nQ aQ))=false) (hg:(true)=true):ansV PZ Zos 1000 Tryz.f59 [] [.g a0 41,.r a1 45 [(2,0)]] [.sl (.came bQ) nQ aQ 82]=some (.t [.r (zc PZ 73) 73 [],.v (.iface 117 (.int .i64 (1:Int)))],.none,true):=by
 refine (Zrb 1000 a0 a1 bQ nQ aQ).trans ?_
 simp only [hc0,jC,Q1]
theorem Zx8 (a0 a1:Array Value) (bQ:Option (Option Addr)) (nQ:Nat) (aQ:Array Value) (h_a0:WT PZ 41 a0) (h_a1:WT PZ 45 a1) (h_a1x2:SlT 82 nQ aQ) (hc0:((okS a0&&Uay a0 a1 nQ aQ))=true) (hg:(true)=true):ansV PZ Zos 1000 Tryz.f59 [] [.g a0 41,.r a1 45 [(2,0)]] [.sl (.came bQ) nQ aQ 82]=some (.t [.r (voyV PZ a0 a1) 73 [(365,0)],.v (.nilIface)],.none,true):=by
 unfold voyV
 refine (Zrb 1000 a0 a1 bQ nQ aQ).trans ?_
 simp only [hc0,jB,Q2]
def Zlm:SCon:=fun args h=>match args,h with
 | [.g a0 41,.r a1 45 [(2,0)]],[.sl (.came bQ) nQ aQ 82]=>.two ((okS a0&&Uay a0 a1 nQ aQ)) (.one (some (.t [.r (voyV PZ a0 a1) 73 [(365,0)],.v (.nilIface)],.none,true))) (.one (some (.t [.r (zc PZ 73) 73 [],.v (.iface 117 (.int .i64 (1:Int)))],.none,true)))
 | _,_=>.one none
theorem Zkx:EntX PZ 59:=Zag (fn:=Tryz.f59) (by kernel_rfl) (by kernel_rfl) (by kernel_rfl)
theorem Zmg:Uab mn PZ 59 (fun args h=>Uac (Zlm args h)):=by
 intro ρ h w args vals r e hn hr hA hH
 dsimp only at hr
 unfold Zlm at hr
 split at hr
 ·rename_i a0 a1 bQ nQ aQ
  simp only [Uac] at hr
  cases hc0:((okS a0&&Uay a0 a1 nQ aQ))
  ·rw [hc0] at hr
   simp only [Uac,Q1,Q2] at hr
   obtain ⟨rfl,rfl,hg2⟩:=BQi hr
   exact ((Zaf (N:=1000) (by kernel_rfl) (mkΓ_consX (Zac Zpf) Zmp (mkΓ_consX (Zac Zmn) Zjn mkΓ_nilX)) (fn:=Tryz.f59) (by kernel_rfl) (by kernel_rfl) [])) ρ _ w _ vals _ _ hn ((Zzo a0 a1 bQ nQ aQ (hA.wt 0 rfl) (hA.wtr 1 rfl) (hH.slw 0 rfl) hc0 hg2)) hA hH
  ·rw [hc0] at hr
   simp only [Uac,Q1,Q2] at hr
   obtain ⟨rfl,rfl,hg2⟩:=BQi hr
   exact ((Zaf (N:=1000) (by kernel_rfl) (mkΓ_consX (Zac Zpf) Zmp (mkΓ_consX (Zac Zmn) Zjn mkΓ_nilX)) (fn:=Tryz.f59) (by kernel_rfl) (by kernel_rfl) [])) ρ _ w _ vals _ _ hn ((Zx8 a0 a1 bQ nQ aQ (hA.wt 0 rfl) (hA.wtr 1 rfl) (hH.slw 0 rfl) hc0 hg2)) hA hH
 ·simp only [Uac] at hr
  cases hr
def Zii:Cons:=(mkΓw [(59,conS Zlm)] [(60,con Zla)] [] [])
theorem Zjj (N:Nat) (a0 a1:Array Value) (a2:Int) (bQ:Option (Option Addr)) (nQ:Nat) (aQ:Array Value):ansV PZ Zii N Tryz.f31 [] [.g a0 41,.r a1 45 [(2,0)],.i .u64 (a2)] [.sl (.came bQ) nQ aQ 82]=(bif (okS a0&&Uay a0 a1 nQ aQ) then (bif (Zdu a0 a2) then (bif (!((Zad a0 a2))) then (some (.t [.r (zc PZ 73) 73 [],.v (.iface 117 (.int .i64 (2:Int)))],.none,true))
    else (some (.t [.r (voyV PZ a0 a1) 73 [(365,0)],.v (.nilIface)],.none,true)))
   else (none))
  else (some (.t [.r (zc PZ 73) 73 [],.v (.iface 117 (.int .i64 (1:Int)))],.none,true))):=by kernel_rfl
theorem Zsw (a0 a1:Array Value) (a2:Int) (bQ:Option (Option Addr)) (nQ:Nat) (aQ:Array Value) (h_a0:WT PZ 41 a0) (h_a1:WT PZ 45 a1) (h_a2:IntKind.u64.min≤a2∧a2≤IntKind.u64.max) (h_a1x2:SlT 82 nQ aQ) (hc0:((okS a0&&Uay a0 a1 nQ aQ))=false) (hg:(true)=true):ansV PZ Zii 1000 Tryz.f31 [] [.g a0 41,.r a1 45 [(2,0)],.i .u64 (a2)] [.sl (.came bQ) nQ aQ 82]=some (.t [.r (zc PZ 73) 73 [],.v (.iface 117 (.int .i64 (1:Int)))],.none,true):=by
 refine (Zjj 1000 a0 a1 a2 bQ nQ aQ).trans ?_
 simp only [hc0,Q2]
theorem Zte (a0 a1:Array Value) (a2:Int) (bQ:Option (Option Addr)) (nQ:Nat) (aQ:Array Value) (h_a0:WT PZ 41 a0) (h_a1:WT PZ 45 a1) (h_a2:IntKind.u64.min≤a2∧a2≤IntKind.u64.max) (h_a1x2:SlT 82 nQ aQ) (hc0:((okS a0&&Uay a0 a1 nQ aQ))=true) (hc1:((Zad a0 a2))=false) (hg:(true)=true):ansV PZ Zii 1000 Tryz.f31 [] [.g a0 41,.r a1 45 [(2,0)],.i .u64 (a2)] [.sl (.came bQ) nQ aQ 82]=some (.t [.r (zc PZ 73) 73 [],.v (.iface 117 (.int .i64 (2:Int)))],.none,true):=by
 refine (Zjj 1000 a0 a1 a2 bQ nQ aQ).trans ?_
 have hgd:Zdu a0 a2=true:=by
  rw [Q7] at hc0
  exact Yfd hc0.1
 simp only [hc0,hc1,hgd,jC,Q1]
theorem Zso (a0 a1:Array Value) (a2:Int) (bQ:Option (Option Addr)) (nQ:Nat) (aQ:Array Value) (h_a0:WT PZ 41 a0) (h_a1:WT PZ 45 a1) (h_a2:IntKind.u64.min≤a2∧a2≤IntKind.u64.max) (h_a1x2:SlT 82 nQ aQ) (hc0:((okS a0&&Uay a0 a1 nQ aQ))=true) (hc1:((Zad a0 a2))=true) (hg:(true)=true):ansV PZ Zii 1000 Tryz.f31 [] [.g a0 41,.r a1 45 [(2,0)],.i .u64 (a2)] [.sl (.came bQ) nQ aQ 82]=some (.t [.r (voyV PZ a0 a1) 73 [(365,0)],.v (.nilIface)],.none,true):=by
 refine (Zjj 1000 a0 a1 a2 bQ nQ aQ).trans ?_
 have hgd:Zdu a0 a2=true:=by
  rw [Q7] at hc0
  exact Yfd hc0.1
 simp only [hc0,hc1,hgd,jB,Q2,Q1]
def Zf3:SCon:=fun args h=>match args,h with
 | [.g a0 41,.r a1 45 [(2,0)],.i .u64 a2],[.sl (.came bQ) nQ aQ 82]=>.two ((okS a0&&Uay a0 a1 nQ aQ)) (.two ((Zad a0 a2)) (.one (some (.t [.r (voyV PZ a0 a1) 73 [(365,0)],.v (.nilIface)],.none,true))) (.one (some (.t [.r (zc PZ 73) 73 [],.v (.iface 117 (.int .i64 (2:Int)))],.none,true)))) (.one (some (.t [.r (zc PZ 73) 73 [],.v (.iface 117 (.int .i64 (1:Int)))],.none,true)))
 | _,_=>.one none
theorem Zhw:EntX PZ 31:=Zag (fn:=Tryz.f31) (by kernel_rfl) (by kernel_rfl) (by kernel_rfl)
theorem Zjr:Uab mn PZ 31 (fun args h=>Uac (Zf3 args h)):=by
 intro ρ h w args vals r e hn hr hA hH
 dsimp only at hr
 unfold Zf3 at hr
 split at hr
 ·rename_i a0 a1 a2 bQ nQ aQ
  simp only [Uac] at hr
  cases hc0:((okS a0&&Uay a0 a1 nQ aQ))
  ·rw [hc0] at hr
   simp only [Uac,Q1,Q2] at hr
   obtain ⟨rfl,rfl,hg2⟩:=BQi hr
   exact ((Zaf (N:=1000) (by kernel_rfl) (mkΓw_sX (Zlq Zmg) Zkx (mkΓw_cX (Zac Zmo) Zjw mkΓx_nilX)) (fn:=Tryz.f31) (by kernel_rfl) (by kernel_rfl) [])) ρ _ w _ vals _ _ hn ((Zsw a0 a1 a2 bQ nQ aQ (hA.wt 0 rfl) (hA.wtr 1 rfl) (hA.rng 2 rfl) (hH.slw 0 rfl) hc0 hg2)) hA hH
  ·rw [hc0] at hr
   simp only [Uac,Q1,Q2] at hr
   cases hc1:((Zad a0 a2))
   ·rw [hc1] at hr
    simp only [Uac,Q1,Q2] at hr
    obtain ⟨rfl,rfl,hg2⟩:=BQi hr
    exact ((Zaf (N:=1000) (by kernel_rfl) (mkΓw_sX (Zlq Zmg) Zkx (mkΓw_cX (Zac Zmo) Zjw mkΓx_nilX)) (fn:=Tryz.f31) (by kernel_rfl) (by kernel_rfl) [])) ρ _ w _ vals _ _ hn ((Zte a0 a1 a2 bQ nQ aQ (hA.wt 0 rfl) (hA.wtr 1 rfl) (hA.rng 2 rfl) (hH.slw 0 rfl) hc0 hc1 hg2)) hA hH
   ·rw [hc1] at hr
    simp only [Uac,Q1,Q2] at hr
    obtain ⟨rfl,rfl,hg2⟩:=BQi hr
    exact ((Zaf (N:=1000) (by kernel_rfl) (mkΓw_sX (Zlq Zmg) Zkx (mkΓw_cX (Zac Zmo) Zjw mkΓx_nilX)) (fn:=Tryz.f31) (by kernel_rfl) (by kernel_rfl) [])) ρ _ w _ vals _ _ hn ((Zso a0 a1 a2 bQ nQ aQ (hA.wt 0 rfl) (hA.wtr 1 rfl) (hA.rng 2 rfl) (hH.slw 0 rfl) hc0 hc1 hg2)) hA hH
 ·simp only [Uac] at hr
  cases hr
def Zh3:Cons:=(mkΓ [(53,con Zot),(54,con Zox),(55,con Zig)])
theorem Zz1 (N:Nat) (a2:Int) (a0 a1:Array Value) (bQ:Option (Option Addr)) (nQ:Nat) (aQ:Array Value):ansV PZ Zh3 N Tryz.f23 [] [.w 0,.w 1,.i .u64 (a2)] [.row a0 41,.one (.r a1 45 [(2,2)]) 45,.sl (.came bQ) nQ aQ 82]=(bif (!((okS a0))) then (some (.a (.i .i64 (1:Int)),.none,true))
  else (bif (!((Uay a0 a1 nQ aQ))) then (some (.a (.i .i64 (1:Int)),.none,true))
   else (bif ((IntKind.u64.wrap (BitVec.ofInt IntKind.u64.bits a2 &&& ~~~(BitVec.ofInt IntKind.u64.bits (Uaz (num a0 0) (num a0 1) 36))).toNat) != (0:Int)) then (some (.a (.i .i64 (2:Int)),.none,true))
    else (some (.a (.i .i64 (0:Int)),.none,true))))):=by kernel_rfl
def Zjg (a2:Int) (a0 a1:Array Value) (bQ:Option (Option Addr)) (nQ:Nat) (aQ:Array Value):Int:=(bif (!((okS a0))) then (1:Int) else (bif (!((Uay a0 a1 nQ aQ))) then (1:Int) else (bif ((IntKind.u64.wrap (BitVec.ofInt IntKind.u64.bits a2 &&& ~~~(BitVec.ofInt IntKind.u64.bits (Uaz (num a0 0) (num a0 1) 36))).toNat) != (0:Int)) then (2:Int) else (0:Int))))
theorem Zky (a2:Int) (a0 a1:Array Value) (bQ:Option (Option Addr)) (nQ:Nat) (aQ:Array Value) (h_a2:IntKind.u64.min≤a2∧a2≤IntKind.u64.max) (h_a0:WT PZ 41 a0) (h_a1:WT PZ 45 a1) (h_a1x2:SlT 82 nQ aQ) (hg:(true)=true):ansV PZ Zh3 1000 Tryz.f23 [] [.w 0,.w 1,.i .u64 (a2)] [.row a0 41,.one (.r a1 45 [(2,2)]) 45,.sl (.came bQ) nQ aQ 82]=some (.a (.i .i64 (Zjg a2 a0 a1 bQ nQ aQ)),.none,true):=by
 refine (Zz1 1000 a2 a0 a1 bQ nQ aQ).trans ?_
 unfold Zjg
 revert hg
 generalize ((!((okS a0))))=b2
 intro hg
 cases b2
 ·skip
  revert hg
  generalize ((!((Uay a0 a1 nQ aQ))))=b4
  intro hg
  cases b4
  ·skip
   revert hg
   generalize (((IntKind.u64.wrap (BitVec.ofInt IntKind.u64.bits a2 &&& ~~~(BitVec.ofInt IntKind.u64.bits (Uaz (num a0 0) (num a0 1) 36))).toNat) != (0:Int)))=b6
   intro hg
   cases b6
   ·skip
    first | (simp only [Q1,Q2,BQ6];done) | rfl | exact (nomatch (hg:false=true))
   ·skip
    first | (simp only [Q1,Q2,BQ6];done) | rfl | exact (nomatch (hg:false=true))
  ·skip
   first | (simp only [Q1,Q2,BQ6];done) | rfl | exact (nomatch (hg:false=true))
 ·skip
  first | (simp only [Q1,Q2,BQ6];done) | rfl | exact (nomatch (hg:false=true))
def askC (S p:Array Value) (n:Nat) (A:Array Value) (c:Int):Int:=bif (okS S&&Uay S p n A) then (bif Zad S c then 0 else 2) else 1
theorem Yom (S p:Array Value) (bb:Option (Option Addr)) (n:Nat) (A:Array Value) (c:Int):Zjg c S p bb n A=askC S p n A c:=by
 unfold Zjg askC Zad
 simp only [bne]
 cases okS S<;>cases Uay S p n A<;>cases ((IntKind.u64.wrap (BitVec.ofInt IntKind.u64.bits c &&& ~~~(BitVec.ofInt IntKind.u64.bits (Uaz (num S 0) (num S 1) 36))).toNat)==(0:Int))<;>rfl
end
end Go.Proofs.YtohnggmlmglhmaaGreatDoor
