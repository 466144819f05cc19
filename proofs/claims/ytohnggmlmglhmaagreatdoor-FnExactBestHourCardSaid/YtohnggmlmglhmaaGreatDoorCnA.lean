/- Plans that come in: copied, compared, valid, taken, in company. -/
import Derived.Test.YtohnggmlmglhmaaGreatDoorProg
import Derived.Test.YtohnggmlmglhmaaGreatDoorCmG
namespace Go.Proofs.YtohnggmlmglhmaaGreatDoor
open Go.ChangeShapes Go.WideShapes Go.ChangeAt Go.RowKit Ve Vc
open Tryz renaming prog → PZ
open IntKind (i64)
set_option linter.unusedVariables false
set_option linter.unusedSimpArgs false
set_option maxRecDepth 100000
noncomputable section
variable {mn:Md}
theorem Zv5 (N:Nat) (a0:Array Value):ansV PZ (mkΓ []) N Tryz.f58 [] [.g a0 114] []=(some (.a (.g #[.int .i8 (num a0 0),.int .i8 (num a0 1),.int .i16 (num a0 2)] 82),.none,true)):=by kernel_rfl
theorem Zua (a0:Array Value) (h_a0:WT PZ 114 a0) (hg:(true)=true):ansV PZ (mkΓ []) 1000 Tryz.f58 [] [.g a0 114] []=some (.a (.g a0 82),.none,true):=by
 have hz:a0.size=3:=by rw [h_a0.layLen];kernel_rfl
 have e0:=(h_a0.int (o:=0) (k:=.i8) (by kernel_rfl)).1
 have e1:=(h_a0.int (o:=1) (k:=.i8) (by kernel_rfl)).1
 have e2:=(h_a0.int (o:=2) (k:=.i16) (by kernel_rfl)).1
 have he:(#[.int .i8 (num a0 0),.int .i8 (num a0 1),.int .i16 (num a0 2)]:Array Value)=a0:=Zfy fun i=>by
  match i with
  | 0=>exact e0.symm
  | 1=>exact e1.symm
  | 2=>exact e2.symm
  | i+3=>rw [Array.getElem?_eq_none (by simp),Array.getElem?_eq_none (by omega)]
 refine (Zv5 1000 a0).trans ?_
 rw [he]
def Zbq:Con:=fun args h=>match args,h with
 | [.g a0 114],[]=>some (.a (.g a0 82),.none,true)
 | _,_=>none
theorem Zta:EntX PZ 58:=Zag (fn:=Tryz.f58) (by kernel_rfl) (by kernel_rfl) (by kernel_rfl)
theorem Zym:Uad mn PZ 58 Zbq:=(Zai (N:=1000) (by kernel_rfl) mkΓ_nilX (fn:=Tryz.f58) (by kernel_rfl) (by kernel_rfl) []).of (by
 intro ρ h w args vals r e hA hH hr
 unfold Zbq at hr
 split at hr
 ·rename_i a0
  obtain ⟨rfl,rfl,hg2⟩:=BQi hr
  exact Zua a0 (hA.wt 0 rfl) hg2
 ·cases hr)
def Zd7 (b_a0:Option (Option Addr)) (n_a0:Nat) (a0:Array Value):St:=(⟨.a (.l 0) :: .a (.u) :: .a (.v (.slice none 0 0)) :: .a (.l 3) :: .a (.i .i64 (0:Int)) :: .a (.l 0) :: .a (.i .i64 (n_a0:Int)) :: .a (.l 3)::us 15 ([]),[.sl (.came b_a0) n_a0 a0 114,.no,.no,.sl .own ((n_a0:Int).toNat) (madeCells (zc PZ 82) ((n_a0:Int).toNat*3)) 82,.no],[]⟩:St)
def Ze7 (n_a0:Nat):Int×Array Value→LS
 | (y0_4,r0_3)=>([.a (.i .i64 (y0_4))],[.sl .own ((n_a0:Int).toNat) r0_3 82])
def Zj6 (n_a0:Nat):Int×Array Value→Exit×LS
 | t=>((.exit 0),(Ze7 n_a0) t)
def Zcp (P : Program) (b_a0 : Option (Option Addr)) (n_a0 : Nat) (a0 : Array Value) : Int × Array Value → Option (Stp (Int × Array Value) (Int × Array Value))
 | (y0_4, r0_3) => bif decide (y0_4 < (n_a0 : Int)) then (bif (decide (0 ≤ y0_4) && decide (y0_4 < (n_a0 : Int))) then (bif (decide (0 ≤ y0_4) && decide (y0_4 < (((n_a0 : Int).toNat) : Int))) then (some (.more ((i64.wrap (y0_4 + (1 : Int))), (spl r0_3 ((y0_4).toNat * 3) (a0.extract ((y0_4).toNat * 3) (((y0_4).toNat * 3) + 3)).toList))))
    else (none))
   else (none))
  else (some (.done (y0_4, r0_3)))
theorem Zwk (N:Nat) (b_a0:Option (Option Addr)) (n_a0:Nat) (a0:Array Value):∀ t:Int×Array Value,Uai PZ (mkΓ [(58,con Zbq)]) N (cAt (codeOf Tryz.f30) [1,1,0,1,0,0]) (pAt (Uaa (codeOf Tryz.f30) [([4],[3])]).1 [1,1,0,1,0]) [4] [3] (Zd7 b_a0 n_a0 a0) ((Ze7 n_a0) t)=mapS (Ze7 n_a0) (Zj6 n_a0) (Zcp PZ b_a0 n_a0 a0 t):=by
 rintro ⟨y0_4,r0_3⟩
 refine Eq.trans (b:=(bif decide (y0_4<(n_a0:Int)) then (bif (decide (0≤y0_4)&&decide (y0_4<(n_a0:Int))) then (bif (decide (0≤y0_4)&&decide (y0_4<(((n_a0:Int).toNat):Int))) then (some (.more ([.a (.i .i64 (i64.wrap (y0_4+(1:Int))))],[.sl .own ((n_a0:Int).toNat) (spl r0_3 ((y0_4).toNat*3) (a0.extract ((y0_4).toNat*3) (((y0_4).toNat*3)+3)).toList) 82])))
    else (none))
   else (none))
  else (some (.done ((.exit 0),([.a (.i .i64 (y0_4))],[.sl .own ((n_a0:Int).toNat) r0_3 82])))))) (by kernel_rfl) ?_
 simp only [Zcp,Za3,Za4,Za6,Za5,Ze7,Zj6]
def Zh7 (P:Program) (N:Nat) (b_a0:Option (Option Addr)) (n_a0:Nat) (a0:Array Value) (z0_4:Int) (q0_3:Array Value):Option (SV×Eff×Bool):=some (.a .x,.newS none ((n_a0:Int).toNat) q0_3 82,true)
theorem Zpj (N:Nat) (b_a0:Option (Option Addr)) (n_a0:Nat) (a0:Array Value) (z0_4:Int) (q0_3:Array Value):(Uab 0 (kSeq (veC PZ (mkΓ [(58,con Zbq)]) N (cAt (codeOf Tryz.f30) [1,1,1]) (pAt (Uaa (codeOf Tryz.f30) [([4],[3])]).1 [1,1,1]) (SV×Eff×Bool)) (finK PZ [.sl (.came b_a0) n_a0 a0 114] [.tmp 2]))) (.exit 0) (left (writes (cAt (codeOf Tryz.f30) [1,1,0,1,0,0])) [4] [3] (Zd7 b_a0 n_a0 a0) ([.a (.i .i64 (z0_4))],[.sl .own ((n_a0:Int).toNat) q0_3 82]))=Zh7 PZ N b_a0 n_a0 a0 z0_4 q0_3:=by
 refine Eq.trans (b:=(some (.a .x,.newS none ((n_a0:Int).toNat) q0_3 82,true))) (by kernel_rfl) ?_
 rfl
theorem Zwn (N:Nat) (b_a0:Option (Option Addr)) (n_a0:Nat) (a0:Array Value):Uah (Uac (Uai PZ (mkΓ [(58,con Zbq)]) N (cAt (codeOf Tryz.f30) [1,1,0,1,0,0]) (pAt (Uaa (codeOf Tryz.f30) [([4],[3])]).1 [1,1,0,1,0]) [4] [3] (Zd7 b_a0 n_a0 a0)) N ([.a (.i .i64 (0:Int))],[.sl .own ((n_a0:Int).toNat) (madeCells (zc PZ 82) ((n_a0:Int).toNat*3)) 82])) (fun e s=>(Uab 0 (kSeq (veC PZ (mkΓ [(58,con Zbq)]) N (cAt (codeOf Tryz.f30) [1,1,1]) (pAt (Uaa (codeOf Tryz.f30) [([4],[3])]).1 [1,1,1]) (SV×Eff×Bool)) (finK PZ [.sl (.came b_a0) n_a0 a0 114] [.tmp 2]))) e (left (writes (cAt (codeOf Tryz.f30) [1,1,0,1,0,0])) [4] [3] (Zd7 b_a0 n_a0 a0) s))=Uam (Uac (Zcp PZ b_a0 n_a0 a0) N ((0:Int),(madeCells (zc PZ 82) ((n_a0:Int).toNat*3)))) (fun x=>Zh7 PZ N b_a0 n_a0 a0 x.1 x.2):=by
 refine Zbm (Ze7 n_a0) (Zj6 n_a0) _ _ (Zwk N b_a0 n_a0 a0) N ((0:Int),(madeCells (zc PZ 82) ((n_a0:Int).toNat*3))) _ _ ?_
 intro x;exact Zpj N b_a0 n_a0 a0 x.1 x.2
theorem Zve (N:Nat) (b_a0:Option (Option Addr)) (n_a0:Nat) (a0:Array Value):ansV PZ (mkΓ [(58,con Zbq)]) N Tryz.f30 [([4],[3])] [.l 0] [.sl (.came b_a0) n_a0 a0 114]=(bif (decide (0≤(n_a0:Int))&&((n_a0:Int)==(n_a0:Int)&&decide ((bytesOf PZ 82:Int)*(n_a0:Int)≤281474976710656))) then (Uam (Uac (Zcp PZ b_a0 n_a0 a0) N ((0:Int),(madeCells (zc PZ 82) ((n_a0:Int).toNat*3)))) (fun x=>Zh7 PZ N b_a0 n_a0 a0 x.1 x.2))
  else (none)):=by
 refine Eq.trans (b:=(bif (decide (0≤(n_a0:Int))&&((n_a0:Int)==(n_a0:Int)&&decide ((bytesOf PZ 82:Int)*(n_a0:Int)≤281474976710656))) then (Uah (Uac (Uai PZ (mkΓ [(58,con Zbq)]) N (cAt (codeOf Tryz.f30) [1,1,0,1,0,0]) (pAt (Uaa (codeOf Tryz.f30) [([4],[3])]).1 [1,1,0,1,0]) [4] [3] (Zd7 b_a0 n_a0 a0)) N ([.a (.i .i64 (0:Int))],[.sl .own ((n_a0:Int).toNat) (madeCells (zc PZ 82) ((n_a0:Int).toNat*3)) 82])) (fun e s=>(Uab 0 (kSeq (veC PZ (mkΓ [(58,con Zbq)]) N (cAt (codeOf Tryz.f30) [1,1,1]) (pAt (Uaa (codeOf Tryz.f30) [([4],[3])]).1 [1,1,1]) (SV×Eff×Bool)) (finK PZ [.sl (.came b_a0) n_a0 a0 114] [.tmp 2]))) e (left (writes (cAt (codeOf Tryz.f30) [1,1,0,1,0,0])) [4] [3] (Zd7 b_a0 n_a0 a0) s)))
  else (none))) (by kernel_rfl) ?_
 simp only [Zwn N b_a0 n_a0 a0]
theorem Zs1 (b_a0:Option (Option Addr)) (n_a0:Nat) (a0:Array Value) (h_a0:a0.size=n_a0*(lay PZ 114).length∧(∀ k,k<n_a0→WT PZ 114 (a0.extract (k*(lay PZ 114).length) (k*(lay PZ 114).length+(lay PZ 114).length)))∧n_a0≤9223372036854775807) (hg:(decide (n_a0≤1048576))=true):ansV PZ (mkΓ [(58,con Zbq)]) 18446744073709551616 Tryz.f30 [([4],[3])] [.l 0] [.sl (.came b_a0) n_a0 a0 114]=some (.a .x,.newS none n_a0 a0 82,true):=by
 have hn:n_a0≤1048576:=of_decide_eq_true hg
 have hm:(lay PZ 114).length=3:=by kernel_rfl
 have hb:bytesOf PZ 82=4:=by kernel_rfl
 obtain ⟨s1,s2,s3⟩:=h_a0
 rw [hm] at s1 s2
 have hq:(lay PZ 114)[0]? = some 0:=by kernel_rfl
 refine (Zve 18446744073709551616 b_a0 n_a0 a0).trans ?_
 have hgd:(decide (0≤(n_a0:Int))&&((n_a0:Int)==(n_a0:Int)&&decide ((bytesOf PZ 82:Int)*(n_a0:Int)≤281474976710656)))=true:=by
  rw [hb,decide_eq_true (show (0:Int)≤n_a0 by omega),beq_self_eq_true,decide_eq_true (show (((4:Nat):Int))*(n_a0:Int)≤281474976710656 by omega)];rfl
 rw [hgd,cond_true]
 have hs:a0.size=(madeCells (zc PZ 82) ((n_a0:Int).toNat*3)).size:=by rw [size_madeCells,Int.toNat_natCast];exact s1
 generalize (madeCells (zc PZ 82) ((n_a0:Int).toNat*3))=Z at hs⊢
 have h:=Zdy (g:=Zcp PZ b_a0 n_a0 a0) (fun k=>((k:Int),upto a0 Z (k*3))) (m:=n_a0) (x:=((n_a0:Int),upto a0 Z (n_a0*3))) (N:=18446744073709551616) (fun k hk=>by
  have h1:decide ((k:Int)<(n_a0:Int))=true:=decide_eq_true (by omega)
  have h0:decide (0≤(k:Int))=true:=decide_eq_true (by omega)
  have h3:i64.wrap ((k:Int)+1)=((k+1:Nat):Int):=by rw [IntWalk.i64_in _ (by omega)];omega
  have h5:spl (upto a0 Z (k*3)) (k*3) (a0.extract (k*3) (k*3+3)).toList=upto a0 Z ((k+1)*3):=by
   rw [Nat.add_mul];exact Ybn hs (by have:(k+1)*3≤n_a0*3:=Nat.mul_le_mul_right _ hk;omega) rfl
  simp only [Zcp,h1,h0,Bool.and_self,Int.toNat_natCast,cond_true,h3,h5]) (by
  have h1:decide ((n_a0:Int)<(n_a0:Int))=false:=decide_eq_false (by omega)
  simp only [Zcp,h1,cond_false]) (by omega)
 rw [Zvu hs s1] at h
 simp only [Nat.zero_mul,Zrn hs] at h
 have h':Uac (Zcp PZ b_a0 n_a0 a0) 18446744073709551616 ((0:Int),Z)=some ((n_a0:Int),a0):=h
 rw [h']
 show some (_,Eff.newS none ((n_a0:Int).toNat) a0 82,true)=_
 rw [Int.toNat_natCast]
def Zgj:Con:=fun args h=>match args,h with
 | [.l 0],[.sl (.came b_a0) n_a0 a0 114]=>some (.a .x,.newS none n_a0 a0 82,decide (n_a0≤1048576))
 | _,_=>none
theorem Zqz:EntX PZ 30:=Zag (fn:=Tryz.f30) (by kernel_rfl) (by kernel_rfl) (by kernel_rfl)
theorem Zxa:Uad mn PZ 30 Zgj:=(Zai (N:=18446744073709551616) (by kernel_rfl) (mkΓ_consX (Zac Zym) Zta mkΓ_nilX) (fn:=Tryz.f30) (by kernel_rfl) (by kernel_rfl) [([4],[3])]).of (by
 intro ρ h w args vals r e hA hH hr
 unfold Zgj at hr
 split at hr
 ·rename_i b_a0 n_a0 a0
  obtain ⟨rfl,rfl,hg2⟩:=BQi hr
  exact Zs1 b_a0 n_a0 a0 (hH.slw 0 rfl) hg2
 ·cases hr)
theorem Zw4 (N:Nat) (a0 a1:Array Value):ansV PZ (mkΓ []) N Tryz.f66 [] [.g a0 82,.g a1 82] []=(bif ((num a0 0) != (num a1 0)) then (some (.a (.b (false)),.none,true))
  else (bif ((num a0 1) != (num a1 1)) then (some (.a (.b (false)),.none,true))
   else (bif ((num a0 2) != (num a1 2)) then (some (.a (.b (false)),.none,true))
    else (some (.a (.b (true)),.none,true))))):=by kernel_rfl
theorem Zud (a0 a1:Array Value) (h_a0:WT PZ 82 a0) (h_a1:WT PZ 82 a1) (hg:(true)=true):ansV PZ (mkΓ []) 1000 Tryz.f66 [] [.g a0 82,.g a1 82] []=some (.a (.b (Ubb a0 a1)),.none,true):=by
 have hz:a0.size=3:=by rw [h_a0.layLen];kernel_rfl
 have hy:a1.size=3:=by rw [h_a1.layLen];kernel_rfl
 refine (Zw4 1000 a0 a1).trans ?_
 cases hb:Ubb a0 a1
 ·have hne:=Yj5.1 hb
  cases h0:(num a0 0 != num a1 0)
  ·skip
   cases h1:(num a0 1 != num a1 1)
   ·skip
    cases h2:(num a0 2 != num a1 2)
    ·skip
     exfalso
     refine hne (Zfy fun i=> ?_)
     by_cases c0:i=0
     ·subst c0
      rw [(h_a0.int (k:=.i8) (o:=0) (by kernel_rfl)).1,(h_a1.int (k:=.i8) (o:=0) (by kernel_rfl)).1,Ynk h0]
     by_cases c1:i=1
     ·subst c1
      rw [(h_a0.int (k:=.i8) (o:=1) (by kernel_rfl)).1,(h_a1.int (k:=.i8) (o:=1) (by kernel_rfl)).1,Ynk h1]
     by_cases c2:i=2
     ·subst c2
      rw [(h_a0.int (k:=.i16) (o:=2) (by kernel_rfl)).1,(h_a1.int (k:=.i16) (o:=2) (by kernel_rfl)).1,Ynk h2]
     rw [Array.getElem?_eq_none (by omega),Array.getElem?_eq_none (by omega)]
    ·rfl
   ·rfl
  ·rfl
 ·rw [Zma.1 hb]
  simp only [bne_self_eq_false,cond_false,Zsm,Bool.not_true]
def Zbf:Con:=fun args h=>match args,h with
 | [.g a0 82,.g a1 82],[]=>some (.a (.b (Ubb a0 a1)),.none,true)
 | _,_=>none
theorem Ztd:EntX PZ 66:=Zag (fn:=Tryz.f66) (by kernel_rfl) (by kernel_rfl) (by kernel_rfl)
theorem Zyx:Uad mn PZ 66 Zbf:=(Zai (N:=1000) (by kernel_rfl) mkΓ_nilX (fn:=Tryz.f66) (by kernel_rfl) (by kernel_rfl) []).of (by
 intro ρ h w args vals r e hA hH hr
 unfold Zbf at hr
 split at hr
 ·rename_i a0 a1
  obtain ⟨rfl,rfl,hg2⟩:=BQi hr
  exact Zud a0 a1 (hA.wt 0 rfl) (hA.wt 1 rfl) hg2
 ·cases hr)
def Zdb (b_a0:Option (Option Addr)) (n_a0:Nat) (a0:Array Value) (b_a1:Option (Option Addr)) (n_a1:Nat) (a1:Array Value):St:=(⟨.a (.l 0) :: .a (.l 1) :: .a (.u) :: .a (.u) :: .a (.b (false)) :: .a (.i .i64 (0:Int)) :: .a (.l 0) :: .a (.i .i64 (n_a0:Int)) :: .a (.l 1) :: .a (.i .i64 (n_a1:Int)) :: .a (.b (((n_a0:Int) != (n_a1:Int))))::us 16 ([]),[.sl (.came b_a0) n_a0 a0 82,.sl (.came b_a1) n_a1 a1 82],[]⟩:St)
def Zeb:Bool×Int→LS
 | (y0_4,y0_5)=>([.a (.b (y0_4)),.a (.i .i64 (y0_5))],[])
def Zj8:(Stp (Bool×Int) (Bool×Int))→Exit×LS
 | .more t=>(.ret,Zeb t)
 | .done t=>((.exit 0),Zeb t)
def Zcn (P : Program) (b_a0 : Option (Option Addr)) (n_a0 : Nat) (a0 : Array Value) (b_a1 : Option (Option Addr)) (n_a1 : Nat) (a1 : Array Value) : Bool × Int → Option (Stp (Bool × Int) (Stp (Bool × Int) (Bool × Int)))
 | (y0_4, y0_5) => bif decide (y0_5 < (n_a0 : Int)) then (bif (decide (0 ≤ y0_5) && decide (y0_5 < (n_a0 : Int))) then (bif (decide (0 ≤ y0_5) && decide (y0_5 < (n_a1 : Int))) then (bif (!(Ubb (a0.extract ((y0_5).toNat * 3) (((y0_5).toNat * 3) + 3)) (a1.extract ((y0_5).toNat * 3) (((y0_5).toNat * 3) + 3)))) then (some (.done (.more (false, y0_5))))
     else (some (.more (y0_4, (i64.wrap (y0_5 + (1 : Int)))))))
    else (none))
   else (none))
  else (some (.done (.done (y0_4, y0_5))))
theorem Zx9 (N:Nat) (b_a0:Option (Option Addr)) (n_a0:Nat) (a0:Array Value) (b_a1:Option (Option Addr)) (n_a1:Nat) (a1:Array Value):∀ t:Bool×Int,Uai PZ (mkΓ [(66,con Zbf)]) N (cAt (codeOf Tryz.f37) [1,1,0,1,0,0]) (pAt (Uaa (codeOf Tryz.f37) [([4,5],[])]).1 [1,1,0,1,0]) [4,5] [] (Zdb b_a0 n_a0 a0 b_a1 n_a1 a1) (Zeb t)=mapS Zeb Zj8 (Zcn PZ b_a0 n_a0 a0 b_a1 n_a1 a1 t):=by
 rintro ⟨y0_4,y0_5⟩
 refine Eq.trans (b:=(bif decide (y0_5<(n_a0:Int)) then (bif (decide (0≤y0_5)&&decide (y0_5<(n_a0:Int))) then (bif (decide (0≤y0_5)&&decide (y0_5<(n_a1:Int))) then (bif (!(Ubb (a0.extract ((y0_5).toNat*3) (((y0_5).toNat*3)+3)) (a1.extract ((y0_5).toNat*3) (((y0_5).toNat*3)+3)))) then (some (.done (.ret,([.a (.b (false)),.a (.i .i64 (y0_5))],[]))))
     else (some (.more ([.a (.b (y0_4)),.a (.i .i64 (i64.wrap (y0_5+(1:Int))))],[]))))
    else (none))
   else (none))
  else (some (.done ((.exit 0),([.a (.b (y0_4)),.a (.i .i64 (y0_5))],[])))))) (by kernel_rfl) ?_
 simp only [Zcn,Za3,Za4,Za6,Za5,Zeb,Zj8]
def Zh5 (P:Program) (N:Nat) (b_a0:Option (Option Addr)) (n_a0:Nat) (a0:Array Value) (b_a1:Option (Option Addr)) (n_a1:Nat) (a1:Array Value) (z0_4:Bool) (z0_5:Int):Option (SV×Eff×Bool):=some (.a (.b (z0_4)),.none,true)
theorem Zph (N:Nat) (b_a0:Option (Option Addr)) (n_a0:Nat) (a0:Array Value) (b_a1:Option (Option Addr)) (n_a1:Nat) (a1:Array Value) (z0_4:Bool) (z0_5:Int):(Uab 0 (kSeq (veC PZ (mkΓ [(66,con Zbf)]) N (cAt (codeOf Tryz.f37) [1,1,1]) (pAt (Uaa (codeOf Tryz.f37) [([4,5],[])]).1 [1,1,1]) (SV×Eff×Bool)) (finK PZ [.sl (.came b_a0) n_a0 a0 82,.sl (.came b_a1) n_a1 a1 82] [.tmp 4]))) .ret (left (writes (cAt (codeOf Tryz.f37) [1,1,0,1,0,0])) [4,5] [] (Zdb b_a0 n_a0 a0 b_a1 n_a1 a1) ([.a (.b (z0_4)),.a (.i .i64 (z0_5))],[]))=Zh5 PZ N b_a0 n_a0 a0 b_a1 n_a1 a1 z0_4 z0_5:=by
 refine Eq.trans (b:=(some (.a (.b (z0_4)),.none,true))) (by kernel_rfl) ?_
 rfl
def Zh1 (P:Program) (N:Nat) (b_a0:Option (Option Addr)) (n_a0:Nat) (a0:Array Value) (b_a1:Option (Option Addr)) (n_a1:Nat) (a1:Array Value) (z0_4:Bool) (z0_5:Int):Option (SV×Eff×Bool):=some (.a (.b (true)),.none,true)
theorem Zo9 (N:Nat) (b_a0:Option (Option Addr)) (n_a0:Nat) (a0:Array Value) (b_a1:Option (Option Addr)) (n_a1:Nat) (a1:Array Value) (z0_4:Bool) (z0_5:Int):(Uab 0 (kSeq (veC PZ (mkΓ [(66,con Zbf)]) N (cAt (codeOf Tryz.f37) [1,1,1]) (pAt (Uaa (codeOf Tryz.f37) [([4,5],[])]).1 [1,1,1]) (SV×Eff×Bool)) (finK PZ [.sl (.came b_a0) n_a0 a0 82,.sl (.came b_a1) n_a1 a1 82] [.tmp 4]))) (.exit 0) (left (writes (cAt (codeOf Tryz.f37) [1,1,0,1,0,0])) [4,5] [] (Zdb b_a0 n_a0 a0 b_a1 n_a1 a1) ([.a (.b (z0_4)),.a (.i .i64 (z0_5))],[]))=Zh1 PZ N b_a0 n_a0 a0 b_a1 n_a1 a1 z0_4 z0_5:=by
 refine Eq.trans (b:=(some (.a (.b (true)),.none,true))) (by kernel_rfl) ?_
 rfl
theorem Zxo (N:Nat) (b_a0:Option (Option Addr)) (n_a0:Nat) (a0:Array Value) (b_a1:Option (Option Addr)) (n_a1:Nat) (a1:Array Value):Uah (Uac (Uai PZ (mkΓ [(66,con Zbf)]) N (cAt (codeOf Tryz.f37) [1,1,0,1,0,0]) (pAt (Uaa (codeOf Tryz.f37) [([4,5],[])]).1 [1,1,0,1,0]) [4,5] [] (Zdb b_a0 n_a0 a0 b_a1 n_a1 a1)) N ([.a (.b (false)),.a (.i .i64 (0:Int))],[])) (fun e s=>(Uab 0 (kSeq (veC PZ (mkΓ [(66,con Zbf)]) N (cAt (codeOf Tryz.f37) [1,1,1]) (pAt (Uaa (codeOf Tryz.f37) [([4,5],[])]).1 [1,1,1]) (SV×Eff×Bool)) (finK PZ [.sl (.came b_a0) n_a0 a0 82,.sl (.came b_a1) n_a1 a1 82] [.tmp 4]))) e (left (writes (cAt (codeOf Tryz.f37) [1,1,0,1,0,0])) [4,5] [] (Zdb b_a0 n_a0 a0 b_a1 n_a1 a1) s))=Uam (Uac (Zcn PZ b_a0 n_a0 a0 b_a1 n_a1 a1) N (false,(0:Int))) (st2 (fun x=>Zh5 PZ N b_a0 n_a0 a0 b_a1 n_a1 a1 x.1 x.2) (fun x=>Zh1 PZ N b_a0 n_a0 a0 b_a1 n_a1 a1 x.1 x.2)):=by
 refine Zbm Zeb Zj8 _ _ (Zx9 N b_a0 n_a0 a0 b_a1 n_a1 a1) N (false,(0:Int)) _ _ ?_
 intro x
 cases x with
 | more x=>exact Zph N b_a0 n_a0 a0 b_a1 n_a1 a1 x.1 x.2
 | done x=>exact Zo9 N b_a0 n_a0 a0 b_a1 n_a1 a1 x.1 x.2
theorem Zvc (N:Nat) (b_a0:Option (Option Addr)) (n_a0:Nat) (a0:Array Value) (b_a1:Option (Option Addr)) (n_a1:Nat) (a1:Array Value):ansV PZ (mkΓ [(66,con Zbf)]) N Tryz.f37 [([4,5],[])] [.l 0,.l 1] [.sl (.came b_a0) n_a0 a0 82,.sl (.came b_a1) n_a1 a1 82]=(bif ((n_a0:Int) != (n_a1:Int)) then (some (.a (.b (false)),.none,true))
  else (Uam (Uac (Zcn PZ b_a0 n_a0 a0 b_a1 n_a1 a1) N (false,(0:Int))) (st2 (fun x=>Zh5 PZ N b_a0 n_a0 a0 b_a1 n_a1 a1 x.1 x.2) (fun x=>Zh1 PZ N b_a0 n_a0 a0 b_a1 n_a1 a1 x.1 x.2)))):=by
 refine Eq.trans (b:=(bif ((n_a0:Int) != (n_a1:Int)) then (some (.a (.b (false)),.none,true))
  else (Uah (Uac (Uai PZ (mkΓ [(66,con Zbf)]) N (cAt (codeOf Tryz.f37) [1,1,0,1,0,0]) (pAt (Uaa (codeOf Tryz.f37) [([4,5],[])]).1 [1,1,0,1,0]) [4,5] [] (Zdb b_a0 n_a0 a0 b_a1 n_a1 a1)) N ([.a (.b (false)),.a (.i .i64 (0:Int))],[])) (fun e s=>(Uab 0 (kSeq (veC PZ (mkΓ [(66,con Zbf)]) N (cAt (codeOf Tryz.f37) [1,1,1]) (pAt (Uaa (codeOf Tryz.f37) [([4,5],[])]).1 [1,1,1]) (SV×Eff×Bool)) (finK PZ [.sl (.came b_a0) n_a0 a0 82,.sl (.came b_a1) n_a1 a1 82] [.tmp 4]))) e (left (writes (cAt (codeOf Tryz.f37) [1,1,0,1,0,0])) [4,5] [] (Zdb b_a0 n_a0 a0 b_a1 n_a1 a1) s))))) (by kernel_rfl) ?_
 simp only [Zxo N b_a0 n_a0 a0 b_a1 n_a1 a1]
theorem Zs5 (b_a0:Option (Option Addr)) (n_a0:Nat) (a0:Array Value) (b_a1:Option (Option Addr)) (n_a1:Nat) (a1:Array Value) (h_a0:a0.size=n_a0*(lay PZ 82).length∧(∀ k,k<n_a0→WT PZ 82 (a0.extract (k*(lay PZ 82).length) (k*(lay PZ 82).length+(lay PZ 82).length)))∧n_a0≤9223372036854775807) (h_a1:a1.size=n_a1*(lay PZ 82).length∧(∀ k,k<n_a1→WT PZ 82 (a1.extract (k*(lay PZ 82).length) (k*(lay PZ 82).length+(lay PZ 82).length)))∧n_a1≤9223372036854775807) (hg:(true)=true):ansV PZ (mkΓ [(66,con Zbf)]) 18446744073709551616 Tryz.f37 [([4,5],[])] [.l 0,.l 1] [.sl (.came b_a0) n_a0 a0 82,.sl (.came b_a1) n_a1 a1 82]=some (.a (.b ((decide (n_a0=n_a1)&&Ubb a0 a1))),.none,true):=by
 have hm:(lay PZ 82).length=3:=by kernel_rfl
 obtain ⟨s1,s2,s3⟩:=h_a0
 obtain ⟨t1,t2,t3⟩:=h_a1
 rw [hm] at s1 s2 t1 t2
 have hq:(lay PZ 82)[0]? = some 0:=by kernel_rfl
 refine (Zvc 18446744073709551616 b_a0 n_a0 a0 b_a1 n_a1 a1).trans ?_
 by_cases hl:n_a0=n_a1
 case neg=>
  rw [decide_eq_false hl,show ((n_a0:Int) != (n_a1:Int))=true from bne_iff_ne.2 (by omega)]
  rfl
 subst hl
 rw [decide_eq_true rfl,show ((n_a0:Int) != (n_a0:Int))=false from bne_self_eq_false _]
 simp only [cond_false,Bool.true_and]
 have hb:Ubb a0 a1=true ↔ ∀ k,k<n_a0→(fun k=>Ubb (a0.extract (k*3) (k*3+3)) (a1.extract (k*3) (k*3+3))) k=true:=by
  constructor
  ·intro h k hk
   rw [Zma.1 h]
   exact Zsm _
  ·intro h
   refine Zma.2 ?_
   exact Yjd (n:=n_a0) (m:=3) (by omega) s1 t1 (fun k hk=>Zma.1 (h k hk))
 refine (Zyv (g:=Zcn PZ b_a0 n_a0 a0 b_a1 n_a0 a1) (fun k=>(false,(k:Int))) (fun k=>Ubb (a0.extract (k*3) (k*3+3)) (a1.extract (k*3) (k*3+3))) n_a0 (N:=18446744073709551616) (xd:=.done (false,(n_a0:Int))) (by omega) (fun k hk hp=>by
  have h1:decide ((k:Int)<(n_a0:Int))=true:=decide_eq_true (by omega)
  have h0:decide (0≤(k:Int))=true:=decide_eq_true (by omega)
  have h3:i64.wrap ((k:Int)+1)=((k+1:Nat):Int):=by rw [IntWalk.i64_in _ (by omega)];omega
  have hp':Ubb (a0.extract (k*3) (k*3+3)) (a1.extract (k*3) (k*3+3))=true:=hp
  simp only [Zcn,h1,h0,Bool.and_self,Int.toNat_natCast,cond_true,h3,hp',Bool.not_true,cond_false]) (by
  have h1:decide ((n_a0:Int)<(n_a0:Int))=false:=decide_eq_false (by omega)
  simp only [Zcn,h1,cond_false]) (Ubb a0 a1) hb (some (.a (.b true),.none,true)) (some (.a (.b false),.none,true)) rfl (fun k hk hp=>by
  refine ⟨.more (false,(k:Int)), ?_,rfl⟩
  have h1:decide ((k:Int)<(n_a0:Int))=true:=decide_eq_true (by omega)
  have h0:decide (0≤(k:Int))=true:=decide_eq_true (by omega)
  have hp':Ubb (a0.extract (k*3) (k*3+3)) (a1.extract (k*3) (k*3+3))=false:=hp
  simp only [Zcn,h1,h0,Bool.and_self,Int.toNat_natCast,cond_true,hp',Bool.not_false])).trans ?_
 cases Ubb a0 a1<;>rfl
def Zgh:Con:=fun args h=>match args,h with
 | [.l 0,.l 1],[.sl (.came b_a0) n_a0 a0 82,.sl (.came b_a1) n_a1 a1 82]=>some (.a (.b ((decide (n_a0=n_a1)&&Ubb a0 a1))),.none,true)
 | _,_=>none
theorem Zsh:EntX PZ 37:=Zag (fn:=Tryz.f37) (by kernel_rfl) (by kernel_rfl) (by kernel_rfl)
theorem Zxn:Uad mn PZ 37 Zgh:=(Zai (N:=18446744073709551616) (by kernel_rfl) (mkΓ_consX (Zac Zyx) Ztd mkΓ_nilX) (fn:=Tryz.f37) (by kernel_rfl) (by kernel_rfl) [([4,5],[])]).of (by
 intro ρ h w args vals r e hA hH hr
 unfold Zgh at hr
 split at hr
 ·rename_i b_a0 n_a0 a0 b_a1 n_a1 a1
  obtain ⟨rfl,rfl,hg2⟩:=BQi hr
  exact Zs5 b_a0 n_a0 a0 b_a1 n_a1 a1 (hH.slw 0 rfl) (hH.slw 1 rfl) hg2
 ·cases hr)
theorem Zt7 (N:Nat) (a1:Int) (b_a0:Option (Option Addr)) (n_a0:Nat) (a0:Array Value):ansV PZ (mkΓ []) N Tryz.f22 [] [.l 0,.i .i64 (a1)] [.sl (.came b_a0) n_a0 a0 114]=(bif decide ((i64.wrap (a1 - (n_a0:Int)))<(0:Int)) then (some (.a (.i .i64 (-1:Int)),.none,true))
  else (some (.a (.i .i64 (i64.wrap (a1 - (n_a0:Int)))),.none,true))):=by kernel_rfl
def Zb4 (a1:Int) (b_a0:Option (Option Addr)) (n_a0:Nat) (a0:Array Value):Int:=(bif decide ((i64.wrap (a1 - (n_a0:Int)))<(0:Int)) then (-1:Int) else (i64.wrap (a1 - (n_a0:Int))))
theorem Zs9 (a1:Int) (b_a0:Option (Option Addr)) (n_a0:Nat) (a0:Array Value) (h_a1:i64.min≤a1∧a1≤i64.max) (h_a0:a0.size=n_a0*(lay PZ 114).length∧(∀ k,k<n_a0→WT PZ 114 (a0.extract (k*(lay PZ 114).length) (k*(lay PZ 114).length+(lay PZ 114).length)))∧n_a0≤9223372036854775807) (hg:(true)=true):ansV PZ (mkΓ []) 1000 Tryz.f22 [] [.l 0,.i .i64 (a1)] [.sl (.came b_a0) n_a0 a0 114]=some (.a (.i .i64 (Zb4 a1 b_a0 n_a0 a0)),.none,true):=by
 refine (Zt7 1000 a1 b_a0 n_a0 a0).trans ?_
 unfold Zb4
 revert hg
 generalize (decide ((i64.wrap (a1 - (n_a0:Int)))<(0:Int)))=b2
 intro hg
 cases b2
 ·skip
  first | (simp only [BQ6];done) | rfl | exact (nomatch (hg:false=true))
 ·skip
  first | (simp only [BQ6];done) | rfl | exact (nomatch (hg:false=true))
def Zgi:Con:=fun args h=>match args,h with
 | [.l 0,.i .i64 a1],[.sl (.came b_a0) n_a0 a0 114]=>some (.a (.i .i64 (Zb4 a1 b_a0 n_a0 a0)),.none,true)
 | _,_=>none
theorem Zsk:EntX PZ 22:=Zag (fn:=Tryz.f22) (by kernel_rfl) (by kernel_rfl) (by kernel_rfl)
theorem Zwb:Uad mn PZ 22 Zgi:=(Zai (N:=1000) (by kernel_rfl) mkΓ_nilX (fn:=Tryz.f22) (by kernel_rfl) (by kernel_rfl) []).of (by
 intro ρ h w args vals r e hA hH hr
 unfold Zgi at hr
 split at hr
 ·rename_i a1 b_a0 n_a0 a0
  obtain ⟨rfl,rfl,hg2⟩:=BQi hr
  exact Zs9 a1 b_a0 n_a0 a0 (hA.rng 1 rfl) (hH.slw 0 rfl) hg2
 ·cases hr)
theorem Ydy (N:Nat) (a0:Array Value) (bR:Option (Option Addr)) (nR:Nat) (aR:Array Value):ansV PZ (mkΓ [(30,con Zgj)]) N Tryz.f10 [] [.r a0 31 [(2,0)]] [.sl (.came bR) nR aR 114]=(bif decide (nR≤1048576) then (some (.a (.r #[.int .i8 (num a0 0),.int .i8 (num a0 1),.slice none 0 0] 45 [(2,HOLE)]),.newS (some 1000000) nR aR 82,true))
  else (none)):=by kernel_rfl
theorem Yae (a0:Array Value) (bR:Option (Option Addr)) (nR:Nat) (aR:Array Value) (h_a0:WT PZ 31 a0) (h_a0x2:aR.size=nR*(lay PZ 114).length∧(∀ k,k<nR→WT PZ 114 (aR.extract (k*(lay PZ 114).length) (k*(lay PZ 114).length+(lay PZ 114).length)))∧nR≤9223372036854775807) (hg:(decide (nR≤1048576))=true):ansV PZ (mkΓ [(30,con Zgj)]) 1000 Tryz.f10 [] [.r a0 31 [(2,0)]] [.sl (.came bR) nR aR 114]=some (.a (.r a0 45 [(2,HOLE)]),.newS (some 1000000) nR aR 82,true):=by
 have hz:a0.size=3:=by rw [h_a0.layLen];kernel_rfl
 have e0:=(h_a0.int (o:=0) (k:=.i8) (by kernel_rfl)).1
 have e1:=(h_a0.int (o:=1) (k:=.i8) (by kernel_rfl)).1
 have e2:=h_a0.nil (o:=2) (by kernel_rfl)
 have he:(#[.int .i8 (num a0 0),.int .i8 (num a0 1),.slice none 0 0]:Array Value)=a0:=Zfy fun i=>by
  match i with
  | 0=>exact e0.symm
  | 1=>exact e1.symm
  | 2=>exact e2.symm
  | i+3=>rw [Array.getElem?_eq_none (by simp),Array.getElem?_eq_none (by omega)]
 refine (Ydy 1000 a0 bR nR aR).trans ?_
 rw [hg,he]
 rfl
def Zmj:Con:=fun args h=>match args,h with
 | [.r a0 31 [(2,0)]],[.sl (.came bR) nR aR 114]=>some (.a (.r a0 45 [(2,HOLE)]),.newS (some 1000000) nR aR 82,decide (nR≤1048576))
 | _,_=>none
theorem Zzw:EntX PZ 10:=Zag (fn:=Tryz.f10) (by kernel_rfl) (by kernel_rfl) (by kernel_rfl)
theorem Yei:Uad mn PZ 10 Zmj:=(Zai (N:=1000) (by kernel_rfl) (mkΓ_consX (Zac Zxa) Zqz mkΓ_nilX) (fn:=Tryz.f10) (by kernel_rfl) (by kernel_rfl) []).of (by
 intro ρ h w args vals r e hA hH hr
 unfold Zmj at hr
 split at hr
 ·rename_i a0 bR nR aR
  obtain ⟨rfl,rfl,hg2⟩:=BQi hr
  exact Yae a0 bR nR aR (hA.wtr 0 rfl) (hH.slw 0 rfl) hg2
 ·cases hr)
theorem Yby (N:Nat) (a0 a1:Array Value) (bR:Option (Option Addr)) (nR:Nat) (aR:Array Value) (bQ:Option (Option Addr)) (nQ:Nat) (aQ:Array Value):ansV PZ (mkΓ [(37,con Zgh)]) N Tryz.f13 [] [.r a0 45 [(2,0)],.r a1 45 [(2,1)]] [.sl (.came bR) nR aR 82,.sl (.came bQ) nQ aQ 82]=(bif ((num a0 0) != (num a1 0)) then (some (.a (.b (false)),.none,true))
  else (bif ((num a0 1) != (num a1 1)) then (some (.a (.b (false)),.none,true))
   else (bif (!((decide (nR=nQ)&&Ubb aR aQ))) then (some (.a (.b (false)),.none,true))
    else (some (.a (.b (true)),.none,true))))):=by kernel_rfl
def Zeq (a0 a1:Array Value) (bR:Option (Option Addr)) (nR:Nat) (aR:Array Value) (bQ:Option (Option Addr)) (nQ:Nat) (aQ:Array Value):Bool:=(bif ((num a0 0) != (num a1 0)) then false else (bif ((num a0 1) != (num a1 1)) then false else (bif (!((decide (nR=nQ)&&Ubb aR aQ))) then false else true)))
theorem Yag (a0 a1:Array Value) (bR:Option (Option Addr)) (nR:Nat) (aR:Array Value) (bQ:Option (Option Addr)) (nQ:Nat) (aQ:Array Value) (h_a0:WT PZ 45 a0) (h_a1:WT PZ 45 a1) (h_a0x2:aR.size=nR*(lay PZ 82).length∧(∀ k,k<nR→WT PZ 82 (aR.extract (k*(lay PZ 82).length) (k*(lay PZ 82).length+(lay PZ 82).length)))∧nR≤9223372036854775807) (h_a1x2:aQ.size=nQ*(lay PZ 82).length∧(∀ k,k<nQ→WT PZ 82 (aQ.extract (k*(lay PZ 82).length) (k*(lay PZ 82).length+(lay PZ 82).length)))∧nQ≤9223372036854775807) (hg:(true)=true):ansV PZ (mkΓ [(37,con Zgh)]) 1000 Tryz.f13 [] [.r a0 45 [(2,0)],.r a1 45 [(2,1)]] [.sl (.came bR) nR aR 82,.sl (.came bQ) nQ aQ 82]=some (.a (.b ((Zeq a0 a1 bR nR aR bQ nQ aQ))),.none,true):=by
 refine (Yby 1000 a0 a1 bR nR aR bQ nQ aQ).trans ?_
 unfold Zeq
 revert hg
 generalize (((num a0 0) != (num a1 0)))=b2
 intro hg
 cases b2
 ·skip
  revert hg
  generalize (((num a0 1) != (num a1 1)))=b4
  intro hg
  cases b4
  ·skip
   revert hg
   generalize ((!((decide (nR=nQ)&&Ubb aR aQ))))=b6
   intro hg
   cases b6
   ·skip
    first | (simp only [BQ6];done) | rfl | exact (nomatch (hg:false=true))
   ·skip
    first | (simp only [BQ6];done) | rfl | exact (nomatch (hg:false=true))
  ·skip
   first | (simp only [BQ6];done) | rfl | exact (nomatch (hg:false=true))
 ·skip
  first | (simp only [BQ6];done) | rfl | exact (nomatch (hg:false=true))
def Zl8:Con:=fun args h=>match args,h with
 | [.r a0 45 [(2,0)],.r a1 45 [(2,1)]],[.sl (.came bR) nR aR 82,.sl (.came bQ) nQ aQ 82]=>some (.a (.b ((Zeq a0 a1 bR nR aR bQ nQ aQ))),.none,true)
 | _,_=>none
theorem Zzg:EntX PZ 13:=Zag (fn:=Tryz.f13) (by kernel_rfl) (by kernel_rfl) (by kernel_rfl)
theorem Yd9:Uad mn PZ 13 Zl8:=(Zai (N:=1000) (by kernel_rfl) (mkΓ_consX (Zac Zxn) Zsh mkΓ_nilX) (fn:=Tryz.f13) (by kernel_rfl) (by kernel_rfl) []).of (by
 intro ρ h w args vals r e hA hH hr
 unfold Zl8 at hr
 split at hr
 ·rename_i a0 a1 bR nR aR bQ nQ aQ
  obtain ⟨rfl,rfl,hg2⟩:=BQi hr
  exact Yag a0 a1 bR nR aR bQ nQ aQ (hA.wtr 0 rfl) (hA.wtr 1 rfl) (hH.slw 0 rfl) (hH.slw 1 rfl) hg2
 ·cases hr)
theorem Ydd (N:Nat) (a0:Array Value) (a1:Int) (bR:Option (Option Addr)) (nR:Nat) (aR:Array Value):ansV PZ (mkΓ [(22,con Zgi)]) N Tryz.f7 [] [.r a0 31 [(2,0)],.i .i64 (a1)] [.sl (.came bR) nR aR 114]=(bif decide ((Zb4 a1 bR nR aR)<(0:Int)) then (some (.a (.i .i64 (-1:Int)),.none,true))
  else (some (.a (.i .i64 (Zb4 a1 bR nR aR)),.none,true))):=by kernel_rfl
def Zdx (a0:Array Value) (a1:Int) (bR:Option (Option Addr)) (nR:Nat) (aR:Array Value):Int:=(bif decide ((Zb4 a1 bR nR aR)<(0:Int)) then (-1:Int) else (Zb4 a1 bR nR aR))
theorem Yam (a0:Array Value) (a1:Int) (bR:Option (Option Addr)) (nR:Nat) (aR:Array Value) (h_a0:WT PZ 31 a0) (h_a1:i64.min≤a1∧a1≤i64.max) (h_a0x2:aR.size=nR*(lay PZ 114).length∧(∀ k,k<nR→WT PZ 114 (aR.extract (k*(lay PZ 114).length) (k*(lay PZ 114).length+(lay PZ 114).length)))∧nR≤9223372036854775807) (hg:(true)=true):ansV PZ (mkΓ [(22,con Zgi)]) 1000 Tryz.f7 [] [.r a0 31 [(2,0)],.i .i64 (a1)] [.sl (.came bR) nR aR 114]=some (.a (.i .i64 (Zdx a0 a1 bR nR aR)),.none,true):=by
 refine (Ydd 1000 a0 a1 bR nR aR).trans ?_
 unfold Zdx
 revert hg
 generalize (decide ((Zb4 a1 bR nR aR)<(0:Int)))=b2
 intro hg
 cases b2
 ·skip
  first | (simp only [BQ6];done) | rfl | exact (nomatch (hg:false=true))
 ·skip
  first | (simp only [BQ6];done) | rfl | exact (nomatch (hg:false=true))
def Zl9:Con:=fun args h=>match args,h with
 | [.r a0 31 [(2,0)],.i .i64 a1],[.sl (.came bR) nR aR 114]=>some (.a (.i .i64 (Zdx a0 a1 bR nR aR)),.none,true)
 | _,_=>none
theorem Zzr:EntX PZ 7:=Zag (fn:=Tryz.f7) (by kernel_rfl) (by kernel_rfl) (by kernel_rfl)
theorem Yec:Uad mn PZ 7 Zl9:=(Zai (N:=1000) (by kernel_rfl) (mkΓ_consX (Zac Zwb) Zsk mkΓ_nilX) (fn:=Tryz.f7) (by kernel_rfl) (by kernel_rfl) []).of (by
 intro ρ h w args vals r e hA hH hr
 unfold Zl9 at hr
 split at hr
 ·rename_i a0 a1 bR nR aR
  obtain ⟨rfl,rfl,hg2⟩:=BQi hr
  exact Yam a0 a1 bR nR aR (hA.wtr 0 rfl) (hA.rng 1 rfl) (hH.slw 0 rfl) hg2
 ·cases hr)
theorem Zyu (N:Nat) (a0 a1:Array Value) (bQ:Option (Option Addr)) (nQ:Nat) (aQ:Array Value):ansV PZ (mkΓ []) N Tryz.f85 [] [.g a0 41,.r a1 45 [(2,0)]] [.sl (.came bQ) nQ aQ 82]=(some (.a (.r ((spl (spl (zc PZ 73) 0 (#[.int .i64 (i64.wrap (num a1 0)),.int .i64 (i64.wrap (num a1 1))]:Array Value).toList) 2 a0.toList).setIfInBounds 365 (.slice none 0 0)) 73 [(365,0)]),.none,true)):=by kernel_rfl
theorem Zvw (a0 a1:Array Value) (bQ:Option (Option Addr)) (nQ:Nat) (aQ:Array Value) (h_a0:WT PZ 41 a0) (h_a1:WT PZ 45 a1) (h_a1x2:aQ.size=nQ*(lay PZ 82).length∧(∀ k,k<nQ→WT PZ 82 (aQ.extract (k*(lay PZ 82).length) (k*(lay PZ 82).length+(lay PZ 82).length)))∧nQ≤9223372036854775807) (hg:(true)=true):ansV PZ (mkΓ []) 1000 Tryz.f85 [] [.g a0 41,.r a1 45 [(2,0)]] [.sl (.came bQ) nQ aQ 82]=some (.a (.r ((spl (spl (zc PZ 73) 0 (#[.int .i64 (i64.wrap (num a1 0)),.int .i64 (i64.wrap (num a1 1))]:Array Value).toList) 2 a0.toList).setIfInBounds 365 (.slice none 0 0)) 73 [(365,0)]),.none,true):=by
 refine (Zyu 1000 a0 a1 bQ nQ aQ).trans ?_
 rfl
def Zhp:Con:=fun args h=>match args,h with
 | [.g a0 41,.r a1 45 [(2,0)]],[.sl (.came bQ) nQ aQ 82]=>some (.a (.r ((spl (spl (zc PZ 73) 0 (#[.int .i64 (i64.wrap (num a1 0)),.int .i64 (i64.wrap (num a1 1))]:Array Value).toList) 2 a0.toList).setIfInBounds 365 (.slice none 0 0)) 73 [(365,0)]),.none,true)
 | _,_=>none
theorem Zi1:EntX PZ 85:=Zag (fn:=Tryz.f85) (by kernel_rfl) (by kernel_rfl) (by kernel_rfl)
theorem Zle:Uad mn PZ 85 Zhp:=(Zai (N:=1000) (by kernel_rfl) mkΓ_nilX (fn:=Tryz.f85) (by kernel_rfl) (by kernel_rfl) []).of (by
 intro ρ h w args vals r e hA hH hr
 unfold Zhp at hr
 split at hr
 ·rename_i a0 a1 bQ nQ aQ
  obtain ⟨rfl,rfl,hg2⟩:=BQi hr
  exact Zvw a0 a1 bQ nQ aQ (hA.wt 0 rfl) (hA.wtr 1 rfl) (hH.slw 0 rfl) hg2
 ·cases hr)
theorem Zqw (N:Nat) (a0:Array Value) (a1:Int):ansV PZ (mkΓ []) N Tryz.f124 [] [.g a0 71,.i .i64 (a1)] []=(bif decide (a1 ≥ (0:Int)) then (some (.a (.b (decide (a1<(num a0 1)))),.none,true))
  else (some (.a (.b (false)),.none,true))):=by kernel_rfl
def Zb7 (a0:Array Value) (a1:Int):Bool:=(bif decide (a1 ≥ (0:Int)) then decide (a1<(num a0 1)) else false)
theorem Zpr (a0:Array Value) (a1:Int) (h_a0:WT PZ 71 a0) (h_a1:i64.min≤a1∧a1≤i64.max) (hg:(true)=true):ansV PZ (mkΓ []) 1000 Tryz.f124 [] [.g a0 71,.i .i64 (a1)] []=some (.a (.b ((Zb7 a0 a1))),.none,true):=by
 refine (Zqw 1000 a0 a1).trans ?_
 unfold Zb7
 revert hg
 generalize (decide (a1 ≥ (0:Int)))=b2
 intro hg
 cases b2
 ·skip
  first | (simp only [BQ6];done) | rfl | exact (nomatch (hg:false=true))
 ·skip
  first | (simp only [BQ6];done) | rfl | exact (nomatch (hg:false=true))
def Zgz:Con:=fun args h=>match args,h with
 | [.g a0 71,.i .i64 a1],[]=>some (.a (.b ((Zb7 a0 a1))),.none,true)
 | _,_=>none
theorem Zoz:EntX PZ 124:=Zag (fn:=Tryz.f124) (by kernel_rfl) (by kernel_rfl) (by kernel_rfl)
theorem Zq3:Uad mn PZ 124 Zgz:=(Zai (N:=1000) (by kernel_rfl) mkΓ_nilX (fn:=Tryz.f124) (by kernel_rfl) (by kernel_rfl) []).of (by
 intro ρ h w args vals r e hA hH hr
 unfold Zgz at hr
 split at hr
 ·rename_i a0 a1
  obtain ⟨rfl,rfl,hg2⟩:=BQi hr
  exact Zpr a0 a1 (hA.wt 0 rfl) (hA.rng 1 rfl) hg2
 ·cases hr)
def Zl2:Cons:=(mkΓ [(33,con Zez),(117,con Zip),(124,con Zgz)])
theorem Zri (N:Nat) (a0 a1:Array Value) (bS:Option (Option Addr)) (n_a0x365:Nat) (aS:Array Value):ansV PZ Zl2 N Tryz.f108 [] [.r a0 73 [(365,0)],.g a1 82] [.sl (.came bS) n_a0x365 aS 82]=(bif (Zal (a0.extract 2 (2+363)) (i64.wrap (num a1 0))) then (bif decide (0≤(i64.wrap (num a1 0))) then (bif (Zb9 (a0.extract 2 (2+363)) (i64.wrap (num a1 0))) then (bif (Zb7 (a0.extract 0 (0+2)) (i64.wrap (num a1 1))) then (bif decide ((num a1 2) ≥ (1:Int)) then (some (.a (.b (decide ((num a1 2)≤(200:Int)))),.none,true))
      else (some (.a (.b (false)),.none,true)))
     else (some (.a (.b (false)),.none,true)))
    else (some (.a (.b (false)),.none,true)))
   else (none))
  else (some (.a (.b (false)),.none,true))):=by kernel_rfl
def Zcl (a0 a1:Array Value) (bS:Option (Option Addr)) (n_a0x365:Nat) (aS:Array Value):Bool:=(bif (Zal (a0.extract 2 (2+363)) (i64.wrap (num a1 0))) then (bif (Zb9 (a0.extract 2 (2+363)) (i64.wrap (num a1 0))) then (bif (Zb7 (a0.extract 0 (0+2)) (i64.wrap (num a1 1))) then (bif decide ((num a1 2) ≥ (1:Int)) then decide ((num a1 2)≤(200:Int)) else false) else false) else false) else false)
def Zcm (a0 a1:Array Value) (bS:Option (Option Addr)) (n_a0x365:Nat) (aS:Array Value):Bool:=(bif (Zal (a0.extract 2 (2+363)) (i64.wrap (num a1 0))) then decide (0≤(i64.wrap (num a1 0))) else true)
theorem Zqu (a0 a1:Array Value) (bS:Option (Option Addr)) (n_a0x365:Nat) (aS:Array Value) (h_a0:WT PZ 73 a0) (h_a1:WT PZ 82 a1) (h_a0x365:aS.size=n_a0x365*(lay PZ 82).length∧(∀ k,k<n_a0x365→WT PZ 82 (aS.extract (k*(lay PZ 82).length) (k*(lay PZ 82).length+(lay PZ 82).length)))∧n_a0x365≤9223372036854775807) (hg:((Zcm a0 a1 bS n_a0x365 aS))=true):ansV PZ Zl2 1000 Tryz.f108 [] [.r a0 73 [(365,0)],.g a1 82] [.sl (.came bS) n_a0x365 aS 82]=some (.a (.b ((Zcl a0 a1 bS n_a0x365 aS))),.none,true):=by
 refine (Zri 1000 a0 a1 bS n_a0x365 aS).trans ?_
 unfold Zcm at hg
 unfold Zcl
 revert hg
 generalize ((Zal (a0.extract 2 (2+363)) (i64.wrap (num a1 0))))=b2
 intro hg
 cases b2
 ·skip
  first | (simp only [BQ6];done) | rfl | exact (nomatch (hg:false=true))
 ·skip
  revert hg
  generalize (decide (0≤(i64.wrap (num a1 0))))=b4
  intro hg
  cases b4
  ·skip
   first | exact (nomatch (hg:false=true)) | (simp only [BQ6];done) | rfl
  ·skip
   revert hg
   generalize ((Zb9 (a0.extract 2 (2+363)) (i64.wrap (num a1 0))))=b6
   intro hg
   cases b6
   ·skip
    first | (simp only [BQ6];done) | rfl | exact (nomatch (hg:false=true))
   ·skip
    revert hg
    generalize ((Zb7 (a0.extract 0 (0+2)) (i64.wrap (num a1 1))))=b8
    intro hg
    cases b8
    ·skip
     first | (simp only [BQ6];done) | rfl | exact (nomatch (hg:false=true))
    ·skip
     revert hg
     generalize (decide ((num a1 2) ≥ (1:Int)))=b10
     intro hg
     cases b10
     ·skip
      first | (simp only [BQ6];done) | rfl | exact (nomatch (hg:false=true))
     ·skip
      first | (simp only [BQ6];done) | rfl | exact (nomatch (hg:false=true))
def Zhh:Con:=fun args h=>match args,h with
 | [.r a0 73 [(365,0)],.g a1 82],[.sl (.came bS) n_a0x365 aS 82]=>some (.a (.b ((Zcl a0 a1 bS n_a0x365 aS))),.none,(Zcm a0 a1 bS n_a0x365 aS))
 | _,_=>none
theorem Zpg:EntX PZ 108:=Zag (fn:=Tryz.f108) (by kernel_rfl) (by kernel_rfl) (by kernel_rfl)
theorem Ztj:Uad mn PZ 108 Zhh:=(Zai (N:=1000) (by kernel_rfl) (mkΓ_consX (Zac Zjy) Zg2 (mkΓ_consX (Zac Zrp) Zne (mkΓ_consX (Zac Zq3) Zoz mkΓ_nilX))) (fn:=Tryz.f108) (by kernel_rfl) (by kernel_rfl) []).of (by
 intro ρ h w args vals r e hA hH hr
 unfold Zhh at hr
 split at hr
 ·rename_i a0 a1 bS n_a0x365 aS
  obtain ⟨rfl,rfl,hg2⟩:=BQi hr
  exact Zqu a0 a1 bS n_a0x365 aS (hA.wtr 0 rfl) (hA.wt 1 rfl) (hH.slw 0 rfl) hg2
 ·cases hr)
theorem Yjf {S p:Array Value} (hS:S.size=363):((spl (spl (zc PZ 73) 0 (#[.int .i64 (i64.wrap (num p 0)),.int .i64 (i64.wrap (num p 1))]:Array Value).toList) 2 S.toList).setIfInBounds 365 (.slice none 0 0)).extract 2 (2+363)=S∧((spl (spl (zc PZ 73) 0 (#[.int .i64 (i64.wrap (num p 0)),.int .i64 (i64.wrap (num p 1))]:Array Value).toList) 2 S.toList).setIfInBounds 365 (.slice none 0 0)).extract 0 (0+2)=#[.int .i64 (i64.wrap (num p 0)),.int .i64 (i64.wrap (num p 1))]:=by
 have hz:(zc PZ 73).size=366:=by kernel_rfl
 generalize (zc PZ 73)=Z at hz
 have hl:S.toList.length=363:=by rw [Array.length_toList,hS]
 constructor
 ·refine Array.ext_getElem? fun i=> ?_
  rw [Array.getElem?_extract,Array.getElem?_setIfInBounds,Array.size_setIfInBounds,Zf4 _ _ _ (by rw [Zhr,hz,hl];omega),Zhr,Zhr,hz,hl]
  by_cases hi:i<363
  ·rw [if_pos (by omega),if_neg (by omega),if_pos (by omega),Array.getElem?_toList,show 2+i - 2=i by omega]
  ·rw [if_neg (by omega),Array.getElem?_eq_none (by omega)]
 ·refine Array.ext_getElem? fun i=> ?_
  rw [Array.getElem?_extract,Array.getElem?_setIfInBounds,Array.size_setIfInBounds,Zf4 _ _ _ (by rw [Zhr,hz,hl];omega),Zf4 _ _ _ (by rw [hz];simp),Zhr,Zhr,hz,hl]
  by_cases hi:i<2
  ·rw [if_pos (by omega),if_neg (by omega),if_neg (by omega),if_pos (by simp;omega),Array.getElem?_toList,show 0+i - 0=i by omega]
  ·rw [if_neg (by omega),Array.getElem?_eq_none (by simp;omega)]
theorem takes_eq {S V X:Array Value} {h:Int} {x:Int} (bb:Option (Option Addr)) (n:Nat) (A:Array Value) (hS:WT PZ 41 S) (h1:V.extract 2 (2+363)=S) (h2:V.extract 0 (0+2)=#[.int .i64 x,.int .i64 h]) (hh: -128≤h∧h≤127) (hX:WT PZ 82 X) :
  Zcm V X bb n A=true∧Zcl V X bb n A=relB S h X:=by
 obtain ⟨-,b0⟩:=hX.int (o:=0) (k:=.i8) (by kernel_rfl)
 obtain ⟨-,b1⟩:=hX.int (o:=1) (k:=.i8) (by kernel_rfl)
 obtain ⟨-,b2⟩:=hX.int (o:=2) (k:=.i16) (by kernel_rfl)
 have e1:IntKind.i16.min = -32768:=rfl
 have e2:IntKind.i16.max=32767:=rfl
 have w2:i64.wrap (num X 2)=num X 2:=IntWalk.i64_in _ (by omega)
 have w3:i64.wrap (h - 1)=h - 1:=IntWalk.i64_in _ (by omega)
 have w4:num (#[.int .i64 x,.int .i64 h]:Array Value) 1=h:=rfl
 unfold Zcm Zcl relB Zad Zaa Zb7
 rw [h1,h2,Zuv,w2,w3,w4]
 cases hi:Zam (i64.wrap (num X 0)) S with
 | false=>exact ⟨rfl,rfl⟩
 | true=>
  have hr:=Zhy hi
  refine ⟨decide_eq_true hr.1, ?_⟩
  unfold Zb9
  rw [Ybm hS hr]
  have e3:decide (i64.wrap (num X 1)<h)=decide (i64.wrap (num X 1)≤h - 1):=decide_eq_decide.2 (by omega)
  rw [e3]
  cases Za2 (i64.wrap (num X 0)) S<;>cases decide (i64.wrap (num X 1) ≥ 0)<;>cases decide (i64.wrap (num X 1)≤h - 1)<;>cases decide (num X 2 ≥ 1)<;>cases decide (num X 2≤200)<;>rfl
def Zcs (a0:Array Value) (bS:Option (Option Addr)) (n_a0x365:Nat) (aS:Array Value):St:=(⟨.a (.r a0 73 [(365,0)]) :: .a (.w 1) :: .a (.i .i64 (0:Int)) :: .a (.i .i64 (0:Int)) :: .a (.u) :: .a (.u) :: .a (.p 1 (365) 43) :: .a (.l 0) :: .a (.i .i64 (n_a0x365:Int)) :: .a (.i .i64 (0:Int))::us 10 ([]),[.sl (.came bS) n_a0x365 aS 82,.one (.r a0 73 [(365,0)]) 73,.no],[]⟩:St)
def Zdt:Int×Int→LS
 | (y0_3,y0_9)=>([.a (.i .i64 (y0_3)),.a (.i .i64 (y0_9))],[])
def Zg0:Int×Int→Exit×LS
 | t=>((.exit 0),Zdt t)
def Zbh (P:Program) (a0:Array Value) (bS:Option (Option Addr)) (n_a0x365:Nat) (aS:Array Value):Int×Int→Option (Stp (Int×Int) (Int×Int))
 | (y0_3,y0_9)=>bif decide (y0_9<(n_a0x365:Int)) then (bif (decide (0≤y0_9)&&decide (y0_9<(n_a0x365:Int))) then (some (.more ((i64.wrap (y0_3+(i64.wrap (num (aS.extract ((y0_9).toNat*3) (((y0_9).toNat*3)+3)) 2)))),(i64.wrap (y0_9+(1:Int))))))
   else (none))
  else (some (.done (y0_3,y0_9)))
theorem Zqp (N:Nat) (a0:Array Value) (bS:Option (Option Addr)) (n_a0x365:Nat) (aS:Array Value):∀ t:Int×Int,Uai PZ (mkΓ []) N (cAt (codeOf Tryz.f50) [1,1,0,1,0,0]) (pAt (Uaa (codeOf Tryz.f50) [([3,9],[])]).1 [1,1,0,1,0]) [3,9] [] (Zcs a0 bS n_a0x365 aS) (Zdt t)=mapS Zdt Zg0 (Zbh PZ a0 bS n_a0x365 aS t):=by
 rintro ⟨y0_3,y0_9⟩
 refine Eq.trans (b:=(bif decide (y0_9<(n_a0x365:Int)) then (bif (decide (0≤y0_9)&&decide (y0_9<(n_a0x365:Int))) then (some (.more ([.a (.i .i64 (i64.wrap (y0_3+(i64.wrap (num (aS.extract ((y0_9).toNat*3) (((y0_9).toNat*3)+3)) 2))))),.a (.i .i64 (i64.wrap (y0_9+(1:Int))))],[])))
   else (none))
  else (some (.done ((.exit 0),([.a (.i .i64 (y0_3)),.a (.i .i64 (y0_9))],[])))))) (by kernel_rfl) ?_
 simp only [Zbh,Za3,Za4,Za6,Za5,Zdt,Zg0]
def Zfw (P:Program) (N:Nat) (a0:Array Value) (bS:Option (Option Addr)) (n_a0x365:Nat) (aS:Array Value) (z0_3:Int) (z0_9:Int):Option (SV×Eff×Bool):=some (.a (.i .i64 (z0_3)),.none,true)
theorem Zm0 (N:Nat) (a0:Array Value) (bS:Option (Option Addr)) (n_a0x365:Nat) (aS:Array Value) (z0_3:Int) (z0_9:Int):(Uab 0 (kSeq (veC PZ (mkΓ []) N (cAt (codeOf Tryz.f50) [1,1,1]) (pAt (Uaa (codeOf Tryz.f50) [([3,9],[])]).1 [1,1,1]) (SV×Eff×Bool)) (finK PZ [.sl (.came bS) n_a0x365 aS 82] [.tmp 2]))) (.exit 0) (left (writes (cAt (codeOf Tryz.f50) [1,1,0,1,0,0])) [3,9] [] (Zcs a0 bS n_a0x365 aS) ([.a (.i .i64 (z0_3)),.a (.i .i64 (z0_9))],[]))=Zfw PZ N a0 bS n_a0x365 aS z0_3 z0_9:=by
 refine Eq.trans (b:=(some (.a (.i .i64 (z0_3)),.none,true))) (by kernel_rfl) ?_
 rfl
theorem Zqv (N:Nat) (a0:Array Value) (bS:Option (Option Addr)) (n_a0x365:Nat) (aS:Array Value):Uah (Uac (Uai PZ (mkΓ []) N (cAt (codeOf Tryz.f50) [1,1,0,1,0,0]) (pAt (Uaa (codeOf Tryz.f50) [([3,9],[])]).1 [1,1,0,1,0]) [3,9] [] (Zcs a0 bS n_a0x365 aS)) N ([.a (.i .i64 (0:Int)),.a (.i .i64 (0:Int))],[])) (fun e s=>(Uab 0 (kSeq (veC PZ (mkΓ []) N (cAt (codeOf Tryz.f50) [1,1,1]) (pAt (Uaa (codeOf Tryz.f50) [([3,9],[])]).1 [1,1,1]) (SV×Eff×Bool)) (finK PZ [.sl (.came bS) n_a0x365 aS 82] [.tmp 2]))) e (left (writes (cAt (codeOf Tryz.f50) [1,1,0,1,0,0])) [3,9] [] (Zcs a0 bS n_a0x365 aS) s))=Uam (Uac (Zbh PZ a0 bS n_a0x365 aS) N ((0:Int),(0:Int))) (fun x=>Zfw PZ N a0 bS n_a0x365 aS x.1 x.2):=by
 refine Zbm Zdt Zg0 _ _ (Zqp N a0 bS n_a0x365 aS) N ((0:Int),(0:Int)) _ _ ?_
 intro x;exact Zm0 N a0 bS n_a0x365 aS x.1 x.2
theorem Zps (N:Nat) (a0:Array Value) (bS:Option (Option Addr)) (n_a0x365:Nat) (aS:Array Value):ansV PZ (mkΓ []) N Tryz.f50 [([3,9],[])] [.r a0 73 [(365,0)]] [.sl (.came bS) n_a0x365 aS 82]=(Uam (Uac (Zbh PZ a0 bS n_a0x365 aS) N ((0:Int),(0:Int))) (fun x=>Zfw PZ N a0 bS n_a0x365 aS x.1 x.2)):=by
 refine Eq.trans (b:=(Uah (Uac (Uai PZ (mkΓ []) N (cAt (codeOf Tryz.f50) [1,1,0,1,0,0]) (pAt (Uaa (codeOf Tryz.f50) [([3,9],[])]).1 [1,1,0,1,0]) [3,9] [] (Zcs a0 bS n_a0x365 aS)) N ([.a (.i .i64 (0:Int)),.a (.i .i64 (0:Int))],[])) (fun e s=>(Uab 0 (kSeq (veC PZ (mkΓ []) N (cAt (codeOf Tryz.f50) [1,1,1]) (pAt (Uaa (codeOf Tryz.f50) [([3,9],[])]).1 [1,1,1]) (SV×Eff×Bool)) (finK PZ [.sl (.came bS) n_a0x365 aS 82] [.tmp 2]))) e (left (writes (cAt (codeOf Tryz.f50) [1,1,0,1,0,0])) [3,9] [] (Zcs a0 bS n_a0x365 aS) s)))) (by kernel_rfl) ?_
 simp only [Zqv N a0 bS n_a0x365 aS]
theorem Zod (a0:Array Value) (bS:Option (Option Addr)) (n_a0x365:Nat) (aS:Array Value) (h_a0:WT PZ 73 a0) (h_a0x365:aS.size=n_a0x365*(lay PZ 82).length∧(∀ k,k<n_a0x365→WT PZ 82 (aS.extract (k*(lay PZ 82).length) (k*(lay PZ 82).length+(lay PZ 82).length)))∧n_a0x365≤9223372036854775807) (hg:(true)=true):ansV PZ (mkΓ []) 18446744073709551616 Tryz.f50 [([3,9],[])] [.r a0 73 [(365,0)]] [.sl (.came bS) n_a0x365 aS 82]=some (.a (.i .i64 (wsum aS n_a0x365)),.none,true):=by
 have hn:=h_a0x365.2.2
 refine (Zps 18446744073709551616 a0 bS n_a0x365 aS).trans ?_
 have h:=Zdy (g:=Zbh PZ a0 bS n_a0x365 aS) (fun k=>(wsum aS k,(k:Int))) (m:=n_a0x365) (x:=(wsum aS n_a0x365,(n_a0x365:Int))) (N:=18446744073709551616) (fun k hk=>by
  have h1:decide ((k:Int)<(n_a0x365:Int))=true:=decide_eq_true (by omega)
  have h0:decide (0≤(k:Int))=true:=decide_eq_true (by omega)
  have h3:i64.wrap ((k:Int)+1)=((k+1:Nat):Int):=by rw [IntWalk.i64_in _ (by omega)];omega
  simp only [Zbh,h1,h0,Bool.and_self,Int.toNat_natCast,cond_true,h3]
  rfl) (by
  have h1:decide ((n_a0x365:Int)<(n_a0x365:Int))=false:=decide_eq_false (by omega)
  simp only [Zbh,h1,cond_false]) (by omega)
 have h':Uac (Zbh PZ a0 bS n_a0x365 aS) 18446744073709551616 ((0:Int),(0:Int))=some (wsum aS n_a0x365,(n_a0x365:Int)):=h
 rw [h']
 rfl
def Zf9:Con:=fun args h=>match args,h with
 | [.r a0 73 [(365,0)]],[.sl (.came bS) n_a0x365 aS 82]=>some (.a (.i .i64 (wsum aS n_a0x365)),.none,true)
 | _,_=>none
theorem Znn:EntX PZ 50:=Zag (fn:=Tryz.f50) (by kernel_rfl) (by kernel_rfl) (by kernel_rfl)
theorem Zqq:Uad mn PZ 50 Zf9:=(Zai (N:=18446744073709551616) (by kernel_rfl) mkΓ_nilX (fn:=Tryz.f50) (by kernel_rfl) (by kernel_rfl) [([3,9],[])]).of (by
 intro ρ h w args vals r e hA hH hr
 unfold Zf9 at hr
 split at hr
 ·rename_i a0 bS n_a0x365 aS
  obtain ⟨rfl,rfl,hg2⟩:=BQi hr
  exact Zod a0 bS n_a0x365 aS (hA.wtr 0 rfl) (hH.slw 0 rfl) hg2
 ·cases hr)
def Ze9:Cons:=(mkΓ [(38,con Zhf),(47,con Zc7),(82,con Zk7)])
def Zgd (a0 a1:Array Value) (bQ:Option (Option Addr)) (nQ:Nat) (aQ:Array Value):St:=(⟨.a (.w 0) :: .a (.w 1) :: .a (.u) :: .a (.u) :: .a (.b (false)) :: .a (.i .i64 (0:Int)) :: .a (.i .i64 (0:Int)) :: .a (.u) :: .a (.w 1) :: .a (.w 1) :: .a (.p 1 (0) 22) :: .a (.i .i8 (num a1 0)) :: .a (.i .i64 (i64.wrap (num a1 0))) :: .a (.b ((Zaa (i64.wrap (num a1 0)) (0:Int) (1:Int)))) :: .a (.b ((!((Zaa (i64.wrap (num a1 0)) (0:Int) (1:Int)))))) :: .a (.b (false)) :: .a (.w 1) :: .a (.w 1) :: .a (.p 1 (1) 22) :: .a (.i .i8 (num a1 1)) :: .a (.i .i64 (i64.wrap (num a1 1))) :: .a (.b ((Zaa (i64.wrap (num a1 1)) (1:Int) (8:Int)))) :: .a (.b ((!((Zaa (i64.wrap (num a1 1)) (1:Int) (8:Int)))))) :: .a (.b ((!((Zaa (i64.wrap (num a1 1)) (1:Int) (8:Int)))))) :: .a (.b (false)) :: .a (.w 1) :: .a (.w 1) :: .a (.p 1 (2) 43) :: .a (.l 2) :: .a (.i .i64 (nQ:Int)) :: .a (.b (decide ((nQ:Int) > (12:Int)))) :: .a (.b (decide ((nQ:Int) > (12:Int))))::us 49 ([]),[.row a0 41,.one (.r a1 45 [(2,2)]) 45,.sl (.came bQ) nQ aQ 82],[]⟩:St)
def Zhs:Bool×Int×Int→LS
 | (y0_4,y0_5,y0_6)=>([.a (.b (y0_4)),.a (.i .i64 (y0_5)),.a (.i .i64 (y0_6))],[])
def Zpe:(Stp (Bool×Int×Int) (Bool×Int×Int))→Exit×LS
 | .more t=>(.ret,Zhs t)
 | .done t=>((.exit 0),Zhs t)
def Zd1 (P : Program) (a0 a1 : Array Value) (bQ : Option (Option Addr)) (nQ : Nat) (aQ : Array Value) : Bool × Int × Int → Option (Stp (Bool × Int × Int) (Stp (Bool × Int × Int) (Bool × Int × Int)))
 | (y0_4, y0_5, y0_6) => bif decide (y0_6 < (nQ : Int)) then (bif (decide (0 ≤ y0_6) && decide (y0_6 < (nQ : Int))) then (bif (Za7 (i64.wrap (num (aQ.extract ((y0_6).toNat * 3) (((y0_6).toNat * 3) + 3)) 0)) a0) then (bif (!((Zad (i64.wrap (num (aQ.extract ((y0_6).toNat * 3) (((y0_6).toNat * 3) + 3)) 0)) a0))) then (some (.done (.more (false, y0_5, y0_6))))
     else (bif (!((Zaa (i64.wrap (num (aQ.extract ((y0_6).toNat * 3) (((y0_6).toNat * 3) + 3)) 1)) (0 : Int) (i64.wrap ((i64.wrap (num a1 1)) - (1 : Int)))))) then (some (.done (.more (false, y0_5, y0_6))))
      else (bif (!((Zaa (i64.wrap (num (aQ.extract ((y0_6).toNat * 3) (((y0_6).toNat * 3) + 3)) 2)) (1 : Int) (200 : Int)))) then (some (.done (.more (false, y0_5, y0_6))))
       else (some (.more (y0_4, (i64.wrap (y0_5 + (i64.wrap (num (aQ.extract ((y0_6).toNat * 3) (((y0_6).toNat * 3) + 3)) 2)))), (i64.wrap (y0_6 + (1 : Int)))))))))
    else (none))
   else (none))
  else (some (.done (.done (y0_4, y0_5, y0_6))))
theorem Ygy (N:Nat) (a0 a1:Array Value) (bQ:Option (Option Addr)) (nQ:Nat) (aQ:Array Value):∀ t:Bool×Int×Int,Uai PZ Ze9 N (cAt (codeOf Tryz.f54) [1,1,1,0,1,0,0]) (pAt (Uaa (codeOf Tryz.f54) [([4,5,6],[])]).1 [1,1,1,0,1,0]) [4,5,6] [] (Zgd a0 a1 bQ nQ aQ) (Zhs t)=mapS Zhs Zpe (Zd1 PZ a0 a1 bQ nQ aQ t):=by
 rintro ⟨y0_4,y0_5,y0_6⟩
 refine Eq.trans (b:=(bif decide (y0_6<(nQ:Int)) then (bif (decide (0≤y0_6)&&decide (y0_6<(nQ:Int))) then (bif (Za7 (i64.wrap (num (aQ.extract ((y0_6).toNat*3) (((y0_6).toNat*3)+3)) 0)) a0) then (bif (!((Zad (i64.wrap (num (aQ.extract ((y0_6).toNat*3) (((y0_6).toNat*3)+3)) 0)) a0))) then (some (.done (.ret,([.a (.b (false)),.a (.i .i64 (y0_5)),.a (.i .i64 (y0_6))],[]))))
     else (bif (!((Zaa (i64.wrap (num (aQ.extract ((y0_6).toNat*3) (((y0_6).toNat*3)+3)) 1)) (0:Int) (i64.wrap ((i64.wrap (num a1 1)) - (1:Int)))))) then (some (.done (.ret,([.a (.b (false)),.a (.i .i64 (y0_5)),.a (.i .i64 (y0_6))],[]))))
      else (bif (!((Zaa (i64.wrap (num (aQ.extract ((y0_6).toNat*3) (((y0_6).toNat*3)+3)) 2)) (1:Int) (200:Int)))) then (some (.done (.ret,([.a (.b (false)),.a (.i .i64 (y0_5)),.a (.i .i64 (y0_6))],[]))))
       else (some (.more ([.a (.b (y0_4)),.a (.i .i64 (i64.wrap (y0_5+(i64.wrap (num (aQ.extract ((y0_6).toNat*3) (((y0_6).toNat*3)+3)) 2))))),.a (.i .i64 (i64.wrap (y0_6+(1:Int))))],[]))))))
    else (none))
   else (none))
  else (some (.done ((.exit 0),([.a (.b (y0_4)),.a (.i .i64 (y0_5)),.a (.i .i64 (y0_6))],[])))))) (by kernel_rfl) ?_
 simp only [Zd1,Za3,Za4,Za6,Za5,Zhs,Zpe]
def Zmf (P:Program) (N:Nat) (a0 a1:Array Value) (bQ:Option (Option Addr)) (nQ:Nat) (aQ:Array Value) (z0_4:Bool) (z0_5:Int) (z0_6:Int):Option (SV×Eff×Bool):=some (.a (.b (z0_4)),.none,true)
theorem Zw2 (N:Nat) (a0 a1:Array Value) (bQ:Option (Option Addr)) (nQ:Nat) (aQ:Array Value) (z0_4:Bool) (z0_5:Int) (z0_6:Int):(Uab 0 (kSeq (veC PZ Ze9 N (cAt (codeOf Tryz.f54) [1,1,1,1]) (pAt (Uaa (codeOf Tryz.f54) [([4,5,6],[])]).1 [1,1,1,1]) (SV×Eff×Bool)) (finK PZ [.row a0 41,.one (.r a1 45 [(2,2)]) 45,.sl (.came bQ) nQ aQ 82] [.tmp 4]))) .ret (left (writes (cAt (codeOf Tryz.f54) [1,1,1,0,1,0,0])) [4,5,6] [] (Zgd a0 a1 bQ nQ aQ) ([.a (.b (z0_4)),.a (.i .i64 (z0_5)),.a (.i .i64 (z0_6))],[]))=Zmf PZ N a0 a1 bQ nQ aQ z0_4 z0_5 z0_6:=by
 refine Eq.trans (b:=(some (.a (.b (z0_4)),.none,true))) (by kernel_rfl) ?_
 rfl
def Zmp (P:Program) (N:Nat) (a0 a1:Array Value) (bQ:Option (Option Addr)) (nQ:Nat) (aQ:Array Value) (z0_4:Bool) (z0_5:Int) (z0_6:Int):Option (SV×Eff×Bool):=some (.a (.b (decide (z0_5≤(1000:Int)))),.none,true)
theorem Zxg (N:Nat) (a0 a1:Array Value) (bQ:Option (Option Addr)) (nQ:Nat) (aQ:Array Value) (z0_4:Bool) (z0_5:Int) (z0_6:Int):(Uab 0 (kSeq (veC PZ Ze9 N (cAt (codeOf Tryz.f54) [1,1,1,1]) (pAt (Uaa (codeOf Tryz.f54) [([4,5,6],[])]).1 [1,1,1,1]) (SV×Eff×Bool)) (finK PZ [.row a0 41,.one (.r a1 45 [(2,2)]) 45,.sl (.came bQ) nQ aQ 82] [.tmp 4]))) (.exit 0) (left (writes (cAt (codeOf Tryz.f54) [1,1,1,0,1,0,0])) [4,5,6] [] (Zgd a0 a1 bQ nQ aQ) ([.a (.b (z0_4)),.a (.i .i64 (z0_5)),.a (.i .i64 (z0_6))],[]))=Zmp PZ N a0 a1 bQ nQ aQ z0_4 z0_5 z0_6:=by
 refine Eq.trans (b:=(some (.a (.b (decide (z0_5≤(1000:Int)))),.none,true))) (by kernel_rfl) ?_
 rfl
theorem Ygp (N:Nat) (a0 a1:Array Value) (bQ:Option (Option Addr)) (nQ:Nat) (aQ:Array Value):Uah (Uac (Uai PZ Ze9 N (cAt (codeOf Tryz.f54) [1,1,1,0,1,0,0]) (pAt (Uaa (codeOf Tryz.f54) [([4,5,6],[])]).1 [1,1,1,0,1,0]) [4,5,6] [] (Zgd a0 a1 bQ nQ aQ)) N ([.a (.b (false)),.a (.i .i64 (0:Int)),.a (.i .i64 (0:Int))],[])) (fun e s=>(Uab 0 (kSeq (veC PZ Ze9 N (cAt (codeOf Tryz.f54) [1,1,1,1]) (pAt (Uaa (codeOf Tryz.f54) [([4,5,6],[])]).1 [1,1,1,1]) (SV×Eff×Bool)) (finK PZ [.row a0 41,.one (.r a1 45 [(2,2)]) 45,.sl (.came bQ) nQ aQ 82] [.tmp 4]))) e (left (writes (cAt (codeOf Tryz.f54) [1,1,1,0,1,0,0])) [4,5,6] [] (Zgd a0 a1 bQ nQ aQ) s))=Uam (Uac (Zd1 PZ a0 a1 bQ nQ aQ) N (false,(0:Int),(0:Int))) (st2 (fun x=>Zmf PZ N a0 a1 bQ nQ aQ x.1 x.2.1 x.2.2) (fun x=>Zmp PZ N a0 a1 bQ nQ aQ x.1 x.2.1 x.2.2)):=by
 refine Zbm Zhs Zpe _ _ (Ygy N a0 a1 bQ nQ aQ) N (false,(0:Int),(0:Int)) _ _ ?_
 intro x
 cases x with
 | more x=>exact Zw2 N a0 a1 bQ nQ aQ x.1 x.2.1 x.2.2
 | done x=>exact Zxg N a0 a1 bQ nQ aQ x.1 x.2.1 x.2.2
theorem Yeh (N:Nat) (a0 a1:Array Value) (bQ:Option (Option Addr)) (nQ:Nat) (aQ:Array Value):ansV PZ Ze9 N Tryz.f54 [([4,5,6],[])] [.w 0,.w 1] [.row a0 41,.one (.r a1 45 [(2,2)]) 45,.sl (.came bQ) nQ aQ 82]=(bif (!((Zaa (i64.wrap (num a1 0)) (0:Int) (1:Int)))) then (some (.a (.b (false)),.none,true))
  else (bif (!((Zaa (i64.wrap (num a1 1)) (1:Int) (8:Int)))) then (some (.a (.b (false)),.none,true))
   else (bif decide ((nQ:Int) > (12:Int)) then (some (.a (.b (false)),.none,true))
    else (Uam (Uac (Zd1 PZ a0 a1 bQ nQ aQ) N (false,(0:Int),(0:Int))) (st2 (fun x=>Zmf PZ N a0 a1 bQ nQ aQ x.1 x.2.1 x.2.2) (fun x=>Zmp PZ N a0 a1 bQ nQ aQ x.1 x.2.1 x.2.2)))))):=by
 refine Eq.trans (b:=(bif (!((Zaa (i64.wrap (num a1 0)) (0:Int) (1:Int)))) then (some (.a (.b (false)),.none,true))
  else (bif (!((Zaa (i64.wrap (num a1 1)) (1:Int) (8:Int)))) then (some (.a (.b (false)),.none,true))
   else (bif decide ((nQ:Int) > (12:Int)) then (some (.a (.b (false)),.none,true))
    else (Uah (Uac (Uai PZ Ze9 N (cAt (codeOf Tryz.f54) [1,1,1,0,1,0,0]) (pAt (Uaa (codeOf Tryz.f54) [([4,5,6],[])]).1 [1,1,1,0,1,0]) [4,5,6] [] (Zgd a0 a1 bQ nQ aQ)) N ([.a (.b (false)),.a (.i .i64 (0:Int)),.a (.i .i64 (0:Int))],[])) (fun e s=>(Uab 0 (kSeq (veC PZ Ze9 N (cAt (codeOf Tryz.f54) [1,1,1,1]) (pAt (Uaa (codeOf Tryz.f54) [([4,5,6],[])]).1 [1,1,1,1]) (SV×Eff×Bool)) (finK PZ [.row a0 41,.one (.r a1 45 [(2,2)]) 45,.sl (.came bQ) nQ aQ 82] [.tmp 4]))) e (left (writes (cAt (codeOf Tryz.f54) [1,1,1,0,1,0,0])) [4,5,6] [] (Zgd a0 a1 bQ nQ aQ) s))))))) (by kernel_rfl) ?_
 simp only [Ygp N a0 a1 bQ nQ aQ]
theorem Ycw (a0 a1:Array Value) (bQ:Option (Option Addr)) (nQ:Nat) (aQ:Array Value) (h_a0:WT PZ 41 a0) (h_a1:WT PZ 45 a1) (h_a1x2:aQ.size=nQ*(lay PZ 82).length∧(∀ k,k<nQ→WT PZ 82 (aQ.extract (k*(lay PZ 82).length) (k*(lay PZ 82).length+(lay PZ 82).length)))∧nQ≤9223372036854775807) (hg:(true)=true):ansV PZ Ze9 18446744073709551616 Tryz.f54 [([4,5,6],[])] [.w 0,.w 1] [.row a0 41,.one (.r a1 45 [(2,2)]) 45,.sl (.came bQ) nQ aQ 82]=some (.a (.b ((Ua6 a0 a1 nQ aQ))),.none,true):=by
 have hn:=h_a1x2.2.2
 refine (Yeh 18446744073709551616 a0 a1 bQ nQ aQ).trans ?_
 unfold Ua6
 cases Zaa (i64.wrap (num a1 0)) 0 1
 ·rfl
 cases Zaa (i64.wrap (num a1 1)) 1 8
 ·rfl
 cases decide ((nQ:Int) > 12)
 rotate_left
 ·rfl
 simp only [Bool.not_true,Bool.not_false,cond_false,Bool.true_and]
 have wet:∀ k,Za7 (i64.wrap (num (aQ.extract (k*3) (k*3+3)) 0)) a0=true:=fun k=>by
  unfold Za7
  cases Zam (i64.wrap (num (aQ.extract (k*3) (k*3+3)) 0)) a0
  ·rfl
  ·exact decide_eq_true (Zib .u64 _).1
 refine (Zyv (g:=Zd1 PZ a0 a1 bQ nQ aQ) (fun k=>(false,wsum aQ k,(k:Int))) (fun k=>relB a0 (i64.wrap (num a1 1)) (aQ.extract (k*3) (k*3+3))) nQ (N:=18446744073709551616) (xd:=.done (false,wsum aQ nQ,(nQ:Int))) (by omega) (fun k hk hp=>by
  have h1:decide ((k:Int)<(nQ:Int))=true:=decide_eq_true (by omega)
  have h0:decide (0≤(k:Int))=true:=decide_eq_true (by omega)
  have h3:i64.wrap ((k:Int)+1)=((k+1:Nat):Int):=by rw [IntWalk.i64_in _ (by omega)];omega
  have hp':relB a0 (i64.wrap (num a1 1)) (aQ.extract (k*3) (k*3+3))=true:=hp
  unfold relB at hp'
  simp only [Bool.and_eq_true] at hp'
  simp only [Zd1,h1,h0,h3,Bool.and_self,Int.toNat_natCast,cond_true,cond_false,wet,hp'.1,hp'.2.1,hp'.2.2,Bool.not_true]
  rfl) (by
  have h1:decide ((nQ:Int)<(nQ:Int))=false:=decide_eq_false (by omega)
  simp only [Zd1,h1,cond_false]) (Uc4 a0 (i64.wrap (num a1 1)) nQ aQ) (Yfv a0 _ nQ aQ) (some (.a (.b (decide (wsum aQ nQ≤1000))),.none,true)) (some (.a (.b false),.none,true)) rfl (fun k hk hp=>by
  refine ⟨.more (false,wsum aQ k,(k:Int)), ?_,rfl⟩
  have h1:decide ((k:Int)<(nQ:Int))=true:=decide_eq_true (by omega)
  have h0:decide (0≤(k:Int))=true:=decide_eq_true (by omega)
  have h3:i64.wrap ((k:Int)+1)=((k+1:Nat):Int):=by rw [IntWalk.i64_in _ (by omega)];omega
  have hp':relB a0 (i64.wrap (num a1 1)) (aQ.extract (k*3) (k*3+3))=false:=hp
  unfold relB at hp'
  cases x1:Zad (i64.wrap (num (aQ.extract (k*3) (k*3+3)) 0)) a0
  ·simp only [Zd1,h1,h0,h3,Bool.and_self,Int.toNat_natCast,cond_true,wet,x1,Bool.not_false]
  ·cases x2:Zaa (i64.wrap (num (aQ.extract (k*3) (k*3+3)) 1)) 0 (i64.wrap (i64.wrap (num a1 1) - 1))
   ·simp only [Zd1,h1,h0,h3,Bool.and_self,Int.toNat_natCast,cond_true,cond_false,wet,x1,x2,Bool.not_true,Bool.not_false]
   ·rw [x1,x2] at hp'
    simp only [Bool.true_and] at hp'
    simp only [Zd1,h1,h0,h3,Bool.and_self,Int.toNat_natCast,cond_true,cond_false,wet,x1,x2,hp',Bool.not_true,Bool.not_false])).trans ?_
 cases Uc4 a0 (i64.wrap (num a1 1)) nQ aQ<;>rfl
def Znq:Con:=fun args h=>match args,h with
 | [.w 0,.w 1],[.row a0 41,.one (.r a1 45 [(2,2)]) 45,.sl (.came bQ) nQ aQ 82]=>some (.a (.b ((Ua6 a0 a1 nQ aQ))),.none,true)
 | _,_=>none
theorem Yak:EntX PZ 54:=Zag (fn:=Tryz.f54) (by kernel_rfl) (by kernel_rfl) (by kernel_rfl)
theorem Yf9:Uad mn PZ 54 Znq:=(Zai (N:=18446744073709551616) (by kernel_rfl) (mkΓ_consX (Zac Zn2) Zku (mkΓ_consX (Zac Zju) Zgk (mkΓ_consX (Zac Yds) Zv2 mkΓ_nilX))) (fn:=Tryz.f54) (by kernel_rfl) (by kernel_rfl) [([4,5,6],[])]).of (by
 intro ρ h w args vals r e hA hH hr
 unfold Znq at hr
 split at hr
 ·rename_i a0 a1 bQ nQ aQ
  obtain ⟨rfl,rfl,hg2⟩:=BQi hr
  exact Ycw a0 a1 bQ nQ aQ (hH.wt 0 rfl) (hH.wtr 1 rfl) (hH.slw 2 rfl) hg2
 ·cases hr)
def Zcz:Cons:=(mkΓ [(50,con Zf9),(70,con Zkj),(71,con Zeu),(85,con Zhp),(108,con Zhh)])
def Zdv (a0 a1:Array Value) (bQ:Option (Option Addr)) (nQ:Nat) (aQ:Array Value):St:=(⟨.a (.g a0 41) :: .a (.r a1 45 [(2,0)]) :: .a (.w 1) :: .a (.w 2) :: .a (.b (false)) :: .a (.w 7) :: .a (.u) :: .a (.u) :: .a (.g a0 41) :: .a (.r a1 45 [(2,0)]) :: .a (.r ((spl (spl (zc PZ 73) 0 (#[.int .i64 (i64.wrap (num a1 0)),.int .i64 (i64.wrap (num a1 1))]:Array Value).toList) 2 a0.toList).setIfInBounds 365 (.slice none 0 0)) 73 [(365,0)]) :: .a (.g a0 41) :: .a (.b ((okS a0))) :: .a (.b ((!((okS a0))))) :: .a (.b (false)) :: .a (.p 7 (0) 71) :: .a (.g (((spl (spl (zc PZ 73) 0 (#[.int .i64 (i64.wrap (num a1 0)),.int .i64 (i64.wrap (num a1 1))]:Array Value).toList) 2 a0.toList).setIfInBounds 365 (.slice none 0 0)).extract 0 (0+2)) 71) :: .a (.b ((Zav (((spl (spl (zc PZ 73) 0 (#[.int .i64 (i64.wrap (num a1 0)),.int .i64 (i64.wrap (num a1 1))]:Array Value).toList) 2 a0.toList).setIfInBounds 365 (.slice none 0 0)).extract 0 (0+2))))) :: .a (.b ((!((Zav (((spl (spl (zc PZ 73) 0 (#[.int .i64 (i64.wrap (num a1 0)),.int .i64 (i64.wrap (num a1 1))]:Array Value).toList) 2 a0.toList).setIfInBounds 365 (.slice none 0 0)).extract 0 (0+2))))))) :: .a (.b ((!((Zav (((spl (spl (zc PZ 73) 0 (#[.int .i64 (i64.wrap (num a1 0)),.int .i64 (i64.wrap (num a1 1))]:Array Value).toList) 2 a0.toList).setIfInBounds 365 (.slice none 0 0)).extract 0 (0+2))))))) :: .a (.b (false)) :: .a (.p 2 (2) 43) :: .a (.l 0) :: .a (.i .i64 (nQ:Int)) :: .a (.b (decide ((nQ:Int) > (12:Int)))) :: .a (.b (decide ((nQ:Int) > (12:Int)))) :: .a (.p 2 (2) 43) :: .a (.l 0) :: .a (.i .i64 (nQ:Int)) :: .a (.i .i64 (0:Int))::us 11 ([]),[.sl (.came bQ) nQ aQ 82,.row a0 41,.one (.r a1 45 [(2,0)]) 45,.no,.no,.no,.no,.one (.r ((spl (spl (zc PZ 73) 0 (#[.int .i64 (i64.wrap (num a1 0)),.int .i64 (i64.wrap (num a1 1))]:Array Value).toList) 2 a0.toList).setIfInBounds 365 (.slice none 0 0)) 73 [(365,0)]) 73,.no],[7]⟩:St)
def Zer:Bool×Int→LS
 | (y0_4,y0_29)=>([.a (.b (y0_4)),.a (.i .i64 (y0_29))],[])
def Zkm:(Stp (Bool×Int) (Bool×Int))→Exit×LS
 | .more t=>(.ret,Zer t)
 | .done t=>((.exit 0),Zer t)
def Zc5 (P : Program) (a0 a1 : Array Value) (bQ : Option (Option Addr)) (nQ : Nat) (aQ : Array Value) : Bool × Int → Option (Stp (Bool × Int) (Stp (Bool × Int) (Bool × Int)))
 | (y0_4, y0_29) => bif decide (y0_29 < (nQ : Int)) then (bif (decide (0 ≤ y0_29) && decide (y0_29 < (nQ : Int))) then (bif (Zcm ((spl (spl (zc PZ 73) 0 (#[.int .i64 (i64.wrap (num a1 0)), .int .i64 (i64.wrap (num a1 1))] : Array Value).toList) 2 a0.toList).setIfInBounds 365 (.slice none 0 0)) (aQ.extract ((y0_29).toNat * 3) (((y0_29).toNat * 3) + 3)) bQ nQ aQ) then (bif (!((Zcl ((spl (spl (zc PZ 73) 0 (#[.int .i64 (i64.wrap (num a1 0)), .int .i64 (i64.wrap (num a1 1))] : Array Value).toList) 2 a0.toList).setIfInBounds 365 (.slice none 0 0)) (aQ.extract ((y0_29).toNat * 3) (((y0_29).toNat * 3) + 3)) bQ nQ aQ))) then (some (.done (.more (false, y0_29))))
     else (some (.more (y0_4, (i64.wrap (y0_29 + (1 : Int)))))))
    else (none))
   else (none))
  else (some (.done (.done (y0_4, y0_29))))
theorem Zys (N:Nat) (a0 a1:Array Value) (bQ:Option (Option Addr)) (nQ:Nat) (aQ:Array Value):∀ t:Bool×Int,Uai PZ Zcz N (cAt (codeOf Tryz.f84) [1,1,1,0,1,0,0]) (pAt (Uaa (codeOf Tryz.f84) [([4,29],[])]).1 [1,1,1,0,1,0]) [4,29] [] (Zdv a0 a1 bQ nQ aQ) (Zer t)=mapS Zer Zkm (Zc5 PZ a0 a1 bQ nQ aQ t):=by
 rintro ⟨y0_4,y0_29⟩
 refine Eq.trans (b:=(bif decide (y0_29<(nQ:Int)) then (bif (decide (0≤y0_29)&&decide (y0_29<(nQ:Int))) then (bif (Zcm ((spl (spl (zc PZ 73) 0 (#[.int .i64 (i64.wrap (num a1 0)),.int .i64 (i64.wrap (num a1 1))]:Array Value).toList) 2 a0.toList).setIfInBounds 365 (.slice none 0 0)) (aQ.extract ((y0_29).toNat*3) (((y0_29).toNat*3)+3)) bQ nQ aQ) then (bif (!((Zcl ((spl (spl (zc PZ 73) 0 (#[.int .i64 (i64.wrap (num a1 0)),.int .i64 (i64.wrap (num a1 1))]:Array Value).toList) 2 a0.toList).setIfInBounds 365 (.slice none 0 0)) (aQ.extract ((y0_29).toNat*3) (((y0_29).toNat*3)+3)) bQ nQ aQ))) then (some (.done (.ret,([.a (.b (false)),.a (.i .i64 (y0_29))],[]))))
     else (some (.more ([.a (.b (y0_4)),.a (.i .i64 (i64.wrap (y0_29+(1:Int))))],[]))))
    else (none))
   else (none))
  else (some (.done ((.exit 0),([.a (.b (y0_4)),.a (.i .i64 (y0_29))],[])))))) (by kernel_rfl) ?_
 simp only [Zc5,Za3,Za4,Za6,Za5,Zer,Zkm]
def Ziz (P:Program) (N:Nat) (a0 a1:Array Value) (bQ:Option (Option Addr)) (nQ:Nat) (aQ:Array Value) (z0_4:Bool) (z0_29:Int):Option (SV×Eff×Bool):=some (.a (.b (z0_4)),.none,true)
theorem Zqh (N:Nat) (a0 a1:Array Value) (bQ:Option (Option Addr)) (nQ:Nat) (aQ:Array Value) (z0_4:Bool) (z0_29:Int):(Uab 0 (kSeq (veC PZ Zcz N (cAt (codeOf Tryz.f84) [1,1,1,1]) (pAt (Uaa (codeOf Tryz.f84) [([4,29],[])]).1 [1,1,1,1]) (SV×Eff×Bool)) (finK PZ [.sl (.came bQ) nQ aQ 82] [.tmp 4]))) .ret (left (writes (cAt (codeOf Tryz.f84) [1,1,1,0,1,0,0])) [4,29] [] (Zdv a0 a1 bQ nQ aQ) ([.a (.b (z0_4)),.a (.i .i64 (z0_29))],[]))=Ziz PZ N a0 a1 bQ nQ aQ z0_4 z0_29:=by
 refine Eq.trans (b:=(some (.a (.b (z0_4)),.none,true))) (by kernel_rfl) ?_
 rfl
def Zi3 (P:Program) (N:Nat) (a0 a1:Array Value) (bQ:Option (Option Addr)) (nQ:Nat) (aQ:Array Value) (z0_4:Bool) (z0_29:Int):Option (SV×Eff×Bool):=some (.a (.b (decide ((wsum aQ nQ)≤(1000:Int)))),.none,true)
theorem Zqe (N:Nat) (a0 a1:Array Value) (bQ:Option (Option Addr)) (nQ:Nat) (aQ:Array Value) (z0_4:Bool) (z0_29:Int):(Uab 0 (kSeq (veC PZ Zcz N (cAt (codeOf Tryz.f84) [1,1,1,1]) (pAt (Uaa (codeOf Tryz.f84) [([4,29],[])]).1 [1,1,1,1]) (SV×Eff×Bool)) (finK PZ [.sl (.came bQ) nQ aQ 82] [.tmp 4]))) (.exit 0) (left (writes (cAt (codeOf Tryz.f84) [1,1,1,0,1,0,0])) [4,29] [] (Zdv a0 a1 bQ nQ aQ) ([.a (.b (z0_4)),.a (.i .i64 (z0_29))],[]))=Zi3 PZ N a0 a1 bQ nQ aQ z0_4 z0_29:=by
 refine Eq.trans (b:=(some (.a (.b (decide ((wsum aQ nQ)≤(1000:Int)))),.none,true))) (by kernel_rfl) ?_
 rfl
theorem Zyd (N:Nat) (a0 a1:Array Value) (bQ:Option (Option Addr)) (nQ:Nat) (aQ:Array Value):Uah (Uac (Uai PZ Zcz N (cAt (codeOf Tryz.f84) [1,1,1,0,1,0,0]) (pAt (Uaa (codeOf Tryz.f84) [([4,29],[])]).1 [1,1,1,0,1,0]) [4,29] [] (Zdv a0 a1 bQ nQ aQ)) N ([.a (.b (false)),.a (.i .i64 (0:Int))],[])) (fun e s=>(Uab 0 (kSeq (veC PZ Zcz N (cAt (codeOf Tryz.f84) [1,1,1,1]) (pAt (Uaa (codeOf Tryz.f84) [([4,29],[])]).1 [1,1,1,1]) (SV×Eff×Bool)) (finK PZ [.sl (.came bQ) nQ aQ 82] [.tmp 4]))) e (left (writes (cAt (codeOf Tryz.f84) [1,1,1,0,1,0,0])) [4,29] [] (Zdv a0 a1 bQ nQ aQ) s))=Uam (Uac (Zc5 PZ a0 a1 bQ nQ aQ) N (false,(0:Int))) (st2 (fun x=>Ziz PZ N a0 a1 bQ nQ aQ x.1 x.2) (fun x=>Zi3 PZ N a0 a1 bQ nQ aQ x.1 x.2)):=by
 refine Zbm Zer Zkm _ _ (Zys N a0 a1 bQ nQ aQ) N (false,(0:Int)) _ _ ?_
 intro x
 cases x with
 | more x=>exact Zqh N a0 a1 bQ nQ aQ x.1 x.2
 | done x=>exact Zqe N a0 a1 bQ nQ aQ x.1 x.2
theorem Zv8 (N:Nat) (a0 a1:Array Value) (bQ:Option (Option Addr)) (nQ:Nat) (aQ:Array Value):ansV PZ Zcz N Tryz.f84 [([4,29],[])] [.g a0 41,.r a1 45 [(2,0)]] [.sl (.came bQ) nQ aQ 82]=(bif (!((okS a0))) then (some (.a (.b (false)),.none,true))
  else (bif (!((Zav (((spl (spl (zc PZ 73) 0 (#[.int .i64 (i64.wrap (num a1 0)),.int .i64 (i64.wrap (num a1 1))]:Array Value).toList) 2 a0.toList).setIfInBounds 365 (.slice none 0 0)).extract 0 (0+2))))) then (some (.a (.b (false)),.none,true))
   else (bif decide ((nQ:Int) > (12:Int)) then (some (.a (.b (false)),.none,true))
    else (Uam (Uac (Zc5 PZ a0 a1 bQ nQ aQ) N (false,(0:Int))) (st2 (fun x=>Ziz PZ N a0 a1 bQ nQ aQ x.1 x.2) (fun x=>Zi3 PZ N a0 a1 bQ nQ aQ x.1 x.2)))))):=by
 refine Eq.trans (b:=(bif (!((okS a0))) then (some (.a (.b (false)),.none,true))
  else (bif (!((Zav (((spl (spl (zc PZ 73) 0 (#[.int .i64 (i64.wrap (num a1 0)),.int .i64 (i64.wrap (num a1 1))]:Array Value).toList) 2 a0.toList).setIfInBounds 365 (.slice none 0 0)).extract 0 (0+2))))) then (some (.a (.b (false)),.none,true))
   else (bif decide ((nQ:Int) > (12:Int)) then (some (.a (.b (false)),.none,true))
    else (Uah (Uac (Uai PZ Zcz N (cAt (codeOf Tryz.f84) [1,1,1,0,1,0,0]) (pAt (Uaa (codeOf Tryz.f84) [([4,29],[])]).1 [1,1,1,0,1,0]) [4,29] [] (Zdv a0 a1 bQ nQ aQ)) N ([.a (.b (false)),.a (.i .i64 (0:Int))],[])) (fun e s=>(Uab 0 (kSeq (veC PZ Zcz N (cAt (codeOf Tryz.f84) [1,1,1,1]) (pAt (Uaa (codeOf Tryz.f84) [([4,29],[])]).1 [1,1,1,1]) (SV×Eff×Bool)) (finK PZ [.sl (.came bQ) nQ aQ 82] [.tmp 4]))) e (left (writes (cAt (codeOf Tryz.f84) [1,1,1,0,1,0,0])) [4,29] [] (Zdv a0 a1 bQ nQ aQ) s))))))) (by kernel_rfl) ?_
 simp only [Zyd N a0 a1 bQ nQ aQ]
theorem Zui (a0 a1:Array Value) (bQ:Option (Option Addr)) (nQ:Nat) (aQ:Array Value) (h_a0:WT PZ 41 a0) (h_a1:WT PZ 45 a1) (h_a1x2:aQ.size=nQ*(lay PZ 82).length∧(∀ k,k<nQ→WT PZ 82 (aQ.extract (k*(lay PZ 82).length) (k*(lay PZ 82).length+(lay PZ 82).length)))∧nQ≤9223372036854775807) (hg:(true)=true):ansV PZ Zcz 18446744073709551616 Tryz.f84 [([4,29],[])] [.g a0 41,.r a1 45 [(2,0)]] [.sl (.came bQ) nQ aQ 82]=some (.a (.b ((okS a0&&Ua6 a0 a1 nQ aQ))),.none,true):=by
 have hn:=h_a1x2.2.2
 have hS:=h_a0
 have hz:a0.size=363:=by rw [h_a0.layLen];kernel_rfl
 obtain ⟨v1,v2⟩:=Yjf (p:=a1) hz
 obtain ⟨-,b0⟩:=h_a1.int (o:=0) (k:=.i8) (by kernel_rfl)
 obtain ⟨-,b1⟩:=h_a1.int (o:=1) (k:=.i8) (by kernel_rfl)
 have e1:IntKind.i8.min = -128:=rfl
 have e2:IntKind.i8.max=127:=rfl
 have w1: -128≤i64.wrap (num a1 1)∧i64.wrap (num a1 1)≤127:=by rw [IntWalk.i64_in _ (by omega)];omega
 have hRE:(lay PZ 82).length=3:=by kernel_rfl
 refine (Zv8 18446744073709551616 a0 a1 bQ nQ aQ).trans ?_
 cases hok:okS a0
 ·rfl
 have hr:Zav (((spl (spl (zc PZ 73) 0 (#[.int .i64 (i64.wrap (num a1 0)),.int .i64 (i64.wrap (num a1 1))]:Array Value).toList) 2 a0.toList).setIfInBounds 365 (.slice none 0 0)).extract 0 (0+2))=(Zaa (i64.wrap (num a1 0)) 0 1&&Zaa (i64.wrap (num a1 1)) 1 8):=by
  rw [v2]
  unfold Zav
  rw [tide_eq]
  show (bif Zaa (i64.wrap (num a1 0)) 0 1 then Zaa (i64.wrap (num a1 1)) 1 8 else false)=_
  cases Zaa (i64.wrap (num a1 0)) 0 1<;>rfl
 unfold Ua6
 rw [hr]
 cases Zaa (i64.wrap (num a1 0)) 0 1
 ·rfl
 cases Zaa (i64.wrap (num a1 1)) 1 8
 ·rfl
 cases decide ((nQ:Int) > 12)
 rotate_left
 ·rfl
 simp only [Bool.not_true,Bool.not_false,cond_false,Bool.true_and,Bool.and_self]
 have tk:=fun k hk=>takes_eq (S:=a0) (V:=((spl (spl (zc PZ 73) 0 (#[.int .i64 (i64.wrap (num a1 0)),.int .i64 (i64.wrap (num a1 1))]:Array Value).toList) 2 a0.toList).setIfInBounds 365 (.slice none 0 0))) (X:=aQ.extract (k*3) (k*3+3)) bQ nQ aQ hS v1 v2 w1 (by have:=h_a1x2.2.1 k hk;rw [hRE] at this;exact this)
 refine (Zyv (g:=Zc5 PZ a0 a1 bQ nQ aQ) (fun k=>(false,(k:Int))) (fun k=>relB a0 (i64.wrap (num a1 1)) (aQ.extract (k*3) (k*3+3))) nQ (N:=18446744073709551616) (xd:=.done (false,(nQ:Int))) (by omega) (fun k hk hp=>by
  have h1:decide ((k:Int)<(nQ:Int))=true:=decide_eq_true (by omega)
  have h0:decide (0≤(k:Int))=true:=decide_eq_true (by omega)
  have h3:i64.wrap ((k:Int)+1)=((k+1:Nat):Int):=by rw [IntWalk.i64_in _ (by omega)];omega
  have hp':relB a0 (i64.wrap (num a1 1)) (aQ.extract (k*3) (k*3+3))=true:=hp
  simp only [Zc5,h1,h0,h3,Bool.and_self,Int.toNat_natCast,cond_true,cond_false,(tk k hk).1,(tk k hk).2,hp',Bool.not_true]) (by
  have h1:decide ((nQ:Int)<(nQ:Int))=false:=decide_eq_false (by omega)
  simp only [Zc5,h1,cond_false]) (Uc4 a0 (i64.wrap (num a1 1)) nQ aQ) (Yfv a0 _ nQ aQ) (some (.a (.b (decide (wsum aQ nQ≤1000))),.none,true)) (some (.a (.b false),.none,true)) rfl (fun k hk hp=>by
  refine ⟨.more (false,(k:Int)), ?_,rfl⟩
  have h1:decide ((k:Int)<(nQ:Int))=true:=decide_eq_true (by omega)
  have h0:decide (0≤(k:Int))=true:=decide_eq_true (by omega)
  have h3:i64.wrap ((k:Int)+1)=((k+1:Nat):Int):=by rw [IntWalk.i64_in _ (by omega)];omega
  have hp':relB a0 (i64.wrap (num a1 1)) (aQ.extract (k*3) (k*3+3))=false:=hp
  simp only [Zc5,h1,h0,h3,Bool.and_self,Int.toNat_natCast,cond_true,cond_false,(tk k hk).1,(tk k hk).2,hp',Bool.not_false])).trans ?_
 cases Uc4 a0 (i64.wrap (num a1 1)) nQ aQ<;>rfl
def Zjl:Con:=fun args h=>match args,h with
 | [.g a0 41,.r a1 45 [(2,0)]],[.sl (.came bQ) nQ aQ 82]=>some (.a (.b ((okS a0&&Ua6 a0 a1 nQ aQ))),.none,true)
 | _,_=>none
theorem Zls:EntX PZ 84:=Zag (fn:=Tryz.f84) (by kernel_rfl) (by kernel_rfl) (by kernel_rfl)
theorem Zoo:Uad mn PZ 84 Zjl:=(Zai (N:=18446744073709551616) (by kernel_rfl) (mkΓ_consX (Zac Zqq) Znn (mkΓ_consX (Zac Ya2) Zvf (mkΓ_consX (Zac Znb) Zlo (mkΓ_consX (Zac Zle) Zi1 (mkΓ_consX (Zac Ztj) Zpg mkΓ_nilX))))) (fn:=Tryz.f84) (by kernel_rfl) (by kernel_rfl) [([4,29],[])]).of (by
 intro ρ h w args vals r e hA hH hr
 unfold Zjl at hr
 split at hr
 ·rename_i a0 a1 bQ nQ aQ
  obtain ⟨rfl,rfl,hg2⟩:=BQi hr
  exact Zui a0 a1 bQ nQ aQ (hA.wt 0 rfl) (hA.wtr 1 rfl) (hH.slw 0 rfl) hg2
 ·cases hr)
def voyV (P:Program) (a0 a1:Array Value):Array Value:=((spl (spl (zc P 73) 0 (#[.int .i64 (i64.wrap (num a1 0)),.int .i64 (i64.wrap (num a1 1))]:Array Value).toList) 2 a0.toList).setIfInBounds 365 (.slice none 0 0))
def Znr:Cons:=(mkΓ [(84,con Zjl),(85,con Zhp)])
theorem Zp9 (N:Nat) (a0 a1:Array Value) (bQ:Option (Option Addr)) (nQ:Nat) (aQ:Array Value):ansV PZ Znr N Tryz.f59 [] [.g a0 41,.r a1 45 [(2,0)]] [.sl (.came bQ) nQ aQ 82]=(bif (!((okS a0&&Ua6 a0 a1 nQ aQ))) then (some (.t [.r (zc PZ 73) 73 [],.v (.iface 117 (.int .i64 (1:Int)))],.none,true))
  else (some (.t [.r ((spl (spl (zc PZ 73) 0 (#[.int .i64 (i64.wrap (num a1 0)),.int .i64 (i64.wrap (num a1 1))]:Array Value).toList) 2 a0.toList).setIfInBounds 365 (.slice none 0 0)) 73 [(365,0)],.v (.nilIface)],.none,true))):=by kernel_rfl
theorem Zw3 (a0 a1:Array Value) (bQ:Option (Option Addr)) (nQ:Nat) (aQ:Array Value) (h_a0:WT PZ 41 a0) (h_a1:WT PZ 45 a1) (h_a1x2:aQ.size=nQ*(lay PZ 82).length∧(∀ k,k<nQ→WT PZ 82 (aQ.extract (k*(lay PZ 82).length) (k*(lay PZ 82).length+(lay PZ 82).length)))∧nQ≤9223372036854775807) (hc0:((okS a0&&Ua6 a0 a1 nQ aQ))=false) (hg:(true)=true):ansV PZ Znr 1000 Tryz.f59 [] [.g a0 41,.r a1 45 [(2,0)]] [.sl (.came bQ) nQ aQ 82]=some (.t [.r (zc PZ 73) 73 [],.v (.iface 117 (.int .i64 (1:Int)))],.none,true):=by
 refine (Zp9 1000 a0 a1 bQ nQ aQ).trans ?_
 simp only [hc0,Bool.not_false,cond_true]
theorem Zwe (a0 a1:Array Value) (bQ:Option (Option Addr)) (nQ:Nat) (aQ:Array Value) (h_a0:WT PZ 41 a0) (h_a1:WT PZ 45 a1) (h_a1x2:aQ.size=nQ*(lay PZ 82).length∧(∀ k,k<nQ→WT PZ 82 (aQ.extract (k*(lay PZ 82).length) (k*(lay PZ 82).length+(lay PZ 82).length)))∧nQ≤9223372036854775807) (hc0:((okS a0&&Ua6 a0 a1 nQ aQ))=true) (hg:(true)=true):ansV PZ Znr 1000 Tryz.f59 [] [.g a0 41,.r a1 45 [(2,0)]] [.sl (.came bQ) nQ aQ 82]=some (.t [.r (voyV PZ a0 a1) 73 [(365,0)],.v (.nilIface)],.none,true):=by
 unfold voyV
 refine (Zp9 1000 a0 a1 bQ nQ aQ).trans ?_
 simp only [hc0,Bool.not_true,cond_false]
def Zks:SCon:=fun args h=>match args,h with
 | [.g a0 41,.r a1 45 [(2,0)]],[.sl (.came bQ) nQ aQ 82]=>.two ((okS a0&&Ua6 a0 a1 nQ aQ)) (.one (some (.t [.r (voyV PZ a0 a1) 73 [(365,0)],.v (.nilIface)],.none,true))) (.one (some (.t [.r (zc PZ 73) 73 [],.v (.iface 117 (.int .i64 (1:Int)))],.none,true)))
 | _,_=>.one none
theorem Zjx:EntX PZ 59:=Zag (fn:=Tryz.f59) (by kernel_rfl) (by kernel_rfl) (by kernel_rfl)
theorem Zlh:Uad mn PZ 59 (fun args h=>Uag (Zks args h)):=by
 intro ρ h w args vals r e hn hr hA hH
 dsimp only at hr
 unfold Zks at hr
 split at hr
 ·rename_i a0 a1 bQ nQ aQ
  simp only [Uag] at hr
  cases hc0:((okS a0&&Ua6 a0 a1 nQ aQ))
  ·rw [hc0] at hr
   simp only [Uag,cond_true,cond_false] at hr
   obtain ⟨rfl,rfl,hg2⟩:=BQi hr
   exact ((Zai (N:=1000) (by kernel_rfl) (mkΓ_consX (Zac Zoo) Zls (mkΓ_consX (Zac Zle) Zi1 mkΓ_nilX)) (fn:=Tryz.f59) (by kernel_rfl) (by kernel_rfl) [])) ρ _ w _ vals _ _ hn ((Zw3 a0 a1 bQ nQ aQ (hA.wt 0 rfl) (hA.wtr 1 rfl) (hH.slw 0 rfl) hc0 hg2)) hA hH
  ·rw [hc0] at hr
   simp only [Uag,cond_true,cond_false] at hr
   obtain ⟨rfl,rfl,hg2⟩:=BQi hr
   exact ((Zai (N:=1000) (by kernel_rfl) (mkΓ_consX (Zac Zoo) Zls (mkΓ_consX (Zac Zle) Zi1 mkΓ_nilX)) (fn:=Tryz.f59) (by kernel_rfl) (by kernel_rfl) [])) ρ _ w _ vals _ _ hn ((Zwe a0 a1 bQ nQ aQ (hA.wt 0 rfl) (hA.wtr 1 rfl) (hH.slw 0 rfl) hc0 hg2)) hA hH
 ·simp only [Uag] at hr
  cases hr
def Zhq:Cons:=(mkΓw [(59,conS Zks)] [(60,con Zkf)] [] [])
theorem Zit (N:Nat) (a0 a1:Array Value) (a2:Int) (bQ:Option (Option Addr)) (nQ:Nat) (aQ:Array Value):ansV PZ Zhq N Tryz.f31 [] [.g a0 41,.r a1 45 [(2,0)],.i .u64 (a2)] [.sl (.came bQ) nQ aQ 82]=(bif (okS a0&&Ua6 a0 a1 nQ aQ) then (bif (Zdk a0 a2) then (bif (!((Zaf a0 a2))) then (some (.t [.r (zc PZ 73) 73 [],.v (.iface 117 (.int .i64 (2:Int)))],.none,true))
    else (some (.t [.r (voyV PZ a0 a1) 73 [(365,0)],.v (.nilIface)],.none,true)))
   else (none))
  else (some (.t [.r (zc PZ 73) 73 [],.v (.iface 117 (.int .i64 (1:Int)))],.none,true))):=by kernel_rfl
theorem Zse (a0 a1:Array Value) (a2:Int) (bQ:Option (Option Addr)) (nQ:Nat) (aQ:Array Value) (h_a0:WT PZ 41 a0) (h_a1:WT PZ 45 a1) (h_a2:IntKind.u64.min≤a2∧a2≤IntKind.u64.max) (h_a1x2:aQ.size=nQ*(lay PZ 82).length∧(∀ k,k<nQ→WT PZ 82 (aQ.extract (k*(lay PZ 82).length) (k*(lay PZ 82).length+(lay PZ 82).length)))∧nQ≤9223372036854775807) (hc0:((okS a0&&Ua6 a0 a1 nQ aQ))=false) (hg:(true)=true):ansV PZ Zhq 1000 Tryz.f31 [] [.g a0 41,.r a1 45 [(2,0)],.i .u64 (a2)] [.sl (.came bQ) nQ aQ 82]=some (.t [.r (zc PZ 73) 73 [],.v (.iface 117 (.int .i64 (1:Int)))],.none,true):=by
 refine (Zit 1000 a0 a1 a2 bQ nQ aQ).trans ?_
 simp only [hc0,cond_false]
theorem Zrr (a0 a1:Array Value) (a2:Int) (bQ:Option (Option Addr)) (nQ:Nat) (aQ:Array Value) (h_a0:WT PZ 41 a0) (h_a1:WT PZ 45 a1) (h_a2:IntKind.u64.min≤a2∧a2≤IntKind.u64.max) (h_a1x2:aQ.size=nQ*(lay PZ 82).length∧(∀ k,k<nQ→WT PZ 82 (aQ.extract (k*(lay PZ 82).length) (k*(lay PZ 82).length+(lay PZ 82).length)))∧nQ≤9223372036854775807) (hc0:((okS a0&&Ua6 a0 a1 nQ aQ))=true) (hc1:((Zaf a0 a2))=false) (hg:(true)=true):ansV PZ Zhq 1000 Tryz.f31 [] [.g a0 41,.r a1 45 [(2,0)],.i .u64 (a2)] [.sl (.came bQ) nQ aQ 82]=some (.t [.r (zc PZ 73) 73 [],.v (.iface 117 (.int .i64 (2:Int)))],.none,true):=by
 refine (Zit 1000 a0 a1 a2 bQ nQ aQ).trans ?_
 have hgd:Zdk a0 a2=true:=by
  rw [Bool.and_eq_true] at hc0
  exact Ycl hc0.1
 simp only [hc0,hc1,hgd,Bool.not_false,cond_true]
theorem Zq7 (a0 a1:Array Value) (a2:Int) (bQ:Option (Option Addr)) (nQ:Nat) (aQ:Array Value) (h_a0:WT PZ 41 a0) (h_a1:WT PZ 45 a1) (h_a2:IntKind.u64.min≤a2∧a2≤IntKind.u64.max) (h_a1x2:aQ.size=nQ*(lay PZ 82).length∧(∀ k,k<nQ→WT PZ 82 (aQ.extract (k*(lay PZ 82).length) (k*(lay PZ 82).length+(lay PZ 82).length)))∧nQ≤9223372036854775807) (hc0:((okS a0&&Ua6 a0 a1 nQ aQ))=true) (hc1:((Zaf a0 a2))=true) (hg:(true)=true):ansV PZ Zhq 1000 Tryz.f31 [] [.g a0 41,.r a1 45 [(2,0)],.i .u64 (a2)] [.sl (.came bQ) nQ aQ 82]=some (.t [.r (voyV PZ a0 a1) 73 [(365,0)],.v (.nilIface)],.none,true):=by
 refine (Zit 1000 a0 a1 a2 bQ nQ aQ).trans ?_
 have hgd:Zdk a0 a2=true:=by
  rw [Bool.and_eq_true] at hc0
  exact Ycl hc0.1
 simp only [hc0,hc1,hgd,Bool.not_true,cond_false,cond_true]
def Zfm:SCon:=fun args h=>match args,h with
 | [.g a0 41,.r a1 45 [(2,0)],.i .u64 a2],[.sl (.came bQ) nQ aQ 82]=>.two ((okS a0&&Ua6 a0 a1 nQ aQ)) (.two ((Zaf a0 a2)) (.one (some (.t [.r (voyV PZ a0 a1) 73 [(365,0)],.v (.nilIface)],.none,true))) (.one (some (.t [.r (zc PZ 73) 73 [],.v (.iface 117 (.int .i64 (2:Int)))],.none,true)))) (.one (some (.t [.r (zc PZ 73) 73 [],.v (.iface 117 (.int .i64 (1:Int)))],.none,true)))
 | _,_=>.one none
theorem Zk3:EntX PZ 31:=Zag (fn:=Tryz.f31) (by kernel_rfl) (by kernel_rfl) (by kernel_rfl)
theorem Zmi:Uad mn PZ 31 (fun args h=>Uag (Zfm args h)):=by
 intro ρ h w args vals r e hn hr hA hH
 dsimp only at hr
 unfold Zfm at hr
 split at hr
 ·rename_i a0 a1 a2 bQ nQ aQ
  simp only [Uag] at hr
  cases hc0:((okS a0&&Ua6 a0 a1 nQ aQ))
  ·rw [hc0] at hr
   simp only [Uag,cond_true,cond_false] at hr
   obtain ⟨rfl,rfl,hg2⟩:=BQi hr
   exact ((Zai (N:=1000) (by kernel_rfl) (mkΓw_sX (Zpi Zlh) Zjx (mkΓw_cX (Zac Zln) Ziv mkΓx_nilX)) (fn:=Tryz.f31) (by kernel_rfl) (by kernel_rfl) [])) ρ _ w _ vals _ _ hn ((Zse a0 a1 a2 bQ nQ aQ (hA.wt 0 rfl) (hA.wtr 1 rfl) (hA.rng 2 rfl) (hH.slw 0 rfl) hc0 hg2)) hA hH
  ·rw [hc0] at hr
   simp only [Uag,cond_true,cond_false] at hr
   cases hc1:((Zaf a0 a2))
   ·rw [hc1] at hr
    simp only [Uag,cond_true,cond_false] at hr
    obtain ⟨rfl,rfl,hg2⟩:=BQi hr
    exact ((Zai (N:=1000) (by kernel_rfl) (mkΓw_sX (Zpi Zlh) Zjx (mkΓw_cX (Zac Zln) Ziv mkΓx_nilX)) (fn:=Tryz.f31) (by kernel_rfl) (by kernel_rfl) [])) ρ _ w _ vals _ _ hn ((Zrr a0 a1 a2 bQ nQ aQ (hA.wt 0 rfl) (hA.wtr 1 rfl) (hA.rng 2 rfl) (hH.slw 0 rfl) hc0 hc1 hg2)) hA hH
   ·rw [hc1] at hr
    simp only [Uag,cond_true,cond_false] at hr
    obtain ⟨rfl,rfl,hg2⟩:=BQi hr
    exact ((Zai (N:=1000) (by kernel_rfl) (mkΓw_sX (Zpi Zlh) Zjx (mkΓw_cX (Zac Zln) Ziv mkΓx_nilX)) (fn:=Tryz.f31) (by kernel_rfl) (by kernel_rfl) [])) ρ _ w _ vals _ _ hn ((Zq7 a0 a1 a2 bQ nQ aQ (hA.wt 0 rfl) (hA.wtr 1 rfl) (hA.rng 2 rfl) (hH.slw 0 rfl) hc0 hc1 hg2)) hA hH
 ·simp only [Uag] at hr
  cases hr
def Zsa:Cons:=(mkΓ [(53,con Znw),(54,con Znq),(55,con Zho)])
theorem Zye (N:Nat) (a2:Int) (a0 a1:Array Value) (bQ:Option (Option Addr)) (nQ:Nat) (aQ:Array Value):ansV PZ Zsa N Tryz.f23 [] [.w 0,.w 1,.i .u64 (a2)] [.row a0 41,.one (.r a1 45 [(2,2)]) 45,.sl (.came bQ) nQ aQ 82]=(bif (!((okS a0))) then (some (.a (.i .i64 (1:Int)),.none,true))
  else (bif (!((Ua6 a0 a1 nQ aQ))) then (some (.a (.i .i64 (1:Int)),.none,true))
   else (bif ((IntKind.u64.wrap (BitVec.ofInt IntKind.u64.bits a2 &&& ~~~(BitVec.ofInt IntKind.u64.bits (Uay (num a0 0) (num a0 1) 36))).toNat) != (0:Int)) then (some (.a (.i .i64 (2:Int)),.none,true))
    else (some (.a (.i .i64 (0:Int)),.none,true))))):=by kernel_rfl
def Za0 (a2:Int) (a0 a1:Array Value) (bQ:Option (Option Addr)) (nQ:Nat) (aQ:Array Value):Int:=(bif (!((okS a0))) then (1:Int) else (bif (!((Ua6 a0 a1 nQ aQ))) then (1:Int) else (bif ((IntKind.u64.wrap (BitVec.ofInt IntKind.u64.bits a2 &&& ~~~(BitVec.ofInt IntKind.u64.bits (Uay (num a0 0) (num a0 1) 36))).toNat) != (0:Int)) then (2:Int) else (0:Int))))
theorem Zxs (a2:Int) (a0 a1:Array Value) (bQ:Option (Option Addr)) (nQ:Nat) (aQ:Array Value) (h_a2:IntKind.u64.min≤a2∧a2≤IntKind.u64.max) (h_a0:WT PZ 41 a0) (h_a1:WT PZ 45 a1) (h_a1x2:aQ.size=nQ*(lay PZ 82).length∧(∀ k,k<nQ→WT PZ 82 (aQ.extract (k*(lay PZ 82).length) (k*(lay PZ 82).length+(lay PZ 82).length)))∧nQ≤9223372036854775807) (hg:(true)=true):ansV PZ Zsa 1000 Tryz.f23 [] [.w 0,.w 1,.i .u64 (a2)] [.row a0 41,.one (.r a1 45 [(2,2)]) 45,.sl (.came bQ) nQ aQ 82]=some (.a (.i .i64 (Za0 a2 a0 a1 bQ nQ aQ)),.none,true):=by
 refine (Zye 1000 a2 a0 a1 bQ nQ aQ).trans ?_
 unfold Za0
 revert hg
 generalize ((!((okS a0))))=b2
 intro hg
 cases b2
 ·skip
  revert hg
  generalize ((!((Ua6 a0 a1 nQ aQ))))=b4
  intro hg
  cases b4
  ·skip
   revert hg
   generalize (((IntKind.u64.wrap (BitVec.ofInt IntKind.u64.bits a2 &&& ~~~(BitVec.ofInt IntKind.u64.bits (Uay (num a0 0) (num a0 1) 36))).toNat) != (0:Int)))=b6
   intro hg
   cases b6
   ·skip
    first | (simp only [BQ6];done) | rfl | exact (nomatch (hg:false=true))
   ·skip
    first | (simp only [BQ6];done) | rfl | exact (nomatch (hg:false=true))
  ·skip
   first | (simp only [BQ6];done) | rfl | exact (nomatch (hg:false=true))
 ·skip
  first | (simp only [BQ6];done) | rfl | exact (nomatch (hg:false=true))
def Zkg:Con:=fun args h=>match args,h with
 | [.w 0,.w 1,.i .u64 a2],[.row a0 41,.one (.r a1 45 [(2,2)]) 45,.sl (.came bQ) nQ aQ 82]=>some (.a (.i .i64 (Za0 a2 a0 a1 bQ nQ aQ)),.none,true)
 | _,_=>none
theorem Zvd:EntX PZ 23:=Zag (fn:=Tryz.f23) (by kernel_rfl) (by kernel_rfl) (by kernel_rfl)
theorem Ybi:Uad mn PZ 23 Zkg:=(Zai (N:=1000) (by kernel_rfl) (mkΓ_consX (Zac Yg6) Ya3 (mkΓ_consX (Zac Yf9) Yak (mkΓ_consX (Zac Zp4) Zms mkΓ_nilX))) (fn:=Tryz.f23) (by kernel_rfl) (by kernel_rfl) []).of (by
 intro ρ h w args vals r e hA hH hr
 unfold Zkg at hr
 split at hr
 ·rename_i a2 a0 a1 bQ nQ aQ
  obtain ⟨rfl,rfl,hg2⟩:=BQi hr
  exact Zxs a2 a0 a1 bQ nQ aQ (hA.rng 2 rfl) (hH.wt 0 rfl) (hH.wtr 1 rfl) (hH.slw 2 rfl) hg2
 ·cases hr)
def askC (S p:Array Value) (n:Nat) (A:Array Value) (c:Int):Int:=bif (okS S&&Ua6 S p n A) then (bif Zaf S c then 0 else 2) else 1
theorem ask_eq (S p:Array Value) (bb:Option (Option Addr)) (n:Nat) (A:Array Value) (c:Int):Za0 c S p bb n A=askC S p n A c:=by
 unfold Za0 askC Zaf
 simp only [bne]
 cases okS S<;>cases Ua6 S p n A<;>cases ((IntKind.u64.wrap (BitVec.ofInt IntKind.u64.bits c &&& ~~~(BitVec.ofInt IntKind.u64.bits (Uay (num S 0) (num S 1) 36))).toNat)==(0:Int))<;>rfl
end
end Go.Proofs.YtohnggmlmglhmaaGreatDoor
