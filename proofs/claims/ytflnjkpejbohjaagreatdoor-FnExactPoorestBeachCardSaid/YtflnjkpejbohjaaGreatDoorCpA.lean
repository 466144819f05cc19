/- Plans copied, compared and valid, in company. -/
import Derived.Test.YtflnjkpejbohjaaGreatDoorProg
import Derived.Test.YtflnjkpejbohjaaGreatDoorCxK
namespace Go.Proofs.YtflnjkpejbohjaaGreatDoor
open Go.ChangeShapes Go.WideShapes Go.ChangeAt Go.RowKit Ve Vc
open Tryz renaming prog → PZ
open IntKind (i64)
set_option linter.unusedVariables false
set_option linter.unusedSimpArgs false
set_option maxRecDepth 100000
noncomputable section
variable {F:Vc.Fd}
theorem Zug (N:Nat) (a0:Array Value):ansV PZ (mkΓ []) N Tryz.f45 [] [.g a0 101] []=(some (.a (.g #[.int .i8 (num a0 0),.int .i8 (num a0 1),.int .i16 (num a0 2)] 95),.none,true)):=by kernel_rfl
theorem Zss (a0:Array Value) (h_a0:WT PZ 101 a0) (hg:(true)=true):ansV PZ (mkΓ []) 1000 Tryz.f45 [] [.g a0 101] []=some (.a (.g a0 95),.none,true):=by
 have hz:a0.size=3:=by rw [h_a0.layLen];kernel_rfl
 have e0:=(h_a0.int (o:=0) (k:=.i8) (by kernel_rfl)).1
 have e1:=(h_a0.int (o:=1) (k:=.i8) (by kernel_rfl)).1
 have e2:=(h_a0.int (o:=2) (k:=.i16) (by kernel_rfl)).1
 have he:(#[.int .i8 (num a0 0),.int .i8 (num a0 1),.int .i16 (num a0 2)]:Array Value)=a0:=Zgq fun i=>by
  match i with
  | 0=>exact e0.symm
  | 1=>exact e1.symm
  | 2=>exact e2.symm
  | i+3=>rw [Array.getElem?_eq_none (by simp),Array.getElem?_eq_none (by omega)]
 refine (Zug 1000 a0).trans ?_
 rw [he]
def Zbh:Con:=fun args h=>match args,h with
 | [.g a0 101],[]=>some (.a (.g a0 95),.none,true)
 | _,_=>none
theorem Zr4:EntX PZ 45:=Zaf (fn:=Tryz.f45) (by kernel_rfl) (by kernel_rfl) (by kernel_rfl)
theorem Zwr:Uad (md F) PZ 45 Zbh:=(Zah (N:=1000) (by kernel_rfl) mkΓ_nilX (fn:=Tryz.f45) (by kernel_rfl) (by kernel_rfl) []).of (by
 intro ρ h w args vals r e hA hH hr
 unfold Zbh at hr
 split at hr
 ·rename_i a0
  obtain ⟨rfl,hg⟩:=Prod.mk.inj (Option.some.inj hr)
  obtain ⟨rfl,hg2⟩:=Prod.mk.inj hg
  exact Zss a0 (hA.wt 0 rfl) hg2
 ·cases hr)
def Zdw (b_a0:Option (Option Addr)) (n_a0:Nat) (a0:Array Value):St:=(⟨.a (.l 0) :: .a (.u) :: .a (.v (.slice none 0 0)) :: .a (.l 3) :: .a (.i .i64 (0:Int)) :: .a (.l 0) :: .a (.i .i64 (n_a0:Int)) :: .a (.l 3)::us 15 ([]),[.sl (.came b_a0) n_a0 a0 101,.no,.no,.sl .own ((n_a0:Int).toNat) (madeCells (zc PZ 95) ((n_a0:Int).toNat*3)) 95,.no],[]⟩:St)
def Ze5 (n_a0:Nat):Int×Array Value→LS
 | (y0_4,r0_3)=>([.a (.i .i64 (y0_4))],[.sl .own ((n_a0:Int).toNat) r0_3 95])
def Zi3 (n_a0:Nat):Int×Array Value→Exit×LS
 | t=>((.exit 0),(Ze5 n_a0) t)
def Zb9 (P : Program) (b_a0 : Option (Option Addr)) (n_a0 : Nat) (a0 : Array Value) : Int × Array Value → Option (Stp (Int × Array Value) (Int × Array Value))
 | (y0_4, r0_3) => bif decide (y0_4 < (n_a0 : Int)) then (bif (decide (0 ≤ y0_4) && decide (y0_4 < (n_a0 : Int))) then (bif (decide (0 ≤ y0_4) && decide (y0_4 < (((n_a0 : Int).toNat) : Int))) then (some (.more ((i64.wrap (y0_4 + (1 : Int))), (spl r0_3 ((y0_4).toNat * 3) (a0.extract ((y0_4).toNat * 3) (((y0_4).toNat * 3) + 3)).toList))))
    else (none))
   else (none))
  else (some (.done (y0_4, r0_3)))
theorem Zur (N:Nat) (b_a0:Option (Option Addr)) (n_a0:Nat) (a0:Array Value):∀ t:Int×Array Value,Uah PZ (mkΓ [(45,con Zbh)]) N (cAt (codeOf Tryz.f24) [1,1,0,1,0,0]) (pAt (Uaa (codeOf Tryz.f24) [([4],[3])]).1 [1,1,0,1,0]) [4] [3] (Zdw b_a0 n_a0 a0) ((Ze5 n_a0) t)=mapS (Ze5 n_a0) (Zi3 n_a0) (Zb9 PZ b_a0 n_a0 a0 t):=by
 rintro ⟨y0_4,r0_3⟩
 refine Eq.trans (b:=(bif decide (y0_4<(n_a0:Int)) then (bif (decide (0≤y0_4)&&decide (y0_4<(n_a0:Int))) then (bif (decide (0≤y0_4)&&decide (y0_4<(((n_a0:Int).toNat):Int))) then (some (.more ([.a (.i .i64 (i64.wrap (y0_4+(1:Int))))],[.sl .own ((n_a0:Int).toNat) (spl r0_3 ((y0_4).toNat*3) (a0.extract ((y0_4).toNat*3) (((y0_4).toNat*3)+3)).toList) 95])))
    else (none))
   else (none))
  else (some (.done ((.exit 0),([.a (.i .i64 (y0_4))],[.sl .own ((n_a0:Int).toNat) r0_3 95])))))) (by kernel_rfl) ?_
 simp only [Zb9,Zax,Za0,Zay,Zaz,Ze5,Zi3]
def Zhp (P:Program) (N:Nat) (b_a0:Option (Option Addr)) (n_a0:Nat) (a0:Array Value) (z0_4:Int) (q0_3:Array Value):Option (SV×Eff×Bool):=some (.a .x,.newS none ((n_a0:Int).toNat) q0_3 95,true)
theorem Znp (N:Nat) (b_a0:Option (Option Addr)) (n_a0:Nat) (a0:Array Value) (z0_4:Int) (q0_3:Array Value):(Uac 0 (kSeq (veC PZ (mkΓ [(45,con Zbh)]) N (cAt (codeOf Tryz.f24) [1,1,1]) (pAt (Uaa (codeOf Tryz.f24) [([4],[3])]).1 [1,1,1]) (SV×Eff×Bool)) (finK PZ [.sl (.came b_a0) n_a0 a0 101] [.tmp 2]))) (.exit 0) (left (writes (cAt (codeOf Tryz.f24) [1,1,0,1,0,0])) [4] [3] (Zdw b_a0 n_a0 a0) ([.a (.i .i64 (z0_4))],[.sl .own ((n_a0:Int).toNat) q0_3 95]))=Zhp PZ N b_a0 n_a0 a0 z0_4 q0_3:=by
 refine Eq.trans (b:=(some (.a .x,.newS none ((n_a0:Int).toNat) q0_3 95,true))) (by kernel_rfl) ?_
 rfl
theorem Zvk (N:Nat) (b_a0:Option (Option Addr)) (n_a0:Nat) (a0:Array Value):Uaj (Uab (Uah PZ (mkΓ [(45,con Zbh)]) N (cAt (codeOf Tryz.f24) [1,1,0,1,0,0]) (pAt (Uaa (codeOf Tryz.f24) [([4],[3])]).1 [1,1,0,1,0]) [4] [3] (Zdw b_a0 n_a0 a0)) N ([.a (.i .i64 (0:Int))],[.sl .own ((n_a0:Int).toNat) (madeCells (zc PZ 95) ((n_a0:Int).toNat*3)) 95])) (fun e s=>(Uac 0 (kSeq (veC PZ (mkΓ [(45,con Zbh)]) N (cAt (codeOf Tryz.f24) [1,1,1]) (pAt (Uaa (codeOf Tryz.f24) [([4],[3])]).1 [1,1,1]) (SV×Eff×Bool)) (finK PZ [.sl (.came b_a0) n_a0 a0 101] [.tmp 2]))) e (left (writes (cAt (codeOf Tryz.f24) [1,1,0,1,0,0])) [4] [3] (Zdw b_a0 n_a0 a0) s))=Uak (Uab (Zb9 PZ b_a0 n_a0 a0) N ((0:Int),(madeCells (zc PZ 95) ((n_a0:Int).toNat*3)))) (fun x=>Zhp PZ N b_a0 n_a0 a0 x.1 x.2):=by
 refine Zbk (Ze5 n_a0) (Zi3 n_a0) _ _ (Zur N b_a0 n_a0 a0) N ((0:Int),(madeCells (zc PZ 95) ((n_a0:Int).toNat*3))) _ _ ?_
 intro x;exact Znp N b_a0 n_a0 a0 x.1 x.2
theorem Zsz (N:Nat) (b_a0:Option (Option Addr)) (n_a0:Nat) (a0:Array Value):ansV PZ (mkΓ [(45,con Zbh)]) N Tryz.f24 [([4],[3])] [.l 0] [.sl (.came b_a0) n_a0 a0 101]=(bif (decide (0≤(n_a0:Int))&&((n_a0:Int)==(n_a0:Int)&&decide ((bytesOf PZ 95:Int)*(n_a0:Int)≤281474976710656))) then (Uak (Uab (Zb9 PZ b_a0 n_a0 a0) N ((0:Int),(madeCells (zc PZ 95) ((n_a0:Int).toNat*3)))) (fun x=>Zhp PZ N b_a0 n_a0 a0 x.1 x.2))
  else (none)):=by
 refine Eq.trans (b:=(bif (decide (0≤(n_a0:Int))&&((n_a0:Int)==(n_a0:Int)&&decide ((bytesOf PZ 95:Int)*(n_a0:Int)≤281474976710656))) then (Uaj (Uab (Uah PZ (mkΓ [(45,con Zbh)]) N (cAt (codeOf Tryz.f24) [1,1,0,1,0,0]) (pAt (Uaa (codeOf Tryz.f24) [([4],[3])]).1 [1,1,0,1,0]) [4] [3] (Zdw b_a0 n_a0 a0)) N ([.a (.i .i64 (0:Int))],[.sl .own ((n_a0:Int).toNat) (madeCells (zc PZ 95) ((n_a0:Int).toNat*3)) 95])) (fun e s=>(Uac 0 (kSeq (veC PZ (mkΓ [(45,con Zbh)]) N (cAt (codeOf Tryz.f24) [1,1,1]) (pAt (Uaa (codeOf Tryz.f24) [([4],[3])]).1 [1,1,1]) (SV×Eff×Bool)) (finK PZ [.sl (.came b_a0) n_a0 a0 101] [.tmp 2]))) e (left (writes (cAt (codeOf Tryz.f24) [1,1,0,1,0,0])) [4] [3] (Zdw b_a0 n_a0 a0) s)))
  else (none))) (by kernel_rfl) ?_
 simp only [Zvk N b_a0 n_a0 a0]
theorem Zrp (b_a0:Option (Option Addr)) (n_a0:Nat) (a0:Array Value) (h_a0:a0.size=n_a0*(lay PZ 101).length∧(∀ k,k<n_a0→WT PZ 101 (a0.extract (k*(lay PZ 101).length) (k*(lay PZ 101).length+(lay PZ 101).length)))∧n_a0≤9223372036854775807) (hg:(decide (n_a0≤1048576))=true):ansV PZ (mkΓ [(45,con Zbh)]) 18446744073709551616 Tryz.f24 [([4],[3])] [.l 0] [.sl (.came b_a0) n_a0 a0 101]=some (.a .x,.newS none n_a0 a0 95,true):=by
 have hn:n_a0≤1048576:=of_decide_eq_true hg
 have hm:(lay PZ 101).length=3:=by kernel_rfl
 have hb:bytesOf PZ 95=4:=by kernel_rfl
 obtain ⟨s1,s2,s3⟩:=h_a0
 rw [hm] at s1 s2
 have hq:(lay PZ 101)[0]? = some 0:=by kernel_rfl
 refine (Zsz 18446744073709551616 b_a0 n_a0 a0).trans ?_
 have hgd:(decide (0≤(n_a0:Int))&&((n_a0:Int)==(n_a0:Int)&&decide ((bytesOf PZ 95:Int)*(n_a0:Int)≤281474976710656)))=true:=by
  rw [hb,decide_eq_true (show (0:Int)≤n_a0 by omega),beq_self_eq_true,decide_eq_true (show (((4:Nat):Int))*(n_a0:Int)≤281474976710656 by omega)];rfl
 rw [hgd,cond_true]
 have hs:a0.size=(madeCells (zc PZ 95) ((n_a0:Int).toNat*3)).size:=by rw [size_madeCells,Int.toNat_natCast];exact s1
 generalize (madeCells (zc PZ 95) ((n_a0:Int).toNat*3))=Z at hs⊢
 have h:=Ze3 (g:=Zb9 PZ b_a0 n_a0 a0) (fun k=>((k:Int),upto a0 Z (k*3))) (m:=n_a0) (x:=((n_a0:Int),upto a0 Z (n_a0*3))) (N:=18446744073709551616) (fun k hk=>by
  have h1:decide ((k:Int)<(n_a0:Int))=true:=decide_eq_true (by omega)
  have h0:decide (0≤(k:Int))=true:=decide_eq_true (by omega)
  have h3:i64.wrap ((k:Int)+1)=((k+1:Nat):Int):=by rw [IntWalk.i64_in _ (by omega)];omega
  have h5:spl (upto a0 Z (k*3)) (k*3) (a0.extract (k*3) (k*3+3)).toList=upto a0 Z ((k+1)*3):=by
   rw [Nat.add_mul];exact Zzv hs (by have:(k+1)*3≤n_a0*3:=Nat.mul_le_mul_right _ hk;omega) rfl
  simp only [Zb9,h1,h0,Bool.and_self,Int.toNat_natCast,cond_true,h3,h5]) (by
  have h1:decide ((n_a0:Int)<(n_a0:Int))=false:=decide_eq_false (by omega)
  simp only [Zb9,h1,cond_false]) (by omega)
 rw [Zvc hs s1] at h
 simp only [Nat.zero_mul,Zqw hs] at h
 have h':Uab (Zb9 PZ b_a0 n_a0 a0) 18446744073709551616 ((0:Int),Z)=some ((n_a0:Int),a0):=h
 rw [h']
 show some (_,Eff.newS none ((n_a0:Int).toNat) a0 95,true)=_
 rw [Int.toNat_natCast]
def Zf3:Con:=fun args h=>match args,h with
 | [.l 0],[.sl (.came b_a0) n_a0 a0 101]=>some (.a .x,.newS none n_a0 a0 95,decide (n_a0≤1048576))
 | _,_=>none
theorem Zqx:EntX PZ 24:=Zaf (fn:=Tryz.f24) (by kernel_rfl) (by kernel_rfl) (by kernel_rfl)
theorem Zve:Uad (md F) PZ 24 Zf3:=(Zah (N:=18446744073709551616) (by kernel_rfl) (mkΓ_consX (Zad Zwr) Zr4 mkΓ_nilX) (fn:=Tryz.f24) (by kernel_rfl) (by kernel_rfl) [([4],[3])]).of (by
 intro ρ h w args vals r e hA hH hr
 unfold Zf3 at hr
 split at hr
 ·rename_i b_a0 n_a0 a0
  obtain ⟨rfl,hg⟩:=Prod.mk.inj (Option.some.inj hr)
  obtain ⟨rfl,hg2⟩:=Prod.mk.inj hg
  exact Zrp b_a0 n_a0 a0 (hH.slw 0 rfl) hg2
 ·cases hr)
theorem Zut (N:Nat) (a0 a1:Array Value):ansV PZ (mkΓ []) N Tryz.f54 [] [.g a0 95,.g a1 95] []=(bif ((num a0 0) != (num a1 0)) then (some (.a (.b (false)),.none,true))
  else (bif ((num a0 1) != (num a1 1)) then (some (.a (.b (false)),.none,true))
   else (bif ((num a0 2) != (num a1 2)) then (some (.a (.b (false)),.none,true))
    else (some (.a (.b (true)),.none,true))))):=by kernel_rfl
theorem Zs2 (a0 a1:Array Value) (h_a0:WT PZ 95 a0) (h_a1:WT PZ 95 a1) (hg:(true)=true):ansV PZ (mkΓ []) 1000 Tryz.f54 [] [.g a0 95,.g a1 95] []=some (.a (.b (Uay a0 a1)),.none,true):=by
 have hz:a0.size=3:=by rw [h_a0.layLen];kernel_rfl
 have hy:a1.size=3:=by rw [h_a1.layLen];kernel_rfl
 refine (Zut 1000 a0 a1).trans ?_
 cases hb:Uay a0 a1
 ·have hne:=Yhp.1 hb
  cases h0:(num a0 0 != num a1 0)
  ·skip
   cases h1:(num a0 1 != num a1 1)
   ·skip
    cases h2:(num a0 2 != num a1 2)
    ·skip
     exfalso
     refine hne (Zgq fun i=> ?_)
     by_cases c0:i=0
     ·subst c0
      rw [(h_a0.int (k:=.i8) (o:=0) (by kernel_rfl)).1,(h_a1.int (k:=.i8) (o:=0) (by kernel_rfl)).1,Yld h0]
     by_cases c1:i=1
     ·subst c1
      rw [(h_a0.int (k:=.i8) (o:=1) (by kernel_rfl)).1,(h_a1.int (k:=.i8) (o:=1) (by kernel_rfl)).1,Yld h1]
     by_cases c2:i=2
     ·subst c2
      rw [(h_a0.int (k:=.i16) (o:=2) (by kernel_rfl)).1,(h_a1.int (k:=.i16) (o:=2) (by kernel_rfl)).1,Yld h2]
     rw [Array.getElem?_eq_none (by omega),Array.getElem?_eq_none (by omega)]
    ·rfl
   ·rfl
  ·rfl
 ·rw [Zjy.1 hb]
  simp only [bne_self_eq_false,cond_false,Zq6,Bool.not_true]
def Za5:Con:=fun args h=>match args,h with
 | [.g a0 95,.g a1 95],[]=>some (.a (.b (Uay a0 a1)),.none,true)
 | _,_=>none
theorem Zrs:EntX PZ 54:=Zaf (fn:=Tryz.f54) (by kernel_rfl) (by kernel_rfl) (by kernel_rfl)
theorem Zwe:Uad (md F) PZ 54 Za5:=(Zah (N:=1000) (by kernel_rfl) mkΓ_nilX (fn:=Tryz.f54) (by kernel_rfl) (by kernel_rfl) []).of (by
 intro ρ h w args vals r e hA hH hr
 unfold Za5 at hr
 split at hr
 ·rename_i a0 a1
  obtain ⟨rfl,hg⟩:=Prod.mk.inj (Option.some.inj hr)
  obtain ⟨rfl,hg2⟩:=Prod.mk.inj hg
  exact Zs2 a0 a1 (hA.wt 0 rfl) (hA.wt 1 rfl) hg2
 ·cases hr)
def Zcv (b_a0:Option (Option Addr)) (n_a0:Nat) (a0:Array Value) (b_a1:Option (Option Addr)) (n_a1:Nat) (a1:Array Value):St:=(⟨.a (.l 0) :: .a (.l 1) :: .a (.u) :: .a (.u) :: .a (.b (false)) :: .a (.i .i64 (0:Int)) :: .a (.l 0) :: .a (.i .i64 (n_a0:Int)) :: .a (.l 1) :: .a (.i .i64 (n_a1:Int)) :: .a (.b (((n_a0:Int) != (n_a1:Int))))::us 16 ([]),[.sl (.came b_a0) n_a0 a0 95,.sl (.came b_a1) n_a1 a1 95],[]⟩:St)
def Zdu:Bool×Int→LS
 | (y0_4,y0_5)=>([.a (.b (y0_4)),.a (.i .i64 (y0_5))],[])
def Zin:(Stp (Bool×Int) (Bool×Int))→Exit×LS
 | .more t=>(.ret,Zdu t)
 | .done t=>((.exit 0),Zdu t)
def Zcb (P : Program) (b_a0 : Option (Option Addr)) (n_a0 : Nat) (a0 : Array Value) (b_a1 : Option (Option Addr)) (n_a1 : Nat) (a1 : Array Value) : Bool × Int → Option (Stp (Bool × Int) (Stp (Bool × Int) (Bool × Int)))
 | (y0_4, y0_5) => bif decide (y0_5 < (n_a0 : Int)) then (bif (decide (0 ≤ y0_5) && decide (y0_5 < (n_a0 : Int))) then (bif (decide (0 ≤ y0_5) && decide (y0_5 < (n_a1 : Int))) then (bif (!(Uay (a0.extract ((y0_5).toNat * 3) (((y0_5).toNat * 3) + 3)) (a1.extract ((y0_5).toNat * 3) (((y0_5).toNat * 3) + 3)))) then (some (.done (.more (false, y0_5))))
     else (some (.more (y0_4, (i64.wrap (y0_5 + (1 : Int)))))))
    else (none))
   else (none))
  else (some (.done (.done (y0_4, y0_5))))
theorem Zvs (N:Nat) (b_a0:Option (Option Addr)) (n_a0:Nat) (a0:Array Value) (b_a1:Option (Option Addr)) (n_a1:Nat) (a1:Array Value):∀ t:Bool×Int,Uah PZ (mkΓ [(54,con Za5)]) N (cAt (codeOf Tryz.f31) [1,1,0,1,0,0]) (pAt (Uaa (codeOf Tryz.f31) [([4,5],[])]).1 [1,1,0,1,0]) [4,5] [] (Zcv b_a0 n_a0 a0 b_a1 n_a1 a1) (Zdu t)=mapS Zdu Zin (Zcb PZ b_a0 n_a0 a0 b_a1 n_a1 a1 t):=by
 rintro ⟨y0_4,y0_5⟩
 refine Eq.trans (b:=(bif decide (y0_5<(n_a0:Int)) then (bif (decide (0≤y0_5)&&decide (y0_5<(n_a0:Int))) then (bif (decide (0≤y0_5)&&decide (y0_5<(n_a1:Int))) then (bif (!(Uay (a0.extract ((y0_5).toNat*3) (((y0_5).toNat*3)+3)) (a1.extract ((y0_5).toNat*3) (((y0_5).toNat*3)+3)))) then (some (.done (.ret,([.a (.b (false)),.a (.i .i64 (y0_5))],[]))))
     else (some (.more ([.a (.b (y0_4)),.a (.i .i64 (i64.wrap (y0_5+(1:Int))))],[]))))
    else (none))
   else (none))
  else (some (.done ((.exit 0),([.a (.b (y0_4)),.a (.i .i64 (y0_5))],[])))))) (by kernel_rfl) ?_
 simp only [Zcb,Zax,Za0,Zay,Zaz,Zdu,Zin]
def Zhh (P:Program) (N:Nat) (b_a0:Option (Option Addr)) (n_a0:Nat) (a0:Array Value) (b_a1:Option (Option Addr)) (n_a1:Nat) (a1:Array Value) (z0_4:Bool) (z0_5:Int):Option (SV×Eff×Bool):=some (.a (.b (z0_4)),.none,true)
theorem Zns (N:Nat) (b_a0:Option (Option Addr)) (n_a0:Nat) (a0:Array Value) (b_a1:Option (Option Addr)) (n_a1:Nat) (a1:Array Value) (z0_4:Bool) (z0_5:Int):(Uac 0 (kSeq (veC PZ (mkΓ [(54,con Za5)]) N (cAt (codeOf Tryz.f31) [1,1,1]) (pAt (Uaa (codeOf Tryz.f31) [([4,5],[])]).1 [1,1,1]) (SV×Eff×Bool)) (finK PZ [.sl (.came b_a0) n_a0 a0 95,.sl (.came b_a1) n_a1 a1 95] [.tmp 4]))) .ret (left (writes (cAt (codeOf Tryz.f31) [1,1,0,1,0,0])) [4,5] [] (Zcv b_a0 n_a0 a0 b_a1 n_a1 a1) ([.a (.b (z0_4)),.a (.i .i64 (z0_5))],[]))=Zhh PZ N b_a0 n_a0 a0 b_a1 n_a1 a1 z0_4 z0_5:=by
 refine Eq.trans (b:=(some (.a (.b (z0_4)),.none,true))) (by kernel_rfl) ?_
 rfl
def Zhl (P:Program) (N:Nat) (b_a0:Option (Option Addr)) (n_a0:Nat) (a0:Array Value) (b_a1:Option (Option Addr)) (n_a1:Nat) (a1:Array Value) (z0_4:Bool) (z0_5:Int):Option (SV×Eff×Bool):=some (.a (.b (true)),.none,true)
theorem Znu (N:Nat) (b_a0:Option (Option Addr)) (n_a0:Nat) (a0:Array Value) (b_a1:Option (Option Addr)) (n_a1:Nat) (a1:Array Value) (z0_4:Bool) (z0_5:Int):(Uac 0 (kSeq (veC PZ (mkΓ [(54,con Za5)]) N (cAt (codeOf Tryz.f31) [1,1,1]) (pAt (Uaa (codeOf Tryz.f31) [([4,5],[])]).1 [1,1,1]) (SV×Eff×Bool)) (finK PZ [.sl (.came b_a0) n_a0 a0 95,.sl (.came b_a1) n_a1 a1 95] [.tmp 4]))) (.exit 0) (left (writes (cAt (codeOf Tryz.f31) [1,1,0,1,0,0])) [4,5] [] (Zcv b_a0 n_a0 a0 b_a1 n_a1 a1) ([.a (.b (z0_4)),.a (.i .i64 (z0_5))],[]))=Zhl PZ N b_a0 n_a0 a0 b_a1 n_a1 a1 z0_4 z0_5:=by
 refine Eq.trans (b:=(some (.a (.b (true)),.none,true))) (by kernel_rfl) ?_
 rfl
theorem Ztv (N:Nat) (b_a0:Option (Option Addr)) (n_a0:Nat) (a0:Array Value) (b_a1:Option (Option Addr)) (n_a1:Nat) (a1:Array Value):Uaj (Uab (Uah PZ (mkΓ [(54,con Za5)]) N (cAt (codeOf Tryz.f31) [1,1,0,1,0,0]) (pAt (Uaa (codeOf Tryz.f31) [([4,5],[])]).1 [1,1,0,1,0]) [4,5] [] (Zcv b_a0 n_a0 a0 b_a1 n_a1 a1)) N ([.a (.b (false)),.a (.i .i64 (0:Int))],[])) (fun e s=>(Uac 0 (kSeq (veC PZ (mkΓ [(54,con Za5)]) N (cAt (codeOf Tryz.f31) [1,1,1]) (pAt (Uaa (codeOf Tryz.f31) [([4,5],[])]).1 [1,1,1]) (SV×Eff×Bool)) (finK PZ [.sl (.came b_a0) n_a0 a0 95,.sl (.came b_a1) n_a1 a1 95] [.tmp 4]))) e (left (writes (cAt (codeOf Tryz.f31) [1,1,0,1,0,0])) [4,5] [] (Zcv b_a0 n_a0 a0 b_a1 n_a1 a1) s))=Uak (Uab (Zcb PZ b_a0 n_a0 a0 b_a1 n_a1 a1) N (false,(0:Int))) (st2 (fun x=>Zhh PZ N b_a0 n_a0 a0 b_a1 n_a1 a1 x.1 x.2) (fun x=>Zhl PZ N b_a0 n_a0 a0 b_a1 n_a1 a1 x.1 x.2)):=by
 refine Zbk Zdu Zin _ _ (Zvs N b_a0 n_a0 a0 b_a1 n_a1 a1) N (false,(0:Int)) _ _ ?_
 intro x
 cases x with
 | more x=>exact Zns N b_a0 n_a0 a0 b_a1 n_a1 a1 x.1 x.2
 | done x=>exact Znu N b_a0 n_a0 a0 b_a1 n_a1 a1 x.1 x.2
theorem Zsv (N:Nat) (b_a0:Option (Option Addr)) (n_a0:Nat) (a0:Array Value) (b_a1:Option (Option Addr)) (n_a1:Nat) (a1:Array Value):ansV PZ (mkΓ [(54,con Za5)]) N Tryz.f31 [([4,5],[])] [.l 0,.l 1] [.sl (.came b_a0) n_a0 a0 95,.sl (.came b_a1) n_a1 a1 95]=(bif ((n_a0:Int) != (n_a1:Int)) then (some (.a (.b (false)),.none,true))
  else (Uak (Uab (Zcb PZ b_a0 n_a0 a0 b_a1 n_a1 a1) N (false,(0:Int))) (st2 (fun x=>Zhh PZ N b_a0 n_a0 a0 b_a1 n_a1 a1 x.1 x.2) (fun x=>Zhl PZ N b_a0 n_a0 a0 b_a1 n_a1 a1 x.1 x.2)))):=by
 refine Eq.trans (b:=(bif ((n_a0:Int) != (n_a1:Int)) then (some (.a (.b (false)),.none,true))
  else (Uaj (Uab (Uah PZ (mkΓ [(54,con Za5)]) N (cAt (codeOf Tryz.f31) [1,1,0,1,0,0]) (pAt (Uaa (codeOf Tryz.f31) [([4,5],[])]).1 [1,1,0,1,0]) [4,5] [] (Zcv b_a0 n_a0 a0 b_a1 n_a1 a1)) N ([.a (.b (false)),.a (.i .i64 (0:Int))],[])) (fun e s=>(Uac 0 (kSeq (veC PZ (mkΓ [(54,con Za5)]) N (cAt (codeOf Tryz.f31) [1,1,1]) (pAt (Uaa (codeOf Tryz.f31) [([4,5],[])]).1 [1,1,1]) (SV×Eff×Bool)) (finK PZ [.sl (.came b_a0) n_a0 a0 95,.sl (.came b_a1) n_a1 a1 95] [.tmp 4]))) e (left (writes (cAt (codeOf Tryz.f31) [1,1,0,1,0,0])) [4,5] [] (Zcv b_a0 n_a0 a0 b_a1 n_a1 a1) s))))) (by kernel_rfl) ?_
 simp only [Ztv N b_a0 n_a0 a0 b_a1 n_a1 a1]
theorem Zrw (b_a0:Option (Option Addr)) (n_a0:Nat) (a0:Array Value) (b_a1:Option (Option Addr)) (n_a1:Nat) (a1:Array Value) (h_a0:a0.size=n_a0*(lay PZ 95).length∧(∀ k,k<n_a0→WT PZ 95 (a0.extract (k*(lay PZ 95).length) (k*(lay PZ 95).length+(lay PZ 95).length)))∧n_a0≤9223372036854775807) (h_a1:a1.size=n_a1*(lay PZ 95).length∧(∀ k,k<n_a1→WT PZ 95 (a1.extract (k*(lay PZ 95).length) (k*(lay PZ 95).length+(lay PZ 95).length)))∧n_a1≤9223372036854775807) (hg:(true)=true):ansV PZ (mkΓ [(54,con Za5)]) 18446744073709551616 Tryz.f31 [([4,5],[])] [.l 0,.l 1] [.sl (.came b_a0) n_a0 a0 95,.sl (.came b_a1) n_a1 a1 95]=some (.a (.b ((decide (n_a0=n_a1)&&Uay a0 a1))),.none,true):=by
 have hm:(lay PZ 95).length=3:=by kernel_rfl
 obtain ⟨s1,s2,s3⟩:=h_a0
 obtain ⟨t1,t2,t3⟩:=h_a1
 rw [hm] at s1 s2 t1 t2
 have hq:(lay PZ 95)[0]? = some 0:=by kernel_rfl
 refine (Zsv 18446744073709551616 b_a0 n_a0 a0 b_a1 n_a1 a1).trans ?_
 by_cases hl:n_a0=n_a1
 case neg=>
  rw [decide_eq_false hl,show ((n_a0:Int) != (n_a1:Int))=true from bne_iff_ne.2 (by omega)]
  rfl
 subst hl
 rw [decide_eq_true rfl,show ((n_a0:Int) != (n_a0:Int))=false from bne_self_eq_false _]
 simp only [cond_false,Bool.true_and]
 have hb:Uay a0 a1=true ↔ ∀ k,k<n_a0→(fun k=>Uay (a0.extract (k*3) (k*3+3)) (a1.extract (k*3) (k*3+3))) k=true:=by
  constructor
  ·intro h k hk
   rw [Zjy.1 h]
   exact Zq6 _
  ·intro h
   refine Zjy.2 ?_
   exact Yfk (n:=n_a0) (m:=3) (by omega) s1 t1 (fun k hk=>Zjy.1 (h k hk))
 refine (Zxx (g:=Zcb PZ b_a0 n_a0 a0 b_a1 n_a0 a1) (fun k=>(false,(k:Int))) (fun k=>Uay (a0.extract (k*3) (k*3+3)) (a1.extract (k*3) (k*3+3))) n_a0 (N:=18446744073709551616) (xd:=.done (false,(n_a0:Int))) (by omega) (fun k hk hp=>by
  have h1:decide ((k:Int)<(n_a0:Int))=true:=decide_eq_true (by omega)
  have h0:decide (0≤(k:Int))=true:=decide_eq_true (by omega)
  have h3:i64.wrap ((k:Int)+1)=((k+1:Nat):Int):=by rw [IntWalk.i64_in _ (by omega)];omega
  have hp':Uay (a0.extract (k*3) (k*3+3)) (a1.extract (k*3) (k*3+3))=true:=hp
  simp only [Zcb,h1,h0,Bool.and_self,Int.toNat_natCast,cond_true,h3,hp',Bool.not_true,cond_false]) (by
  have h1:decide ((n_a0:Int)<(n_a0:Int))=false:=decide_eq_false (by omega)
  simp only [Zcb,h1,cond_false]) (Uay a0 a1) hb (some (.a (.b true),.none,true)) (some (.a (.b false),.none,true)) rfl (fun k hk hp=>by
  refine ⟨.more (false,(k:Int)), ?_,rfl⟩
  have h1:decide ((k:Int)<(n_a0:Int))=true:=decide_eq_true (by omega)
  have h0:decide (0≤(k:Int))=true:=decide_eq_true (by omega)
  have hp':Uay (a0.extract (k*3) (k*3+3)) (a1.extract (k*3) (k*3+3))=false:=hp
  simp only [Zcb,h1,h0,Bool.and_self,Int.toNat_natCast,cond_true,hp',Bool.not_false])).trans ?_
 cases Uay a0 a1<;>rfl
def Zfz:Con:=fun args h=>match args,h with
 | [.l 0,.l 1],[.sl (.came b_a0) n_a0 a0 95,.sl (.came b_a1) n_a1 a1 95]=>some (.a (.b ((decide (n_a0=n_a1)&&Uay a0 a1))),.none,true)
 | _,_=>none
theorem Zqr:EntX PZ 31:=Zaf (fn:=Tryz.f31) (by kernel_rfl) (by kernel_rfl) (by kernel_rfl)
theorem Zuk:Uad (md F) PZ 31 Zfz:=(Zah (N:=18446744073709551616) (by kernel_rfl) (mkΓ_consX (Zad Zwe) Zrs mkΓ_nilX) (fn:=Tryz.f31) (by kernel_rfl) (by kernel_rfl) [([4,5],[])]).of (by
 intro ρ h w args vals r e hA hH hr
 unfold Zfz at hr
 split at hr
 ·rename_i b_a0 n_a0 a0 b_a1 n_a1 a1
  obtain ⟨rfl,hg⟩:=Prod.mk.inj (Option.some.inj hr)
  obtain ⟨rfl,hg2⟩:=Prod.mk.inj hg
  exact Zrw b_a0 n_a0 a0 b_a1 n_a1 a1 (hH.slw 0 rfl) (hH.slw 1 rfl) hg2
 ·cases hr)
theorem Ztn (N:Nat) (a1:Int) (b_a0:Option (Option Addr)) (n_a0:Nat) (a0:Array Value):ansV PZ (mkΓ []) N Tryz.f17 [] [.l 0,.i .i64 (a1)] [.sl (.came b_a0) n_a0 a0 101]=(bif decide ((i64.wrap (a1 - (n_a0:Int)))<(0:Int)) then (some (.a (.i .i64 (-1:Int)),.none,true))
  else (some (.a (.i .i64 (i64.wrap (a1 - (n_a0:Int)))),.none,true))):=by kernel_rfl
def Zby (a1:Int) (b_a0:Option (Option Addr)) (n_a0:Nat) (a0:Array Value):Int:=(bif decide ((i64.wrap (a1 - (n_a0:Int)))<(0:Int)) then (-1:Int) else (i64.wrap (a1 - (n_a0:Int))))
theorem Zsb (a1:Int) (b_a0:Option (Option Addr)) (n_a0:Nat) (a0:Array Value) (h_a1:i64.min≤a1∧a1≤i64.max) (h_a0:a0.size=n_a0*(lay PZ 101).length∧(∀ k,k<n_a0→WT PZ 101 (a0.extract (k*(lay PZ 101).length) (k*(lay PZ 101).length+(lay PZ 101).length)))∧n_a0≤9223372036854775807) (hg:(true)=true):ansV PZ (mkΓ []) 1000 Tryz.f17 [] [.l 0,.i .i64 (a1)] [.sl (.came b_a0) n_a0 a0 101]=some (.a (.i .i64 (Zby a1 b_a0 n_a0 a0)),.none,true):=by
 refine (Ztn 1000 a1 b_a0 n_a0 a0).trans ?_
 unfold Zby
 revert hg
 generalize (decide ((i64.wrap (a1 - (n_a0:Int)))<(0:Int)))=b2
 intro hg
 cases b2
 ·skip
  first | (simp only [cond_true,cond_false,Bool.and_true,Bool.true_and,Bool.and_false,Bool.false_and];done) | rfl | exact (nomatch (hg:false=true))
 ·skip
  first | (simp only [cond_true,cond_false,Bool.and_true,Bool.true_and,Bool.and_false,Bool.false_and];done) | rfl | exact (nomatch (hg:false=true))
def Zf2:Con:=fun args h=>match args,h with
 | [.l 0,.i .i64 a1],[.sl (.came b_a0) n_a0 a0 101]=>some (.a (.i .i64 (Zby a1 b_a0 n_a0 a0)),.none,true)
 | _,_=>none
theorem Zqd:EntX PZ 17:=Zaf (fn:=Tryz.f17) (by kernel_rfl) (by kernel_rfl) (by kernel_rfl)
theorem Ztw:Uad (md F) PZ 17 Zf2:=(Zah (N:=1000) (by kernel_rfl) mkΓ_nilX (fn:=Tryz.f17) (by kernel_rfl) (by kernel_rfl) []).of (by
 intro ρ h w args vals r e hA hH hr
 unfold Zf2 at hr
 split at hr
 ·rename_i a1 b_a0 n_a0 a0
  obtain ⟨rfl,hg⟩:=Prod.mk.inj (Option.some.inj hr)
  obtain ⟨rfl,hg2⟩:=Prod.mk.inj hg
  exact Zsb a1 b_a0 n_a0 a0 (hA.rng 1 rfl) (hH.slw 0 rfl) hg2
 ·cases hr)
theorem Yaq (N:Nat) (a0:Array Value) (bS:Option (Option Addr)) (n_a0x2:Nat) (aS:Array Value):ansV PZ (mkΓ [(24,con Zf3)]) N Tryz.f9 [] [.r a0 31 [(2,0)]] [.sl (.came bS) n_a0x2 aS 101]=(bif decide (n_a0x2≤1048576) then (some (.a (.r #[.int .i8 (num a0 0),.int .i8 (num a0 1),.slice none 0 0] 45 [(2,HOLE)]),.newS (some 1000000) n_a0x2 aS 95,true))
  else (none)):=by kernel_rfl
theorem Zyi (a0:Array Value) (bS:Option (Option Addr)) (n_a0x2:Nat) (aS:Array Value) (h_a0:WT PZ 31 a0) (h_a0x2:aS.size=n_a0x2*(lay PZ 101).length∧(∀ k,k<n_a0x2→WT PZ 101 (aS.extract (k*(lay PZ 101).length) (k*(lay PZ 101).length+(lay PZ 101).length)))∧n_a0x2≤9223372036854775807) (hg:(decide (n_a0x2≤1048576))=true):ansV PZ (mkΓ [(24,con Zf3)]) 1000 Tryz.f9 [] [.r a0 31 [(2,0)]] [.sl (.came bS) n_a0x2 aS 101]=some (.a (.r a0 45 [(2,HOLE)]),.newS (some 1000000) n_a0x2 aS 95,true):=by
 have hz:a0.size=3:=by rw [h_a0.layLen];kernel_rfl
 have e0:=(h_a0.int (o:=0) (k:=.i8) (by kernel_rfl)).1
 have e1:=(h_a0.int (o:=1) (k:=.i8) (by kernel_rfl)).1
 have e2:=h_a0.nil (o:=2) (by kernel_rfl)
 have he:(#[.int .i8 (num a0 0),.int .i8 (num a0 1),.slice none 0 0]:Array Value)=a0:=Zgq fun i=>by
  match i with
  | 0=>exact e0.symm
  | 1=>exact e1.symm
  | 2=>exact e2.symm
  | i+3=>rw [Array.getElem?_eq_none (by simp),Array.getElem?_eq_none (by omega)]
 refine (Yaq 1000 a0 bS n_a0x2 aS).trans ?_
 rw [hg,he]
 rfl
def Zlq:Con:=fun args h=>match args,h with
 | [.r a0 31 [(2,0)]],[.sl (.came bS) n_a0x2 aS 101]=>some (.a (.r a0 45 [(2,HOLE)]),.newS (some 1000000) n_a0x2 aS 95,decide (n_a0x2≤1048576))
 | _,_=>none
theorem Zww:EntX PZ 9:=Zaf (fn:=Tryz.f9) (by kernel_rfl) (by kernel_rfl) (by kernel_rfl)
theorem Ycr:Uad (md F) PZ 9 Zlq:=(Zah (N:=1000) (by kernel_rfl) (mkΓ_consX (Zad Zve) Zqx mkΓ_nilX) (fn:=Tryz.f9) (by kernel_rfl) (by kernel_rfl) []).of (by
 intro ρ h w args vals r e hA hH hr
 unfold Zlq at hr
 split at hr
 ·rename_i a0 bS n_a0x2 aS
  obtain ⟨rfl,hg⟩:=Prod.mk.inj (Option.some.inj hr)
  obtain ⟨rfl,hg2⟩:=Prod.mk.inj hg
  exact Zyi a0 bS n_a0x2 aS (hA.wtr 0 rfl) (hH.slw 0 rfl) hg2
 ·cases hr)
theorem Yaf (N:Nat) (a0 a1:Array Value) (bS:Option (Option Addr)) (n_a0x2:Nat) (aS:Array Value) (bQ:Option (Option Addr)) (nQ:Nat) (aQ:Array Value):ansV PZ (mkΓ [(31,con Zfz)]) N Tryz.f12 [] [.r a0 45 [(2,0)],.r a1 45 [(2,1)]] [.sl (.came bS) n_a0x2 aS 95,.sl (.came bQ) nQ aQ 95]=(bif ((num a0 0) != (num a1 0)) then (some (.a (.b (false)),.none,true))
  else (bif ((num a0 1) != (num a1 1)) then (some (.a (.b (false)),.none,true))
   else (bif (!((decide (n_a0x2=nQ)&&Uay aS aQ))) then (some (.a (.b (false)),.none,true))
    else (some (.a (.b (true)),.none,true))))):=by kernel_rfl
def Zee (a0 a1:Array Value) (bS:Option (Option Addr)) (n_a0x2:Nat) (aS:Array Value) (bQ:Option (Option Addr)) (nQ:Nat) (aQ:Array Value):Bool:=(bif ((num a0 0) != (num a1 0)) then false else (bif ((num a0 1) != (num a1 1)) then false else (bif (!((decide (n_a0x2=nQ)&&Uay aS aQ))) then false else true)))
theorem Zzb (a0 a1:Array Value) (bS:Option (Option Addr)) (n_a0x2:Nat) (aS:Array Value) (bQ:Option (Option Addr)) (nQ:Nat) (aQ:Array Value) (h_a0:WT PZ 45 a0) (h_a1:WT PZ 45 a1) (h_a0x2:aS.size=n_a0x2*(lay PZ 95).length∧(∀ k,k<n_a0x2→WT PZ 95 (aS.extract (k*(lay PZ 95).length) (k*(lay PZ 95).length+(lay PZ 95).length)))∧n_a0x2≤9223372036854775807) (h_a1x2:aQ.size=nQ*(lay PZ 95).length∧(∀ k,k<nQ→WT PZ 95 (aQ.extract (k*(lay PZ 95).length) (k*(lay PZ 95).length+(lay PZ 95).length)))∧nQ≤9223372036854775807) (hg:(true)=true):ansV PZ (mkΓ [(31,con Zfz)]) 1000 Tryz.f12 [] [.r a0 45 [(2,0)],.r a1 45 [(2,1)]] [.sl (.came bS) n_a0x2 aS 95,.sl (.came bQ) nQ aQ 95]=some (.a (.b ((Zee a0 a1 bS n_a0x2 aS bQ nQ aQ))),.none,true):=by
 refine (Yaf 1000 a0 a1 bS n_a0x2 aS bQ nQ aQ).trans ?_
 unfold Zee
 revert hg
 generalize (((num a0 0) != (num a1 0)))=b2
 intro hg
 cases b2
 ·skip
  revert hg
  generalize (((num a0 1) != (num a1 1)))=b4
  intro hg
  cases b4
  ·skip
   revert hg
   generalize ((!((decide (n_a0x2=nQ)&&Uay aS aQ))))=b6
   intro hg
   cases b6
   ·skip
    first | (simp only [cond_true,cond_false,Bool.and_true,Bool.true_and,Bool.and_false,Bool.false_and];done) | rfl | exact (nomatch (hg:false=true))
   ·skip
    first | (simp only [cond_true,cond_false,Bool.and_true,Bool.true_and,Bool.and_false,Bool.false_and];done) | rfl | exact (nomatch (hg:false=true))
  ·skip
   first | (simp only [cond_true,cond_false,Bool.and_true,Bool.true_and,Bool.and_false,Bool.false_and];done) | rfl | exact (nomatch (hg:false=true))
 ·skip
  first | (simp only [cond_true,cond_false,Bool.and_true,Bool.true_and,Bool.and_false,Bool.false_and];done) | rfl | exact (nomatch (hg:false=true))
def Zlk:Con:=fun args h=>match args,h with
 | [.r a0 45 [(2,0)],.r a1 45 [(2,1)]],[.sl (.came bS) n_a0x2 aS 95,.sl (.came bQ) nQ aQ 95]=>some (.a (.b ((Zee a0 a1 bS n_a0x2 aS bQ nQ aQ))),.none,true)
 | _,_=>none
theorem Zwt:EntX PZ 12:=Zaf (fn:=Tryz.f12) (by kernel_rfl) (by kernel_rfl) (by kernel_rfl)
theorem Ycj:Uad (md F) PZ 12 Zlk:=(Zah (N:=1000) (by kernel_rfl) (mkΓ_consX (Zad Zuk) Zqr mkΓ_nilX) (fn:=Tryz.f12) (by kernel_rfl) (by kernel_rfl) []).of (by
 intro ρ h w args vals r e hA hH hr
 unfold Zlk at hr
 split at hr
 ·rename_i a0 a1 bS n_a0x2 aS bQ nQ aQ
  obtain ⟨rfl,hg⟩:=Prod.mk.inj (Option.some.inj hr)
  obtain ⟨rfl,hg2⟩:=Prod.mk.inj hg
  exact Zzb a0 a1 bS n_a0x2 aS bQ nQ aQ (hA.wtr 0 rfl) (hA.wtr 1 rfl) (hH.slw 0 rfl) (hH.slw 1 rfl) hg2
 ·cases hr)
theorem Yb1 (N:Nat) (a0:Array Value) (a1:Int) (bS:Option (Option Addr)) (n_a0x2:Nat) (aS:Array Value):ansV PZ (mkΓ [(17,con Zf2)]) N Tryz.f6 [] [.r a0 31 [(2,0)],.i .i64 (a1)] [.sl (.came bS) n_a0x2 aS 101]=(bif decide ((Zby a1 bS n_a0x2 aS)<(0:Int)) then (some (.a (.i .i64 (-1:Int)),.none,true))
  else (some (.a (.i .i64 (Zby a1 bS n_a0x2 aS)),.none,true))):=by kernel_rfl
def Zdo (a0:Array Value) (a1:Int) (bS:Option (Option Addr)) (n_a0x2:Nat) (aS:Array Value):Int:=(bif decide ((Zby a1 bS n_a0x2 aS)<(0:Int)) then (-1:Int) else (Zby a1 bS n_a0x2 aS))
theorem Zy3 (a0:Array Value) (a1:Int) (bS:Option (Option Addr)) (n_a0x2:Nat) (aS:Array Value) (h_a0:WT PZ 31 a0) (h_a1:i64.min≤a1∧a1≤i64.max) (h_a0x2:aS.size=n_a0x2*(lay PZ 101).length∧(∀ k,k<n_a0x2→WT PZ 101 (aS.extract (k*(lay PZ 101).length) (k*(lay PZ 101).length+(lay PZ 101).length)))∧n_a0x2≤9223372036854775807) (hg:(true)=true):ansV PZ (mkΓ [(17,con Zf2)]) 1000 Tryz.f6 [] [.r a0 31 [(2,0)],.i .i64 (a1)] [.sl (.came bS) n_a0x2 aS 101]=some (.a (.i .i64 (Zdo a0 a1 bS n_a0x2 aS)),.none,true):=by
 refine (Yb1 1000 a0 a1 bS n_a0x2 aS).trans ?_
 unfold Zdo
 revert hg
 generalize (decide ((Zby a1 bS n_a0x2 aS)<(0:Int)))=b2
 intro hg
 cases b2
 ·skip
  first | (simp only [cond_true,cond_false,Bool.and_true,Bool.true_and,Bool.and_false,Bool.false_and];done) | rfl | exact (nomatch (hg:false=true))
 ·skip
  first | (simp only [cond_true,cond_false,Bool.and_true,Bool.true_and,Bool.and_false,Bool.false_and];done) | rfl | exact (nomatch (hg:false=true))
def Zld:Con:=fun args h=>match args,h with
 | [.r a0 31 [(2,0)],.i .i64 a1],[.sl (.came bS) n_a0x2 aS 101]=>some (.a (.i .i64 (Zdo a0 a1 bS n_a0x2 aS)),.none,true)
 | _,_=>none
theorem Zw3:EntX PZ 6:=Zaf (fn:=Tryz.f6) (by kernel_rfl) (by kernel_rfl) (by kernel_rfl)
theorem Yc3:Uad (md F) PZ 6 Zld:=(Zah (N:=1000) (by kernel_rfl) (mkΓ_consX (Zad Ztw) Zqd mkΓ_nilX) (fn:=Tryz.f6) (by kernel_rfl) (by kernel_rfl) []).of (by
 intro ρ h w args vals r e hA hH hr
 unfold Zld at hr
 split at hr
 ·rename_i a0 a1 bS n_a0x2 aS
  obtain ⟨rfl,hg⟩:=Prod.mk.inj (Option.some.inj hr)
  obtain ⟨rfl,hg2⟩:=Prod.mk.inj hg
  exact Zy3 a0 a1 bS n_a0x2 aS (hA.wtr 0 rfl) (hA.rng 1 rfl) (hH.slw 0 rfl) hg2
 ·cases hr)
theorem Zv9 (N:Nat) (a0 a1:Array Value) (bQ:Option (Option Addr)) (nQ:Nat) (aQ:Array Value):ansV PZ (mkΓ []) N Tryz.f66 [] [.g a0 41,.r a1 45 [(2,0)]] [.sl (.came bQ) nQ aQ 95]=(some (.a (.r ((spl (spl (zc PZ 71) 0 (#[.int .i64 (i64.wrap (num a1 0)),.int .i64 (i64.wrap (num a1 1))]:Array Value).toList) 2 a0.toList).setIfInBounds 365 (.slice none 0 0)) 71 [(365,0)]),.none,true)):=by kernel_rfl
theorem Zvj (a0 a1:Array Value) (bQ:Option (Option Addr)) (nQ:Nat) (aQ:Array Value) (h_a0:WT PZ 41 a0) (h_a1:WT PZ 45 a1) (h_a1x2:aQ.size=nQ*(lay PZ 95).length∧(∀ k,k<nQ→WT PZ 95 (aQ.extract (k*(lay PZ 95).length) (k*(lay PZ 95).length+(lay PZ 95).length)))∧nQ≤9223372036854775807) (hg:(true)=true):ansV PZ (mkΓ []) 1000 Tryz.f66 [] [.g a0 41,.r a1 45 [(2,0)]] [.sl (.came bQ) nQ aQ 95]=some (.a (.r ((spl (spl (zc PZ 71) 0 (#[.int .i64 (i64.wrap (num a1 0)),.int .i64 (i64.wrap (num a1 1))]:Array Value).toList) 2 a0.toList).setIfInBounds 365 (.slice none 0 0)) 71 [(365,0)]),.none,true):=by
 refine (Zv9 1000 a0 a1 bQ nQ aQ).trans ?_
 rfl
def Zhc:Con:=fun args h=>match args,h with
 | [.g a0 41,.r a1 45 [(2,0)]],[.sl (.came bQ) nQ aQ 95]=>some (.a (.r ((spl (spl (zc PZ 71) 0 (#[.int .i64 (i64.wrap (num a1 0)),.int .i64 (i64.wrap (num a1 1))]:Array Value).toList) 2 a0.toList).setIfInBounds 365 (.slice none 0 0)) 71 [(365,0)]),.none,true)
 | _,_=>none
theorem Zib:EntX PZ 66:=Zaf (fn:=Tryz.f66) (by kernel_rfl) (by kernel_rfl) (by kernel_rfl)
theorem Zkv:Uad (md F) PZ 66 Zhc:=(Zah (N:=1000) (by kernel_rfl) mkΓ_nilX (fn:=Tryz.f66) (by kernel_rfl) (by kernel_rfl) []).of (by
 intro ρ h w args vals r e hA hH hr
 unfold Zhc at hr
 split at hr
 ·rename_i a0 a1 bQ nQ aQ
  obtain ⟨rfl,hg⟩:=Prod.mk.inj (Option.some.inj hr)
  obtain ⟨rfl,hg2⟩:=Prod.mk.inj hg
  exact Zvj a0 a1 bQ nQ aQ (hA.wt 0 rfl) (hA.wtr 1 rfl) (hH.slw 0 rfl) hg2
 ·cases hr)
theorem Zle (N:Nat) (a0:Array Value):ansV PZ (mkΓ [(89,con Zh3)]) N Tryz.f78 [] [.g a0 69] []=(bif (Zdr (num a0 0)) then (bif decide ((num a0 1) ≥ (1:Int)) then (some (.a (.b (decide ((num a0 1)≤(8:Int)))),.none,true))
   else (some (.a (.b (false)),.none,true)))
  else (some (.a (.b (false)),.none,true))):=by kernel_rfl
def Zao (a0:Array Value):Bool:=(bif (Zdr (num a0 0)) then (bif decide ((num a0 1) ≥ (1:Int)) then decide ((num a0 1)≤(8:Int)) else false) else false)
theorem Zk1 (a0:Array Value) (h_a0:WT PZ 69 a0) (hg:(true)=true):ansV PZ (mkΓ [(89,con Zh3)]) 1000 Tryz.f78 [] [.g a0 69] []=some (.a (.b ((Zao a0))),.none,true):=by
 refine (Zle 1000 a0).trans ?_
 unfold Zao
 revert hg
 generalize ((Zdr (num a0 0)))=b2
 intro hg
 cases b2
 ·skip
  first | (simp only [cond_true,cond_false,Bool.and_true,Bool.true_and,Bool.and_false,Bool.false_and];done) | rfl | exact (nomatch (hg:false=true))
 ·skip
  revert hg
  generalize (decide ((num a0 1) ≥ (1:Int)))=b4
  intro hg
  cases b4
  ·skip
   first | (simp only [cond_true,cond_false,Bool.and_true,Bool.true_and,Bool.and_false,Bool.false_and];done) | rfl | exact (nomatch (hg:false=true))
  ·skip
   first | (simp only [cond_true,cond_false,Bool.and_true,Bool.true_and,Bool.and_false,Bool.false_and];done) | rfl | exact (nomatch (hg:false=true))
def Zep:Con:=fun args h=>match args,h with
 | [.g a0 69],[]=>some (.a (.b ((Zao a0))),.none,true)
 | _,_=>none
theorem Zkg:EntX PZ 78:=Zaf (fn:=Tryz.f78) (by kernel_rfl) (by kernel_rfl) (by kernel_rfl)
theorem Zl8:Uad (md F) PZ 78 Zep:=(Zah (N:=1000) (by kernel_rfl) (mkΓ_consX (Zad Yal) Zua mkΓ_nilX) (fn:=Tryz.f78) (by kernel_rfl) (by kernel_rfl) []).of (by
 intro ρ h w args vals r e hA hH hr
 unfold Zep at hr
 split at hr
 ·rename_i a0
  obtain ⟨rfl,hg⟩:=Prod.mk.inj (Option.some.inj hr)
  obtain ⟨rfl,hg2⟩:=Prod.mk.inj hg
  exact Zk1 a0 (hA.wt 0 rfl) hg2
 ·cases hr)
theorem Zou (N:Nat) (a0:Array Value) (a1:Int):ansV PZ (mkΓ []) N Tryz.f92 [] [.g a0 69,.i .i64 (a1)] []=(bif decide (a1 ≥ (0:Int)) then (some (.a (.b (decide (a1<(num a0 1)))),.none,true))
  else (some (.a (.b (false)),.none,true))):=by kernel_rfl
def Zb1 (a0:Array Value) (a1:Int):Bool:=(bif decide (a1 ≥ (0:Int)) then decide (a1<(num a0 1)) else false)
theorem Zn9 (a0:Array Value) (a1:Int) (h_a0:WT PZ 69 a0) (h_a1:i64.min≤a1∧a1≤i64.max) (hg:(true)=true):ansV PZ (mkΓ []) 1000 Tryz.f92 [] [.g a0 69,.i .i64 (a1)] []=some (.a (.b ((Zb1 a0 a1))),.none,true):=by
 refine (Zou 1000 a0 a1).trans ?_
 unfold Zb1
 revert hg
 generalize (decide (a1 ≥ (0:Int)))=b2
 intro hg
 cases b2
 ·skip
  first | (simp only [cond_true,cond_false,Bool.and_true,Bool.true_and,Bool.and_false,Bool.false_and];done) | rfl | exact (nomatch (hg:false=true))
 ·skip
  first | (simp only [cond_true,cond_false,Bool.and_true,Bool.true_and,Bool.and_false,Bool.false_and];done) | rfl | exact (nomatch (hg:false=true))
def Zgd:Con:=fun args h=>match args,h with
 | [.g a0 69,.i .i64 a1],[]=>some (.a (.b ((Zb1 a0 a1))),.none,true)
 | _,_=>none
theorem Znl:EntX PZ 92:=Zaf (fn:=Tryz.f92) (by kernel_rfl) (by kernel_rfl) (by kernel_rfl)
theorem Zqv:Uad (md F) PZ 92 Zgd:=(Zah (N:=1000) (by kernel_rfl) mkΓ_nilX (fn:=Tryz.f92) (by kernel_rfl) (by kernel_rfl) []).of (by
 intro ρ h w args vals r e hA hH hr
 unfold Zgd at hr
 split at hr
 ·rename_i a0 a1
  obtain ⟨rfl,hg⟩:=Prod.mk.inj (Option.some.inj hr)
  obtain ⟨rfl,hg2⟩:=Prod.mk.inj hg
  exact Zn9 a0 a1 (hA.wt 0 rfl) (hA.rng 1 rfl) hg2
 ·cases hr)
theorem land_all {S:Array Value} (hS:WT PZ 41 S) {c:Int} (hc:0≤c∧c≤35):Zau S c=Zcr c S:=by
 obtain ⟨k,rfl⟩:=Int.eq_ofNat_of_zero_le hc.1
 exact land_dry hS (by omega)
def Zlu:Cons:=(mkΓ [(90,con Zh5),(91,con Zeu),(92,con Zgd)])
theorem Zpr (N:Nat) (a0 a1:Array Value) (bR:Option (Option Addr)) (nR:Nat) (aR:Array Value):ansV PZ Zlu N Tryz.f79 [] [.r a0 71 [(365,0)],.g a1 95] [.sl (.came bR) nR aR 95]=(bif (Zaj (a0.extract 2 (2+363)) (i64.wrap (num a1 0))) then (bif decide (0≤(i64.wrap (num a1 0))) then (bif (Zab (a0.extract 2 (2+363)) (i64.wrap (num a1 0))) then (bif (Zb1 (a0.extract 0 (0+2)) (i64.wrap (num a1 1))) then (bif decide ((num a1 2) ≥ (1:Int)) then (some (.a (.b (decide ((num a1 2)≤(200:Int)))),.none,true))
      else (some (.a (.b (false)),.none,true)))
     else (some (.a (.b (false)),.none,true)))
    else (some (.a (.b (false)),.none,true)))
   else (none))
  else (some (.a (.b (false)),.none,true))):=by kernel_rfl
def Zb8 (a0 a1:Array Value) (bR:Option (Option Addr)) (nR:Nat) (aR:Array Value):Bool:=(bif (Zaj (a0.extract 2 (2+363)) (i64.wrap (num a1 0))) then (bif (Zab (a0.extract 2 (2+363)) (i64.wrap (num a1 0))) then (bif (Zb1 (a0.extract 0 (0+2)) (i64.wrap (num a1 1))) then (bif decide ((num a1 2) ≥ (1:Int)) then decide ((num a1 2)≤(200:Int)) else false) else false) else false) else false)
def Zb7 (a0 a1:Array Value) (bR:Option (Option Addr)) (nR:Nat) (aR:Array Value):Bool:=(bif (Zaj (a0.extract 2 (2+363)) (i64.wrap (num a1 0))) then decide (0≤(i64.wrap (num a1 0))) else true)
theorem Zo7 (a0 a1:Array Value) (bR:Option (Option Addr)) (nR:Nat) (aR:Array Value) (h_a0:WT PZ 71 a0) (h_a1:WT PZ 95 a1) (h_a0x365:aR.size=nR*(lay PZ 95).length∧(∀ k,k<nR→WT PZ 95 (aR.extract (k*(lay PZ 95).length) (k*(lay PZ 95).length+(lay PZ 95).length)))∧nR≤9223372036854775807) (hg:((Zb7 a0 a1 bR nR aR))=true):ansV PZ Zlu 1000 Tryz.f79 [] [.r a0 71 [(365,0)],.g a1 95] [.sl (.came bR) nR aR 95]=some (.a (.b ((Zb8 a0 a1 bR nR aR))),.none,true):=by
 refine (Zpr 1000 a0 a1 bR nR aR).trans ?_
 unfold Zb7 at hg
 unfold Zb8
 revert hg
 generalize ((Zaj (a0.extract 2 (2+363)) (i64.wrap (num a1 0))))=b2
 intro hg
 cases b2
 ·skip
  first | (simp only [cond_true,cond_false,Bool.and_true,Bool.true_and,Bool.and_false,Bool.false_and];done) | rfl | exact (nomatch (hg:false=true))
 ·skip
  revert hg
  generalize (decide (0≤(i64.wrap (num a1 0))))=b4
  intro hg
  cases b4
  ·skip
   first | exact (nomatch (hg:false=true)) | (simp only [cond_true,cond_false,Bool.and_true,Bool.true_and,Bool.and_false,Bool.false_and];done) | rfl
  ·skip
   revert hg
   generalize ((Zab (a0.extract 2 (2+363)) (i64.wrap (num a1 0))))=b6
   intro hg
   cases b6
   ·skip
    first | (simp only [cond_true,cond_false,Bool.and_true,Bool.true_and,Bool.and_false,Bool.false_and];done) | rfl | exact (nomatch (hg:false=true))
   ·skip
    revert hg
    generalize ((Zb1 (a0.extract 0 (0+2)) (i64.wrap (num a1 1))))=b8
    intro hg
    cases b8
    ·skip
     first | (simp only [cond_true,cond_false,Bool.and_true,Bool.true_and,Bool.and_false,Bool.false_and];done) | rfl | exact (nomatch (hg:false=true))
    ·skip
     revert hg
     generalize (decide ((num a1 2) ≥ (1:Int)))=b10
     intro hg
     cases b10
     ·skip
      first | (simp only [cond_true,cond_false,Bool.and_true,Bool.true_and,Bool.and_false,Bool.false_and];done) | rfl | exact (nomatch (hg:false=true))
     ·skip
      first | (simp only [cond_true,cond_false,Bool.and_true,Bool.true_and,Bool.and_false,Bool.false_and];done) | rfl | exact (nomatch (hg:false=true))
def Zg0:Con:=fun args h=>match args,h with
 | [.r a0 71 [(365,0)],.g a1 95],[.sl (.came bR) nR aR 95]=>some (.a (.b ((Zb8 a0 a1 bR nR aR))),.none,(Zb7 a0 a1 bR nR aR))
 | _,_=>none
theorem Zok:EntX PZ 79:=Zaf (fn:=Tryz.f79) (by kernel_rfl) (by kernel_rfl) (by kernel_rfl)
theorem Zrz:Uad (md F) PZ 79 Zg0:=(Zah (N:=1000) (by kernel_rfl) (mkΓ_consX (Zad Zp3) Zmi (mkΓ_consX (Zad Zis) Zgl (mkΓ_consX (Zad Zqv) Znl mkΓ_nilX))) (fn:=Tryz.f79) (by kernel_rfl) (by kernel_rfl) []).of (by
 intro ρ h w args vals r e hA hH hr
 unfold Zg0 at hr
 split at hr
 ·rename_i a0 a1 bR nR aR
  obtain ⟨rfl,hg⟩:=Prod.mk.inj (Option.some.inj hr)
  obtain ⟨rfl,hg2⟩:=Prod.mk.inj hg
  exact Zo7 a0 a1 bR nR aR (hA.wtr 0 rfl) (hA.wt 1 rfl) (hH.slw 0 rfl) hg2
 ·cases hr)
def wsum (A:Array Value):Nat→Int
 | 0=>0
 | k+1=>i64.wrap (wsum A k+i64.wrap (num (A.extract (k*3) (k*3+3)) 2))
def relB (S:Array Value) (h:Int) (X:Array Value):Bool:=Zae (i64.wrap (num X 0)) S&&(Zaa (i64.wrap (num X 1)) 0 (i64.wrap (h - 1))&&Zaa (i64.wrap (num X 2)) 1 200)
def Ub7 (S:Array Value) (h:Int) (n:Nat) (A:Array Value):Bool:=(List.range n).all (fun k=>relB S h (A.extract (k*3) (k*3+3)))
theorem Zq4 (S:Array Value) (h:Int) (n:Nat) (A:Array Value):Ub7 S h n A=true ↔ ∀ k,k<n→(fun k=>relB S h (A.extract (k*3) (k*3+3))) k=true:=by
 unfold Ub7
 rw [List.all_eq_true]
 exact ⟨fun h k hk=>h k (List.mem_range.2 hk),fun h k hk=>h k (List.mem_range.1 hk)⟩
def Uar (S p:Array Value) (n:Nat) (A:Array Value):Bool:=Zaa (i64.wrap (num p 0)) 0 1&&(Zaa (i64.wrap (num p 1)) 1 8&&(!decide ((n:Int) > 12)&&(Ub7 S (i64.wrap (num p 1)) n A&&decide (wsum A n≤1000))))
theorem Yb4 {S p:Array Value} (hS:S.size=363):((spl (spl (zc PZ 71) 0 (#[.int .i64 (i64.wrap (num p 0)),.int .i64 (i64.wrap (num p 1))]:Array Value).toList) 2 S.toList).setIfInBounds 365 (.slice none 0 0)).extract 2 (2+363)=S∧((spl (spl (zc PZ 71) 0 (#[.int .i64 (i64.wrap (num p 0)),.int .i64 (i64.wrap (num p 1))]:Array Value).toList) 2 S.toList).setIfInBounds 365 (.slice none 0 0)).extract 0 (0+2)=#[.int .i64 (i64.wrap (num p 0)),.int .i64 (i64.wrap (num p 1))]:=by
 have hz:(zc PZ 71).size=366:=by kernel_rfl
 generalize (zc PZ 71)=Z at hz
 have hl:S.toList.length=363:=by rw [Array.length_toList,hS]
 constructor
 ·refine Array.ext_getElem? fun i=> ?_
  rw [Array.getElem?_extract,Array.getElem?_setIfInBounds,Array.size_setIfInBounds,Zgf _ _ _ (by rw [Zhb,hz,hl];omega),Zhb,Zhb,hz,hl]
  by_cases hi:i<363
  ·rw [if_pos (by omega),if_neg (by omega),if_pos (by omega),Array.getElem?_toList,show 2+i - 2=i by omega]
  ·rw [if_neg (by omega),Array.getElem?_eq_none (by omega)]
 ·refine Array.ext_getElem? fun i=> ?_
  rw [Array.getElem?_extract,Array.getElem?_setIfInBounds,Array.size_setIfInBounds,Zgf _ _ _ (by rw [Zhb,hz,hl];omega),Zgf _ _ _ (by rw [hz];simp),Zhb,Zhb,hz,hl]
  by_cases hi:i<2
  ·rw [if_pos (by omega),if_neg (by omega),if_neg (by omega),if_pos (by simp;omega),Array.getElem?_toList,show 0+i - 0=i by omega]
  ·rw [if_neg (by omega),Array.getElem?_eq_none (by simp;omega)]
theorem takes_eq {S V X:Array Value} {h:Int} {x:Int} (bb:Option (Option Addr)) (n:Nat) (A:Array Value) (hS:WT PZ 41 S) (h1:V.extract 2 (2+363)=S) (h2:V.extract 0 (0+2)=#[.int .i64 x,.int .i64 h]) (hh: -128≤h∧h≤127) (hX:WT PZ 95 X) :
  Zb7 V X bb n A=true∧Zb8 V X bb n A=relB S h X:=by
 obtain ⟨-,b0⟩:=hX.int (o:=0) (k:=.i8) (by kernel_rfl)
 obtain ⟨-,b1⟩:=hX.int (o:=1) (k:=.i8) (by kernel_rfl)
 obtain ⟨-,b2⟩:=hX.int (o:=2) (k:=.i16) (by kernel_rfl)
 have e1:IntKind.i16.min = -32768:=rfl
 have e2:IntKind.i16.max=32767:=rfl
 have w2:i64.wrap (num X 2)=num X 2:=IntWalk.i64_in _ (by omega)
 have w3:i64.wrap (h - 1)=h - 1:=IntWalk.i64_in _ (by omega)
 have w4:num (#[.int .i64 x,.int .i64 h]:Array Value) 1=h:=rfl
 unfold Zb7 Zb8 relB Zae Zaa Zb1
 rw [h1,h2,Ymh,w2,w3,w4]
 cases hi:Za1 (i64.wrap (num X 0)) S with
 | false=>exact ⟨rfl,rfl⟩
 | true=>
  have hr:=Yjl hi
  refine ⟨decide_eq_true hr.1, ?_⟩
  unfold Zab
  rw [land_all hS hr]
  have e3:decide (i64.wrap (num X 1)<h)=decide (i64.wrap (num X 1)≤h - 1):=decide_eq_decide.2 (by omega)
  rw [e3]
  cases Zcr (i64.wrap (num X 0)) S<;>cases decide (i64.wrap (num X 1) ≥ 0)<;>cases decide (i64.wrap (num X 1)≤h - 1)<;>cases decide (num X 2 ≥ 1)<;>cases decide (num X 2≤200)<;>rfl
def Zcd (a0:Array Value) (bR:Option (Option Addr)) (nR:Nat) (aR:Array Value):St:=(⟨.a (.r a0 71 [(365,0)]) :: .a (.w 1) :: .a (.i .i64 (0:Int)) :: .a (.i .i64 (0:Int)) :: .a (.u) :: .a (.u) :: .a (.p 1 (365) 43) :: .a (.l 0) :: .a (.i .i64 (nR:Int)) :: .a (.i .i64 (0:Int))::us 10 ([]),[.sl (.came bR) nR aR 95,.one (.r a0 71 [(365,0)]) 71,.no],[]⟩:St)
def Zdd:Int×Int→LS
 | (y0_3,y0_9)=>([.a (.i .i64 (y0_3)),.a (.i .i64 (y0_9))],[])
def Zgh:Int×Int→Exit×LS
 | t=>((.exit 0),Zdd t)
def Za9 (P:Program) (a0:Array Value) (bR:Option (Option Addr)) (nR:Nat) (aR:Array Value):Int×Int→Option (Stp (Int×Int) (Int×Int))
 | (y0_3,y0_9)=>bif decide (y0_9<(nR:Int)) then (bif (decide (0≤y0_9)&&decide (y0_9<(nR:Int))) then (some (.more ((i64.wrap (y0_3+(i64.wrap (num (aR.extract ((y0_9).toNat*3) (((y0_9).toNat*3)+3)) 2)))),(i64.wrap (y0_9+(1:Int))))))
   else (none))
  else (some (.done (y0_3,y0_9)))
theorem Zos (N:Nat) (a0:Array Value) (bR:Option (Option Addr)) (nR:Nat) (aR:Array Value):∀ t:Int×Int,Uah PZ (mkΓ []) N (cAt (codeOf Tryz.f80) [1,1,0,1,0,0]) (pAt (Uaa (codeOf Tryz.f80) [([3,9],[])]).1 [1,1,0,1,0]) [3,9] [] (Zcd a0 bR nR aR) (Zdd t)=mapS Zdd Zgh (Za9 PZ a0 bR nR aR t):=by
 rintro ⟨y0_3,y0_9⟩
 refine Eq.trans (b:=(bif decide (y0_9<(nR:Int)) then (bif (decide (0≤y0_9)&&decide (y0_9<(nR:Int))) then (some (.more ([.a (.i .i64 (i64.wrap (y0_3+(i64.wrap (num (aR.extract ((y0_9).toNat*3) (((y0_9).toNat*3)+3)) 2))))),.a (.i .i64 (i64.wrap (y0_9+(1:Int))))],[])))
   else (none))
  else (some (.done ((.exit 0),([.a (.i .i64 (y0_3)),.a (.i .i64 (y0_9))],[])))))) (by kernel_rfl) ?_
 simp only [Za9,Zax,Za0,Zay,Zaz,Zdd,Zgh]
def Zfp (P:Program) (N:Nat) (a0:Array Value) (bR:Option (Option Addr)) (nR:Nat) (aR:Array Value) (z0_3:Int) (z0_9:Int):Option (SV×Eff×Bool):=some (.a (.i .i64 (z0_3)),.none,true)
theorem Zl1 (N:Nat) (a0:Array Value) (bR:Option (Option Addr)) (nR:Nat) (aR:Array Value) (z0_3:Int) (z0_9:Int):(Uac 0 (kSeq (veC PZ (mkΓ []) N (cAt (codeOf Tryz.f80) [1,1,1]) (pAt (Uaa (codeOf Tryz.f80) [([3,9],[])]).1 [1,1,1]) (SV×Eff×Bool)) (finK PZ [.sl (.came bR) nR aR 95] [.tmp 2]))) (.exit 0) (left (writes (cAt (codeOf Tryz.f80) [1,1,0,1,0,0])) [3,9] [] (Zcd a0 bR nR aR) ([.a (.i .i64 (z0_3)),.a (.i .i64 (z0_9))],[]))=Zfp PZ N a0 bR nR aR z0_3 z0_9:=by
 refine Eq.trans (b:=(some (.a (.i .i64 (z0_3)),.none,true))) (by kernel_rfl) ?_
 rfl
theorem Zoz (N:Nat) (a0:Array Value) (bR:Option (Option Addr)) (nR:Nat) (aR:Array Value):Uaj (Uab (Uah PZ (mkΓ []) N (cAt (codeOf Tryz.f80) [1,1,0,1,0,0]) (pAt (Uaa (codeOf Tryz.f80) [([3,9],[])]).1 [1,1,0,1,0]) [3,9] [] (Zcd a0 bR nR aR)) N ([.a (.i .i64 (0:Int)),.a (.i .i64 (0:Int))],[])) (fun e s=>(Uac 0 (kSeq (veC PZ (mkΓ []) N (cAt (codeOf Tryz.f80) [1,1,1]) (pAt (Uaa (codeOf Tryz.f80) [([3,9],[])]).1 [1,1,1]) (SV×Eff×Bool)) (finK PZ [.sl (.came bR) nR aR 95] [.tmp 2]))) e (left (writes (cAt (codeOf Tryz.f80) [1,1,0,1,0,0])) [3,9] [] (Zcd a0 bR nR aR) s))=Uak (Uab (Za9 PZ a0 bR nR aR) N ((0:Int),(0:Int))) (fun x=>Zfp PZ N a0 bR nR aR x.1 x.2):=by
 refine Zbk Zdd Zgh _ _ (Zos N a0 bR nR aR) N ((0:Int),(0:Int)) _ _ ?_
 intro x;exact Zl1 N a0 bR nR aR x.1 x.2
theorem Zoa (N:Nat) (a0:Array Value) (bR:Option (Option Addr)) (nR:Nat) (aR:Array Value):ansV PZ (mkΓ []) N Tryz.f80 [([3,9],[])] [.r a0 71 [(365,0)]] [.sl (.came bR) nR aR 95]=(Uak (Uab (Za9 PZ a0 bR nR aR) N ((0:Int),(0:Int))) (fun x=>Zfp PZ N a0 bR nR aR x.1 x.2)):=by
 refine Eq.trans (b:=(Uaj (Uab (Uah PZ (mkΓ []) N (cAt (codeOf Tryz.f80) [1,1,0,1,0,0]) (pAt (Uaa (codeOf Tryz.f80) [([3,9],[])]).1 [1,1,0,1,0]) [3,9] [] (Zcd a0 bR nR aR)) N ([.a (.i .i64 (0:Int)),.a (.i .i64 (0:Int))],[])) (fun e s=>(Uac 0 (kSeq (veC PZ (mkΓ []) N (cAt (codeOf Tryz.f80) [1,1,1]) (pAt (Uaa (codeOf Tryz.f80) [([3,9],[])]).1 [1,1,1]) (SV×Eff×Bool)) (finK PZ [.sl (.came bR) nR aR 95] [.tmp 2]))) e (left (writes (cAt (codeOf Tryz.f80) [1,1,0,1,0,0])) [3,9] [] (Zcd a0 bR nR aR) s)))) (by kernel_rfl) ?_
 simp only [Zoz N a0 bR nR aR]
theorem Zm7 (a0:Array Value) (bR:Option (Option Addr)) (nR:Nat) (aR:Array Value) (h_a0:WT PZ 71 a0) (h_a0x365:aR.size=nR*(lay PZ 95).length∧(∀ k,k<nR→WT PZ 95 (aR.extract (k*(lay PZ 95).length) (k*(lay PZ 95).length+(lay PZ 95).length)))∧nR≤9223372036854775807) (hg:(true)=true):ansV PZ (mkΓ []) 18446744073709551616 Tryz.f80 [([3,9],[])] [.r a0 71 [(365,0)]] [.sl (.came bR) nR aR 95]=some (.a (.i .i64 (wsum aR nR)),.none,true):=by
 have hn:=h_a0x365.2.2
 refine (Zoa 18446744073709551616 a0 bR nR aR).trans ?_
 have h:=Ze3 (g:=Za9 PZ a0 bR nR aR) (fun k=>(wsum aR k,(k:Int))) (m:=nR) (x:=(wsum aR nR,(nR:Int))) (N:=18446744073709551616) (fun k hk=>by
  have h1:decide ((k:Int)<(nR:Int))=true:=decide_eq_true (by omega)
  have h0:decide (0≤(k:Int))=true:=decide_eq_true (by omega)
  have h3:i64.wrap ((k:Int)+1)=((k+1:Nat):Int):=by rw [IntWalk.i64_in _ (by omega)];omega
  simp only [Za9,h1,h0,Bool.and_self,Int.toNat_natCast,cond_true,h3]
  rfl) (by
  have h1:decide ((nR:Int)<(nR:Int))=false:=decide_eq_false (by omega)
  simp only [Za9,h1,cond_false]) (by omega)
 have h':Uab (Za9 PZ a0 bR nR aR) 18446744073709551616 ((0:Int),(0:Int))=some (wsum aR nR,(nR:Int)):=h
 rw [h']
 rfl
def Zfr:Con:=fun args h=>match args,h with
 | [.r a0 71 [(365,0)]],[.sl (.came bR) nR aR 95]=>some (.a (.i .i64 (wsum aR nR)),.none,true)
 | _,_=>none
theorem Zmq:EntX PZ 80:=Zaf (fn:=Tryz.f80) (by kernel_rfl) (by kernel_rfl) (by kernel_rfl)
theorem Zo3:Uad (md F) PZ 80 Zfr:=(Zah (N:=18446744073709551616) (by kernel_rfl) mkΓ_nilX (fn:=Tryz.f80) (by kernel_rfl) (by kernel_rfl) [([3,9],[])]).of (by
 intro ρ h w args vals r e hA hH hr
 unfold Zfr at hr
 split at hr
 ·rename_i a0 bR nR aR
  obtain ⟨rfl,hg⟩:=Prod.mk.inj (Option.some.inj hr)
  obtain ⟨rfl,hg2⟩:=Prod.mk.inj hg
  exact Zm7 a0 bR nR aR (hA.wtr 0 rfl) (hH.slw 0 rfl) hg2
 ·cases hr)
def Ze2:Cons:=(mkΓ [(58,con Zcq),(59,con Zgu),(61,con Zko)])
def Zf0 (a0 a1:Array Value) (bQ:Option (Option Addr)) (nQ:Nat) (aQ:Array Value):St:=(⟨.a (.w 0) :: .a (.w 1) :: .a (.u) :: .a (.u) :: .a (.b (false)) :: .a (.i .i64 (0:Int)) :: .a (.i .i64 (0:Int)) :: .a (.u) :: .a (.w 1) :: .a (.w 1) :: .a (.p 1 (0) 22) :: .a (.i .i8 (num a1 0)) :: .a (.i .i64 (i64.wrap (num a1 0))) :: .a (.b ((Zaa (i64.wrap (num a1 0)) (0:Int) (1:Int)))) :: .a (.b ((!((Zaa (i64.wrap (num a1 0)) (0:Int) (1:Int)))))) :: .a (.b (false)) :: .a (.w 1) :: .a (.w 1) :: .a (.p 1 (1) 22) :: .a (.i .i8 (num a1 1)) :: .a (.i .i64 (i64.wrap (num a1 1))) :: .a (.b ((Zaa (i64.wrap (num a1 1)) (1:Int) (8:Int)))) :: .a (.b ((!((Zaa (i64.wrap (num a1 1)) (1:Int) (8:Int)))))) :: .a (.b ((!((Zaa (i64.wrap (num a1 1)) (1:Int) (8:Int)))))) :: .a (.b (false)) :: .a (.w 1) :: .a (.w 1) :: .a (.p 1 (2) 43) :: .a (.l 2) :: .a (.i .i64 (nQ:Int)) :: .a (.b (decide ((nQ:Int) > (12:Int)))) :: .a (.b (decide ((nQ:Int) > (12:Int))))::us 49 ([]),[.row a0 41,.one (.r a1 45 [(2,2)]) 45,.sl (.came bQ) nQ aQ 95],[]⟩:St)
def Zg8:Bool×Int×Int→LS
 | (y0_4,y0_5,y0_6)=>([.a (.b (y0_4)),.a (.i .i64 (y0_5)),.a (.i .i64 (y0_6))],[])
def Znx:(Stp (Bool×Int×Int) (Bool×Int×Int))→Exit×LS
 | .more t=>(.ret,Zg8 t)
 | .done t=>((.exit 0),Zg8 t)
def Zdm (P : Program) (a0 a1 : Array Value) (bQ : Option (Option Addr)) (nQ : Nat) (aQ : Array Value) : Bool × Int × Int → Option (Stp (Bool × Int × Int) (Stp (Bool × Int × Int) (Bool × Int × Int)))
 | (y0_4, y0_5, y0_6) => bif decide (y0_6 < (nQ : Int)) then (bif (decide (0 ≤ y0_6) && decide (y0_6 < (nQ : Int))) then (bif (Za2 (i64.wrap (num (aQ.extract ((y0_6).toNat * 3) (((y0_6).toNat * 3) + 3)) 0)) a0) then (bif (!((Zae (i64.wrap (num (aQ.extract ((y0_6).toNat * 3) (((y0_6).toNat * 3) + 3)) 0)) a0))) then (some (.done (.more (false, y0_5, y0_6))))
     else (bif (!((Zaa (i64.wrap (num (aQ.extract ((y0_6).toNat * 3) (((y0_6).toNat * 3) + 3)) 1)) (0 : Int) (i64.wrap ((i64.wrap (num a1 1)) - (1 : Int)))))) then (some (.done (.more (false, y0_5, y0_6))))
      else (bif (!((Zaa (i64.wrap (num (aQ.extract ((y0_6).toNat * 3) (((y0_6).toNat * 3) + 3)) 2)) (1 : Int) (200 : Int)))) then (some (.done (.more (false, y0_5, y0_6))))
       else (some (.more (y0_4, (i64.wrap (y0_5 + (i64.wrap (num (aQ.extract ((y0_6).toNat * 3) (((y0_6).toNat * 3) + 3)) 2)))), (i64.wrap (y0_6 + (1 : Int)))))))))
    else (none))
   else (none))
  else (some (.done (.done (y0_4, y0_5, y0_6))))
theorem Yed (N:Nat) (a0 a1:Array Value) (bQ:Option (Option Addr)) (nQ:Nat) (aQ:Array Value):∀ t:Bool×Int×Int,Uah PZ Ze2 N (cAt (codeOf Tryz.f39) [1,1,1,0,1,0,0]) (pAt (Uaa (codeOf Tryz.f39) [([4,5,6],[])]).1 [1,1,1,0,1,0]) [4,5,6] [] (Zf0 a0 a1 bQ nQ aQ) (Zg8 t)=mapS Zg8 Znx (Zdm PZ a0 a1 bQ nQ aQ t):=by
 rintro ⟨y0_4,y0_5,y0_6⟩
 refine Eq.trans (b:=(bif decide (y0_6<(nQ:Int)) then (bif (decide (0≤y0_6)&&decide (y0_6<(nQ:Int))) then (bif (Za2 (i64.wrap (num (aQ.extract ((y0_6).toNat*3) (((y0_6).toNat*3)+3)) 0)) a0) then (bif (!((Zae (i64.wrap (num (aQ.extract ((y0_6).toNat*3) (((y0_6).toNat*3)+3)) 0)) a0))) then (some (.done (.ret,([.a (.b (false)),.a (.i .i64 (y0_5)),.a (.i .i64 (y0_6))],[]))))
     else (bif (!((Zaa (i64.wrap (num (aQ.extract ((y0_6).toNat*3) (((y0_6).toNat*3)+3)) 1)) (0:Int) (i64.wrap ((i64.wrap (num a1 1)) - (1:Int)))))) then (some (.done (.ret,([.a (.b (false)),.a (.i .i64 (y0_5)),.a (.i .i64 (y0_6))],[]))))
      else (bif (!((Zaa (i64.wrap (num (aQ.extract ((y0_6).toNat*3) (((y0_6).toNat*3)+3)) 2)) (1:Int) (200:Int)))) then (some (.done (.ret,([.a (.b (false)),.a (.i .i64 (y0_5)),.a (.i .i64 (y0_6))],[]))))
       else (some (.more ([.a (.b (y0_4)),.a (.i .i64 (i64.wrap (y0_5+(i64.wrap (num (aQ.extract ((y0_6).toNat*3) (((y0_6).toNat*3)+3)) 2))))),.a (.i .i64 (i64.wrap (y0_6+(1:Int))))],[]))))))
    else (none))
   else (none))
  else (some (.done ((.exit 0),([.a (.b (y0_4)),.a (.i .i64 (y0_5)),.a (.i .i64 (y0_6))],[])))))) (by kernel_rfl) ?_
 simp only [Zdm,Zax,Za0,Zay,Zaz,Zg8,Znx]
def Zlg (P:Program) (N:Nat) (a0 a1:Array Value) (bQ:Option (Option Addr)) (nQ:Nat) (aQ:Array Value) (z0_4:Bool) (z0_5:Int) (z0_6:Int):Option (SV×Eff×Bool):=some (.a (.b (z0_4)),.none,true)
theorem Zub (N:Nat) (a0 a1:Array Value) (bQ:Option (Option Addr)) (nQ:Nat) (aQ:Array Value) (z0_4:Bool) (z0_5:Int) (z0_6:Int):(Uac 0 (kSeq (veC PZ Ze2 N (cAt (codeOf Tryz.f39) [1,1,1,1]) (pAt (Uaa (codeOf Tryz.f39) [([4,5,6],[])]).1 [1,1,1,1]) (SV×Eff×Bool)) (finK PZ [.row a0 41,.one (.r a1 45 [(2,2)]) 45,.sl (.came bQ) nQ aQ 95] [.tmp 4]))) .ret (left (writes (cAt (codeOf Tryz.f39) [1,1,1,0,1,0,0])) [4,5,6] [] (Zf0 a0 a1 bQ nQ aQ) ([.a (.b (z0_4)),.a (.i .i64 (z0_5)),.a (.i .i64 (z0_6))],[]))=Zlg PZ N a0 a1 bQ nQ aQ z0_4 z0_5 z0_6:=by
 refine Eq.trans (b:=(some (.a (.b (z0_4)),.none,true))) (by kernel_rfl) ?_
 rfl
def Zla (P:Program) (N:Nat) (a0 a1:Array Value) (bQ:Option (Option Addr)) (nQ:Nat) (aQ:Array Value) (z0_4:Bool) (z0_5:Int) (z0_6:Int):Option (SV×Eff×Bool):=some (.a (.b (decide (z0_5≤(1000:Int)))),.none,true)
theorem Zu5 (N:Nat) (a0 a1:Array Value) (bQ:Option (Option Addr)) (nQ:Nat) (aQ:Array Value) (z0_4:Bool) (z0_5:Int) (z0_6:Int):(Uac 0 (kSeq (veC PZ Ze2 N (cAt (codeOf Tryz.f39) [1,1,1,1]) (pAt (Uaa (codeOf Tryz.f39) [([4,5,6],[])]).1 [1,1,1,1]) (SV×Eff×Bool)) (finK PZ [.row a0 41,.one (.r a1 45 [(2,2)]) 45,.sl (.came bQ) nQ aQ 95] [.tmp 4]))) (.exit 0) (left (writes (cAt (codeOf Tryz.f39) [1,1,1,0,1,0,0])) [4,5,6] [] (Zf0 a0 a1 bQ nQ aQ) ([.a (.b (z0_4)),.a (.i .i64 (z0_5)),.a (.i .i64 (z0_6))],[]))=Zla PZ N a0 a1 bQ nQ aQ z0_4 z0_5 z0_6:=by
 refine Eq.trans (b:=(some (.a (.b (decide (z0_5≤(1000:Int)))),.none,true))) (by kernel_rfl) ?_
 rfl
theorem Ye1 (N:Nat) (a0 a1:Array Value) (bQ:Option (Option Addr)) (nQ:Nat) (aQ:Array Value):Uaj (Uab (Uah PZ Ze2 N (cAt (codeOf Tryz.f39) [1,1,1,0,1,0,0]) (pAt (Uaa (codeOf Tryz.f39) [([4,5,6],[])]).1 [1,1,1,0,1,0]) [4,5,6] [] (Zf0 a0 a1 bQ nQ aQ)) N ([.a (.b (false)),.a (.i .i64 (0:Int)),.a (.i .i64 (0:Int))],[])) (fun e s=>(Uac 0 (kSeq (veC PZ Ze2 N (cAt (codeOf Tryz.f39) [1,1,1,1]) (pAt (Uaa (codeOf Tryz.f39) [([4,5,6],[])]).1 [1,1,1,1]) (SV×Eff×Bool)) (finK PZ [.row a0 41,.one (.r a1 45 [(2,2)]) 45,.sl (.came bQ) nQ aQ 95] [.tmp 4]))) e (left (writes (cAt (codeOf Tryz.f39) [1,1,1,0,1,0,0])) [4,5,6] [] (Zf0 a0 a1 bQ nQ aQ) s))=Uak (Uab (Zdm PZ a0 a1 bQ nQ aQ) N (false,(0:Int),(0:Int))) (st2 (fun x=>Zlg PZ N a0 a1 bQ nQ aQ x.1 x.2.1 x.2.2) (fun x=>Zla PZ N a0 a1 bQ nQ aQ x.1 x.2.1 x.2.2)):=by
 refine Zbk Zg8 Znx _ _ (Yed N a0 a1 bQ nQ aQ) N (false,(0:Int),(0:Int)) _ _ ?_
 intro x
 cases x with
 | more x=>exact Zub N a0 a1 bQ nQ aQ x.1 x.2.1 x.2.2
 | done x=>exact Zu5 N a0 a1 bQ nQ aQ x.1 x.2.1 x.2.2
theorem Yci (N:Nat) (a0 a1:Array Value) (bQ:Option (Option Addr)) (nQ:Nat) (aQ:Array Value):ansV PZ Ze2 N Tryz.f39 [([4,5,6],[])] [.w 0,.w 1] [.row a0 41,.one (.r a1 45 [(2,2)]) 45,.sl (.came bQ) nQ aQ 95]=(bif (!((Zaa (i64.wrap (num a1 0)) (0:Int) (1:Int)))) then (some (.a (.b (false)),.none,true))
  else (bif (!((Zaa (i64.wrap (num a1 1)) (1:Int) (8:Int)))) then (some (.a (.b (false)),.none,true))
   else (bif decide ((nQ:Int) > (12:Int)) then (some (.a (.b (false)),.none,true))
    else (Uak (Uab (Zdm PZ a0 a1 bQ nQ aQ) N (false,(0:Int),(0:Int))) (st2 (fun x=>Zlg PZ N a0 a1 bQ nQ aQ x.1 x.2.1 x.2.2) (fun x=>Zla PZ N a0 a1 bQ nQ aQ x.1 x.2.1 x.2.2)))))):=by
 refine Eq.trans (b:=(bif (!((Zaa (i64.wrap (num a1 0)) (0:Int) (1:Int)))) then (some (.a (.b (false)),.none,true))
  else (bif (!((Zaa (i64.wrap (num a1 1)) (1:Int) (8:Int)))) then (some (.a (.b (false)),.none,true))
   else (bif decide ((nQ:Int) > (12:Int)) then (some (.a (.b (false)),.none,true))
    else (Uaj (Uab (Uah PZ Ze2 N (cAt (codeOf Tryz.f39) [1,1,1,0,1,0,0]) (pAt (Uaa (codeOf Tryz.f39) [([4,5,6],[])]).1 [1,1,1,0,1,0]) [4,5,6] [] (Zf0 a0 a1 bQ nQ aQ)) N ([.a (.b (false)),.a (.i .i64 (0:Int)),.a (.i .i64 (0:Int))],[])) (fun e s=>(Uac 0 (kSeq (veC PZ Ze2 N (cAt (codeOf Tryz.f39) [1,1,1,1]) (pAt (Uaa (codeOf Tryz.f39) [([4,5,6],[])]).1 [1,1,1,1]) (SV×Eff×Bool)) (finK PZ [.row a0 41,.one (.r a1 45 [(2,2)]) 45,.sl (.came bQ) nQ aQ 95] [.tmp 4]))) e (left (writes (cAt (codeOf Tryz.f39) [1,1,1,0,1,0,0])) [4,5,6] [] (Zf0 a0 a1 bQ nQ aQ) s))))))) (by kernel_rfl) ?_
 simp only [Ye1 N a0 a1 bQ nQ aQ]
theorem Yax (a0 a1:Array Value) (bQ:Option (Option Addr)) (nQ:Nat) (aQ:Array Value) (h_a0:WT PZ 41 a0) (h_a1:WT PZ 45 a1) (h_a1x2:aQ.size=nQ*(lay PZ 95).length∧(∀ k,k<nQ→WT PZ 95 (aQ.extract (k*(lay PZ 95).length) (k*(lay PZ 95).length+(lay PZ 95).length)))∧nQ≤9223372036854775807) (hg:(true)=true):ansV PZ Ze2 18446744073709551616 Tryz.f39 [([4,5,6],[])] [.w 0,.w 1] [.row a0 41,.one (.r a1 45 [(2,2)]) 45,.sl (.came bQ) nQ aQ 95]=some (.a (.b ((Uar a0 a1 nQ aQ))),.none,true):=by
 have hn:=h_a1x2.2.2
 refine (Yci 18446744073709551616 a0 a1 bQ nQ aQ).trans ?_
 unfold Uar
 cases Zaa (i64.wrap (num a1 0)) 0 1
 ·rfl
 cases Zaa (i64.wrap (num a1 1)) 1 8
 ·rfl
 cases decide ((nQ:Int) > 12)
 rotate_left
 ·rfl
 simp only [Bool.not_true,Bool.not_false,cond_false,Bool.true_and]
 have wet:∀ k,Za2 (i64.wrap (num (aQ.extract (k*3) (k*3+3)) 0)) a0=true:=fun k=>by
  unfold Za2
  cases Za1 (i64.wrap (num (aQ.extract (k*3) (k*3+3)) 0)) a0
  ·rfl
  ·exact decide_eq_true (Zhm .u64 _).1
 refine (Zxx (g:=Zdm PZ a0 a1 bQ nQ aQ) (fun k=>(false,wsum aQ k,(k:Int))) (fun k=>relB a0 (i64.wrap (num a1 1)) (aQ.extract (k*3) (k*3+3))) nQ (N:=18446744073709551616) (xd:=.done (false,wsum aQ nQ,(nQ:Int))) (by omega) (fun k hk hp=>by
  have h1:decide ((k:Int)<(nQ:Int))=true:=decide_eq_true (by omega)
  have h0:decide (0≤(k:Int))=true:=decide_eq_true (by omega)
  have h3:i64.wrap ((k:Int)+1)=((k+1:Nat):Int):=by rw [IntWalk.i64_in _ (by omega)];omega
  have hp':relB a0 (i64.wrap (num a1 1)) (aQ.extract (k*3) (k*3+3))=true:=hp
  unfold relB at hp'
  simp only [Bool.and_eq_true] at hp'
  simp only [Zdm,h1,h0,h3,Bool.and_self,Int.toNat_natCast,cond_true,cond_false,wet,hp'.1,hp'.2.1,hp'.2.2,Bool.not_true]
  rfl) (by
  have h1:decide ((nQ:Int)<(nQ:Int))=false:=decide_eq_false (by omega)
  simp only [Zdm,h1,cond_false]) (Ub7 a0 (i64.wrap (num a1 1)) nQ aQ) (Zq4 a0 _ nQ aQ) (some (.a (.b (decide (wsum aQ nQ≤1000))),.none,true)) (some (.a (.b false),.none,true)) rfl (fun k hk hp=>by
  refine ⟨.more (false,wsum aQ k,(k:Int)), ?_,rfl⟩
  have h1:decide ((k:Int)<(nQ:Int))=true:=decide_eq_true (by omega)
  have h0:decide (0≤(k:Int))=true:=decide_eq_true (by omega)
  have h3:i64.wrap ((k:Int)+1)=((k+1:Nat):Int):=by rw [IntWalk.i64_in _ (by omega)];omega
  have hp':relB a0 (i64.wrap (num a1 1)) (aQ.extract (k*3) (k*3+3))=false:=hp
  unfold relB at hp'
  cases x1:Zae (i64.wrap (num (aQ.extract (k*3) (k*3+3)) 0)) a0
  ·simp only [Zdm,h1,h0,h3,Bool.and_self,Int.toNat_natCast,cond_true,wet,x1,Bool.not_false]
  ·cases x2:Zaa (i64.wrap (num (aQ.extract (k*3) (k*3+3)) 1)) 0 (i64.wrap (i64.wrap (num a1 1) - 1))
   ·simp only [Zdm,h1,h0,h3,Bool.and_self,Int.toNat_natCast,cond_true,cond_false,wet,x1,x2,Bool.not_true,Bool.not_false]
   ·rw [x1,x2] at hp'
    simp only [Bool.true_and] at hp'
    simp only [Zdm,h1,h0,h3,Bool.and_self,Int.toNat_natCast,cond_true,cond_false,wet,x1,x2,hp',Bool.not_true,Bool.not_false])).trans ?_
 cases Ub7 a0 (i64.wrap (num a1 1)) nQ aQ<;>rfl
def Zms:Con:=fun args h=>match args,h with
 | [.w 0,.w 1],[.row a0 41,.one (.r a1 45 [(2,2)]) 45,.sl (.came bQ) nQ aQ 95]=>some (.a (.b ((Uar a0 a1 nQ aQ))),.none,true)
 | _,_=>none
theorem Zkj:EntX PZ 39:=Zaf (fn:=Tryz.f39) (by kernel_rfl) (by kernel_rfl) (by kernel_rfl)
theorem Znq:Uad (md F) PZ 39 Zms:=(Zah (N:=18446744073709551616) (by kernel_rfl) (mkΓ_consX (Zad Zi7) Zf7 (mkΓ_consX (Zad Zmw) Zjp (mkΓ_consX (Zad Ya4) Zu1 mkΓ_nilX))) (fn:=Tryz.f39) (by kernel_rfl) (by kernel_rfl) [([4,5,6],[])]).of (by
 intro ρ h w args vals r e hA hH hr
 unfold Zms at hr
 split at hr
 ·rename_i a0 a1 bQ nQ aQ
  obtain ⟨rfl,hg⟩:=Prod.mk.inj (Option.some.inj hr)
  obtain ⟨rfl,hg2⟩:=Prod.mk.inj hg
  exact Yax a0 a1 bQ nQ aQ (hH.wt 0 rfl) (hH.wtr 1 rfl) (hH.slw 2 rfl) hg2
 ·cases hr)
def Zch:Cons:=(mkΓ [(66,con Zhc),(77,con Zjk),(78,con Zep),(79,con Zg0),(80,con Zfr)])
def Zdh (a0 a1:Array Value) (bQ:Option (Option Addr)) (nQ:Nat) (aQ:Array Value):St:=(⟨.a (.g a0 41) :: .a (.r a1 45 [(2,0)]) :: .a (.w 1) :: .a (.w 2) :: .a (.b (false)) :: .a (.w 7) :: .a (.u) :: .a (.u) :: .a (.g a0 41) :: .a (.r a1 45 [(2,0)]) :: .a (.r ((spl (spl (zc PZ 71) 0 (#[.int .i64 (i64.wrap (num a1 0)),.int .i64 (i64.wrap (num a1 1))]:Array Value).toList) 2 a0.toList).setIfInBounds 365 (.slice none 0 0)) 71 [(365,0)]) :: .a (.g a0 41) :: .a (.b ((okS a0))) :: .a (.b ((!((okS a0))))) :: .a (.b (false)) :: .a (.p 7 (0) 69) :: .a (.g (((spl (spl (zc PZ 71) 0 (#[.int .i64 (i64.wrap (num a1 0)),.int .i64 (i64.wrap (num a1 1))]:Array Value).toList) 2 a0.toList).setIfInBounds 365 (.slice none 0 0)).extract 0 (0+2)) 69) :: .a (.b ((Zao (((spl (spl (zc PZ 71) 0 (#[.int .i64 (i64.wrap (num a1 0)),.int .i64 (i64.wrap (num a1 1))]:Array Value).toList) 2 a0.toList).setIfInBounds 365 (.slice none 0 0)).extract 0 (0+2))))) :: .a (.b ((!((Zao (((spl (spl (zc PZ 71) 0 (#[.int .i64 (i64.wrap (num a1 0)),.int .i64 (i64.wrap (num a1 1))]:Array Value).toList) 2 a0.toList).setIfInBounds 365 (.slice none 0 0)).extract 0 (0+2))))))) :: .a (.b ((!((Zao (((spl (spl (zc PZ 71) 0 (#[.int .i64 (i64.wrap (num a1 0)),.int .i64 (i64.wrap (num a1 1))]:Array Value).toList) 2 a0.toList).setIfInBounds 365 (.slice none 0 0)).extract 0 (0+2))))))) :: .a (.b (false)) :: .a (.p 2 (2) 43) :: .a (.l 0) :: .a (.i .i64 (nQ:Int)) :: .a (.b (decide ((nQ:Int) > (12:Int)))) :: .a (.b (decide ((nQ:Int) > (12:Int)))) :: .a (.p 2 (2) 43) :: .a (.l 0) :: .a (.i .i64 (nQ:Int)) :: .a (.i .i64 (0:Int))::us 11 ([]),[.sl (.came bQ) nQ aQ 95,.row a0 41,.one (.r a1 45 [(2,0)]) 45,.no,.no,.no,.no,.one (.r ((spl (spl (zc PZ 71) 0 (#[.int .i64 (i64.wrap (num a1 0)),.int .i64 (i64.wrap (num a1 1))]:Array Value).toList) 2 a0.toList).setIfInBounds 365 (.slice none 0 0)) 71 [(365,0)]) 71,.no],[7]⟩:St)
def Zej:Bool×Int→LS
 | (y0_4,y0_29)=>([.a (.b (y0_4)),.a (.i .i64 (y0_29))],[])
def Zjq:(Stp (Bool×Int) (Bool×Int))→Exit×LS
 | .more t=>(.ret,Zej t)
 | .done t=>((.exit 0),Zej t)
def Zcn (P : Program) (a0 a1 : Array Value) (bQ : Option (Option Addr)) (nQ : Nat) (aQ : Array Value) : Bool × Int → Option (Stp (Bool × Int) (Stp (Bool × Int) (Bool × Int)))
 | (y0_4, y0_29) => bif decide (y0_29 < (nQ : Int)) then (bif (decide (0 ≤ y0_29) && decide (y0_29 < (nQ : Int))) then (bif (Zb7 ((spl (spl (zc PZ 71) 0 (#[.int .i64 (i64.wrap (num a1 0)), .int .i64 (i64.wrap (num a1 1))] : Array Value).toList) 2 a0.toList).setIfInBounds 365 (.slice none 0 0)) (aQ.extract ((y0_29).toNat * 3) (((y0_29).toNat * 3) + 3)) bQ nQ aQ) then (bif (!((Zb8 ((spl (spl (zc PZ 71) 0 (#[.int .i64 (i64.wrap (num a1 0)), .int .i64 (i64.wrap (num a1 1))] : Array Value).toList) 2 a0.toList).setIfInBounds 365 (.slice none 0 0)) (aQ.extract ((y0_29).toNat * 3) (((y0_29).toNat * 3) + 3)) bQ nQ aQ))) then (some (.done (.more (false, y0_29))))
     else (some (.more (y0_4, (i64.wrap (y0_29 + (1 : Int)))))))
    else (none))
   else (none))
  else (some (.done (.done (y0_4, y0_29))))
theorem Zw8 (N:Nat) (a0 a1:Array Value) (bQ:Option (Option Addr)) (nQ:Nat) (aQ:Array Value):∀ t:Bool×Int,Uah PZ Zch N (cAt (codeOf Tryz.f65) [1,1,1,0,1,0,0]) (pAt (Uaa (codeOf Tryz.f65) [([4,29],[])]).1 [1,1,1,0,1,0]) [4,29] [] (Zdh a0 a1 bQ nQ aQ) (Zej t)=mapS Zej Zjq (Zcn PZ a0 a1 bQ nQ aQ t):=by
 rintro ⟨y0_4,y0_29⟩
 refine Eq.trans (b:=(bif decide (y0_29<(nQ:Int)) then (bif (decide (0≤y0_29)&&decide (y0_29<(nQ:Int))) then (bif (Zb7 ((spl (spl (zc PZ 71) 0 (#[.int .i64 (i64.wrap (num a1 0)),.int .i64 (i64.wrap (num a1 1))]:Array Value).toList) 2 a0.toList).setIfInBounds 365 (.slice none 0 0)) (aQ.extract ((y0_29).toNat*3) (((y0_29).toNat*3)+3)) bQ nQ aQ) then (bif (!((Zb8 ((spl (spl (zc PZ 71) 0 (#[.int .i64 (i64.wrap (num a1 0)),.int .i64 (i64.wrap (num a1 1))]:Array Value).toList) 2 a0.toList).setIfInBounds 365 (.slice none 0 0)) (aQ.extract ((y0_29).toNat*3) (((y0_29).toNat*3)+3)) bQ nQ aQ))) then (some (.done (.ret,([.a (.b (false)),.a (.i .i64 (y0_29))],[]))))
     else (some (.more ([.a (.b (y0_4)),.a (.i .i64 (i64.wrap (y0_29+(1:Int))))],[]))))
    else (none))
   else (none))
  else (some (.done ((.exit 0),([.a (.b (y0_4)),.a (.i .i64 (y0_29))],[])))))) (by kernel_rfl) ?_
 simp only [Zcn,Zax,Za0,Zay,Zaz,Zej,Zjq]
def Zh7 (P:Program) (N:Nat) (a0 a1:Array Value) (bQ:Option (Option Addr)) (nQ:Nat) (aQ:Array Value) (z0_4:Bool) (z0_29:Int):Option (SV×Eff×Bool):=some (.a (.b (z0_4)),.none,true)
theorem Zpb (N:Nat) (a0 a1:Array Value) (bQ:Option (Option Addr)) (nQ:Nat) (aQ:Array Value) (z0_4:Bool) (z0_29:Int):(Uac 0 (kSeq (veC PZ Zch N (cAt (codeOf Tryz.f65) [1,1,1,1]) (pAt (Uaa (codeOf Tryz.f65) [([4,29],[])]).1 [1,1,1,1]) (SV×Eff×Bool)) (finK PZ [.sl (.came bQ) nQ aQ 95] [.tmp 4]))) .ret (left (writes (cAt (codeOf Tryz.f65) [1,1,1,0,1,0,0])) [4,29] [] (Zdh a0 a1 bQ nQ aQ) ([.a (.b (z0_4)),.a (.i .i64 (z0_29))],[]))=Zh7 PZ N a0 a1 bQ nQ aQ z0_4 z0_29:=by
 refine Eq.trans (b:=(some (.a (.b (z0_4)),.none,true))) (by kernel_rfl) ?_
 rfl
def Zia (P:Program) (N:Nat) (a0 a1:Array Value) (bQ:Option (Option Addr)) (nQ:Nat) (aQ:Array Value) (z0_4:Bool) (z0_29:Int):Option (SV×Eff×Bool):=some (.a (.b (decide ((wsum aQ nQ)≤(1000:Int)))),.none,true)
theorem Zoy (N:Nat) (a0 a1:Array Value) (bQ:Option (Option Addr)) (nQ:Nat) (aQ:Array Value) (z0_4:Bool) (z0_29:Int):(Uac 0 (kSeq (veC PZ Zch N (cAt (codeOf Tryz.f65) [1,1,1,1]) (pAt (Uaa (codeOf Tryz.f65) [([4,29],[])]).1 [1,1,1,1]) (SV×Eff×Bool)) (finK PZ [.sl (.came bQ) nQ aQ 95] [.tmp 4]))) (.exit 0) (left (writes (cAt (codeOf Tryz.f65) [1,1,1,0,1,0,0])) [4,29] [] (Zdh a0 a1 bQ nQ aQ) ([.a (.b (z0_4)),.a (.i .i64 (z0_29))],[]))=Zia PZ N a0 a1 bQ nQ aQ z0_4 z0_29:=by
 refine Eq.trans (b:=(some (.a (.b (decide ((wsum aQ nQ)≤(1000:Int)))),.none,true))) (by kernel_rfl) ?_
 rfl
theorem Zw9 (N:Nat) (a0 a1:Array Value) (bQ:Option (Option Addr)) (nQ:Nat) (aQ:Array Value):Uaj (Uab (Uah PZ Zch N (cAt (codeOf Tryz.f65) [1,1,1,0,1,0,0]) (pAt (Uaa (codeOf Tryz.f65) [([4,29],[])]).1 [1,1,1,0,1,0]) [4,29] [] (Zdh a0 a1 bQ nQ aQ)) N ([.a (.b (false)),.a (.i .i64 (0:Int))],[])) (fun e s=>(Uac 0 (kSeq (veC PZ Zch N (cAt (codeOf Tryz.f65) [1,1,1,1]) (pAt (Uaa (codeOf Tryz.f65) [([4,29],[])]).1 [1,1,1,1]) (SV×Eff×Bool)) (finK PZ [.sl (.came bQ) nQ aQ 95] [.tmp 4]))) e (left (writes (cAt (codeOf Tryz.f65) [1,1,1,0,1,0,0])) [4,29] [] (Zdh a0 a1 bQ nQ aQ) s))=Uak (Uab (Zcn PZ a0 a1 bQ nQ aQ) N (false,(0:Int))) (st2 (fun x=>Zh7 PZ N a0 a1 bQ nQ aQ x.1 x.2) (fun x=>Zia PZ N a0 a1 bQ nQ aQ x.1 x.2)):=by
 refine Zbk Zej Zjq _ _ (Zw8 N a0 a1 bQ nQ aQ) N (false,(0:Int)) _ _ ?_
 intro x
 cases x with
 | more x=>exact Zpb N a0 a1 bQ nQ aQ x.1 x.2
 | done x=>exact Zoy N a0 a1 bQ nQ aQ x.1 x.2
theorem Zuz (N:Nat) (a0 a1:Array Value) (bQ:Option (Option Addr)) (nQ:Nat) (aQ:Array Value):ansV PZ Zch N Tryz.f65 [([4,29],[])] [.g a0 41,.r a1 45 [(2,0)]] [.sl (.came bQ) nQ aQ 95]=(bif (!((okS a0))) then (some (.a (.b (false)),.none,true))
  else (bif (!((Zao (((spl (spl (zc PZ 71) 0 (#[.int .i64 (i64.wrap (num a1 0)),.int .i64 (i64.wrap (num a1 1))]:Array Value).toList) 2 a0.toList).setIfInBounds 365 (.slice none 0 0)).extract 0 (0+2))))) then (some (.a (.b (false)),.none,true))
   else (bif decide ((nQ:Int) > (12:Int)) then (some (.a (.b (false)),.none,true))
    else (Uak (Uab (Zcn PZ a0 a1 bQ nQ aQ) N (false,(0:Int))) (st2 (fun x=>Zh7 PZ N a0 a1 bQ nQ aQ x.1 x.2) (fun x=>Zia PZ N a0 a1 bQ nQ aQ x.1 x.2)))))):=by
 refine Eq.trans (b:=(bif (!((okS a0))) then (some (.a (.b (false)),.none,true))
  else (bif (!((Zao (((spl (spl (zc PZ 71) 0 (#[.int .i64 (i64.wrap (num a1 0)),.int .i64 (i64.wrap (num a1 1))]:Array Value).toList) 2 a0.toList).setIfInBounds 365 (.slice none 0 0)).extract 0 (0+2))))) then (some (.a (.b (false)),.none,true))
   else (bif decide ((nQ:Int) > (12:Int)) then (some (.a (.b (false)),.none,true))
    else (Uaj (Uab (Uah PZ Zch N (cAt (codeOf Tryz.f65) [1,1,1,0,1,0,0]) (pAt (Uaa (codeOf Tryz.f65) [([4,29],[])]).1 [1,1,1,0,1,0]) [4,29] [] (Zdh a0 a1 bQ nQ aQ)) N ([.a (.b (false)),.a (.i .i64 (0:Int))],[])) (fun e s=>(Uac 0 (kSeq (veC PZ Zch N (cAt (codeOf Tryz.f65) [1,1,1,1]) (pAt (Uaa (codeOf Tryz.f65) [([4,29],[])]).1 [1,1,1,1]) (SV×Eff×Bool)) (finK PZ [.sl (.came bQ) nQ aQ 95] [.tmp 4]))) e (left (writes (cAt (codeOf Tryz.f65) [1,1,1,0,1,0,0])) [4,29] [] (Zdh a0 a1 bQ nQ aQ) s))))))) (by kernel_rfl) ?_
 simp only [Zw9 N a0 a1 bQ nQ aQ]
theorem Zs5 (a0 a1:Array Value) (bQ:Option (Option Addr)) (nQ:Nat) (aQ:Array Value) (h_a0:WT PZ 41 a0) (h_a1:WT PZ 45 a1) (h_a1x2:aQ.size=nQ*(lay PZ 95).length∧(∀ k,k<nQ→WT PZ 95 (aQ.extract (k*(lay PZ 95).length) (k*(lay PZ 95).length+(lay PZ 95).length)))∧nQ≤9223372036854775807) (hg:(true)=true):ansV PZ Zch 18446744073709551616 Tryz.f65 [([4,29],[])] [.g a0 41,.r a1 45 [(2,0)]] [.sl (.came bQ) nQ aQ 95]=some (.a (.b ((okS a0&&Uar a0 a1 nQ aQ))),.none,true):=by
 have hn:=h_a1x2.2.2
 have hS:=h_a0
 have hz:a0.size=363:=by rw [h_a0.layLen];kernel_rfl
 obtain ⟨v1,v2⟩:=Yb4 (p:=a1) hz
 obtain ⟨-,b0⟩:=h_a1.int (o:=0) (k:=.i8) (by kernel_rfl)
 obtain ⟨-,b1⟩:=h_a1.int (o:=1) (k:=.i8) (by kernel_rfl)
 have e1:IntKind.i8.min = -128:=rfl
 have e2:IntKind.i8.max=127:=rfl
 have w1: -128≤i64.wrap (num a1 1)∧i64.wrap (num a1 1)≤127:=by rw [IntWalk.i64_in _ (by omega)];omega
 have hRE:(lay PZ 95).length=3:=by kernel_rfl
 refine (Zuz 18446744073709551616 a0 a1 bQ nQ aQ).trans ?_
 cases hok:okS a0
 ·rfl
 have hr:Zao (((spl (spl (zc PZ 71) 0 (#[.int .i64 (i64.wrap (num a1 0)),.int .i64 (i64.wrap (num a1 1))]:Array Value).toList) 2 a0.toList).setIfInBounds 365 (.slice none 0 0)).extract 0 (0+2))=(Zaa (i64.wrap (num a1 0)) 0 1&&Zaa (i64.wrap (num a1 1)) 1 8):=by
  rw [v2]
  unfold Zao
  rw [tide_eq]
  show (bif Zaa (i64.wrap (num a1 0)) 0 1 then Zaa (i64.wrap (num a1 1)) 1 8 else false)=_
  cases Zaa (i64.wrap (num a1 0)) 0 1<;>rfl
 unfold Uar
 rw [hr]
 cases Zaa (i64.wrap (num a1 0)) 0 1
 ·rfl
 cases Zaa (i64.wrap (num a1 1)) 1 8
 ·rfl
 cases decide ((nQ:Int) > 12)
 rotate_left
 ·rfl
 simp only [Bool.not_true,Bool.not_false,cond_false,Bool.true_and,Bool.and_self]
 have tk:=fun k hk=>takes_eq (S:=a0) (V:=((spl (spl (zc PZ 71) 0 (#[.int .i64 (i64.wrap (num a1 0)),.int .i64 (i64.wrap (num a1 1))]:Array Value).toList) 2 a0.toList).setIfInBounds 365 (.slice none 0 0))) (X:=aQ.extract (k*3) (k*3+3)) bQ nQ aQ hS v1 v2 w1 (by have:=h_a1x2.2.1 k hk;rw [hRE] at this;exact this)
 refine (Zxx (g:=Zcn PZ a0 a1 bQ nQ aQ) (fun k=>(false,(k:Int))) (fun k=>relB a0 (i64.wrap (num a1 1)) (aQ.extract (k*3) (k*3+3))) nQ (N:=18446744073709551616) (xd:=.done (false,(nQ:Int))) (by omega) (fun k hk hp=>by
  have h1:decide ((k:Int)<(nQ:Int))=true:=decide_eq_true (by omega)
  have h0:decide (0≤(k:Int))=true:=decide_eq_true (by omega)
  have h3:i64.wrap ((k:Int)+1)=((k+1:Nat):Int):=by rw [IntWalk.i64_in _ (by omega)];omega
  have hp':relB a0 (i64.wrap (num a1 1)) (aQ.extract (k*3) (k*3+3))=true:=hp
  simp only [Zcn,h1,h0,h3,Bool.and_self,Int.toNat_natCast,cond_true,cond_false,(tk k hk).1,(tk k hk).2,hp',Bool.not_true]) (by
  have h1:decide ((nQ:Int)<(nQ:Int))=false:=decide_eq_false (by omega)
  simp only [Zcn,h1,cond_false]) (Ub7 a0 (i64.wrap (num a1 1)) nQ aQ) (Zq4 a0 _ nQ aQ) (some (.a (.b (decide (wsum aQ nQ≤1000))),.none,true)) (some (.a (.b false),.none,true)) rfl (fun k hk hp=>by
  refine ⟨.more (false,(k:Int)), ?_,rfl⟩
  have h1:decide ((k:Int)<(nQ:Int))=true:=decide_eq_true (by omega)
  have h0:decide (0≤(k:Int))=true:=decide_eq_true (by omega)
  have h3:i64.wrap ((k:Int)+1)=((k+1:Nat):Int):=by rw [IntWalk.i64_in _ (by omega)];omega
  have hp':relB a0 (i64.wrap (num a1 1)) (aQ.extract (k*3) (k*3+3))=false:=hp
  simp only [Zcn,h1,h0,h3,Bool.and_self,Int.toNat_natCast,cond_true,cond_false,(tk k hk).1,(tk k hk).2,hp',Bool.not_false])).trans ?_
 cases Ub7 a0 (i64.wrap (num a1 1)) nQ aQ<;>rfl
def Zix:Con:=fun args h=>match args,h with
 | [.g a0 41,.r a1 45 [(2,0)]],[.sl (.came bQ) nQ aQ 95]=>some (.a (.b ((okS a0&&Uar a0 a1 nQ aQ))),.none,true)
 | _,_=>none
theorem Zky:EntX PZ 65:=Zaf (fn:=Tryz.f65) (by kernel_rfl) (by kernel_rfl) (by kernel_rfl)
theorem Zm5:Uad (md F) PZ 65 Zix:=(Zah (N:=18446744073709551616) (by kernel_rfl) (mkΓ_consX (Zad Zkv) Zib (mkΓ_consX (Zad Zzg) Zsw (mkΓ_consX (Zad Zl8) Zkg (mkΓ_consX (Zad Zrz) Zok (mkΓ_consX (Zad Zo3) Zmq mkΓ_nilX))))) (fn:=Tryz.f65) (by kernel_rfl) (by kernel_rfl) [([4,29],[])]).of (by
 intro ρ h w args vals r e hA hH hr
 unfold Zix at hr
 split at hr
 ·rename_i a0 a1 bQ nQ aQ
  obtain ⟨rfl,hg⟩:=Prod.mk.inj (Option.some.inj hr)
  obtain ⟨rfl,hg2⟩:=Prod.mk.inj hg
  exact Zs5 a0 a1 bQ nQ aQ (hA.wt 0 rfl) (hA.wtr 1 rfl) (hH.slw 0 rfl) hg2
 ·cases hr)
end
end Go.Proofs.YtflnjkpejbohjaaGreatDoor
