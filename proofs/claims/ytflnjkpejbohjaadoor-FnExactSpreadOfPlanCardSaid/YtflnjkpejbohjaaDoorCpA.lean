/- Plans copied, compared and valid, in company. -/
import Derived.Test.YtflnjkpejbohjaaDoorProg
import Derived.Test.YtflnjkpejbohjaaDoorCxK
namespace Go.Proofs.YtflnjkpejbohjaaDoor
open Go.ChangeShapes Go.WideShapes Go.ChangeAt Go.RowKit Ve Vc
open Tryd (prog)
open IntKind (i64)
set_option linter.unusedVariables false
set_option linter.unusedSimpArgs false
set_option maxRecDepth 100000
noncomputable section
variable {F:Vc.Fd}
theorem Zvn (N:Nat) (a0:Array Value):ansV prog (mkΓ []) N Tryd.f46 [] [.g a0 103] []=(some (.a (.g #[.int .i8 (num a0 0),.int .i8 (num a0 1),.int .i16 (num a0 2)] 97),.none,true)):=by kernel_rfl
theorem Ztd (a0:Array Value) (h_a0:WT prog 103 a0) (hg:(true)=true):ansV prog (mkΓ []) 1000 Tryd.f46 [] [.g a0 103] []=some (.a (.g a0 97),.none,true):=by
 have hz:a0.size=3:=by rw [h_a0.layLen];kernel_rfl
 have e0:=(h_a0.int (o:=0) (k:=.i8) (by kernel_rfl)).1
 have e1:=(h_a0.int (o:=1) (k:=.i8) (by kernel_rfl)).1
 have e2:=(h_a0.int (o:=2) (k:=.i16) (by kernel_rfl)).1
 have he:(#[.int .i8 (num a0 0),.int .i8 (num a0 1),.int .i16 (num a0 2)]:Array Value)=a0:=Zgl fun i=>by
  match i with
  | 0=>exact e0.symm
  | 1=>exact e1.symm
  | 2=>exact e2.symm
  | i+3=>rw [Array.getElem?_eq_none (by simp),Array.getElem?_eq_none (by omega)]
 refine (Zvn 1000 a0).trans ?_
 rw [he]
def Zbl:Con:=fun args h=>match args,h with
 | [.g a0 103],[]=>some (.a (.g a0 97),.none,true)
 | _,_=>none
theorem Zs0:EntX prog 46:=Zag (fn:=Tryd.f46) (by kernel_rfl) (by kernel_rfl) (by kernel_rfl)
theorem Zxr:ConOkX (md F) prog 46 Zbl:=(Zah (N:=1000) (by kernel_rfl) mkΓ_nilX (fn:=Tryd.f46) (by kernel_rfl) (by kernel_rfl) []).of (by
 intro ρ h w args vals r e hA hH hr
 unfold Zbl at hr
 split at hr
 ·rename_i a0
  obtain ⟨rfl,hg⟩:=Prod.mk.inj (Option.some.inj hr)
  obtain ⟨rfl,hg2⟩:=Prod.mk.inj hg
  exact Ztd a0 (hA.wt 0 rfl) hg2
 ·cases hr)
def Zdy (b_a0:Option (Option Addr)) (n_a0:Nat) (a0:Array Value):St:=(⟨.a (.l 0) :: .a (.u) :: .a (.v (.slice none 0 0)) :: .a (.l 3) :: .a (.i .i64 (0:Int)) :: .a (.l 0) :: .a (.i .i64 (n_a0:Int)) :: .a (.l 3)::us 15 ([]),[.sl (.came b_a0) n_a0 a0 103,.no,.no,.sl .own ((n_a0:Int).toNat) (madeCells (zc prog 97) ((n_a0:Int).toNat*3)) 97,.no],[]⟩:St)
def Ze8 (n_a0:Nat):Int×Array Value→LS
 | (y0_4,r0_3)=>([.a (.i .i64 (y0_4))],[.sl .own ((n_a0:Int).toNat) r0_3 97])
def Zjg (n_a0:Nat):Int×Array Value→Exit×LS
 | t=>((.exit 0),(Ze8 n_a0) t)
def Zcg (P : Program) (b_a0 : Option (Option Addr)) (n_a0 : Nat) (a0 : Array Value) : Int × Array Value → Option (Stp (Int × Array Value) (Int × Array Value))
 | (y0_4, r0_3) => bif decide (y0_4 < (n_a0 : Int)) then (bif (decide (0 ≤ y0_4) && decide (y0_4 < (n_a0 : Int))) then (bif (decide (0 ≤ y0_4) && decide (y0_4 < (((n_a0 : Int).toNat) : Int))) then (some (.more ((i64.wrap (y0_4 + (1 : Int))), (spl r0_3 ((y0_4).toNat * 3) (a0.extract ((y0_4).toNat * 3) (((y0_4).toNat * 3) + 3)).toList))))
    else (none))
   else (none))
  else (some (.done (y0_4, r0_3)))
theorem Zu9 (N:Nat) (b_a0:Option (Option Addr)) (n_a0:Nat) (a0:Array Value):∀ t:Int×Array Value,stepV prog (mkΓ [(46,con Zbl)]) N (cAt (codeOf Tryd.f24) [1,1,0,1,0,0]) (pAt (mkPlan (codeOf Tryd.f24) [([4],[3])]).1 [1,1,0,1,0]) [4] [3] (Zdy b_a0 n_a0 a0) ((Ze8 n_a0) t)=mapS (Ze8 n_a0) (Zjg n_a0) (Zcg prog b_a0 n_a0 a0 t):=by
 rintro ⟨y0_4,r0_3⟩
 refine Eq.trans (b:=(bif decide (y0_4<(n_a0:Int)) then (bif (decide (0≤y0_4)&&decide (y0_4<(n_a0:Int))) then (bif (decide (0≤y0_4)&&decide (y0_4<(((n_a0:Int).toNat):Int))) then (some (.more ([.a (.i .i64 (i64.wrap (y0_4+(1:Int))))],[.sl .own ((n_a0:Int).toNat) (spl r0_3 ((y0_4).toNat*3) (a0.extract ((y0_4).toNat*3) (((y0_4).toNat*3)+3)).toList) 97])))
    else (none))
   else (none))
  else (some (.done ((.exit 0),([.a (.i .i64 (y0_4))],[.sl .own ((n_a0:Int).toNat) r0_3 97])))))) (by kernel_rfl) ?_
 simp only [Zcg,Za0,Zay,Za1,Zaz,Ze8,Zjg]
def Zhp (P:Program) (N:Nat) (b_a0:Option (Option Addr)) (n_a0:Nat) (a0:Array Value) (z0_4:Int) (q0_3:Array Value):Option (SV×Eff×Bool):=some (.a .x,.newS none ((n_a0:Int).toNat) q0_3 97,true)
theorem Zoi (N:Nat) (b_a0:Option (Option Addr)) (n_a0:Nat) (a0:Array Value) (z0_4:Int) (q0_3:Array Value):(kBlock 0 (kSeq (veC prog (mkΓ [(46,con Zbl)]) N (cAt (codeOf Tryd.f24) [1,1,1]) (pAt (mkPlan (codeOf Tryd.f24) [([4],[3])]).1 [1,1,1]) (SV×Eff×Bool)) (finK prog [.sl (.came b_a0) n_a0 a0 103] [.tmp 2]))) (.exit 0) (left (writes (cAt (codeOf Tryd.f24) [1,1,0,1,0,0])) [4] [3] (Zdy b_a0 n_a0 a0) ([.a (.i .i64 (z0_4))],[.sl .own ((n_a0:Int).toNat) q0_3 97]))=Zhp prog N b_a0 n_a0 a0 z0_4 q0_3:=by
 refine Eq.trans (b:=(some (.a .x,.newS none ((n_a0:Int).toNat) q0_3 97,true))) (by kernel_rfl) ?_
 rfl
theorem Zw0 (N:Nat) (b_a0:Option (Option Addr)) (n_a0:Nat) (a0:Array Value):bindX (iterO (stepV prog (mkΓ [(46,con Zbl)]) N (cAt (codeOf Tryd.f24) [1,1,0,1,0,0]) (pAt (mkPlan (codeOf Tryd.f24) [([4],[3])]).1 [1,1,0,1,0]) [4] [3] (Zdy b_a0 n_a0 a0)) N ([.a (.i .i64 (0:Int))],[.sl .own ((n_a0:Int).toNat) (madeCells (zc prog 97) ((n_a0:Int).toNat*3)) 97])) (fun e s=>(kBlock 0 (kSeq (veC prog (mkΓ [(46,con Zbl)]) N (cAt (codeOf Tryd.f24) [1,1,1]) (pAt (mkPlan (codeOf Tryd.f24) [([4],[3])]).1 [1,1,1]) (SV×Eff×Bool)) (finK prog [.sl (.came b_a0) n_a0 a0 103] [.tmp 2]))) e (left (writes (cAt (codeOf Tryd.f24) [1,1,0,1,0,0])) [4] [3] (Zdy b_a0 n_a0 a0) s))=nodeX (iterO (Zcg prog b_a0 n_a0 a0) N ((0:Int),(madeCells (zc prog 97) ((n_a0:Int).toNat*3)))) (fun x=>Zhp prog N b_a0 n_a0 a0 x.1 x.2):=by
 refine Zbg (Ze8 n_a0) (Zjg n_a0) _ _ (Zu9 N b_a0 n_a0 a0) N ((0:Int),(madeCells (zc prog 97) ((n_a0:Int).toNat*3))) _ _ ?_
 intro x;exact Zoi N b_a0 n_a0 a0 x.1 x.2
theorem Ztp (N:Nat) (b_a0:Option (Option Addr)) (n_a0:Nat) (a0:Array Value):ansV prog (mkΓ [(46,con Zbl)]) N Tryd.f24 [([4],[3])] [.l 0] [.sl (.came b_a0) n_a0 a0 103]=(bif (decide (0≤(n_a0:Int))&&((n_a0:Int)==(n_a0:Int)&&decide ((bytesOf prog 97:Int)*(n_a0:Int)≤281474976710656))) then (nodeX (iterO (Zcg prog b_a0 n_a0 a0) N ((0:Int),(madeCells (zc prog 97) ((n_a0:Int).toNat*3)))) (fun x=>Zhp prog N b_a0 n_a0 a0 x.1 x.2))
  else (none)):=by
 refine Eq.trans (b:=(bif (decide (0≤(n_a0:Int))&&((n_a0:Int)==(n_a0:Int)&&decide ((bytesOf prog 97:Int)*(n_a0:Int)≤281474976710656))) then (bindX (iterO (stepV prog (mkΓ [(46,con Zbl)]) N (cAt (codeOf Tryd.f24) [1,1,0,1,0,0]) (pAt (mkPlan (codeOf Tryd.f24) [([4],[3])]).1 [1,1,0,1,0]) [4] [3] (Zdy b_a0 n_a0 a0)) N ([.a (.i .i64 (0:Int))],[.sl .own ((n_a0:Int).toNat) (madeCells (zc prog 97) ((n_a0:Int).toNat*3)) 97])) (fun e s=>(kBlock 0 (kSeq (veC prog (mkΓ [(46,con Zbl)]) N (cAt (codeOf Tryd.f24) [1,1,1]) (pAt (mkPlan (codeOf Tryd.f24) [([4],[3])]).1 [1,1,1]) (SV×Eff×Bool)) (finK prog [.sl (.came b_a0) n_a0 a0 103] [.tmp 2]))) e (left (writes (cAt (codeOf Tryd.f24) [1,1,0,1,0,0])) [4] [3] (Zdy b_a0 n_a0 a0) s)))
  else (none))) (by kernel_rfl) ?_
 simp only [Zw0 N b_a0 n_a0 a0]
theorem Zsl (b_a0:Option (Option Addr)) (n_a0:Nat) (a0:Array Value) (h_a0:a0.size=n_a0*(lay prog 103).length∧(∀ k,k<n_a0→WT prog 103 (a0.extract (k*(lay prog 103).length) (k*(lay prog 103).length+(lay prog 103).length)))∧n_a0≤9223372036854775807) (hg:(decide (n_a0≤1048576))=true):ansV prog (mkΓ [(46,con Zbl)]) 18446744073709551616 Tryd.f24 [([4],[3])] [.l 0] [.sl (.came b_a0) n_a0 a0 103]=some (.a .x,.newS none n_a0 a0 97,true):=by
 have hn:n_a0≤1048576:=of_decide_eq_true hg
 have hm:(lay prog 103).length=3:=by kernel_rfl
 have hb:bytesOf prog 97=4:=by kernel_rfl
 obtain ⟨s1,s2,s3⟩:=h_a0
 rw [hm] at s1 s2
 have hq:(lay prog 103)[0]? = some 0:=by kernel_rfl
 refine (Ztp 18446744073709551616 b_a0 n_a0 a0).trans ?_
 have hgd:(decide (0≤(n_a0:Int))&&((n_a0:Int)==(n_a0:Int)&&decide ((bytesOf prog 97:Int)*(n_a0:Int)≤281474976710656)))=true:=by
  rw [hb,decide_eq_true (show (0:Int)≤n_a0 by omega),beq_self_eq_true,decide_eq_true (show (((4:Nat):Int))*(n_a0:Int)≤281474976710656 by omega)];rfl
 rw [hgd,cond_true]
 have hs:a0.size=(madeCells (zc prog 97) ((n_a0:Int).toNat*3)).size:=by rw [size_madeCells,Int.toNat_natCast];exact s1
 generalize (madeCells (zc prog 97) ((n_a0:Int).toNat*3))=Z at hs⊢
 have h:=Zfd (g:=Zcg prog b_a0 n_a0 a0) (fun k=>((k:Int),upto a0 Z (k*3))) (m:=n_a0) (x:=((n_a0:Int),upto a0 Z (n_a0*3))) (N:=18446744073709551616) (fun k hk=>by
  have h1:decide ((k:Int)<(n_a0:Int))=true:=decide_eq_true (by omega)
  have h0:decide (0≤(k:Int))=true:=decide_eq_true (by omega)
  have h3:i64.wrap ((k:Int)+1)=((k+1:Nat):Int):=by rw [IntWalk.i64_in _ (by omega)];omega
  have h5:spl (upto a0 Z (k*3)) (k*3) (a0.extract (k*3) (k*3+3)).toList=upto a0 Z ((k+1)*3):=by
   rw [Nat.add_mul];exact Zz5 hs (by have:(k+1)*3≤n_a0*3:=Nat.mul_le_mul_right _ hk;omega) rfl
  simp only [Zcg,h1,h0,Bool.and_self,Int.toNat_natCast,cond_true,h3,h5]) (by
  have h1:decide ((n_a0:Int)<(n_a0:Int))=false:=decide_eq_false (by omega)
  simp only [Zcg,h1,cond_false]) (by omega)
 rw [Zvw hs s1] at h
 simp only [Nat.zero_mul,Zq4 hs] at h
 have h':iterO (Zcg prog b_a0 n_a0 a0) 18446744073709551616 ((0:Int),Z)=some ((n_a0:Int),a0):=h
 rw [h']
 show some (_,Eff.newS none ((n_a0:Int).toNat) a0 97,true)=_
 rw [Int.toNat_natCast]
def Zfz:Con:=fun args h=>match args,h with
 | [.l 0],[.sl (.came b_a0) n_a0 a0 103]=>some (.a .x,.newS none n_a0 a0 97,decide (n_a0≤1048576))
 | _,_=>none
theorem Zpz:EntX prog 24:=Zag (fn:=Tryd.f24) (by kernel_rfl) (by kernel_rfl) (by kernel_rfl)
theorem Zvz:ConOkX (md F) prog 24 Zfz:=(Zah (N:=18446744073709551616) (by kernel_rfl) (mkΓ_consX (Zad Zxr) Zs0 mkΓ_nilX) (fn:=Tryd.f24) (by kernel_rfl) (by kernel_rfl) [([4],[3])]).of (by
 intro ρ h w args vals r e hA hH hr
 unfold Zfz at hr
 split at hr
 ·rename_i b_a0 n_a0 a0
  obtain ⟨rfl,hg⟩:=Prod.mk.inj (Option.some.inj hr)
  obtain ⟨rfl,hg2⟩:=Prod.mk.inj hg
  exact Zsl b_a0 n_a0 a0 (hH.slw 0 rfl) hg2
 ·cases hr)
theorem Zwe (N:Nat) (a0 a1:Array Value):ansV prog (mkΓ []) N Tryd.f52 [] [.g a0 97,.g a1 97] []=(bif ((num a0 0) != (num a1 0)) then (some (.a (.b (false)),.none,true))
  else (bif ((num a0 1) != (num a1 1)) then (some (.a (.b (false)),.none,true))
   else (bif ((num a0 2) != (num a1 2)) then (some (.a (.b (false)),.none,true))
    else (some (.a (.b (true)),.none,true))))):=by kernel_rfl
theorem Zt8 (a0 a1:Array Value) (h_a0:WT prog 97 a0) (h_a1:WT prog 97 a1) (hg:(true)=true):ansV prog (mkΓ []) 1000 Tryd.f52 [] [.g a0 97,.g a1 97] []=some (.a (.b (sameB a0 a1)),.none,true):=by
 have hz:a0.size=3:=by rw [h_a0.layLen];kernel_rfl
 have hy:a1.size=3:=by rw [h_a1.layLen];kernel_rfl
 refine (Zwe 1000 a0 a1).trans ?_
 cases hb:sameB a0 a1
 ·have hne:=Yh1.1 hb
  cases h0:(num a0 0 != num a1 0)
  ·skip
   cases h1:(num a0 1 != num a1 1)
   ·skip
    cases h2:(num a0 2 != num a1 2)
    ·skip
     exfalso
     refine hne (Zgl fun i=> ?_)
     by_cases c0:i=0
     ·subst c0
      rw [(h_a0.int (k:=.i8) (o:=0) (by kernel_rfl)).1,(h_a1.int (k:=.i8) (o:=0) (by kernel_rfl)).1,Ymd h0]
     by_cases c1:i=1
     ·subst c1
      rw [(h_a0.int (k:=.i8) (o:=1) (by kernel_rfl)).1,(h_a1.int (k:=.i8) (o:=1) (by kernel_rfl)).1,Ymd h1]
     by_cases c2:i=2
     ·subst c2
      rw [(h_a0.int (k:=.i16) (o:=2) (by kernel_rfl)).1,(h_a1.int (k:=.i16) (o:=2) (by kernel_rfl)).1,Ymd h2]
     rw [Array.getElem?_eq_none (by omega),Array.getElem?_eq_none (by omega)]
    ·rfl
   ·rfl
  ·rfl
 ·rw [Zh1.1 hb]
  simp only [bne_self_eq_false,cond_false,Zit,Bool.not_true]
def Za7:Con:=fun args h=>match args,h with
 | [.g a0 97,.g a1 97],[]=>some (.a (.b (sameB a0 a1)),.none,true)
 | _,_=>none
theorem Zsd:EntX prog 52:=Zag (fn:=Tryd.f52) (by kernel_rfl) (by kernel_rfl) (by kernel_rfl)
theorem Zxm:ConOkX (md F) prog 52 Za7:=(Zah (N:=1000) (by kernel_rfl) mkΓ_nilX (fn:=Tryd.f52) (by kernel_rfl) (by kernel_rfl) []).of (by
 intro ρ h w args vals r e hA hH hr
 unfold Za7 at hr
 split at hr
 ·rename_i a0 a1
  obtain ⟨rfl,hg⟩:=Prod.mk.inj (Option.some.inj hr)
  obtain ⟨rfl,hg2⟩:=Prod.mk.inj hg
  exact Zt8 a0 a1 (hA.wt 0 rfl) (hA.wt 1 rfl) hg2
 ·cases hr)
def Zc2 (b_a0:Option (Option Addr)) (n_a0:Nat) (a0:Array Value) (b_a1:Option (Option Addr)) (n_a1:Nat) (a1:Array Value):St:=(⟨.a (.l 0) :: .a (.l 1) :: .a (.u) :: .a (.u) :: .a (.b (false)) :: .a (.i .i64 (0:Int)) :: .a (.l 0) :: .a (.i .i64 (n_a0:Int)) :: .a (.l 1) :: .a (.i .i64 (n_a1:Int)) :: .a (.b (((n_a0:Int) != (n_a1:Int))))::us 16 ([]),[.sl (.came b_a0) n_a0 a0 97,.sl (.came b_a1) n_a1 a1 97],[]⟩:St)
def Zd1:Bool×Int→LS
 | (y0_4,y0_5)=>([.a (.b (y0_4)),.a (.i .i64 (y0_5))],[])
def Ziv:(Stp (Bool×Int) (Bool×Int))→Exit×LS
 | .more t=>(.ret,Zd1 t)
 | .done t=>((.exit 0),Zd1 t)
def Zcf (P : Program) (b_a0 : Option (Option Addr)) (n_a0 : Nat) (a0 : Array Value) (b_a1 : Option (Option Addr)) (n_a1 : Nat) (a1 : Array Value) : Bool × Int → Option (Stp (Bool × Int) (Stp (Bool × Int) (Bool × Int)))
 | (y0_4, y0_5) => bif decide (y0_5 < (n_a0 : Int)) then (bif (decide (0 ≤ y0_5) && decide (y0_5 < (n_a0 : Int))) then (bif (decide (0 ≤ y0_5) && decide (y0_5 < (n_a1 : Int))) then (bif (!(sameB (a0.extract ((y0_5).toNat * 3) (((y0_5).toNat * 3) + 3)) (a1.extract ((y0_5).toNat * 3) (((y0_5).toNat * 3) + 3)))) then (some (.done (.more (false, y0_5))))
     else (some (.more (y0_4, (i64.wrap (y0_5 + (1 : Int)))))))
    else (none))
   else (none))
  else (some (.done (.done (y0_4, y0_5))))
theorem Zwj (N:Nat) (b_a0:Option (Option Addr)) (n_a0:Nat) (a0:Array Value) (b_a1:Option (Option Addr)) (n_a1:Nat) (a1:Array Value):∀ t:Bool×Int,stepV prog (mkΓ [(52,con Za7)]) N (cAt (codeOf Tryd.f29) [1,1,0,1,0,0]) (pAt (mkPlan (codeOf Tryd.f29) [([4,5],[])]).1 [1,1,0,1,0]) [4,5] [] (Zc2 b_a0 n_a0 a0 b_a1 n_a1 a1) (Zd1 t)=mapS Zd1 Ziv (Zcf prog b_a0 n_a0 a0 b_a1 n_a1 a1 t):=by
 rintro ⟨y0_4,y0_5⟩
 refine Eq.trans (b:=(bif decide (y0_5<(n_a0:Int)) then (bif (decide (0≤y0_5)&&decide (y0_5<(n_a0:Int))) then (bif (decide (0≤y0_5)&&decide (y0_5<(n_a1:Int))) then (bif (!(sameB (a0.extract ((y0_5).toNat*3) (((y0_5).toNat*3)+3)) (a1.extract ((y0_5).toNat*3) (((y0_5).toNat*3)+3)))) then (some (.done (.ret,([.a (.b (false)),.a (.i .i64 (y0_5))],[]))))
     else (some (.more ([.a (.b (y0_4)),.a (.i .i64 (i64.wrap (y0_5+(1:Int))))],[]))))
    else (none))
   else (none))
  else (some (.done ((.exit 0),([.a (.b (y0_4)),.a (.i .i64 (y0_5))],[])))))) (by kernel_rfl) ?_
 simp only [Zcf,Za0,Zay,Za1,Zaz,Zd1,Ziv]
def Zhl (P:Program) (N:Nat) (b_a0:Option (Option Addr)) (n_a0:Nat) (a0:Array Value) (b_a1:Option (Option Addr)) (n_a1:Nat) (a1:Array Value) (z0_4:Bool) (z0_5:Int):Option (SV×Eff×Bool):=some (.a (.b (z0_4)),.none,true)
theorem Zn9 (N:Nat) (b_a0:Option (Option Addr)) (n_a0:Nat) (a0:Array Value) (b_a1:Option (Option Addr)) (n_a1:Nat) (a1:Array Value) (z0_4:Bool) (z0_5:Int):(kBlock 0 (kSeq (veC prog (mkΓ [(52,con Za7)]) N (cAt (codeOf Tryd.f29) [1,1,1]) (pAt (mkPlan (codeOf Tryd.f29) [([4,5],[])]).1 [1,1,1]) (SV×Eff×Bool)) (finK prog [.sl (.came b_a0) n_a0 a0 97,.sl (.came b_a1) n_a1 a1 97] [.tmp 4]))) .ret (left (writes (cAt (codeOf Tryd.f29) [1,1,0,1,0,0])) [4,5] [] (Zc2 b_a0 n_a0 a0 b_a1 n_a1 a1) ([.a (.b (z0_4)),.a (.i .i64 (z0_5))],[]))=Zhl prog N b_a0 n_a0 a0 b_a1 n_a1 a1 z0_4 z0_5:=by
 refine Eq.trans (b:=(some (.a (.b (z0_4)),.none,true))) (by kernel_rfl) ?_
 rfl
def Zhn (P:Program) (N:Nat) (b_a0:Option (Option Addr)) (n_a0:Nat) (a0:Array Value) (b_a1:Option (Option Addr)) (n_a1:Nat) (a1:Array Value) (z0_4:Bool) (z0_5:Int):Option (SV×Eff×Bool):=some (.a (.b (true)),.none,true)
theorem Zom (N:Nat) (b_a0:Option (Option Addr)) (n_a0:Nat) (a0:Array Value) (b_a1:Option (Option Addr)) (n_a1:Nat) (a1:Array Value) (z0_4:Bool) (z0_5:Int):(kBlock 0 (kSeq (veC prog (mkΓ [(52,con Za7)]) N (cAt (codeOf Tryd.f29) [1,1,1]) (pAt (mkPlan (codeOf Tryd.f29) [([4,5],[])]).1 [1,1,1]) (SV×Eff×Bool)) (finK prog [.sl (.came b_a0) n_a0 a0 97,.sl (.came b_a1) n_a1 a1 97] [.tmp 4]))) (.exit 0) (left (writes (cAt (codeOf Tryd.f29) [1,1,0,1,0,0])) [4,5] [] (Zc2 b_a0 n_a0 a0 b_a1 n_a1 a1) ([.a (.b (z0_4)),.a (.i .i64 (z0_5))],[]))=Zhn prog N b_a0 n_a0 a0 b_a1 n_a1 a1 z0_4 z0_5:=by
 refine Eq.trans (b:=(some (.a (.b (true)),.none,true))) (by kernel_rfl) ?_
 rfl
theorem Zvv (N:Nat) (b_a0:Option (Option Addr)) (n_a0:Nat) (a0:Array Value) (b_a1:Option (Option Addr)) (n_a1:Nat) (a1:Array Value):bindX (iterO (stepV prog (mkΓ [(52,con Za7)]) N (cAt (codeOf Tryd.f29) [1,1,0,1,0,0]) (pAt (mkPlan (codeOf Tryd.f29) [([4,5],[])]).1 [1,1,0,1,0]) [4,5] [] (Zc2 b_a0 n_a0 a0 b_a1 n_a1 a1)) N ([.a (.b (false)),.a (.i .i64 (0:Int))],[])) (fun e s=>(kBlock 0 (kSeq (veC prog (mkΓ [(52,con Za7)]) N (cAt (codeOf Tryd.f29) [1,1,1]) (pAt (mkPlan (codeOf Tryd.f29) [([4,5],[])]).1 [1,1,1]) (SV×Eff×Bool)) (finK prog [.sl (.came b_a0) n_a0 a0 97,.sl (.came b_a1) n_a1 a1 97] [.tmp 4]))) e (left (writes (cAt (codeOf Tryd.f29) [1,1,0,1,0,0])) [4,5] [] (Zc2 b_a0 n_a0 a0 b_a1 n_a1 a1) s))=nodeX (iterO (Zcf prog b_a0 n_a0 a0 b_a1 n_a1 a1) N (false,(0:Int))) (st2 (fun x=>Zhl prog N b_a0 n_a0 a0 b_a1 n_a1 a1 x.1 x.2) (fun x=>Zhn prog N b_a0 n_a0 a0 b_a1 n_a1 a1 x.1 x.2)):=by
 refine Zbg Zd1 Ziv _ _ (Zwj N b_a0 n_a0 a0 b_a1 n_a1 a1) N (false,(0:Int)) _ _ ?_
 intro x
 cases x with
 | more x=>exact Zn9 N b_a0 n_a0 a0 b_a1 n_a1 a1 x.1 x.2
 | done x=>exact Zom N b_a0 n_a0 a0 b_a1 n_a1 a1 x.1 x.2
theorem Ztt (N:Nat) (b_a0:Option (Option Addr)) (n_a0:Nat) (a0:Array Value) (b_a1:Option (Option Addr)) (n_a1:Nat) (a1:Array Value):ansV prog (mkΓ [(52,con Za7)]) N Tryd.f29 [([4,5],[])] [.l 0,.l 1] [.sl (.came b_a0) n_a0 a0 97,.sl (.came b_a1) n_a1 a1 97]=(bif ((n_a0:Int) != (n_a1:Int)) then (some (.a (.b (false)),.none,true))
  else (nodeX (iterO (Zcf prog b_a0 n_a0 a0 b_a1 n_a1 a1) N (false,(0:Int))) (st2 (fun x=>Zhl prog N b_a0 n_a0 a0 b_a1 n_a1 a1 x.1 x.2) (fun x=>Zhn prog N b_a0 n_a0 a0 b_a1 n_a1 a1 x.1 x.2)))):=by
 refine Eq.trans (b:=(bif ((n_a0:Int) != (n_a1:Int)) then (some (.a (.b (false)),.none,true))
  else (bindX (iterO (stepV prog (mkΓ [(52,con Za7)]) N (cAt (codeOf Tryd.f29) [1,1,0,1,0,0]) (pAt (mkPlan (codeOf Tryd.f29) [([4,5],[])]).1 [1,1,0,1,0]) [4,5] [] (Zc2 b_a0 n_a0 a0 b_a1 n_a1 a1)) N ([.a (.b (false)),.a (.i .i64 (0:Int))],[])) (fun e s=>(kBlock 0 (kSeq (veC prog (mkΓ [(52,con Za7)]) N (cAt (codeOf Tryd.f29) [1,1,1]) (pAt (mkPlan (codeOf Tryd.f29) [([4,5],[])]).1 [1,1,1]) (SV×Eff×Bool)) (finK prog [.sl (.came b_a0) n_a0 a0 97,.sl (.came b_a1) n_a1 a1 97] [.tmp 4]))) e (left (writes (cAt (codeOf Tryd.f29) [1,1,0,1,0,0])) [4,5] [] (Zc2 b_a0 n_a0 a0 b_a1 n_a1 a1) s))))) (by kernel_rfl) ?_
 simp only [Zvv N b_a0 n_a0 a0 b_a1 n_a1 a1]
theorem Zsn (b_a0:Option (Option Addr)) (n_a0:Nat) (a0:Array Value) (b_a1:Option (Option Addr)) (n_a1:Nat) (a1:Array Value) (h_a0:a0.size=n_a0*(lay prog 97).length∧(∀ k,k<n_a0→WT prog 97 (a0.extract (k*(lay prog 97).length) (k*(lay prog 97).length+(lay prog 97).length)))∧n_a0≤9223372036854775807) (h_a1:a1.size=n_a1*(lay prog 97).length∧(∀ k,k<n_a1→WT prog 97 (a1.extract (k*(lay prog 97).length) (k*(lay prog 97).length+(lay prog 97).length)))∧n_a1≤9223372036854775807) (hg:(true)=true):ansV prog (mkΓ [(52,con Za7)]) 18446744073709551616 Tryd.f29 [([4,5],[])] [.l 0,.l 1] [.sl (.came b_a0) n_a0 a0 97,.sl (.came b_a1) n_a1 a1 97]=some (.a (.b ((decide (n_a0=n_a1)&&sameB a0 a1))),.none,true):=by
 have hm:(lay prog 97).length=3:=by kernel_rfl
 obtain ⟨s1,s2,s3⟩:=h_a0
 obtain ⟨t1,t2,t3⟩:=h_a1
 rw [hm] at s1 s2 t1 t2
 have hq:(lay prog 97)[0]? = some 0:=by kernel_rfl
 refine (Ztt 18446744073709551616 b_a0 n_a0 a0 b_a1 n_a1 a1).trans ?_
 by_cases hl:n_a0=n_a1
 case neg=>
  rw [decide_eq_false hl,show ((n_a0:Int) != (n_a1:Int))=true from bne_iff_ne.2 (by omega)]
  rfl
 subst hl
 rw [decide_eq_true rfl,show ((n_a0:Int) != (n_a0:Int))=false from bne_self_eq_false _]
 simp only [cond_false,Bool.true_and]
 have hb:sameB a0 a1=true ↔ ∀ k,k<n_a0→(fun k=>sameB (a0.extract (k*3) (k*3+3)) (a1.extract (k*3) (k*3+3))) k=true:=by
  constructor
  ·intro h k hk
   rw [Zh1.1 h]
   exact Zit _
  ·intro h
   refine Zh1.2 ?_
   exact Yam (n:=n_a0) (m:=3) (by omega) s1 t1 (fun k hk=>Zh1.1 (h k hk))
 refine (Zrp (g:=Zcf prog b_a0 n_a0 a0 b_a1 n_a0 a1) (fun k=>(false,(k:Int))) (fun k=>sameB (a0.extract (k*3) (k*3+3)) (a1.extract (k*3) (k*3+3))) n_a0 (N:=18446744073709551616) (xd:=.done (false,(n_a0:Int))) (by omega) (fun k hk hp=>by
  have h1:decide ((k:Int)<(n_a0:Int))=true:=decide_eq_true (by omega)
  have h0:decide (0≤(k:Int))=true:=decide_eq_true (by omega)
  have h3:i64.wrap ((k:Int)+1)=((k+1:Nat):Int):=by rw [IntWalk.i64_in _ (by omega)];omega
  have hp':sameB (a0.extract (k*3) (k*3+3)) (a1.extract (k*3) (k*3+3))=true:=hp
  simp only [Zcf,h1,h0,Bool.and_self,Int.toNat_natCast,cond_true,h3,hp',Bool.not_true,cond_false]) (by
  have h1:decide ((n_a0:Int)<(n_a0:Int))=false:=decide_eq_false (by omega)
  simp only [Zcf,h1,cond_false]) (sameB a0 a1) hb (some (.a (.b true),.none,true)) (some (.a (.b false),.none,true)) rfl (fun k hk hp=>by
  refine ⟨.more (false,(k:Int)), ?_,rfl⟩
  have h1:decide ((k:Int)<(n_a0:Int))=true:=decide_eq_true (by omega)
  have h0:decide (0≤(k:Int))=true:=decide_eq_true (by omega)
  have hp':sameB (a0.extract (k*3) (k*3+3)) (a1.extract (k*3) (k*3+3))=false:=hp
  simp only [Zcf,h1,h0,Bool.and_self,Int.toNat_natCast,cond_true,hp',Bool.not_false])).trans ?_
 cases sameB a0 a1<;>rfl
def Zf6:Con:=fun args h=>match args,h with
 | [.l 0,.l 1],[.sl (.came b_a0) n_a0 a0 97,.sl (.came b_a1) n_a1 a1 97]=>some (.a (.b ((decide (n_a0=n_a1)&&sameB a0 a1))),.none,true)
 | _,_=>none
theorem Zrc:EntX prog 29:=Zag (fn:=Tryd.f29) (by kernel_rfl) (by kernel_rfl) (by kernel_rfl)
theorem Zuf:ConOkX (md F) prog 29 Zf6:=(Zah (N:=18446744073709551616) (by kernel_rfl) (mkΓ_consX (Zad Zxm) Zsd mkΓ_nilX) (fn:=Tryd.f29) (by kernel_rfl) (by kernel_rfl) [([4,5],[])]).of (by
 intro ρ h w args vals r e hA hH hr
 unfold Zf6 at hr
 split at hr
 ·rename_i b_a0 n_a0 a0 b_a1 n_a1 a1
  obtain ⟨rfl,hg⟩:=Prod.mk.inj (Option.some.inj hr)
  obtain ⟨rfl,hg2⟩:=Prod.mk.inj hg
  exact Zsn b_a0 n_a0 a0 b_a1 n_a1 a1 (hH.slw 0 rfl) (hH.slw 1 rfl) hg2
 ·cases hr)
theorem Zt0 (N:Nat) (a1:Int) (b_a0:Option (Option Addr)) (n_a0:Nat) (a0:Array Value):ansV prog (mkΓ []) N Tryd.f20 [] [.l 0,.i .i64 (a1)] [.sl (.came b_a0) n_a0 a0 103]=(bif decide ((i64.wrap (a1 - (n_a0:Int)))<(0:Int)) then (some (.a (.i .i64 (-1:Int)),.none,true))
  else (some (.a (.i .i64 (i64.wrap (a1 - (n_a0:Int)))),.none,true))):=by kernel_rfl
def Za8 (a1:Int) (b_a0:Option (Option Addr)) (n_a0:Nat) (a0:Array Value):Int:=(bif decide ((i64.wrap (a1 - (n_a0:Int)))<(0:Int)) then (-1:Int) else (i64.wrap (a1 - (n_a0:Int))))
theorem Zsb (a1:Int) (b_a0:Option (Option Addr)) (n_a0:Nat) (a0:Array Value) (h_a1:i64.min≤a1∧a1≤i64.max) (h_a0:a0.size=n_a0*(lay prog 103).length∧(∀ k,k<n_a0→WT prog 103 (a0.extract (k*(lay prog 103).length) (k*(lay prog 103).length+(lay prog 103).length)))∧n_a0≤9223372036854775807) (hg:(true)=true):ansV prog (mkΓ []) 1000 Tryd.f20 [] [.l 0,.i .i64 (a1)] [.sl (.came b_a0) n_a0 a0 103]=some (.a (.i .i64 (Za8 a1 b_a0 n_a0 a0)),.none,true):=by
 refine (Zt0 1000 a1 b_a0 n_a0 a0).trans ?_
 unfold Za8
 revert hg
 generalize (decide ((i64.wrap (a1 - (n_a0:Int)))<(0:Int)))=b2
 intro hg
 cases b2
 ·skip
  first | (simp only [cond_true,cond_false,Bool.and_true,Bool.true_and,Bool.and_false,Bool.false_and];done) | rfl | exact (nomatch (hg:false=true))
 ·skip
  first | (simp only [cond_true,cond_false,Bool.and_true,Bool.true_and,Bool.and_false,Bool.false_and];done) | rfl | exact (nomatch (hg:false=true))
def Zf1:Con:=fun args h=>match args,h with
 | [.l 0,.i .i64 a1],[.sl (.came b_a0) n_a0 a0 103]=>some (.a (.i .i64 (Za8 a1 b_a0 n_a0 a0)),.none,true)
 | _,_=>none
theorem Zqq:EntX prog 20:=Zag (fn:=Tryd.f20) (by kernel_rfl) (by kernel_rfl) (by kernel_rfl)
theorem Zwu:ConOkX (md F) prog 20 Zf1:=(Zah (N:=1000) (by kernel_rfl) mkΓ_nilX (fn:=Tryd.f20) (by kernel_rfl) (by kernel_rfl) []).of (by
 intro ρ h w args vals r e hA hH hr
 unfold Zf1 at hr
 split at hr
 ·rename_i a1 b_a0 n_a0 a0
  obtain ⟨rfl,hg⟩:=Prod.mk.inj (Option.some.inj hr)
  obtain ⟨rfl,hg2⟩:=Prod.mk.inj hg
  exact Zsb a1 b_a0 n_a0 a0 (hA.rng 1 rfl) (hH.slw 0 rfl) hg2
 ·cases hr)
theorem Yb2 (N:Nat) (a0:Array Value) (b_a0x2:Option (Option Addr)) (n_a0x2:Nat) (a0x2:Array Value):ansV prog (mkΓ [(24,con Zfz)]) N Tryd.f10 [] [.r a0 31 [(2,0)]] [.sl (.came b_a0x2) n_a0x2 a0x2 103]=(bif decide (n_a0x2≤1048576) then (some (.a (.r #[.int .i8 (num a0 0),.int .i8 (num a0 1),.slice none 0 0] 46 [(2,HOLE)]),.newS (some 1000000) n_a0x2 a0x2 97,true))
  else (none)):=by kernel_rfl
theorem Zzi (a0:Array Value) (b_a0x2:Option (Option Addr)) (n_a0x2:Nat) (a0x2:Array Value) (h_a0:WT prog 31 a0) (h_a0x2:a0x2.size=n_a0x2*(lay prog 103).length∧(∀ k,k<n_a0x2→WT prog 103 (a0x2.extract (k*(lay prog 103).length) (k*(lay prog 103).length+(lay prog 103).length)))∧n_a0x2≤9223372036854775807) (hg:(decide (n_a0x2≤1048576))=true):ansV prog (mkΓ [(24,con Zfz)]) 1000 Tryd.f10 [] [.r a0 31 [(2,0)]] [.sl (.came b_a0x2) n_a0x2 a0x2 103]=some (.a (.r a0 46 [(2,HOLE)]),.newS (some 1000000) n_a0x2 a0x2 97,true):=by
 have hz:a0.size=3:=by rw [h_a0.layLen];kernel_rfl
 have e0:=(h_a0.int (o:=0) (k:=.i8) (by kernel_rfl)).1
 have e1:=(h_a0.int (o:=1) (k:=.i8) (by kernel_rfl)).1
 have e2:=h_a0.nil (o:=2) (by kernel_rfl)
 have he:(#[.int .i8 (num a0 0),.int .i8 (num a0 1),.slice none 0 0]:Array Value)=a0:=Zgl fun i=>by
  match i with
  | 0=>exact e0.symm
  | 1=>exact e1.symm
  | 2=>exact e2.symm
  | i+3=>rw [Array.getElem?_eq_none (by simp),Array.getElem?_eq_none (by omega)]
 refine (Yb2 1000 a0 b_a0x2 n_a0x2 a0x2).trans ?_
 rw [hg,he]
 rfl
def Zgy:Con:=fun args h=>match args,h with
 | [.r a0 31 [(2,0)]],[.sl (.came b_a0x2) n_a0x2 a0x2 103]=>some (.a (.r a0 46 [(2,HOLE)]),.newS (some 1000000) n_a0x2 a0x2 97,decide (n_a0x2≤1048576))
 | _,_=>none
theorem Zjy:EntX prog 10:=Zag (fn:=Tryd.f10) (by kernel_rfl) (by kernel_rfl) (by kernel_rfl)
theorem Zna:ConOkX (md F) prog 10 Zgy:=(Zah (N:=1000) (by kernel_rfl) (mkΓ_consX (Zad Zvz) Zpz mkΓ_nilX) (fn:=Tryd.f10) (by kernel_rfl) (by kernel_rfl) []).of (by
 intro ρ h w args vals r e hA hH hr
 unfold Zgy at hr
 split at hr
 ·rename_i a0 b_a0x2 n_a0x2 a0x2
  obtain ⟨rfl,hg⟩:=Prod.mk.inj (Option.some.inj hr)
  obtain ⟨rfl,hg2⟩:=Prod.mk.inj hg
  exact Zzi a0 b_a0x2 n_a0x2 a0x2 (hA.wtr 0 rfl) (hH.slw 0 rfl) hg2
 ·cases hr)
theorem Yce (N:Nat) (a0 a1:Array Value) (b_a0x2:Option (Option Addr)) (n_a0x2:Nat) (a0x2:Array Value) (b_a1x2:Option (Option Addr)) (n_a1x2:Nat) (a1x2:Array Value):ansV prog (mkΓ [(29,con Zf6)]) N Tryd.f13 [] [.r a0 46 [(2,0)],.r a1 46 [(2,1)]] [.sl (.came b_a0x2) n_a0x2 a0x2 97,.sl (.came b_a1x2) n_a1x2 a1x2 97]=(bif ((num a0 0) != (num a1 0)) then (some (.a (.b (false)),.none,true))
  else (bif ((num a0 1) != (num a1 1)) then (some (.a (.b (false)),.none,true))
   else (bif (!((decide (n_a0x2=n_a1x2)&&sameB a0x2 a1x2))) then (some (.a (.b (false)),.none,true))
    else (some (.a (.b (true)),.none,true))))):=by kernel_rfl
def Zax (a0 a1:Array Value) (b_a0x2:Option (Option Addr)) (n_a0x2:Nat) (a0x2:Array Value) (b_a1x2:Option (Option Addr)) (n_a1x2:Nat) (a1x2:Array Value):Bool:=(bif ((num a0 0) != (num a1 0)) then false else (bif ((num a0 1) != (num a1 1)) then false else (bif (!((decide (n_a0x2=n_a1x2)&&sameB a0x2 a1x2))) then false else true)))
theorem Zzj (a0 a1:Array Value) (b_a0x2:Option (Option Addr)) (n_a0x2:Nat) (a0x2:Array Value) (b_a1x2:Option (Option Addr)) (n_a1x2:Nat) (a1x2:Array Value) (h_a0:WT prog 46 a0) (h_a1:WT prog 46 a1) (h_a0x2:a0x2.size=n_a0x2*(lay prog 97).length∧(∀ k,k<n_a0x2→WT prog 97 (a0x2.extract (k*(lay prog 97).length) (k*(lay prog 97).length+(lay prog 97).length)))∧n_a0x2≤9223372036854775807) (h_a1x2:a1x2.size=n_a1x2*(lay prog 97).length∧(∀ k,k<n_a1x2→WT prog 97 (a1x2.extract (k*(lay prog 97).length) (k*(lay prog 97).length+(lay prog 97).length)))∧n_a1x2≤9223372036854775807) (hg:(true)=true):ansV prog (mkΓ [(29,con Zf6)]) 1000 Tryd.f13 [] [.r a0 46 [(2,0)],.r a1 46 [(2,1)]] [.sl (.came b_a0x2) n_a0x2 a0x2 97,.sl (.came b_a1x2) n_a1x2 a1x2 97]=some (.a (.b ((Zax a0 a1 b_a0x2 n_a0x2 a0x2 b_a1x2 n_a1x2 a1x2))),.none,true):=by
 refine (Yce 1000 a0 a1 b_a0x2 n_a0x2 a0x2 b_a1x2 n_a1x2 a1x2).trans ?_
 unfold Zax
 revert hg
 generalize (((num a0 0) != (num a1 0)))=b2
 intro hg
 cases b2
 ·skip
  revert hg
  generalize (((num a0 1) != (num a1 1)))=b4
  intro hg
  cases b4
  ·skip
   revert hg
   generalize ((!((decide (n_a0x2=n_a1x2)&&sameB a0x2 a1x2))))=b6
   intro hg
   cases b6
   ·skip
    first | (simp only [cond_true,cond_false,Bool.and_true,Bool.true_and,Bool.and_false,Bool.false_and];done) | rfl | exact (nomatch (hg:false=true))
   ·skip
    first | (simp only [cond_true,cond_false,Bool.and_true,Bool.true_and,Bool.and_false,Bool.false_and];done) | rfl | exact (nomatch (hg:false=true))
  ·skip
   first | (simp only [cond_true,cond_false,Bool.and_true,Bool.true_and,Bool.and_false,Bool.false_and];done) | rfl | exact (nomatch (hg:false=true))
 ·skip
  first | (simp only [cond_true,cond_false,Bool.and_true,Bool.true_and,Bool.and_false,Bool.false_and];done) | rfl | exact (nomatch (hg:false=true))
def Zgv:Con:=fun args h=>match args,h with
 | [.r a0 46 [(2,0)],.r a1 46 [(2,1)]],[.sl (.came b_a0x2) n_a0x2 a0x2 97,.sl (.came b_a1x2) n_a1x2 a1x2 97]=>some (.a (.b ((Zax a0 a1 b_a0x2 n_a0x2 a0x2 b_a1x2 n_a1x2 a1x2))),.none,true)
 | _,_=>none
theorem Zj2:EntX prog 13:=Zag (fn:=Tryd.f13) (by kernel_rfl) (by kernel_rfl) (by kernel_rfl)
theorem Znd:ConOkX (md F) prog 13 Zgv:=(Zah (N:=1000) (by kernel_rfl) (mkΓ_consX (Zad Zuf) Zrc mkΓ_nilX) (fn:=Tryd.f13) (by kernel_rfl) (by kernel_rfl) []).of (by
 intro ρ h w args vals r e hA hH hr
 unfold Zgv at hr
 split at hr
 ·rename_i a0 a1 b_a0x2 n_a0x2 a0x2 b_a1x2 n_a1x2 a1x2
  obtain ⟨rfl,hg⟩:=Prod.mk.inj (Option.some.inj hr)
  obtain ⟨rfl,hg2⟩:=Prod.mk.inj hg
  exact Zzj a0 a1 b_a0x2 n_a0x2 a0x2 b_a1x2 n_a1x2 a1x2 (hA.wtr 0 rfl) (hA.wtr 1 rfl) (hH.slw 0 rfl) (hH.slw 1 rfl) hg2
 ·cases hr)
theorem Yaf (N:Nat) (a0:Array Value) (a1:Int) (b_a0x2:Option (Option Addr)) (n_a0x2:Nat) (a0x2:Array Value):ansV prog (mkΓ [(20,con Zf1)]) N Tryd.f7 [] [.r a0 31 [(2,0)],.i .i64 (a1)] [.sl (.came b_a0x2) n_a0x2 a0x2 103]=(bif decide ((Za8 a1 b_a0x2 n_a0x2 a0x2)<(0:Int)) then (some (.a (.i .i64 (-1:Int)),.none,true))
  else (some (.a (.i .i64 (Za8 a1 b_a0x2 n_a0x2 a0x2)),.none,true))):=by kernel_rfl
def Zam (a0:Array Value) (a1:Int) (b_a0x2:Option (Option Addr)) (n_a0x2:Nat) (a0x2:Array Value):Int:=(bif decide ((Za8 a1 b_a0x2 n_a0x2 a0x2)<(0:Int)) then (-1:Int) else (Za8 a1 b_a0x2 n_a0x2 a0x2))
theorem Zzc (a0:Array Value) (a1:Int) (b_a0x2:Option (Option Addr)) (n_a0x2:Nat) (a0x2:Array Value) (h_a0:WT prog 31 a0) (h_a1:i64.min≤a1∧a1≤i64.max) (h_a0x2:a0x2.size=n_a0x2*(lay prog 103).length∧(∀ k,k<n_a0x2→WT prog 103 (a0x2.extract (k*(lay prog 103).length) (k*(lay prog 103).length+(lay prog 103).length)))∧n_a0x2≤9223372036854775807) (hg:(true)=true):ansV prog (mkΓ [(20,con Zf1)]) 1000 Tryd.f7 [] [.r a0 31 [(2,0)],.i .i64 (a1)] [.sl (.came b_a0x2) n_a0x2 a0x2 103]=some (.a (.i .i64 (Zam a0 a1 b_a0x2 n_a0x2 a0x2)),.none,true):=by
 refine (Yaf 1000 a0 a1 b_a0x2 n_a0x2 a0x2).trans ?_
 unfold Zam
 revert hg
 generalize (decide ((Za8 a1 b_a0x2 n_a0x2 a0x2)<(0:Int)))=b2
 intro hg
 cases b2
 ·skip
  first | (simp only [cond_true,cond_false,Bool.and_true,Bool.true_and,Bool.and_false,Bool.false_and];done) | rfl | exact (nomatch (hg:false=true))
 ·skip
  first | (simp only [cond_true,cond_false,Bool.and_true,Bool.true_and,Bool.and_false,Bool.false_and];done) | rfl | exact (nomatch (hg:false=true))
def Zg2:Con:=fun args h=>match args,h with
 | [.r a0 31 [(2,0)],.i .i64 a1],[.sl (.came b_a0x2) n_a0x2 a0x2 103]=>some (.a (.i .i64 (Zam a0 a1 b_a0x2 n_a0x2 a0x2)),.none,true)
 | _,_=>none
theorem Zjw:EntX prog 7:=Zag (fn:=Tryd.f7) (by kernel_rfl) (by kernel_rfl) (by kernel_rfl)
theorem Zmy:ConOkX (md F) prog 7 Zg2:=(Zah (N:=1000) (by kernel_rfl) (mkΓ_consX (Zad Zwu) Zqq mkΓ_nilX) (fn:=Tryd.f7) (by kernel_rfl) (by kernel_rfl) []).of (by
 intro ρ h w args vals r e hA hH hr
 unfold Zg2 at hr
 split at hr
 ·rename_i a0 a1 b_a0x2 n_a0x2 a0x2
  obtain ⟨rfl,hg⟩:=Prod.mk.inj (Option.some.inj hr)
  obtain ⟨rfl,hg2⟩:=Prod.mk.inj hg
  exact Zzc a0 a1 b_a0x2 n_a0x2 a0x2 (hA.wtr 0 rfl) (hA.rng 1 rfl) (hH.slw 0 rfl) hg2
 ·cases hr)
theorem Zyo (N:Nat) (a0 a1:Array Value) (b_a1x2:Option (Option Addr)) (n_a1x2:Nat) (a1x2:Array Value):ansV prog (mkΓ []) N Tryd.f48 [] [.g a0 42,.r a1 46 [(2,0)]] [.sl (.came b_a1x2) n_a1x2 a1x2 97]=(some (.a (.r ((spl (spl (zc prog 69) 0 (#[.int .i64 (i64.wrap (num a1 0)),.int .i64 (i64.wrap (num a1 1))]:Array Value).toList) 2 a0.toList).setIfInBounds 365 (.slice none 0 0)) 69 [(365,0)]),.none,true)):=by kernel_rfl
theorem Zuv (a0 a1:Array Value) (b_a1x2:Option (Option Addr)) (n_a1x2:Nat) (a1x2:Array Value) (h_a0:WT prog 42 a0) (h_a1:WT prog 46 a1) (h_a1x2:a1x2.size=n_a1x2*(lay prog 97).length∧(∀ k,k<n_a1x2→WT prog 97 (a1x2.extract (k*(lay prog 97).length) (k*(lay prog 97).length+(lay prog 97).length)))∧n_a1x2≤9223372036854775807) (hg:(true)=true):ansV prog (mkΓ []) 1000 Tryd.f48 [] [.g a0 42,.r a1 46 [(2,0)]] [.sl (.came b_a1x2) n_a1x2 a1x2 97]=some (.a (.r ((spl (spl (zc prog 69) 0 (#[.int .i64 (i64.wrap (num a1 0)),.int .i64 (i64.wrap (num a1 1))]:Array Value).toList) 2 a0.toList).setIfInBounds 365 (.slice none 0 0)) 69 [(365,0)]),.none,true):=by
 refine (Zyo 1000 a0 a1 b_a1x2 n_a1x2 a1x2).trans ?_
 rfl
def Zg9:Con:=fun args h=>match args,h with
 | [.g a0 42,.r a1 46 [(2,0)]],[.sl (.came b_a1x2) n_a1x2 a1x2 97]=>some (.a (.r ((spl (spl (zc prog 69) 0 (#[.int .i64 (i64.wrap (num a1 0)),.int .i64 (i64.wrap (num a1 1))]:Array Value).toList) 2 a0.toList).setIfInBounds 365 (.slice none 0 0)) 69 [(365,0)]),.none,true)
 | _,_=>none
theorem Zin:EntX prog 48:=Zag (fn:=Tryd.f48) (by kernel_rfl) (by kernel_rfl) (by kernel_rfl)
theorem Zkv:ConOkX (md F) prog 48 Zg9:=(Zah (N:=1000) (by kernel_rfl) mkΓ_nilX (fn:=Tryd.f48) (by kernel_rfl) (by kernel_rfl) []).of (by
 intro ρ h w args vals r e hA hH hr
 unfold Zg9 at hr
 split at hr
 ·rename_i a0 a1 b_a1x2 n_a1x2 a1x2
  obtain ⟨rfl,hg⟩:=Prod.mk.inj (Option.some.inj hr)
  obtain ⟨rfl,hg2⟩:=Prod.mk.inj hg
  exact Zuv a0 a1 b_a1x2 n_a1x2 a1x2 (hA.wt 0 rfl) (hA.wtr 1 rfl) (hH.slw 0 rfl) hg2
 ·cases hr)
theorem Zl3 (N:Nat) (a0:Array Value):ansV prog (mkΓ [(87,con Zh6)]) N Tryd.f73 [] [.g a0 67] []=(bif (Zdv (num a0 0)) then (bif decide ((num a0 1) ≥ (1:Int)) then (some (.a (.b (decide ((num a0 1)≤(8:Int)))),.none,true))
   else (some (.a (.b (false)),.none,true)))
  else (some (.a (.b (false)),.none,true))):=by kernel_rfl
def Zak (a0:Array Value):Bool:=(bif (Zdv (num a0 0)) then (bif decide ((num a0 1) ≥ (1:Int)) then decide ((num a0 1)≤(8:Int)) else false) else false)
theorem Zle (a0:Array Value) (h_a0:WT prog 67 a0) (hg:(true)=true):ansV prog (mkΓ [(87,con Zh6)]) 1000 Tryd.f73 [] [.g a0 67] []=some (.a (.b ((Zak a0))),.none,true):=by
 refine (Zl3 1000 a0).trans ?_
 unfold Zak
 revert hg
 generalize ((Zdv (num a0 0)))=b2
 intro hg
 cases b2
 ·skip
  first | (simp only [cond_true,cond_false,Bool.and_true,Bool.true_and,Bool.and_false,Bool.false_and];done) | rfl | exact (nomatch (hg:false=true))
 ·skip
  revert hg
  generalize (decide ((num a0 1) ≥ (1:Int)))=b4
  intro hg
  cases b4
  ·skip
   first | (simp only [cond_true,cond_false,Bool.and_true,Bool.true_and,Bool.and_false,Bool.false_and];done) | rfl | exact (nomatch (hg:false=true))
  ·skip
   first | (simp only [cond_true,cond_false,Bool.and_true,Bool.true_and,Bool.and_false,Bool.false_and];done) | rfl | exact (nomatch (hg:false=true))
def Zen:Con:=fun args h=>match args,h with
 | [.g a0 67],[]=>some (.a (.b ((Zak a0))),.none,true)
 | _,_=>none
theorem Zkt:EntX prog 73:=Zag (fn:=Tryd.f73) (by kernel_rfl) (by kernel_rfl) (by kernel_rfl)
theorem Zmj:ConOkX (md F) prog 73 Zen:=(Zah (N:=1000) (by kernel_rfl) (mkΓ_consX (Zad Yar) Zwi mkΓ_nilX) (fn:=Tryd.f73) (by kernel_rfl) (by kernel_rfl) []).of (by
 intro ρ h w args vals r e hA hH hr
 unfold Zen at hr
 split at hr
 ·rename_i a0
  obtain ⟨rfl,hg⟩:=Prod.mk.inj (Option.some.inj hr)
  obtain ⟨rfl,hg2⟩:=Prod.mk.inj hg
  exact Zle a0 (hA.wt 0 rfl) hg2
 ·cases hr)
theorem Zpt (N:Nat) (a0:Array Value) (a1:Int):ansV prog (mkΓ []) N Tryd.f97 [] [.g a0 67,.i .i64 (a1)] []=(bif decide (a1 ≥ (0:Int)) then (some (.a (.b (decide (a1<(num a0 1)))),.none,true))
  else (some (.a (.b (false)),.none,true))):=by kernel_rfl
def Zb5 (a0:Array Value) (a1:Int):Bool:=(bif decide (a1 ≥ (0:Int)) then decide (a1<(num a0 1)) else false)
theorem Zor (a0:Array Value) (a1:Int) (h_a0:WT prog 67 a0) (h_a1:i64.min≤a1∧a1≤i64.max) (hg:(true)=true):ansV prog (mkΓ []) 1000 Tryd.f97 [] [.g a0 67,.i .i64 (a1)] []=some (.a (.b ((Zb5 a0 a1))),.none,true):=by
 refine (Zpt 1000 a0 a1).trans ?_
 unfold Zb5
 revert hg
 generalize (decide (a1 ≥ (0:Int)))=b2
 intro hg
 cases b2
 ·skip
  first | (simp only [cond_true,cond_false,Bool.and_true,Bool.true_and,Bool.and_false,Bool.false_and];done) | rfl | exact (nomatch (hg:false=true))
 ·skip
  first | (simp only [cond_true,cond_false,Bool.and_true,Bool.true_and,Bool.and_false,Bool.false_and];done) | rfl | exact (nomatch (hg:false=true))
def Zgk:Con:=fun args h=>match args,h with
 | [.g a0 67,.i .i64 a1],[]=>some (.a (.b ((Zb5 a0 a1))),.none,true)
 | _,_=>none
theorem Zni:EntX prog 97:=Zag (fn:=Tryd.f97) (by kernel_rfl) (by kernel_rfl) (by kernel_rfl)
theorem Zq6:ConOkX (md F) prog 97 Zgk:=(Zah (N:=1000) (by kernel_rfl) mkΓ_nilX (fn:=Tryd.f97) (by kernel_rfl) (by kernel_rfl) []).of (by
 intro ρ h w args vals r e hA hH hr
 unfold Zgk at hr
 split at hr
 ·rename_i a0 a1
  obtain ⟨rfl,hg⟩:=Prod.mk.inj (Option.some.inj hr)
  obtain ⟨rfl,hg2⟩:=Prod.mk.inj hg
  exact Zor a0 a1 (hA.wt 0 rfl) (hA.rng 1 rfl) hg2
 ·cases hr)
theorem land_all {S:Array Value} (hS:WT prog 42 S) {c:Int} (hc:0≤c∧c≤35):Zav S c=Zcv c S:=by
 obtain ⟨k,rfl⟩:=Int.eq_ofNat_of_zero_le hc.1
 exact land_dry hS (by omega)
def Zmi:Cons:=(mkΓ [(60,con Zh5),(61,con Zew),(97,con Zgk)])
theorem Zrg (N:Nat) (a0 a1:Array Value) (b_a0x365:Option (Option Addr)) (n_a0x365:Nat) (a0x365:Array Value):ansV prog Zmi N Tryd.f74 [] [.r a0 69 [(365,0)],.g a1 97] [.sl (.came b_a0x365) n_a0x365 a0x365 97]=(bif (Zai (a0.extract 2 (2+363)) (i64.wrap (num a1 0))) then (bif decide (0≤(i64.wrap (num a1 0))) then (bif (Zac (a0.extract 2 (2+363)) (i64.wrap (num a1 0))) then (bif (Zb5 (a0.extract 0 (0+2)) (i64.wrap (num a1 1))) then (bif decide ((num a1 2) ≥ (1:Int)) then (some (.a (.b (decide ((num a1 2)≤(200:Int)))),.none,true))
      else (some (.a (.b (false)),.none,true)))
     else (some (.a (.b (false)),.none,true)))
    else (some (.a (.b (false)),.none,true)))
   else (none))
  else (some (.a (.b (false)),.none,true))):=by kernel_rfl
def Zca (a0 a1:Array Value) (b_a0x365:Option (Option Addr)) (n_a0x365:Nat) (a0x365:Array Value):Bool:=(bif (Zai (a0.extract 2 (2+363)) (i64.wrap (num a1 0))) then (bif (Zac (a0.extract 2 (2+363)) (i64.wrap (num a1 0))) then (bif (Zb5 (a0.extract 0 (0+2)) (i64.wrap (num a1 1))) then (bif decide ((num a1 2) ≥ (1:Int)) then decide ((num a1 2)≤(200:Int)) else false) else false) else false) else false)
def Zcb (a0 a1:Array Value) (b_a0x365:Option (Option Addr)) (n_a0x365:Nat) (a0x365:Array Value):Bool:=(bif (Zai (a0.extract 2 (2+363)) (i64.wrap (num a1 0))) then decide (0≤(i64.wrap (num a1 0))) else true)
theorem Zpo (a0 a1:Array Value) (b_a0x365:Option (Option Addr)) (n_a0x365:Nat) (a0x365:Array Value) (h_a0:WT prog 69 a0) (h_a1:WT prog 97 a1) (h_a0x365:a0x365.size=n_a0x365*(lay prog 97).length∧(∀ k,k<n_a0x365→WT prog 97 (a0x365.extract (k*(lay prog 97).length) (k*(lay prog 97).length+(lay prog 97).length)))∧n_a0x365≤9223372036854775807) (hg:((Zcb a0 a1 b_a0x365 n_a0x365 a0x365))=true):ansV prog Zmi 1000 Tryd.f74 [] [.r a0 69 [(365,0)],.g a1 97] [.sl (.came b_a0x365) n_a0x365 a0x365 97]=some (.a (.b ((Zca a0 a1 b_a0x365 n_a0x365 a0x365))),.none,true):=by
 refine (Zrg 1000 a0 a1 b_a0x365 n_a0x365 a0x365).trans ?_
 unfold Zcb at hg
 unfold Zca
 revert hg
 generalize ((Zai (a0.extract 2 (2+363)) (i64.wrap (num a1 0))))=b2
 intro hg
 cases b2
 ·skip
  first | (simp only [cond_true,cond_false,Bool.and_true,Bool.true_and,Bool.and_false,Bool.false_and];done) | rfl | exact (nomatch (hg:false=true))
 ·skip
  revert hg
  generalize (decide (0≤(i64.wrap (num a1 0))))=b4
  intro hg
  cases b4
  ·skip
   first | exact (nomatch (hg:false=true)) | (simp only [cond_true,cond_false,Bool.and_true,Bool.true_and,Bool.and_false,Bool.false_and];done) | rfl
  ·skip
   revert hg
   generalize ((Zac (a0.extract 2 (2+363)) (i64.wrap (num a1 0))))=b6
   intro hg
   cases b6
   ·skip
    first | (simp only [cond_true,cond_false,Bool.and_true,Bool.true_and,Bool.and_false,Bool.false_and];done) | rfl | exact (nomatch (hg:false=true))
   ·skip
    revert hg
    generalize ((Zb5 (a0.extract 0 (0+2)) (i64.wrap (num a1 1))))=b8
    intro hg
    cases b8
    ·skip
     first | (simp only [cond_true,cond_false,Bool.and_true,Bool.true_and,Bool.and_false,Bool.false_and];done) | rfl | exact (nomatch (hg:false=true))
    ·skip
     revert hg
     generalize (decide ((num a1 2) ≥ (1:Int)))=b10
     intro hg
     cases b10
     ·skip
      first | (simp only [cond_true,cond_false,Bool.and_true,Bool.true_and,Bool.and_false,Bool.false_and];done) | rfl | exact (nomatch (hg:false=true))
     ·skip
      first | (simp only [cond_true,cond_false,Bool.and_true,Bool.true_and,Bool.and_false,Bool.false_and];done) | rfl | exact (nomatch (hg:false=true))
def Zgx:Con:=fun args h=>match args,h with
 | [.r a0 69 [(365,0)],.g a1 97],[.sl (.came b_a0x365) n_a0x365 a0x365 97]=>some (.a (.b ((Zca a0 a1 b_a0x365 n_a0x365 a0x365))),.none,(Zcb a0 a1 b_a0x365 n_a0x365 a0x365))
 | _,_=>none
theorem Zo0:EntX prog 74:=Zag (fn:=Tryd.f74) (by kernel_rfl) (by kernel_rfl) (by kernel_rfl)
theorem Zr3:ConOkX (md F) prog 74 Zgx:=(Zah (N:=1000) (by kernel_rfl) (mkΓ_consX (Zad Zqn) Zmo (mkΓ_consX (Zad Zi4) Zgp (mkΓ_consX (Zad Zq6) Zni mkΓ_nilX))) (fn:=Tryd.f74) (by kernel_rfl) (by kernel_rfl) []).of (by
 intro ρ h w args vals r e hA hH hr
 unfold Zgx at hr
 split at hr
 ·rename_i a0 a1 b_a0x365 n_a0x365 a0x365
  obtain ⟨rfl,hg⟩:=Prod.mk.inj (Option.some.inj hr)
  obtain ⟨rfl,hg2⟩:=Prod.mk.inj hg
  exact Zpo a0 a1 b_a0x365 n_a0x365 a0x365 (hA.wtr 0 rfl) (hA.wt 1 rfl) (hH.slw 0 rfl) hg2
 ·cases hr)
def wsum (A:Array Value):Nat→Int
 | 0=>0
 | k+1=>i64.wrap (wsum A k+i64.wrap (num (A.extract (k*3) (k*3+3)) 2))
def relB (S:Array Value) (h:Int) (X:Array Value):Bool:=Zaf (i64.wrap (num X 0)) S&&(Zaa (i64.wrap (num X 1)) 0 (i64.wrap (h - 1))&&Zaa (i64.wrap (num X 2)) 1 200)
def relAll (S:Array Value) (h:Int) (n:Nat) (A:Array Value):Bool:=(List.range n).all (fun k=>relB S h (A.extract (k*3) (k*3+3)))
theorem Zx3 (S:Array Value) (h:Int) (n:Nat) (A:Array Value):relAll S h n A=true ↔ ∀ k,k<n→(fun k=>relB S h (A.extract (k*3) (k*3+3))) k=true:=by
 unfold relAll
 rw [List.all_eq_true]
 exact ⟨fun h k hk=>h k (List.mem_range.2 hk),fun h k hk=>h k (List.mem_range.1 hk)⟩
def planB (S p:Array Value) (n:Nat) (A:Array Value):Bool:=Zaa (i64.wrap (num p 0)) 0 1&&(Zaa (i64.wrap (num p 1)) 1 8&&(!decide ((n:Int) > 12)&&(relAll S (i64.wrap (num p 1)) n A&&decide (wsum A n≤1000))))
theorem Ybo {S p:Array Value} (hS:S.size=363):((spl (spl (zc prog 69) 0 (#[.int .i64 (i64.wrap (num p 0)),.int .i64 (i64.wrap (num p 1))]:Array Value).toList) 2 S.toList).setIfInBounds 365 (.slice none 0 0)).extract 2 (2+363)=S∧((spl (spl (zc prog 69) 0 (#[.int .i64 (i64.wrap (num p 0)),.int .i64 (i64.wrap (num p 1))]:Array Value).toList) 2 S.toList).setIfInBounds 365 (.slice none 0 0)).extract 0 (0+2)=#[.int .i64 (i64.wrap (num p 0)),.int .i64 (i64.wrap (num p 1))]:=by
 have hz:(zc prog 69).size=366:=by kernel_rfl
 generalize (zc prog 69)=Z at hz
 have hl:S.toList.length=363:=by rw [Array.length_toList,hS]
 constructor
 ·refine Array.ext_getElem? fun i=> ?_
  rw [Array.getElem?_extract,Array.getElem?_setIfInBounds,Array.size_setIfInBounds,Zgn _ _ _ (by rw [Zhd,hz,hl];omega),Zhd,Zhd,hz,hl]
  by_cases hi:i<363
  ·rw [if_pos (by omega),if_neg (by omega),if_pos (by omega),Array.getElem?_toList,show 2+i - 2=i by omega]
  ·rw [if_neg (by omega),Array.getElem?_eq_none (by omega)]
 ·refine Array.ext_getElem? fun i=> ?_
  rw [Array.getElem?_extract,Array.getElem?_setIfInBounds,Array.size_setIfInBounds,Zgn _ _ _ (by rw [Zhd,hz,hl];omega),Zgn _ _ _ (by rw [hz];simp),Zhd,Zhd,hz,hl]
  by_cases hi:i<2
  ·rw [if_pos (by omega),if_neg (by omega),if_neg (by omega),if_pos (by simp;omega),Array.getElem?_toList,show 0+i - 0=i by omega]
  ·rw [if_neg (by omega),Array.getElem?_eq_none (by simp;omega)]
theorem takes_eq {S V X:Array Value} {h:Int} {x:Int} (bb:Option (Option Addr)) (n:Nat) (A:Array Value) (hS:WT prog 42 S) (h1:V.extract 2 (2+363)=S) (h2:V.extract 0 (0+2)=#[.int .i64 x,.int .i64 h]) (hh: -128≤h∧h≤127) (hX:WT prog 97 X) :
  Zcb V X bb n A=true∧Zca V X bb n A=relB S h X:=by
 obtain ⟨-,b0⟩:=hX.int (o:=0) (k:=.i8) (by kernel_rfl)
 obtain ⟨-,b1⟩:=hX.int (o:=1) (k:=.i8) (by kernel_rfl)
 obtain ⟨-,b2⟩:=hX.int (o:=2) (k:=.i16) (by kernel_rfl)
 have e1:IntKind.i16.min = -32768:=rfl
 have e2:IntKind.i16.max=32767:=rfl
 have w2:i64.wrap (num X 2)=num X 2:=IntWalk.i64_in _ (by omega)
 have w3:i64.wrap (h - 1)=h - 1:=IntWalk.i64_in _ (by omega)
 have w4:num (#[.int .i64 x,.int .i64 h]:Array Value) 1=h:=rfl
 unfold Zcb Zca relB Zaf Zaa Zb5
 rw [h1,h2,Yma,w2,w3,w4]
 cases hi:Za2 (i64.wrap (num X 0)) S with
 | false=>exact ⟨rfl,rfl⟩
 | true=>
  have hr:=Yjl hi
  refine ⟨decide_eq_true hr.1, ?_⟩
  unfold Zac
  rw [land_all hS hr]
  have e3:decide (i64.wrap (num X 1)<h)=decide (i64.wrap (num X 1)≤h - 1):=decide_eq_decide.2 (by omega)
  rw [e3]
  cases Zcv (i64.wrap (num X 0)) S<;>cases decide (i64.wrap (num X 1) ≥ 0)<;>cases decide (i64.wrap (num X 1)≤h - 1)<;>cases decide (num X 2 ≥ 1)<;>cases decide (num X 2≤200)<;>rfl
def Zch (a0:Array Value) (b_a0x365:Option (Option Addr)) (n_a0x365:Nat) (a0x365:Array Value):St:=(⟨.a (.r a0 69 [(365,0)]) :: .a (.w 1) :: .a (.i .i64 (0:Int)) :: .a (.i .i64 (0:Int)) :: .a (.u) :: .a (.u) :: .a (.p 1 (365) 44) :: .a (.l 0) :: .a (.i .i64 (n_a0x365:Int)) :: .a (.i .i64 (0:Int))::us 10 ([]),[.sl (.came b_a0x365) n_a0x365 a0x365 97,.one (.r a0 69 [(365,0)]) 69,.no],[]⟩:St)
def Zdh:Int×Int→LS
 | (y0_3,y0_9)=>([.a (.i .i64 (y0_3)),.a (.i .i64 (y0_9))],[])
def Zgh:Int×Int→Exit×LS
 | t=>((.exit 0),Zdh t)
def Zbd (P:Program) (a0:Array Value) (b_a0x365:Option (Option Addr)) (n_a0x365:Nat) (a0x365:Array Value):Int×Int→Option (Stp (Int×Int) (Int×Int))
 | (y0_3,y0_9)=>bif decide (y0_9<(n_a0x365:Int)) then (bif (decide (0≤y0_9)&&decide (y0_9<(n_a0x365:Int))) then (some (.more ((i64.wrap (y0_3+(i64.wrap (num (a0x365.extract ((y0_9).toNat*3) (((y0_9).toNat*3)+3)) 2)))),(i64.wrap (y0_9+(1:Int))))))
   else (none))
  else (some (.done (y0_3,y0_9)))
theorem Zpj (N:Nat) (a0:Array Value) (b_a0x365:Option (Option Addr)) (n_a0x365:Nat) (a0x365:Array Value):∀ t:Int×Int,stepV prog (mkΓ []) N (cAt (codeOf Tryd.f75) [1,1,0,1,0,0]) (pAt (mkPlan (codeOf Tryd.f75) [([3,9],[])]).1 [1,1,0,1,0]) [3,9] [] (Zch a0 b_a0x365 n_a0x365 a0x365) (Zdh t)=mapS Zdh Zgh (Zbd prog a0 b_a0x365 n_a0x365 a0x365 t):=by
 rintro ⟨y0_3,y0_9⟩
 refine Eq.trans (b:=(bif decide (y0_9<(n_a0x365:Int)) then (bif (decide (0≤y0_9)&&decide (y0_9<(n_a0x365:Int))) then (some (.more ([.a (.i .i64 (i64.wrap (y0_3+(i64.wrap (num (a0x365.extract ((y0_9).toNat*3) (((y0_9).toNat*3)+3)) 2))))),.a (.i .i64 (i64.wrap (y0_9+(1:Int))))],[])))
   else (none))
  else (some (.done ((.exit 0),([.a (.i .i64 (y0_3)),.a (.i .i64 (y0_9))],[])))))) (by kernel_rfl) ?_
 simp only [Zbd,Za0,Zay,Za1,Zaz,Zdh,Zgh]
def Zfr (P:Program) (N:Nat) (a0:Array Value) (b_a0x365:Option (Option Addr)) (n_a0x365:Nat) (a0x365:Array Value) (z0_3:Int) (z0_9:Int):Option (SV×Eff×Bool):=some (.a (.i .i64 (z0_3)),.none,true)
theorem Zly (N:Nat) (a0:Array Value) (b_a0x365:Option (Option Addr)) (n_a0x365:Nat) (a0x365:Array Value) (z0_3:Int) (z0_9:Int):(kBlock 0 (kSeq (veC prog (mkΓ []) N (cAt (codeOf Tryd.f75) [1,1,1]) (pAt (mkPlan (codeOf Tryd.f75) [([3,9],[])]).1 [1,1,1]) (SV×Eff×Bool)) (finK prog [.sl (.came b_a0x365) n_a0x365 a0x365 97] [.tmp 2]))) (.exit 0) (left (writes (cAt (codeOf Tryd.f75) [1,1,0,1,0,0])) [3,9] [] (Zch a0 b_a0x365 n_a0x365 a0x365) ([.a (.i .i64 (z0_3)),.a (.i .i64 (z0_9))],[]))=Zfr prog N a0 b_a0x365 n_a0x365 a0x365 z0_3 z0_9:=by
 refine Eq.trans (b:=(some (.a (.i .i64 (z0_3)),.none,true))) (by kernel_rfl) ?_
 rfl
theorem Zpq (N:Nat) (a0:Array Value) (b_a0x365:Option (Option Addr)) (n_a0x365:Nat) (a0x365:Array Value):bindX (iterO (stepV prog (mkΓ []) N (cAt (codeOf Tryd.f75) [1,1,0,1,0,0]) (pAt (mkPlan (codeOf Tryd.f75) [([3,9],[])]).1 [1,1,0,1,0]) [3,9] [] (Zch a0 b_a0x365 n_a0x365 a0x365)) N ([.a (.i .i64 (0:Int)),.a (.i .i64 (0:Int))],[])) (fun e s=>(kBlock 0 (kSeq (veC prog (mkΓ []) N (cAt (codeOf Tryd.f75) [1,1,1]) (pAt (mkPlan (codeOf Tryd.f75) [([3,9],[])]).1 [1,1,1]) (SV×Eff×Bool)) (finK prog [.sl (.came b_a0x365) n_a0x365 a0x365 97] [.tmp 2]))) e (left (writes (cAt (codeOf Tryd.f75) [1,1,0,1,0,0])) [3,9] [] (Zch a0 b_a0x365 n_a0x365 a0x365) s))=nodeX (iterO (Zbd prog a0 b_a0x365 n_a0x365 a0x365) N ((0:Int),(0:Int))) (fun x=>Zfr prog N a0 b_a0x365 n_a0x365 a0x365 x.1 x.2):=by
 refine Zbg Zdh Zgh _ _ (Zpj N a0 b_a0x365 n_a0x365 a0x365) N ((0:Int),(0:Int)) _ _ ?_
 intro x;exact Zly N a0 b_a0x365 n_a0x365 a0x365 x.1 x.2
theorem Zoq (N:Nat) (a0:Array Value) (b_a0x365:Option (Option Addr)) (n_a0x365:Nat) (a0x365:Array Value):ansV prog (mkΓ []) N Tryd.f75 [([3,9],[])] [.r a0 69 [(365,0)]] [.sl (.came b_a0x365) n_a0x365 a0x365 97]=(nodeX (iterO (Zbd prog a0 b_a0x365 n_a0x365 a0x365) N ((0:Int),(0:Int))) (fun x=>Zfr prog N a0 b_a0x365 n_a0x365 a0x365 x.1 x.2)):=by
 refine Eq.trans (b:=(bindX (iterO (stepV prog (mkΓ []) N (cAt (codeOf Tryd.f75) [1,1,0,1,0,0]) (pAt (mkPlan (codeOf Tryd.f75) [([3,9],[])]).1 [1,1,0,1,0]) [3,9] [] (Zch a0 b_a0x365 n_a0x365 a0x365)) N ([.a (.i .i64 (0:Int)),.a (.i .i64 (0:Int))],[])) (fun e s=>(kBlock 0 (kSeq (veC prog (mkΓ []) N (cAt (codeOf Tryd.f75) [1,1,1]) (pAt (mkPlan (codeOf Tryd.f75) [([3,9],[])]).1 [1,1,1]) (SV×Eff×Bool)) (finK prog [.sl (.came b_a0x365) n_a0x365 a0x365 97] [.tmp 2]))) e (left (writes (cAt (codeOf Tryd.f75) [1,1,0,1,0,0])) [3,9] [] (Zch a0 b_a0x365 n_a0x365 a0x365) s)))) (by kernel_rfl) ?_
 simp only [Zpq N a0 b_a0x365 n_a0x365 a0x365]
theorem Znf (a0:Array Value) (b_a0x365:Option (Option Addr)) (n_a0x365:Nat) (a0x365:Array Value) (h_a0:WT prog 69 a0) (h_a0x365:a0x365.size=n_a0x365*(lay prog 97).length∧(∀ k,k<n_a0x365→WT prog 97 (a0x365.extract (k*(lay prog 97).length) (k*(lay prog 97).length+(lay prog 97).length)))∧n_a0x365≤9223372036854775807) (hg:(true)=true):ansV prog (mkΓ []) 18446744073709551616 Tryd.f75 [([3,9],[])] [.r a0 69 [(365,0)]] [.sl (.came b_a0x365) n_a0x365 a0x365 97]=some (.a (.i .i64 (wsum a0x365 n_a0x365)),.none,true):=by
 have hn:=h_a0x365.2.2
 refine (Zoq 18446744073709551616 a0 b_a0x365 n_a0x365 a0x365).trans ?_
 have h:=Zfd (g:=Zbd prog a0 b_a0x365 n_a0x365 a0x365) (fun k=>(wsum a0x365 k,(k:Int))) (m:=n_a0x365) (x:=(wsum a0x365 n_a0x365,(n_a0x365:Int))) (N:=18446744073709551616) (fun k hk=>by
  have h1:decide ((k:Int)<(n_a0x365:Int))=true:=decide_eq_true (by omega)
  have h0:decide (0≤(k:Int))=true:=decide_eq_true (by omega)
  have h3:i64.wrap ((k:Int)+1)=((k+1:Nat):Int):=by rw [IntWalk.i64_in _ (by omega)];omega
  simp only [Zbd,h1,h0,Bool.and_self,Int.toNat_natCast,cond_true,h3]
  rfl) (by
  have h1:decide ((n_a0x365:Int)<(n_a0x365:Int))=false:=decide_eq_false (by omega)
  simp only [Zbd,h1,cond_false]) (by omega)
 have h':iterO (Zbd prog a0 b_a0x365 n_a0x365 a0x365) 18446744073709551616 ((0:Int),(0:Int))=some (wsum a0x365 n_a0x365,(n_a0x365:Int)):=h
 rw [h']
 rfl
def Zfv:Con:=fun args h=>match args,h with
 | [.r a0 69 [(365,0)]],[.sl (.came b_a0x365) n_a0x365 a0x365 97]=>some (.a (.i .i64 (wsum a0x365 n_a0x365)),.none,true)
 | _,_=>none
theorem Zm4:EntX prog 75:=Zag (fn:=Tryd.f75) (by kernel_rfl) (by kernel_rfl) (by kernel_rfl)
theorem Zpv:ConOkX (md F) prog 75 Zfv:=(Zah (N:=18446744073709551616) (by kernel_rfl) mkΓ_nilX (fn:=Tryd.f75) (by kernel_rfl) (by kernel_rfl) [([3,9],[])]).of (by
 intro ρ h w args vals r e hA hH hr
 unfold Zfv at hr
 split at hr
 ·rename_i a0 b_a0x365 n_a0x365 a0x365
  obtain ⟨rfl,hg⟩:=Prod.mk.inj (Option.some.inj hr)
  obtain ⟨rfl,hg2⟩:=Prod.mk.inj hg
  exact Znf a0 b_a0x365 n_a0x365 a0x365 (hA.wtr 0 rfl) (hH.slw 0 rfl) hg2
 ·cases hr)
def Ze4:Cons:=(mkΓ [(66,con Zcw),(67,con Zg5),(69,con Zks)])
def Zf0 (a0 a1:Array Value) (b_a1x2:Option (Option Addr)) (n_a1x2:Nat) (a1x2:Array Value):St:=(⟨.a (.w 0) :: .a (.w 1) :: .a (.u) :: .a (.u) :: .a (.b (false)) :: .a (.i .i64 (0:Int)) :: .a (.i .i64 (0:Int)) :: .a (.u) :: .a (.w 1) :: .a (.w 1) :: .a (.p 1 (0) 22) :: .a (.i .i8 (num a1 0)) :: .a (.i .i64 (i64.wrap (num a1 0))) :: .a (.b ((Zaa (i64.wrap (num a1 0)) (0:Int) (1:Int)))) :: .a (.b ((!((Zaa (i64.wrap (num a1 0)) (0:Int) (1:Int)))))) :: .a (.b (false)) :: .a (.w 1) :: .a (.w 1) :: .a (.p 1 (1) 22) :: .a (.i .i8 (num a1 1)) :: .a (.i .i64 (i64.wrap (num a1 1))) :: .a (.b ((Zaa (i64.wrap (num a1 1)) (1:Int) (8:Int)))) :: .a (.b ((!((Zaa (i64.wrap (num a1 1)) (1:Int) (8:Int)))))) :: .a (.b ((!((Zaa (i64.wrap (num a1 1)) (1:Int) (8:Int)))))) :: .a (.b (false)) :: .a (.w 1) :: .a (.w 1) :: .a (.p 1 (2) 44) :: .a (.l 2) :: .a (.i .i64 (n_a1x2:Int)) :: .a (.b (decide ((n_a1x2:Int) > (12:Int)))) :: .a (.b (decide ((n_a1x2:Int) > (12:Int))))::us 49 ([]),[.row a0 42,.one (.r a1 46 [(2,2)]) 46,.sl (.came b_a1x2) n_a1x2 a1x2 97],[]⟩:St)
def Zhi:Bool×Int×Int→LS
 | (y0_4,y0_5,y0_6)=>([.a (.b (y0_4)),.a (.i .i64 (y0_5)),.a (.i .i64 (y0_6))],[])
def Zof:(Stp (Bool×Int×Int) (Bool×Int×Int))→Exit×LS
 | .more t=>(.ret,Zhi t)
 | .done t=>((.exit 0),Zhi t)
def Zdn (P : Program) (a0 a1 : Array Value) (b_a1x2 : Option (Option Addr)) (n_a1x2 : Nat) (a1x2 : Array Value) : Bool × Int × Int → Option (Stp (Bool × Int × Int) (Stp (Bool × Int × Int) (Bool × Int × Int)))
 | (y0_4, y0_5, y0_6) => bif decide (y0_6 < (n_a1x2 : Int)) then (bif (decide (0 ≤ y0_6) && decide (y0_6 < (n_a1x2 : Int))) then (bif (Za4 (i64.wrap (num (a1x2.extract ((y0_6).toNat * 3) (((y0_6).toNat * 3) + 3)) 0)) a0) then (bif (!((Zaf (i64.wrap (num (a1x2.extract ((y0_6).toNat * 3) (((y0_6).toNat * 3) + 3)) 0)) a0))) then (some (.done (.more (false, y0_5, y0_6))))
     else (bif (!((Zaa (i64.wrap (num (a1x2.extract ((y0_6).toNat * 3) (((y0_6).toNat * 3) + 3)) 1)) (0 : Int) (i64.wrap ((i64.wrap (num a1 1)) - (1 : Int)))))) then (some (.done (.more (false, y0_5, y0_6))))
      else (bif (!((Zaa (i64.wrap (num (a1x2.extract ((y0_6).toNat * 3) (((y0_6).toNat * 3) + 3)) 2)) (1 : Int) (200 : Int)))) then (some (.done (.more (false, y0_5, y0_6))))
       else (some (.more (y0_4, (i64.wrap (y0_5 + (i64.wrap (num (a1x2.extract ((y0_6).toNat * 3) (((y0_6).toNat * 3) + 3)) 2)))), (i64.wrap (y0_6 + (1 : Int)))))))))
    else (none))
   else (none))
  else (some (.done (.done (y0_4, y0_5, y0_6))))
theorem Ye9 (N:Nat) (a0 a1:Array Value) (b_a1x2:Option (Option Addr)) (n_a1x2:Nat) (a1x2:Array Value):∀ t:Bool×Int×Int,stepV prog Ze4 N (cAt (codeOf Tryd.f41) [1,1,1,0,1,0,0]) (pAt (mkPlan (codeOf Tryd.f41) [([4,5,6],[])]).1 [1,1,1,0,1,0]) [4,5,6] [] (Zf0 a0 a1 b_a1x2 n_a1x2 a1x2) (Zhi t)=mapS Zhi Zof (Zdn prog a0 a1 b_a1x2 n_a1x2 a1x2 t):=by
 rintro ⟨y0_4,y0_5,y0_6⟩
 refine Eq.trans (b:=(bif decide (y0_6<(n_a1x2:Int)) then (bif (decide (0≤y0_6)&&decide (y0_6<(n_a1x2:Int))) then (bif (Za4 (i64.wrap (num (a1x2.extract ((y0_6).toNat*3) (((y0_6).toNat*3)+3)) 0)) a0) then (bif (!((Zaf (i64.wrap (num (a1x2.extract ((y0_6).toNat*3) (((y0_6).toNat*3)+3)) 0)) a0))) then (some (.done (.ret,([.a (.b (false)),.a (.i .i64 (y0_5)),.a (.i .i64 (y0_6))],[]))))
     else (bif (!((Zaa (i64.wrap (num (a1x2.extract ((y0_6).toNat*3) (((y0_6).toNat*3)+3)) 1)) (0:Int) (i64.wrap ((i64.wrap (num a1 1)) - (1:Int)))))) then (some (.done (.ret,([.a (.b (false)),.a (.i .i64 (y0_5)),.a (.i .i64 (y0_6))],[]))))
      else (bif (!((Zaa (i64.wrap (num (a1x2.extract ((y0_6).toNat*3) (((y0_6).toNat*3)+3)) 2)) (1:Int) (200:Int)))) then (some (.done (.ret,([.a (.b (false)),.a (.i .i64 (y0_5)),.a (.i .i64 (y0_6))],[]))))
       else (some (.more ([.a (.b (y0_4)),.a (.i .i64 (i64.wrap (y0_5+(i64.wrap (num (a1x2.extract ((y0_6).toNat*3) (((y0_6).toNat*3)+3)) 2))))),.a (.i .i64 (i64.wrap (y0_6+(1:Int))))],[]))))))
    else (none))
   else (none))
  else (some (.done ((.exit 0),([.a (.b (y0_4)),.a (.i .i64 (y0_5)),.a (.i .i64 (y0_6))],[])))))) (by kernel_rfl) ?_
 simp only [Zdn,Za0,Zay,Za1,Zaz,Zhi,Zof]
def Zlw (P:Program) (N:Nat) (a0 a1:Array Value) (b_a1x2:Option (Option Addr)) (n_a1x2:Nat) (a1x2:Array Value) (z0_4:Bool) (z0_5:Int) (z0_6:Int):Option (SV×Eff×Bool):=some (.a (.b (z0_4)),.none,true)
theorem Zv7 (N:Nat) (a0 a1:Array Value) (b_a1x2:Option (Option Addr)) (n_a1x2:Nat) (a1x2:Array Value) (z0_4:Bool) (z0_5:Int) (z0_6:Int):(kBlock 0 (kSeq (veC prog Ze4 N (cAt (codeOf Tryd.f41) [1,1,1,1]) (pAt (mkPlan (codeOf Tryd.f41) [([4,5,6],[])]).1 [1,1,1,1]) (SV×Eff×Bool)) (finK prog [.row a0 42,.one (.r a1 46 [(2,2)]) 46,.sl (.came b_a1x2) n_a1x2 a1x2 97] [.tmp 4]))) .ret (left (writes (cAt (codeOf Tryd.f41) [1,1,1,0,1,0,0])) [4,5,6] [] (Zf0 a0 a1 b_a1x2 n_a1x2 a1x2) ([.a (.b (z0_4)),.a (.i .i64 (z0_5)),.a (.i .i64 (z0_6))],[]))=Zlw prog N a0 a1 b_a1x2 n_a1x2 a1x2 z0_4 z0_5 z0_6:=by
 refine Eq.trans (b:=(some (.a (.b (z0_4)),.none,true))) (by kernel_rfl) ?_
 rfl
def Zl0 (P:Program) (N:Nat) (a0 a1:Array Value) (b_a1x2:Option (Option Addr)) (n_a1x2:Nat) (a1x2:Array Value) (z0_4:Bool) (z0_5:Int) (z0_6:Int):Option (SV×Eff×Bool):=some (.a (.b (decide (z0_5≤(1000:Int)))),.none,true)
theorem Zul (N:Nat) (a0 a1:Array Value) (b_a1x2:Option (Option Addr)) (n_a1x2:Nat) (a1x2:Array Value) (z0_4:Bool) (z0_5:Int) (z0_6:Int):(kBlock 0 (kSeq (veC prog Ze4 N (cAt (codeOf Tryd.f41) [1,1,1,1]) (pAt (mkPlan (codeOf Tryd.f41) [([4,5,6],[])]).1 [1,1,1,1]) (SV×Eff×Bool)) (finK prog [.row a0 42,.one (.r a1 46 [(2,2)]) 46,.sl (.came b_a1x2) n_a1x2 a1x2 97] [.tmp 4]))) (.exit 0) (left (writes (cAt (codeOf Tryd.f41) [1,1,1,0,1,0,0])) [4,5,6] [] (Zf0 a0 a1 b_a1x2 n_a1x2 a1x2) ([.a (.b (z0_4)),.a (.i .i64 (z0_5)),.a (.i .i64 (z0_6))],[]))=Zl0 prog N a0 a1 b_a1x2 n_a1x2 a1x2 z0_4 z0_5 z0_6:=by
 refine Eq.trans (b:=(some (.a (.b (decide (z0_5≤(1000:Int)))),.none,true))) (by kernel_rfl) ?_
 rfl
theorem Yec (N:Nat) (a0 a1:Array Value) (b_a1x2:Option (Option Addr)) (n_a1x2:Nat) (a1x2:Array Value):bindX (iterO (stepV prog Ze4 N (cAt (codeOf Tryd.f41) [1,1,1,0,1,0,0]) (pAt (mkPlan (codeOf Tryd.f41) [([4,5,6],[])]).1 [1,1,1,0,1,0]) [4,5,6] [] (Zf0 a0 a1 b_a1x2 n_a1x2 a1x2)) N ([.a (.b (false)),.a (.i .i64 (0:Int)),.a (.i .i64 (0:Int))],[])) (fun e s=>(kBlock 0 (kSeq (veC prog Ze4 N (cAt (codeOf Tryd.f41) [1,1,1,1]) (pAt (mkPlan (codeOf Tryd.f41) [([4,5,6],[])]).1 [1,1,1,1]) (SV×Eff×Bool)) (finK prog [.row a0 42,.one (.r a1 46 [(2,2)]) 46,.sl (.came b_a1x2) n_a1x2 a1x2 97] [.tmp 4]))) e (left (writes (cAt (codeOf Tryd.f41) [1,1,1,0,1,0,0])) [4,5,6] [] (Zf0 a0 a1 b_a1x2 n_a1x2 a1x2) s))=nodeX (iterO (Zdn prog a0 a1 b_a1x2 n_a1x2 a1x2) N (false,(0:Int),(0:Int))) (st2 (fun x=>Zlw prog N a0 a1 b_a1x2 n_a1x2 a1x2 x.1 x.2.1 x.2.2) (fun x=>Zl0 prog N a0 a1 b_a1x2 n_a1x2 a1x2 x.1 x.2.1 x.2.2)):=by
 refine Zbg Zhi Zof _ _ (Ye9 N a0 a1 b_a1x2 n_a1x2 a1x2) N (false,(0:Int),(0:Int)) _ _ ?_
 intro x
 cases x with
 | more x=>exact Zv7 N a0 a1 b_a1x2 n_a1x2 a1x2 x.1 x.2.1 x.2.2
 | done x=>exact Zul N a0 a1 b_a1x2 n_a1x2 a1x2 x.1 x.2.1 x.2.2
theorem Yc4 (N:Nat) (a0 a1:Array Value) (b_a1x2:Option (Option Addr)) (n_a1x2:Nat) (a1x2:Array Value):ansV prog Ze4 N Tryd.f41 [([4,5,6],[])] [.w 0,.w 1] [.row a0 42,.one (.r a1 46 [(2,2)]) 46,.sl (.came b_a1x2) n_a1x2 a1x2 97]=(bif (!((Zaa (i64.wrap (num a1 0)) (0:Int) (1:Int)))) then (some (.a (.b (false)),.none,true))
  else (bif (!((Zaa (i64.wrap (num a1 1)) (1:Int) (8:Int)))) then (some (.a (.b (false)),.none,true))
   else (bif decide ((n_a1x2:Int) > (12:Int)) then (some (.a (.b (false)),.none,true))
    else (nodeX (iterO (Zdn prog a0 a1 b_a1x2 n_a1x2 a1x2) N (false,(0:Int),(0:Int))) (st2 (fun x=>Zlw prog N a0 a1 b_a1x2 n_a1x2 a1x2 x.1 x.2.1 x.2.2) (fun x=>Zl0 prog N a0 a1 b_a1x2 n_a1x2 a1x2 x.1 x.2.1 x.2.2)))))):=by
 refine Eq.trans (b:=(bif (!((Zaa (i64.wrap (num a1 0)) (0:Int) (1:Int)))) then (some (.a (.b (false)),.none,true))
  else (bif (!((Zaa (i64.wrap (num a1 1)) (1:Int) (8:Int)))) then (some (.a (.b (false)),.none,true))
   else (bif decide ((n_a1x2:Int) > (12:Int)) then (some (.a (.b (false)),.none,true))
    else (bindX (iterO (stepV prog Ze4 N (cAt (codeOf Tryd.f41) [1,1,1,0,1,0,0]) (pAt (mkPlan (codeOf Tryd.f41) [([4,5,6],[])]).1 [1,1,1,0,1,0]) [4,5,6] [] (Zf0 a0 a1 b_a1x2 n_a1x2 a1x2)) N ([.a (.b (false)),.a (.i .i64 (0:Int)),.a (.i .i64 (0:Int))],[])) (fun e s=>(kBlock 0 (kSeq (veC prog Ze4 N (cAt (codeOf Tryd.f41) [1,1,1,1]) (pAt (mkPlan (codeOf Tryd.f41) [([4,5,6],[])]).1 [1,1,1,1]) (SV×Eff×Bool)) (finK prog [.row a0 42,.one (.r a1 46 [(2,2)]) 46,.sl (.came b_a1x2) n_a1x2 a1x2 97] [.tmp 4]))) e (left (writes (cAt (codeOf Tryd.f41) [1,1,1,0,1,0,0])) [4,5,6] [] (Zf0 a0 a1 b_a1x2 n_a1x2 a1x2) s))))))) (by kernel_rfl) ?_
 simp only [Yec N a0 a1 b_a1x2 n_a1x2 a1x2]
theorem Yb4 (a0 a1:Array Value) (b_a1x2:Option (Option Addr)) (n_a1x2:Nat) (a1x2:Array Value) (h_a0:WT prog 42 a0) (h_a1:WT prog 46 a1) (h_a1x2:a1x2.size=n_a1x2*(lay prog 97).length∧(∀ k,k<n_a1x2→WT prog 97 (a1x2.extract (k*(lay prog 97).length) (k*(lay prog 97).length+(lay prog 97).length)))∧n_a1x2≤9223372036854775807) (hg:(true)=true):ansV prog Ze4 18446744073709551616 Tryd.f41 [([4,5,6],[])] [.w 0,.w 1] [.row a0 42,.one (.r a1 46 [(2,2)]) 46,.sl (.came b_a1x2) n_a1x2 a1x2 97]=some (.a (.b ((planB a0 a1 n_a1x2 a1x2))),.none,true):=by
 have hn:=h_a1x2.2.2
 refine (Yc4 18446744073709551616 a0 a1 b_a1x2 n_a1x2 a1x2).trans ?_
 unfold planB
 cases Zaa (i64.wrap (num a1 0)) 0 1
 ·rfl
 cases Zaa (i64.wrap (num a1 1)) 1 8
 ·rfl
 cases decide ((n_a1x2:Int) > 12)
 rotate_left
 ·rfl
 simp only [Bool.not_true,Bool.not_false,cond_false,Bool.true_and]
 have wet:∀ k,Za4 (i64.wrap (num (a1x2.extract (k*3) (k*3+3)) 0)) a0=true:=fun k=>by
  unfold Za4
  cases Za2 (i64.wrap (num (a1x2.extract (k*3) (k*3+3)) 0)) a0
  ·rfl
  ·exact decide_eq_true (Zhw .u64 _).1
 refine (Zrp (g:=Zdn prog a0 a1 b_a1x2 n_a1x2 a1x2) (fun k=>(false,wsum a1x2 k,(k:Int))) (fun k=>relB a0 (i64.wrap (num a1 1)) (a1x2.extract (k*3) (k*3+3))) n_a1x2 (N:=18446744073709551616) (xd:=.done (false,wsum a1x2 n_a1x2,(n_a1x2:Int))) (by omega) (fun k hk hp=>by
  have h1:decide ((k:Int)<(n_a1x2:Int))=true:=decide_eq_true (by omega)
  have h0:decide (0≤(k:Int))=true:=decide_eq_true (by omega)
  have h3:i64.wrap ((k:Int)+1)=((k+1:Nat):Int):=by rw [IntWalk.i64_in _ (by omega)];omega
  have hp':relB a0 (i64.wrap (num a1 1)) (a1x2.extract (k*3) (k*3+3))=true:=hp
  unfold relB at hp'
  simp only [Bool.and_eq_true] at hp'
  simp only [Zdn,h1,h0,h3,Bool.and_self,Int.toNat_natCast,cond_true,cond_false,wet,hp'.1,hp'.2.1,hp'.2.2,Bool.not_true]
  rfl) (by
  have h1:decide ((n_a1x2:Int)<(n_a1x2:Int))=false:=decide_eq_false (by omega)
  simp only [Zdn,h1,cond_false]) (relAll a0 (i64.wrap (num a1 1)) n_a1x2 a1x2) (Zx3 a0 _ n_a1x2 a1x2) (some (.a (.b (decide (wsum a1x2 n_a1x2≤1000))),.none,true)) (some (.a (.b false),.none,true)) rfl (fun k hk hp=>by
  refine ⟨.more (false,wsum a1x2 k,(k:Int)), ?_,rfl⟩
  have h1:decide ((k:Int)<(n_a1x2:Int))=true:=decide_eq_true (by omega)
  have h0:decide (0≤(k:Int))=true:=decide_eq_true (by omega)
  have h3:i64.wrap ((k:Int)+1)=((k+1:Nat):Int):=by rw [IntWalk.i64_in _ (by omega)];omega
  have hp':relB a0 (i64.wrap (num a1 1)) (a1x2.extract (k*3) (k*3+3))=false:=hp
  unfold relB at hp'
  cases x1:Zaf (i64.wrap (num (a1x2.extract (k*3) (k*3+3)) 0)) a0
  ·simp only [Zdn,h1,h0,h3,Bool.and_self,Int.toNat_natCast,cond_true,wet,x1,Bool.not_false]
  ·cases x2:Zaa (i64.wrap (num (a1x2.extract (k*3) (k*3+3)) 1)) 0 (i64.wrap (i64.wrap (num a1 1) - 1))
   ·simp only [Zdn,h1,h0,h3,Bool.and_self,Int.toNat_natCast,cond_true,cond_false,wet,x1,x2,Bool.not_true,Bool.not_false]
   ·rw [x1,x2] at hp'
    simp only [Bool.true_and] at hp'
    simp only [Zdn,h1,h0,h3,Bool.and_self,Int.toNat_natCast,cond_true,cond_false,wet,x1,x2,hp',Bool.not_true,Bool.not_false])).trans ?_
 cases relAll a0 (i64.wrap (num a1 1)) n_a1x2 a1x2<;>rfl
def Znc:Con:=fun args h=>match args,h with
 | [.w 0,.w 1],[.row a0 42,.one (.r a1 46 [(2,2)]) 46,.sl (.came b_a1x2) n_a1x2 a1x2 97]=>some (.a (.b ((planB a0 a1 n_a1x2 a1x2))),.none,true)
 | _,_=>none
theorem Zzr:EntX prog 41:=Zag (fn:=Tryd.f41) (by kernel_rfl) (by kernel_rfl) (by kernel_rfl)
theorem Ye1:ConOkX (md F) prog 41 Znc:=(Zah (N:=18446744073709551616) (by kernel_rfl) (mkΓ_consX (Zad Zjn) Zgb (mkΓ_consX (Zad Zm9) Zjv (mkΓ_consX (Zad Ybw) Zvq mkΓ_nilX))) (fn:=Tryd.f41) (by kernel_rfl) (by kernel_rfl) [([4,5,6],[])]).of (by
 intro ρ h w args vals r e hA hH hr
 unfold Znc at hr
 split at hr
 ·rename_i a0 a1 b_a1x2 n_a1x2 a1x2
  obtain ⟨rfl,hg⟩:=Prod.mk.inj (Option.some.inj hr)
  obtain ⟨rfl,hg2⟩:=Prod.mk.inj hg
  exact Yb4 a0 a1 b_a1x2 n_a1x2 a1x2 (hH.wt 0 rfl) (hH.wtr 1 rfl) (hH.slw 2 rfl) hg2
 ·cases hr)
def Zcp:Cons:=(mkΓ [(48,con Zg9),(72,con Zj3),(73,con Zen),(74,con Zgx),(75,con Zfv)])
def Zdk (a0 a1:Array Value) (b_a1x2:Option (Option Addr)) (n_a1x2:Nat) (a1x2:Array Value):St:=(⟨.a (.g a0 42) :: .a (.r a1 46 [(2,0)]) :: .a (.w 1) :: .a (.w 2) :: .a (.b (false)) :: .a (.w 7) :: .a (.u) :: .a (.u) :: .a (.g a0 42) :: .a (.r a1 46 [(2,0)]) :: .a (.r ((spl (spl (zc prog 69) 0 (#[.int .i64 (i64.wrap (num a1 0)),.int .i64 (i64.wrap (num a1 1))]:Array Value).toList) 2 a0.toList).setIfInBounds 365 (.slice none 0 0)) 69 [(365,0)]) :: .a (.g a0 42) :: .a (.b ((okS a0))) :: .a (.b ((!((okS a0))))) :: .a (.b (false)) :: .a (.p 7 (0) 67) :: .a (.g (((spl (spl (zc prog 69) 0 (#[.int .i64 (i64.wrap (num a1 0)),.int .i64 (i64.wrap (num a1 1))]:Array Value).toList) 2 a0.toList).setIfInBounds 365 (.slice none 0 0)).extract 0 (0+2)) 67) :: .a (.b ((Zak (((spl (spl (zc prog 69) 0 (#[.int .i64 (i64.wrap (num a1 0)),.int .i64 (i64.wrap (num a1 1))]:Array Value).toList) 2 a0.toList).setIfInBounds 365 (.slice none 0 0)).extract 0 (0+2))))) :: .a (.b ((!((Zak (((spl (spl (zc prog 69) 0 (#[.int .i64 (i64.wrap (num a1 0)),.int .i64 (i64.wrap (num a1 1))]:Array Value).toList) 2 a0.toList).setIfInBounds 365 (.slice none 0 0)).extract 0 (0+2))))))) :: .a (.b ((!((Zak (((spl (spl (zc prog 69) 0 (#[.int .i64 (i64.wrap (num a1 0)),.int .i64 (i64.wrap (num a1 1))]:Array Value).toList) 2 a0.toList).setIfInBounds 365 (.slice none 0 0)).extract 0 (0+2))))))) :: .a (.b (false)) :: .a (.p 2 (2) 44) :: .a (.l 0) :: .a (.i .i64 (n_a1x2:Int)) :: .a (.b (decide ((n_a1x2:Int) > (12:Int)))) :: .a (.b (decide ((n_a1x2:Int) > (12:Int)))) :: .a (.p 2 (2) 44) :: .a (.l 0) :: .a (.i .i64 (n_a1x2:Int)) :: .a (.i .i64 (0:Int))::us 11 ([]),[.sl (.came b_a1x2) n_a1x2 a1x2 97,.row a0 42,.one (.r a1 46 [(2,0)]) 46,.no,.no,.no,.no,.one (.r ((spl (spl (zc prog 69) 0 (#[.int .i64 (i64.wrap (num a1 0)),.int .i64 (i64.wrap (num a1 1))]:Array Value).toList) 2 a0.toList).setIfInBounds 365 (.slice none 0 0)) 69 [(365,0)]) 69,.no],[7]⟩:St)
def Zeh:Bool×Int→LS
 | (y0_4,y0_29)=>([.a (.b (y0_4)),.a (.i .i64 (y0_29))],[])
def Zju:(Stp (Bool×Int) (Bool×Int))→Exit×LS
 | .more t=>(.ret,Zeh t)
 | .done t=>((.exit 0),Zeh t)
def Zct (P : Program) (a0 a1 : Array Value) (b_a1x2 : Option (Option Addr)) (n_a1x2 : Nat) (a1x2 : Array Value) : Bool × Int → Option (Stp (Bool × Int) (Stp (Bool × Int) (Bool × Int)))
 | (y0_4, y0_29) => bif decide (y0_29 < (n_a1x2 : Int)) then (bif (decide (0 ≤ y0_29) && decide (y0_29 < (n_a1x2 : Int))) then (bif (Zcb ((spl (spl (zc prog 69) 0 (#[.int .i64 (i64.wrap (num a1 0)), .int .i64 (i64.wrap (num a1 1))] : Array Value).toList) 2 a0.toList).setIfInBounds 365 (.slice none 0 0)) (a1x2.extract ((y0_29).toNat * 3) (((y0_29).toNat * 3) + 3)) b_a1x2 n_a1x2 a1x2) then (bif (!((Zca ((spl (spl (zc prog 69) 0 (#[.int .i64 (i64.wrap (num a1 0)), .int .i64 (i64.wrap (num a1 1))] : Array Value).toList) 2 a0.toList).setIfInBounds 365 (.slice none 0 0)) (a1x2.extract ((y0_29).toNat * 3) (((y0_29).toNat * 3) + 3)) b_a1x2 n_a1x2 a1x2))) then (some (.done (.more (false, y0_29))))
     else (some (.more (y0_4, (i64.wrap (y0_29 + (1 : Int)))))))
    else (none))
   else (none))
  else (some (.done (.done (y0_4, y0_29))))
theorem Zyg (N:Nat) (a0 a1:Array Value) (b_a1x2:Option (Option Addr)) (n_a1x2:Nat) (a1x2:Array Value):∀ t:Bool×Int,stepV prog Zcp N (cAt (codeOf Tryd.f47) [1,1,1,0,1,0,0]) (pAt (mkPlan (codeOf Tryd.f47) [([4,29],[])]).1 [1,1,1,0,1,0]) [4,29] [] (Zdk a0 a1 b_a1x2 n_a1x2 a1x2) (Zeh t)=mapS Zeh Zju (Zct prog a0 a1 b_a1x2 n_a1x2 a1x2 t):=by
 rintro ⟨y0_4,y0_29⟩
 refine Eq.trans (b:=(bif decide (y0_29<(n_a1x2:Int)) then (bif (decide (0≤y0_29)&&decide (y0_29<(n_a1x2:Int))) then (bif (Zcb ((spl (spl (zc prog 69) 0 (#[.int .i64 (i64.wrap (num a1 0)),.int .i64 (i64.wrap (num a1 1))]:Array Value).toList) 2 a0.toList).setIfInBounds 365 (.slice none 0 0)) (a1x2.extract ((y0_29).toNat*3) (((y0_29).toNat*3)+3)) b_a1x2 n_a1x2 a1x2) then (bif (!((Zca ((spl (spl (zc prog 69) 0 (#[.int .i64 (i64.wrap (num a1 0)),.int .i64 (i64.wrap (num a1 1))]:Array Value).toList) 2 a0.toList).setIfInBounds 365 (.slice none 0 0)) (a1x2.extract ((y0_29).toNat*3) (((y0_29).toNat*3)+3)) b_a1x2 n_a1x2 a1x2))) then (some (.done (.ret,([.a (.b (false)),.a (.i .i64 (y0_29))],[]))))
     else (some (.more ([.a (.b (y0_4)),.a (.i .i64 (i64.wrap (y0_29+(1:Int))))],[]))))
    else (none))
   else (none))
  else (some (.done ((.exit 0),([.a (.b (y0_4)),.a (.i .i64 (y0_29))],[])))))) (by kernel_rfl) ?_
 simp only [Zct,Za0,Zay,Za1,Zaz,Zeh,Zju]
def Zii (P:Program) (N:Nat) (a0 a1:Array Value) (b_a1x2:Option (Option Addr)) (n_a1x2:Nat) (a1x2:Array Value) (z0_4:Bool) (z0_29:Int):Option (SV×Eff×Bool):=some (.a (.b (z0_4)),.none,true)
theorem Zpf (N:Nat) (a0 a1:Array Value) (b_a1x2:Option (Option Addr)) (n_a1x2:Nat) (a1x2:Array Value) (z0_4:Bool) (z0_29:Int):(kBlock 0 (kSeq (veC prog Zcp N (cAt (codeOf Tryd.f47) [1,1,1,1]) (pAt (mkPlan (codeOf Tryd.f47) [([4,29],[])]).1 [1,1,1,1]) (SV×Eff×Bool)) (finK prog [.sl (.came b_a1x2) n_a1x2 a1x2 97] [.tmp 4]))) .ret (left (writes (cAt (codeOf Tryd.f47) [1,1,1,0,1,0,0])) [4,29] [] (Zdk a0 a1 b_a1x2 n_a1x2 a1x2) ([.a (.b (z0_4)),.a (.i .i64 (z0_29))],[]))=Zii prog N a0 a1 b_a1x2 n_a1x2 a1x2 z0_4 z0_29:=by
 refine Eq.trans (b:=(some (.a (.b (z0_4)),.none,true))) (by kernel_rfl) ?_
 rfl
def Zik (P:Program) (N:Nat) (a0 a1:Array Value) (b_a1x2:Option (Option Addr)) (n_a1x2:Nat) (a1x2:Array Value) (z0_4:Bool) (z0_29:Int):Option (SV×Eff×Bool):=some (.a (.b (decide ((wsum a1x2 n_a1x2)≤(1000:Int)))),.none,true)
theorem Zpg (N:Nat) (a0 a1:Array Value) (b_a1x2:Option (Option Addr)) (n_a1x2:Nat) (a1x2:Array Value) (z0_4:Bool) (z0_29:Int):(kBlock 0 (kSeq (veC prog Zcp N (cAt (codeOf Tryd.f47) [1,1,1,1]) (pAt (mkPlan (codeOf Tryd.f47) [([4,29],[])]).1 [1,1,1,1]) (SV×Eff×Bool)) (finK prog [.sl (.came b_a1x2) n_a1x2 a1x2 97] [.tmp 4]))) (.exit 0) (left (writes (cAt (codeOf Tryd.f47) [1,1,1,0,1,0,0])) [4,29] [] (Zdk a0 a1 b_a1x2 n_a1x2 a1x2) ([.a (.b (z0_4)),.a (.i .i64 (z0_29))],[]))=Zik prog N a0 a1 b_a1x2 n_a1x2 a1x2 z0_4 z0_29:=by
 refine Eq.trans (b:=(some (.a (.b (decide ((wsum a1x2 n_a1x2)≤(1000:Int)))),.none,true))) (by kernel_rfl) ?_
 rfl
theorem Zyd (N:Nat) (a0 a1:Array Value) (b_a1x2:Option (Option Addr)) (n_a1x2:Nat) (a1x2:Array Value):bindX (iterO (stepV prog Zcp N (cAt (codeOf Tryd.f47) [1,1,1,0,1,0,0]) (pAt (mkPlan (codeOf Tryd.f47) [([4,29],[])]).1 [1,1,1,0,1,0]) [4,29] [] (Zdk a0 a1 b_a1x2 n_a1x2 a1x2)) N ([.a (.b (false)),.a (.i .i64 (0:Int))],[])) (fun e s=>(kBlock 0 (kSeq (veC prog Zcp N (cAt (codeOf Tryd.f47) [1,1,1,1]) (pAt (mkPlan (codeOf Tryd.f47) [([4,29],[])]).1 [1,1,1,1]) (SV×Eff×Bool)) (finK prog [.sl (.came b_a1x2) n_a1x2 a1x2 97] [.tmp 4]))) e (left (writes (cAt (codeOf Tryd.f47) [1,1,1,0,1,0,0])) [4,29] [] (Zdk a0 a1 b_a1x2 n_a1x2 a1x2) s))=nodeX (iterO (Zct prog a0 a1 b_a1x2 n_a1x2 a1x2) N (false,(0:Int))) (st2 (fun x=>Zii prog N a0 a1 b_a1x2 n_a1x2 a1x2 x.1 x.2) (fun x=>Zik prog N a0 a1 b_a1x2 n_a1x2 a1x2 x.1 x.2)):=by
 refine Zbg Zeh Zju _ _ (Zyg N a0 a1 b_a1x2 n_a1x2 a1x2) N (false,(0:Int)) _ _ ?_
 intro x
 cases x with
 | more x=>exact Zpf N a0 a1 b_a1x2 n_a1x2 a1x2 x.1 x.2
 | done x=>exact Zpg N a0 a1 b_a1x2 n_a1x2 a1x2 x.1 x.2
theorem Zws (N:Nat) (a0 a1:Array Value) (b_a1x2:Option (Option Addr)) (n_a1x2:Nat) (a1x2:Array Value):ansV prog Zcp N Tryd.f47 [([4,29],[])] [.g a0 42,.r a1 46 [(2,0)]] [.sl (.came b_a1x2) n_a1x2 a1x2 97]=(bif (!((okS a0))) then (some (.a (.b (false)),.none,true))
  else (bif (!((Zak (((spl (spl (zc prog 69) 0 (#[.int .i64 (i64.wrap (num a1 0)),.int .i64 (i64.wrap (num a1 1))]:Array Value).toList) 2 a0.toList).setIfInBounds 365 (.slice none 0 0)).extract 0 (0+2))))) then (some (.a (.b (false)),.none,true))
   else (bif decide ((n_a1x2:Int) > (12:Int)) then (some (.a (.b (false)),.none,true))
    else (nodeX (iterO (Zct prog a0 a1 b_a1x2 n_a1x2 a1x2) N (false,(0:Int))) (st2 (fun x=>Zii prog N a0 a1 b_a1x2 n_a1x2 a1x2 x.1 x.2) (fun x=>Zik prog N a0 a1 b_a1x2 n_a1x2 a1x2 x.1 x.2)))))):=by
 refine Eq.trans (b:=(bif (!((okS a0))) then (some (.a (.b (false)),.none,true))
  else (bif (!((Zak (((spl (spl (zc prog 69) 0 (#[.int .i64 (i64.wrap (num a1 0)),.int .i64 (i64.wrap (num a1 1))]:Array Value).toList) 2 a0.toList).setIfInBounds 365 (.slice none 0 0)).extract 0 (0+2))))) then (some (.a (.b (false)),.none,true))
   else (bif decide ((n_a1x2:Int) > (12:Int)) then (some (.a (.b (false)),.none,true))
    else (bindX (iterO (stepV prog Zcp N (cAt (codeOf Tryd.f47) [1,1,1,0,1,0,0]) (pAt (mkPlan (codeOf Tryd.f47) [([4,29],[])]).1 [1,1,1,0,1,0]) [4,29] [] (Zdk a0 a1 b_a1x2 n_a1x2 a1x2)) N ([.a (.b (false)),.a (.i .i64 (0:Int))],[])) (fun e s=>(kBlock 0 (kSeq (veC prog Zcp N (cAt (codeOf Tryd.f47) [1,1,1,1]) (pAt (mkPlan (codeOf Tryd.f47) [([4,29],[])]).1 [1,1,1,1]) (SV×Eff×Bool)) (finK prog [.sl (.came b_a1x2) n_a1x2 a1x2 97] [.tmp 4]))) e (left (writes (cAt (codeOf Tryd.f47) [1,1,1,0,1,0,0])) [4,29] [] (Zdk a0 a1 b_a1x2 n_a1x2 a1x2) s))))))) (by kernel_rfl) ?_
 simp only [Zyd N a0 a1 b_a1x2 n_a1x2 a1x2]
theorem Zt2 (a0 a1:Array Value) (b_a1x2:Option (Option Addr)) (n_a1x2:Nat) (a1x2:Array Value) (h_a0:WT prog 42 a0) (h_a1:WT prog 46 a1) (h_a1x2:a1x2.size=n_a1x2*(lay prog 97).length∧(∀ k,k<n_a1x2→WT prog 97 (a1x2.extract (k*(lay prog 97).length) (k*(lay prog 97).length+(lay prog 97).length)))∧n_a1x2≤9223372036854775807) (hg:(true)=true):ansV prog Zcp 18446744073709551616 Tryd.f47 [([4,29],[])] [.g a0 42,.r a1 46 [(2,0)]] [.sl (.came b_a1x2) n_a1x2 a1x2 97]=some (.a (.b ((okS a0&&planB a0 a1 n_a1x2 a1x2))),.none,true):=by
 have hn:=h_a1x2.2.2
 have hS:=h_a0
 have hz:a0.size=363:=by rw [h_a0.layLen];kernel_rfl
 obtain ⟨v1,v2⟩:=Ybo (p:=a1) hz
 obtain ⟨-,b0⟩:=h_a1.int (o:=0) (k:=.i8) (by kernel_rfl)
 obtain ⟨-,b1⟩:=h_a1.int (o:=1) (k:=.i8) (by kernel_rfl)
 have e1:IntKind.i8.min = -128:=rfl
 have e2:IntKind.i8.max=127:=rfl
 have w1: -128≤i64.wrap (num a1 1)∧i64.wrap (num a1 1)≤127:=by rw [IntWalk.i64_in _ (by omega)];omega
 have hRE:(lay prog 97).length=3:=by kernel_rfl
 refine (Zws 18446744073709551616 a0 a1 b_a1x2 n_a1x2 a1x2).trans ?_
 cases hok:okS a0
 ·rfl
 have hr:Zak (((spl (spl (zc prog 69) 0 (#[.int .i64 (i64.wrap (num a1 0)),.int .i64 (i64.wrap (num a1 1))]:Array Value).toList) 2 a0.toList).setIfInBounds 365 (.slice none 0 0)).extract 0 (0+2))=(Zaa (i64.wrap (num a1 0)) 0 1&&Zaa (i64.wrap (num a1 1)) 1 8):=by
  rw [v2]
  unfold Zak
  rw [tide_eq]
  show (bif Zaa (i64.wrap (num a1 0)) 0 1 then Zaa (i64.wrap (num a1 1)) 1 8 else false)=_
  cases Zaa (i64.wrap (num a1 0)) 0 1<;>rfl
 unfold planB
 rw [hr]
 cases Zaa (i64.wrap (num a1 0)) 0 1
 ·rfl
 cases Zaa (i64.wrap (num a1 1)) 1 8
 ·rfl
 cases decide ((n_a1x2:Int) > 12)
 rotate_left
 ·rfl
 simp only [Bool.not_true,Bool.not_false,cond_false,Bool.true_and,Bool.and_self]
 have tk:=fun k hk=>takes_eq (S:=a0) (V:=((spl (spl (zc prog 69) 0 (#[.int .i64 (i64.wrap (num a1 0)),.int .i64 (i64.wrap (num a1 1))]:Array Value).toList) 2 a0.toList).setIfInBounds 365 (.slice none 0 0))) (X:=a1x2.extract (k*3) (k*3+3)) b_a1x2 n_a1x2 a1x2 hS v1 v2 w1 (by have:=h_a1x2.2.1 k hk;rw [hRE] at this;exact this)
 refine (Zrp (g:=Zct prog a0 a1 b_a1x2 n_a1x2 a1x2) (fun k=>(false,(k:Int))) (fun k=>relB a0 (i64.wrap (num a1 1)) (a1x2.extract (k*3) (k*3+3))) n_a1x2 (N:=18446744073709551616) (xd:=.done (false,(n_a1x2:Int))) (by omega) (fun k hk hp=>by
  have h1:decide ((k:Int)<(n_a1x2:Int))=true:=decide_eq_true (by omega)
  have h0:decide (0≤(k:Int))=true:=decide_eq_true (by omega)
  have h3:i64.wrap ((k:Int)+1)=((k+1:Nat):Int):=by rw [IntWalk.i64_in _ (by omega)];omega
  have hp':relB a0 (i64.wrap (num a1 1)) (a1x2.extract (k*3) (k*3+3))=true:=hp
  simp only [Zct,h1,h0,h3,Bool.and_self,Int.toNat_natCast,cond_true,cond_false,(tk k hk).1,(tk k hk).2,hp',Bool.not_true]) (by
  have h1:decide ((n_a1x2:Int)<(n_a1x2:Int))=false:=decide_eq_false (by omega)
  simp only [Zct,h1,cond_false]) (relAll a0 (i64.wrap (num a1 1)) n_a1x2 a1x2) (Zx3 a0 _ n_a1x2 a1x2) (some (.a (.b (decide (wsum a1x2 n_a1x2≤1000))),.none,true)) (some (.a (.b false),.none,true)) rfl (fun k hk hp=>by
  refine ⟨.more (false,(k:Int)), ?_,rfl⟩
  have h1:decide ((k:Int)<(n_a1x2:Int))=true:=decide_eq_true (by omega)
  have h0:decide (0≤(k:Int))=true:=decide_eq_true (by omega)
  have h3:i64.wrap ((k:Int)+1)=((k+1:Nat):Int):=by rw [IntWalk.i64_in _ (by omega)];omega
  have hp':relB a0 (i64.wrap (num a1 1)) (a1x2.extract (k*3) (k*3+3))=false:=hp
  simp only [Zct,h1,h0,h3,Bool.and_self,Int.toNat_natCast,cond_true,cond_false,(tk k hk).1,(tk k hk).2,hp',Bool.not_false])).trans ?_
 cases relAll a0 (i64.wrap (num a1 1)) n_a1x2 a1x2<;>rfl
def Zi6:Con:=fun args h=>match args,h with
 | [.g a0 42,.r a1 46 [(2,0)]],[.sl (.came b_a1x2) n_a1x2 a1x2 97]=>some (.a (.b ((okS a0&&planB a0 a1 n_a1x2 a1x2))),.none,true)
 | _,_=>none
theorem Zk7:EntX prog 47:=Zag (fn:=Tryd.f47) (by kernel_rfl) (by kernel_rfl) (by kernel_rfl)
theorem Znk:ConOkX (md F) prog 47 Zi6:=(Zah (N:=18446744073709551616) (by kernel_rfl) (mkΓ_consX (Zad Zkv) Zin (mkΓ_consX (Zad Zzx) Zt9 (mkΓ_consX (Zad Zmj) Zkt (mkΓ_consX (Zad Zr3) Zo0 (mkΓ_consX (Zad Zpv) Zm4 mkΓ_nilX))))) (fn:=Tryd.f47) (by kernel_rfl) (by kernel_rfl) [([4,29],[])]).of (by
 intro ρ h w args vals r e hA hH hr
 unfold Zi6 at hr
 split at hr
 ·rename_i a0 a1 b_a1x2 n_a1x2 a1x2
  obtain ⟨rfl,hg⟩:=Prod.mk.inj (Option.some.inj hr)
  obtain ⟨rfl,hg2⟩:=Prod.mk.inj hg
  exact Zt2 a0 a1 b_a1x2 n_a1x2 a1x2 (hA.wt 0 rfl) (hA.wtr 1 rfl) (hH.slw 0 rfl) hg2
 ·cases hr)
end
end Go.Proofs.YtflnjkpejbohjaaDoor
