/- Plans that come in: copied, compared, valid, taken, in company. -/
import Derived.Test.YtdhckffhnkeogaaDoorProg
import Derived.Test.YtdhckffhnkeogaaDoorCmG
set_option linter.unusedVariables false
set_option linter.unusedSimpArgs false
open _root_.Array renaming getElem?_eq_none→jC
open _root_.Bool renaming and_self→jA,not_true→jB,not_false→jD
namespace Go.Proofs.YtdhckffhnkeogaaDoor
open Tryd (f5 f8 f10 f15 f16 f17 f19 f20 f24 f37 f38 f39 f43 f59 f60 f79)
open Go.ChangeShapes Go.WideShapes Go.ChangeAt Go.RowKit Ve Vc
open Tryd (prog)
open IntKind (i64)
set_option maxRecDepth 100000
noncomputable section
variable {mn:Md}
theorem Zrd (N:Nat) (a0:Array Value):ansV prog (mkΓ []) N f37 [] [.g a0 87] []=(some (.a (.g #[.int .i8 (num a0 0),.int .i8 (num a0 1),.int .i16 (num a0 2)] 57),.none,true)):=by kernel_rfl
theorem Zpj (a0:Array Value) (h_a0:WT prog 87 a0) (hg:(true)=true):ansV prog (mkΓ []) 1000 f37 [] [.g a0 87] []=some (.a (.g a0 57),.none,true):=by
 have hz:a0.size=3:=by rw [h_a0.layLen];kernel_rfl
 have e0:=(h_a0.int (o:=0) (k:=.i8) (by kernel_rfl)).1
 have e1:=(h_a0.int (o:=1) (k:=.i8) (by kernel_rfl)).1
 have e2:=(h_a0.int (o:=2) (k:=.i16) (by kernel_rfl)).1
 have he:(#[.int .i8 (num a0 0),.int .i8 (num a0 1),.int .i16 (num a0 2)]:Array Value)=a0:=Zff fun i=>by
  match i with
  | 0=>exact e0.symm
  | 1=>exact e1.symm
  | 2=>exact e2.symm
  | i+3=>rw [jC (by simp),jC (by omega)]
 refine (Zrd 1000 a0).trans ?_
 rw [he]
def Zb8:Con:=fun args h=>match args,h with
 | [.g a0 87],[]=>some (.a (.g a0 57),.none,true)
 | _,_=>none
theorem Zoq:EntX prog 37:=Zap (fn:=f37)
theorem Zsb:Uab mn prog 37 Zb8:=(ansY (N:=1000) mkΓ_nilX f37 []).of (by
 intro ρ h w args vals r e hA hH hr
 unfold Zb8 at hr
 split at hr
 ·rename_i a0
  obtain ⟨rfl,rfl,hg2⟩:=BQi hr
  exact Zpj a0 (hA.wt 0 rfl) hg2
 ·cases hr)
def Zdi (b_a0:Option (Option Addr)) (n_a0:Nat) (a0:Array Value):St:=(⟨.a (.l 0) :: .a (.u) :: .a (.v (.slice none 0 0)) :: .a (.l 3) :: .a (.i .i64 (0:Int)) :: .a (.l 0) :: .a (.i .i64 (n_a0:Int)) :: .a (.l 3)::us 15 ([]),[.sl (.came b_a0) n_a0 a0 87,.no,.no,.sl .own ((n_a0:Int).toNat) (madeCells (zc prog 57) ((n_a0:Int).toNat*3)) 57,.no],[]⟩:St)
def Zeb (n_a0:Nat):Int×Array Value→LS
 | (y0_4,r0_3)=>([.a (.i .i64 (y0_4))],[.sl .own ((n_a0:Int).toNat) r0_3 57])
def Zhc (n_a0:Nat):Int×Array Value→Exit×LS
 | t=>((.exit 0),(Zeb n_a0) t)
def Zb6 (P : Program) (b_a0 : Option (Option Addr)) (n_a0 : Nat) (a0 : Array Value) : Int × Array Value → Option (Stp (Int × Array Value) (Int × Array Value))
 | (y0_4, r0_3) => bif decide (y0_4 < (n_a0 : Int)) then (bif (decide (0 ≤ y0_4) && decide (y0_4 < (n_a0 : Int))) then (bif (decide (0 ≤ y0_4) && decide (y0_4 < (((n_a0 : Int).toNat) : Int))) then (some (.more ((i64.wrap (y0_4 + (1 : Int))), (spl r0_3 ((y0_4).toNat * 3) (a0.extract ((y0_4).toNat * 3) (((y0_4).toNat * 3) + 3)).toList))))
    else (none))
   else (none))
  else (some (.done (y0_4, r0_3)))
noncomputable abbrev cKCnA19:=codeOf f19
def Ue9:=(Uaf cKCnA19 [([4],[3])]).1
theorem Zq2 (N:Nat) (b_a0:Option (Option Addr)) (n_a0:Nat) (a0:Array Value):∀ t:Int×Array Value,Uam prog (mkΓ [(37,con Zb8)]) N (cAt cKCnA19 [1,1,0,1,0,0]) (pAt Ue9 [1,1,0,1,0]) [4] [3] (Zdi b_a0 n_a0 a0) ((Zeb n_a0) t)=mapS (Zeb n_a0) (Zhc n_a0) (Zb6 prog b_a0 n_a0 a0 t):=by
 rintro ⟨y0_4,r0_3⟩
 refine Eq.trans (b:=(bif decide (y0_4<(n_a0:Int)) then (bif (decide (0≤y0_4)&&decide (y0_4<(n_a0:Int))) then (bif (decide (0≤y0_4)&&decide (y0_4<(((n_a0:Int).toNat):Int))) then (some (.more ([.a (.i .i64 (i64.wrap (y0_4+(1:Int))))],[.sl .own ((n_a0:Int).toNat) (spl r0_3 ((y0_4).toNat*3) (a0.extract ((y0_4).toNat*3) (((y0_4).toNat*3)+3)).toList) 57])))
    else (none))
   else (none))
  else (some (.done ((.exit 0),([.a (.i .i64 (y0_4))],[.sl .own ((n_a0:Int).toNat) r0_3 57])))))) (by kernel_rfl) ?_
 simp only [Zb6,Zbp,Zbo,Zbm,Zbn,Zeb,Zhc]
def Zgh (P:Program) (N:Nat) (b_a0:Option (Option Addr)) (n_a0:Nat) (a0:Array Value) (z0_4:Int) (q0_3:Array Value):Option (SV×Eff×Bool):=some (.a .x,.newS none ((n_a0:Int).toNat) q0_3 57,true)
def Ufn (N:Nat) (b_a0:Option (Option Addr)) (n_a0:Nat) (a0:Array Value):=(Uaz 0 (kSeq (veC prog (mkΓ [(37,con Zb8)]) N (cAt cKCnA19 [1,1,1]) (pAt Ue9 [1,1,1]) (SV×Eff×Bool)) (finK prog [.sl (.came b_a0) n_a0 a0 87] [.tmp 2])))
theorem Zl5 (N:Nat) (b_a0:Option (Option Addr)) (n_a0:Nat) (a0:Array Value) (z0_4:Int) (q0_3:Array Value):(Ufn N b_a0 n_a0 a0) (.exit 0) (left (writes (cAt cKCnA19 [1,1,0,1,0,0])) [4] [3] (Zdi b_a0 n_a0 a0) ([.a (.i .i64 (z0_4))],[.sl .own ((n_a0:Int).toNat) q0_3 57]))=Zgh prog N b_a0 n_a0 a0 z0_4 q0_3:=by
 refine Eq.trans (b:=(some (.a .x,.newS none ((n_a0:Int).toNat) q0_3 57,true))) (by kernel_rfl) ?_
 rfl
theorem Zp4 (N:Nat) (b_a0:Option (Option Addr)) (n_a0:Nat) (a0:Array Value):Uak (Uaa (Uam prog (mkΓ [(37,con Zb8)]) N (cAt cKCnA19 [1,1,0,1,0,0]) (pAt Ue9 [1,1,0,1,0]) [4] [3] (Zdi b_a0 n_a0 a0)) N ([.a (.i .i64 (0:Int))],[.sl .own ((n_a0:Int).toNat) (madeCells (zc prog 57) ((n_a0:Int).toNat*3)) 57])) (fun e s=>(Ufn N b_a0 n_a0 a0) e (left (writes (cAt cKCnA19 [1,1,0,1,0,0])) [4] [3] (Zdi b_a0 n_a0 a0) s))=Uan (Uaa (Zb6 prog b_a0 n_a0 a0) N ((0:Int),(madeCells (zc prog 57) ((n_a0:Int).toNat*3)))) (fun x=>Zgh prog N b_a0 n_a0 a0 x.1 x.2):=by
 refine Zby (Zeb n_a0) (Zhc n_a0) _ _ (Zq2 N b_a0 n_a0 a0) N ((0:Int),(madeCells (zc prog 57) ((n_a0:Int).toNat*3))) _ _ ?_
 intro x;exact Zl5 N b_a0 n_a0 a0 x.1 x.2
theorem Zpu (N:Nat) (b_a0:Option (Option Addr)) (n_a0:Nat) (a0:Array Value):ansV prog (mkΓ [(37,con Zb8)]) N f19 [([4],[3])] [.l 0] [.sl (.came b_a0) n_a0 a0 87]=(bif (decide (0≤(n_a0:Int))&&((n_a0:Int)==(n_a0:Int)&&decide ((bytesOf prog 57:Int)*(n_a0:Int)≤281474976710656))) then (Uan (Uaa (Zb6 prog b_a0 n_a0 a0) N ((0:Int),(madeCells (zc prog 57) ((n_a0:Int).toNat*3)))) (fun x=>Zgh prog N b_a0 n_a0 a0 x.1 x.2))
  else (none)):=by
 refine Eq.trans (b:=(bif (decide (0≤(n_a0:Int))&&((n_a0:Int)==(n_a0:Int)&&decide ((bytesOf prog 57:Int)*(n_a0:Int)≤281474976710656))) then (Uak (Uaa (Uam prog (mkΓ [(37,con Zb8)]) N (cAt cKCnA19 [1,1,0,1,0,0]) (pAt Ue9 [1,1,0,1,0]) [4] [3] (Zdi b_a0 n_a0 a0)) N ([.a (.i .i64 (0:Int))],[.sl .own ((n_a0:Int).toNat) (madeCells (zc prog 57) ((n_a0:Int).toNat*3)) 57])) (fun e s=>(Ufn N b_a0 n_a0 a0) e (left (writes (cAt cKCnA19 [1,1,0,1,0,0])) [4] [3] (Zdi b_a0 n_a0 a0) s)))
  else (none))) (by kernel_rfl) ?_
 simp only [Zp4 N b_a0 n_a0 a0]
theorem Zox (b_a0:Option (Option Addr)) (n_a0:Nat) (a0:Array Value) (h_a0:a0.size=n_a0*(lay prog 87).length∧(∀ k,k<n_a0→WT prog 87 (a0.extract (k*(lay prog 87).length) (k*(lay prog 87).length+(lay prog 87).length)))∧n_a0≤9223372036854775807) (hg:(decide (n_a0≤1048576))=true):ansV prog (mkΓ [(37,con Zb8)]) 18446744073709551616 f19 [([4],[3])] [.l 0] [.sl (.came b_a0) n_a0 a0 87]=some (.a .x,.newS none n_a0 a0 57,true):=by
 have hn:n_a0≤1048576:=of_decide_eq_true hg
 have hm:(lay prog 87).length=3:=by kernel_rfl
 have hb:bytesOf prog 57=4:=by kernel_rfl
 obtain ⟨s1,s2,s3⟩:=h_a0
 rw [hm] at s1 s2
 have hq:(lay prog 87)[0]? = some 0:=by kernel_rfl
 refine (Zpu 18446744073709551616 b_a0 n_a0 a0).trans ?_
 have hgd:(decide (0≤(n_a0:Int))&&((n_a0:Int)==(n_a0:Int)&&decide ((bytesOf prog 57:Int)*(n_a0:Int)≤281474976710656)))=true:=by
  rw [hb,Q3 (show (0:Int)≤n_a0 by omega),beq_self_eq_true,Q3 (show (((4:Nat):Int))*(n_a0:Int)≤281474976710656 by omega)];rfl
 rw [hgd,Q1]
 have hs:a0.size=(madeCells (zc prog 57) ((n_a0:Int).toNat*3)).size:=by rw [size_madeCells,Q9];exact s1
 generalize (madeCells (zc prog 57) ((n_a0:Int).toNat*3))=Z at hs⊢
 have h:=Zeo (g:=Zb6 prog b_a0 n_a0 a0) (fun k=>((k:Int),upto a0 Z (k*3))) (m:=n_a0) (x:=((n_a0:Int),upto a0 Z (n_a0*3))) (N:=18446744073709551616) (fun k hk=>by
  have h1:decide ((k:Int)<(n_a0:Int))=true:=Q3 (by omega)
  have h0:decide (0≤(k:Int))=true:=Q3 (by omega)
  have h3:i64.wrap ((k:Int)+1)=((k+1:Nat):Int):=by rw [IntWalk.i64_in _ (by omega)];omega
  have h5:spl (upto a0 Z (k*3)) (k*3) (a0.extract (k*3) (k*3+3)).toList=upto a0 Z ((k+1)*3):=by
   rw [Nat.add_mul];exact Zt1 hs (by have:(k+1)*3≤n_a0*3:=Nat.mul_le_mul_right _ hk;omega) rfl
  simp only [Zb6,h1,h0,jA,Q9,Q1,h3,h5]) (by
  have h1:decide ((n_a0:Int)<(n_a0:Int))=false:=Q4 (by omega)
  simp only [Zb6,h1,Q2]) (by omega)
 rw [Zoc hs s1] at h
 simp only [Nat.zero_mul,Zko hs] at h
 have h':Uaa (Zb6 prog b_a0 n_a0 a0) 18446744073709551616 ((0:Int),Z)=some ((n_a0:Int),a0):=h
 rw [h']
 show some (_,Eff.newS none ((n_a0:Int).toNat) a0 57,true)=_
 rw [Q9]
def Ze9:Con:=fun args h=>match args,h with
 | [.l 0],[.sl (.came b_a0) n_a0 a0 87]=>some (.a .x,.newS none n_a0 a0 57,decide (n_a0≤1048576))
 | _,_=>none
theorem Znw:EntX prog 19:=Zap (fn:=f19)
theorem Zrg:Uab mn prog 19 Ze9:=(ansY (N:=18446744073709551616) (mkΓ_consX (Zam Zsb) Zoq mkΓ_nilX) f19 [([4],[3])]).of (by
 intro ρ h w args vals r e hA hH hr
 unfold Ze9 at hr
 split at hr
 ·rename_i b_a0 n_a0 a0
  obtain ⟨rfl,rfl,hg2⟩:=BQi hr
  exact Zox b_a0 n_a0 a0 (hH.slw 0 rfl) hg2
 ·cases hr)
theorem Zqm (N:Nat) (a0 a1:Array Value):ansV prog (mkΓ []) N f43 [] [.g a0 57,.g a1 57] []=(bif ((num a0 0) != (num a1 0)) then (some (.a (.b (false)),.none,true))
  else (bif ((num a0 1) != (num a1 1)) then (some (.a (.b (false)),.none,true))
   else (bif ((num a0 2) != (num a1 2)) then (some (.a (.b (false)),.none,true))
    else (some (.a (.b (true)),.none,true))))):=by kernel_rfl
theorem Zps (a0 a1:Array Value) (h_a0:WT prog 57 a0) (h_a1:WT prog 57 a1) (hg:(true)=true):ansV prog (mkΓ []) 1000 f43 [] [.g a0 57,.g a1 57] []=some (.a (.b (Uas a0 a1)),.none,true):=by
 have hz:a0.size=3:=by rw [h_a0.layLen];kernel_rfl
 have hy:a1.size=3:=by rw [h_a1.layLen];kernel_rfl
 refine (Zqm 1000 a0 a1).trans ?_
 cases hb:Uas a0 a1
 ·have hne:=Yaj.1 hb
  cases h0:(num a0 0 != num a1 0)
  ·skip
   cases h1:(num a0 1 != num a1 1)
   ·skip
    cases h2:(num a0 2 != num a1 2)
    ·skip
     exfalso
     refine hne (Zff fun i=> ?_)
     by_cases c0:i=0
     ·subst c0
      rw [(h_a0.int (k:=.i8) (o:=0) (by kernel_rfl)).1,(h_a1.int (k:=.i8) (o:=0) (by kernel_rfl)).1,Yd1 h0]
     by_cases c1:i=1
     ·subst c1
      rw [(h_a0.int (k:=.i8) (o:=1) (by kernel_rfl)).1,(h_a1.int (k:=.i8) (o:=1) (by kernel_rfl)).1,Yd1 h1]
     by_cases c2:i=2
     ·subst c2
      rw [(h_a0.int (k:=.i16) (o:=2) (by kernel_rfl)).1,(h_a1.int (k:=.i16) (o:=2) (by kernel_rfl)).1,Yd1 h2]
     rw [jC (by omega),jC (by omega)]
    ·rfl
   ·rfl
  ·rfl
 ·rw [Zif.1 hb]
  simp only [bne_self_eq_false,Q2,Zha,jB]
def Zb9:Con:=fun args h=>match args,h with
 | [.g a0 57,.g a1 57],[]=>some (.a (.b (Uas a0 a1)),.none,true)
 | _,_=>none
theorem Zop:EntX prog 43:=Zap (fn:=f43)
theorem Zrx:Uab mn prog 43 Zb9:=(ansY (N:=1000) mkΓ_nilX f43 []).of (by
 intro ρ h w args vals r e hA hH hr
 unfold Zb9 at hr
 split at hr
 ·rename_i a0 a1
  obtain ⟨rfl,rfl,hg2⟩:=BQi hr
  exact Zps a0 a1 (hA.wt 0 rfl) (hA.wt 1 rfl) hg2
 ·cases hr)
def Zcr (b_a0:Option (Option Addr)) (n_a0:Nat) (a0:Array Value) (b_a1:Option (Option Addr)) (n_a1:Nat) (a1:Array Value):St:=(⟨.a (.l 0) :: .a (.l 1) :: .a (.u) :: .a (.u) :: .a (.b (false)) :: .a (.i .i64 (0:Int)) :: .a (.l 0) :: .a (.i .i64 (n_a0:Int)) :: .a (.l 1) :: .a (.i .i64 (n_a1:Int)) :: .a (.b (((n_a0:Int) != (n_a1:Int))))::us 16 ([]),[.sl (.came b_a0) n_a0 a0 57,.sl (.came b_a1) n_a1 a1 57],[]⟩:St)
def Zdf:Bool×Int→LS
 | (y0_4,y0_5)=>([.a (.b (y0_4)),.a (.i .i64 (y0_5))],[])
def Zhr:(Stp (Bool×Int) (Bool×Int))→Exit×LS
 | .more t=>(.ret,Zdf t)
 | .done t=>((.exit 0),Zdf t)
def Zcb (P : Program) (b_a0 : Option (Option Addr)) (n_a0 : Nat) (a0 : Array Value) (b_a1 : Option (Option Addr)) (n_a1 : Nat) (a1 : Array Value) : Bool × Int → Option (Stp (Bool × Int) (Stp (Bool × Int) (Bool × Int)))
 | (y0_4, y0_5) => bif decide (y0_5 < (n_a0 : Int)) then (bif (decide (0 ≤ y0_5) && decide (y0_5 < (n_a0 : Int))) then (bif (decide (0 ≤ y0_5) && decide (y0_5 < (n_a1 : Int))) then (bif (!(Uas (a0.extract ((y0_5).toNat * 3) (((y0_5).toNat * 3) + 3)) (a1.extract ((y0_5).toNat * 3) (((y0_5).toNat * 3) + 3)))) then (some (.done (.more (false, y0_5))))
     else (some (.more (y0_4, (i64.wrap (y0_5 + (1 : Int)))))))
    else (none))
   else (none))
  else (some (.done (.done (y0_4, y0_5))))
noncomputable abbrev cKCnA24:=codeOf f24
def Uew:=(Uaf cKCnA24 [([4,5],[])]).1
theorem Zqy (N:Nat) (b_a0:Option (Option Addr)) (n_a0:Nat) (a0:Array Value) (b_a1:Option (Option Addr)) (n_a1:Nat) (a1:Array Value):∀ t:Bool×Int,Uam prog (mkΓ [(43,con Zb9)]) N (cAt cKCnA24 [1,1,0,1,0,0]) (pAt Uew [1,1,0,1,0]) [4,5] [] (Zcr b_a0 n_a0 a0 b_a1 n_a1 a1) (Zdf t)=mapS Zdf Zhr (Zcb prog b_a0 n_a0 a0 b_a1 n_a1 a1 t):=by
 rintro ⟨y0_4,y0_5⟩
 refine Eq.trans (b:=(bif decide (y0_5<(n_a0:Int)) then (bif (decide (0≤y0_5)&&decide (y0_5<(n_a0:Int))) then (bif (decide (0≤y0_5)&&decide (y0_5<(n_a1:Int))) then (bif (!(Uas (a0.extract ((y0_5).toNat*3) (((y0_5).toNat*3)+3)) (a1.extract ((y0_5).toNat*3) (((y0_5).toNat*3)+3)))) then (some (.done (.ret,([.a (.b (false)),.a (.i .i64 (y0_5))],[]))))
     else (some (.more ([.a (.b (y0_4)),.a (.i .i64 (i64.wrap (y0_5+(1:Int))))],[]))))
    else (none))
   else (none))
  else (some (.done ((.exit 0),([.a (.b (y0_4)),.a (.i .i64 (y0_5))],[])))))) (by kernel_rfl) ?_
 simp only [Zcb,Zbp,Zbo,Zbm,Zbn,Zdf,Zhr]
def Zgg (P:Program) (N:Nat) (b_a0:Option (Option Addr)) (n_a0:Nat) (a0:Array Value) (b_a1:Option (Option Addr)) (n_a1:Nat) (a1:Array Value) (z0_4:Bool) (z0_5:Int):Option (SV×Eff×Bool):=some (.a (.b (z0_4)),.none,true)
def Ue7 (N:Nat) (b_a0:Option (Option Addr)) (n_a0:Nat) (a0:Array Value) (b_a1:Option (Option Addr)) (n_a1:Nat) (a1:Array Value):=(Uaz 0 (kSeq (veC prog (mkΓ [(43,con Zb9)]) N (cAt cKCnA24 [1,1,1]) (pAt Uew [1,1,1]) (SV×Eff×Bool)) (finK prog [.sl (.came b_a0) n_a0 a0 57,.sl (.came b_a1) n_a1 a1 57] [.tmp 4])))
theorem Zlr (N:Nat) (b_a0:Option (Option Addr)) (n_a0:Nat) (a0:Array Value) (b_a1:Option (Option Addr)) (n_a1:Nat) (a1:Array Value) (z0_4:Bool) (z0_5:Int):(Ue7 N b_a0 n_a0 a0 b_a1 n_a1 a1) .ret (left (writes (cAt cKCnA24 [1,1,0,1,0,0])) [4,5] [] (Zcr b_a0 n_a0 a0 b_a1 n_a1 a1) ([.a (.b (z0_4)),.a (.i .i64 (z0_5))],[]))=Zgg prog N b_a0 n_a0 a0 b_a1 n_a1 a1 z0_4 z0_5:=by
 refine Eq.trans (b:=(some (.a (.b (z0_4)),.none,true))) (by kernel_rfl) ?_
 rfl
def Zgd (P:Program) (N:Nat) (b_a0:Option (Option Addr)) (n_a0:Nat) (a0:Array Value) (b_a1:Option (Option Addr)) (n_a1:Nat) (a1:Array Value) (z0_4:Bool) (z0_5:Int):Option (SV×Eff×Bool):=some (.a (.b (true)),.none,true)
theorem Zlx (N:Nat) (b_a0:Option (Option Addr)) (n_a0:Nat) (a0:Array Value) (b_a1:Option (Option Addr)) (n_a1:Nat) (a1:Array Value) (z0_4:Bool) (z0_5:Int):(Ue7 N b_a0 n_a0 a0 b_a1 n_a1 a1) (.exit 0) (left (writes (cAt cKCnA24 [1,1,0,1,0,0])) [4,5] [] (Zcr b_a0 n_a0 a0 b_a1 n_a1 a1) ([.a (.b (z0_4)),.a (.i .i64 (z0_5))],[]))=Zgd prog N b_a0 n_a0 a0 b_a1 n_a1 a1 z0_4 z0_5:=by
 refine Eq.trans (b:=(some (.a (.b (true)),.none,true))) (by kernel_rfl) ?_
 rfl
theorem Zp1 (N:Nat) (b_a0:Option (Option Addr)) (n_a0:Nat) (a0:Array Value) (b_a1:Option (Option Addr)) (n_a1:Nat) (a1:Array Value):Uak (Uaa (Uam prog (mkΓ [(43,con Zb9)]) N (cAt cKCnA24 [1,1,0,1,0,0]) (pAt Uew [1,1,0,1,0]) [4,5] [] (Zcr b_a0 n_a0 a0 b_a1 n_a1 a1)) N ([.a (.b (false)),.a (.i .i64 (0:Int))],[])) (fun e s=>(Ue7 N b_a0 n_a0 a0 b_a1 n_a1 a1) e (left (writes (cAt cKCnA24 [1,1,0,1,0,0])) [4,5] [] (Zcr b_a0 n_a0 a0 b_a1 n_a1 a1) s))=Uan (Uaa (Zcb prog b_a0 n_a0 a0 b_a1 n_a1 a1) N (false,(0:Int))) (st2 (fun x=>Zgg prog N b_a0 n_a0 a0 b_a1 n_a1 a1 x.1 x.2) (fun x=>Zgd prog N b_a0 n_a0 a0 b_a1 n_a1 a1 x.1 x.2)):=by
 refine Zby Zdf Zhr _ _ (Zqy N b_a0 n_a0 a0 b_a1 n_a1 a1) N (false,(0:Int)) _ _ ?_
 intro x
 cases x with
 | more x=>exact Zlr N b_a0 n_a0 a0 b_a1 n_a1 a1 x.1 x.2
 | done x=>exact Zlx N b_a0 n_a0 a0 b_a1 n_a1 a1 x.1 x.2
theorem Zpy (N:Nat) (b_a0:Option (Option Addr)) (n_a0:Nat) (a0:Array Value) (b_a1:Option (Option Addr)) (n_a1:Nat) (a1:Array Value):ansV prog (mkΓ [(43,con Zb9)]) N f24 [([4,5],[])] [.l 0,.l 1] [.sl (.came b_a0) n_a0 a0 57,.sl (.came b_a1) n_a1 a1 57]=(bif ((n_a0:Int) != (n_a1:Int)) then (some (.a (.b (false)),.none,true))
  else (Uan (Uaa (Zcb prog b_a0 n_a0 a0 b_a1 n_a1 a1) N (false,(0:Int))) (st2 (fun x=>Zgg prog N b_a0 n_a0 a0 b_a1 n_a1 a1 x.1 x.2) (fun x=>Zgd prog N b_a0 n_a0 a0 b_a1 n_a1 a1 x.1 x.2)))):=by
 refine Eq.trans (b:=(bif ((n_a0:Int) != (n_a1:Int)) then (some (.a (.b (false)),.none,true))
  else (Uak (Uaa (Uam prog (mkΓ [(43,con Zb9)]) N (cAt cKCnA24 [1,1,0,1,0,0]) (pAt Uew [1,1,0,1,0]) [4,5] [] (Zcr b_a0 n_a0 a0 b_a1 n_a1 a1)) N ([.a (.b (false)),.a (.i .i64 (0:Int))],[])) (fun e s=>(Ue7 N b_a0 n_a0 a0 b_a1 n_a1 a1) e (left (writes (cAt cKCnA24 [1,1,0,1,0,0])) [4,5] [] (Zcr b_a0 n_a0 a0 b_a1 n_a1 a1) s))))) (by kernel_rfl) ?_
 simp only [Zp1 N b_a0 n_a0 a0 b_a1 n_a1 a1]
theorem Zo1 (b_a0:Option (Option Addr)) (n_a0:Nat) (a0:Array Value) (b_a1:Option (Option Addr)) (n_a1:Nat) (a1:Array Value) (h_a0:a0.size=n_a0*(lay prog 57).length∧(∀ k,k<n_a0→WT prog 57 (a0.extract (k*(lay prog 57).length) (k*(lay prog 57).length+(lay prog 57).length)))∧n_a0≤9223372036854775807) (h_a1:a1.size=n_a1*(lay prog 57).length∧(∀ k,k<n_a1→WT prog 57 (a1.extract (k*(lay prog 57).length) (k*(lay prog 57).length+(lay prog 57).length)))∧n_a1≤9223372036854775807) (hg:(true)=true):ansV prog (mkΓ [(43,con Zb9)]) 18446744073709551616 f24 [([4,5],[])] [.l 0,.l 1] [.sl (.came b_a0) n_a0 a0 57,.sl (.came b_a1) n_a1 a1 57]=some (.a (.b ((decide (n_a0=n_a1)&&Uas a0 a1))),.none,true):=by
 have hm:(lay prog 57).length=3:=by kernel_rfl
 obtain ⟨s1,s2,s3⟩:=h_a0
 obtain ⟨t1,t2,t3⟩:=h_a1
 rw [hm] at s1 s2 t1 t2
 have hq:(lay prog 57)[0]? = some 0:=by kernel_rfl
 refine (Zpy 18446744073709551616 b_a0 n_a0 a0 b_a1 n_a1 a1).trans ?_
 by_cases hl:n_a0=n_a1
 case neg=>
  rw [Q4 hl,show ((n_a0:Int) != (n_a1:Int))=true from bne_iff_ne.2 (by omega)]
  rfl
 subst hl
 rw [Q3 rfl,show ((n_a0:Int) != (n_a0:Int))=false from bne_self_eq_false _]
 simp only [Q2,Bool.true_and]
 have hb:Uas a0 a1=true ↔ ∀ k,k<n_a0→(fun k=>Uas (a0.extract (k*3) (k*3+3)) (a1.extract (k*3) (k*3+3))) k=true:=by
  constructor
  ·intro h k hk
   rw [Zif.1 h]
   exact Zha _
  ·intro h
   refine Zif.2 ?_
   exact Zy8 (n:=n_a0) (m:=3) (by omega) s1 t1 (fun k hk=>Zif.1 (h k hk))
 refine (Zrv (g:=Zcb prog b_a0 n_a0 a0 b_a1 n_a0 a1) (fun k=>(false,(k:Int))) (fun k=>Uas (a0.extract (k*3) (k*3+3)) (a1.extract (k*3) (k*3+3))) n_a0 (N:=18446744073709551616) (xd:=.done (false,(n_a0:Int))) (by omega) (fun k hk hp=>by
  have h1:decide ((k:Int)<(n_a0:Int))=true:=Q3 (by omega)
  have h0:decide (0≤(k:Int))=true:=Q3 (by omega)
  have h3:i64.wrap ((k:Int)+1)=((k+1:Nat):Int):=by rw [IntWalk.i64_in _ (by omega)];omega
  have hp':Uas (a0.extract (k*3) (k*3+3)) (a1.extract (k*3) (k*3+3))=true:=hp
  simp only [Zcb,h1,h0,jA,Q9,Q1,h3,hp',jB,Q2]) (by
  have h1:decide ((n_a0:Int)<(n_a0:Int))=false:=Q4 (by omega)
  simp only [Zcb,h1,Q2]) (Uas a0 a1) hb (some (.a (.b true),.none,true)) (some (.a (.b false),.none,true)) rfl (fun k hk hp=>by
  refine ⟨.more (false,(k:Int)), ?_,rfl⟩
  have h1:decide ((k:Int)<(n_a0:Int))=true:=Q3 (by omega)
  have h0:decide (0≤(k:Int))=true:=Q3 (by omega)
  have hp':Uas (a0.extract (k*3) (k*3+3)) (a1.extract (k*3) (k*3+3))=false:=hp
  simp only [Zcb,h1,h0,jA,Q9,Q1,hp',jD])).trans ?_
 cases Uas a0 a1<;>rfl
def Ze7:Con:=fun args h=>match args,h with
 | [.l 0,.l 1],[.sl (.came b_a0) n_a0 a0 57,.sl (.came b_a1) n_a1 a1 57]=>some (.a (.b ((decide (n_a0=n_a1)&&Uas a0 a1))),.none,true)
 | _,_=>none
theorem Zno:EntX prog 24:=Zap (fn:=f24)
theorem Zrb:Uab mn prog 24 Ze7:=(ansY (N:=18446744073709551616) (mkΓ_consX (Zam Zrx) Zop mkΓ_nilX) f24 [([4,5],[])]).of (by
 intro ρ h w args vals r e hA hH hr
 unfold Ze7 at hr
 split at hr
 ·rename_i b_a0 n_a0 a0 b_a1 n_a1 a1
  obtain ⟨rfl,rfl,hg2⟩:=BQi hr
  exact Zo1 b_a0 n_a0 a0 b_a1 n_a1 a1 (hH.slw 0 rfl) (hH.slw 1 rfl) hg2
 ·cases hr)
theorem Zpd (N:Nat) (a1:Int) (b_a0:Option (Option Addr)) (n_a0:Nat) (a0:Array Value):ansV prog (mkΓ []) N f15 [] [.l 0,.i .i64 (a1)] [.sl (.came b_a0) n_a0 a0 87]=(bif decide ((i64.wrap (a1 - (n_a0:Int)))<(0:Int)) then (some (.a (.i .i64 (-1:Int)),.none,true))
  else (some (.a (.i .i64 (i64.wrap (a1 - (n_a0:Int)))),.none,true))):=by kernel_rfl
def Zbq (a1:Int) (b_a0:Option (Option Addr)) (n_a0:Nat) (a0:Array Value):Int:=(bif decide ((i64.wrap (a1 - (n_a0:Int)))<(0:Int)) then (-1:Int) else (i64.wrap (a1 - (n_a0:Int))))
theorem Zon (a1:Int) (b_a0:Option (Option Addr)) (n_a0:Nat) (a0:Array Value) (h_a1:i64.min≤a1∧a1≤i64.max) (h_a0:a0.size=n_a0*(lay prog 87).length∧(∀ k,k<n_a0→WT prog 87 (a0.extract (k*(lay prog 87).length) (k*(lay prog 87).length+(lay prog 87).length)))∧n_a0≤9223372036854775807) (hg:(true)=true):ansV prog (mkΓ []) 1000 f15 [] [.l 0,.i .i64 (a1)] [.sl (.came b_a0) n_a0 a0 87]=some (.a (.i .i64 (Zbq a1 b_a0 n_a0 a0)),.none,true):=by
 refine (Zpd 1000 a1 b_a0 n_a0 a0).trans ?_
 unfold Zbq
 revert hg
 generalize (decide ((i64.wrap (a1 - (n_a0:Int)))<(0:Int)))=b2
 intro hg
 cases b2
 ·skip
  first | (simp only [Q1,Q2,BQ6];done) | rfl | exact (nomatch (hg:false=true))
 ·skip
  first | (simp only [Q1,Q2,BQ6];done) | rfl | exact (nomatch (hg:false=true))
def Ze2:Con:=fun args h=>match args,h with
 | [.l 0,.i .i64 a1],[.sl (.came b_a0) n_a0 a0 87]=>some (.a (.i .i64 (Zbq a1 b_a0 n_a0 a0)),.none,true)
 | _,_=>none
theorem Zm5:EntX prog 15:=Zap (fn:=f15)
theorem Zrk:Uab mn prog 15 Ze2:=(ansY (N:=1000) mkΓ_nilX f15 []).of (by
 intro ρ h w args vals r e hA hH hr
 unfold Ze2 at hr
 split at hr
 ·rename_i a1 b_a0 n_a0 a0
  obtain ⟨rfl,rfl,hg2⟩:=BQi hr
  exact Zon a1 b_a0 n_a0 a0 (hA.rng 1 rfl) (hH.slw 0 rfl) hg2
 ·cases hr)
theorem Zu1 (N:Nat) (a0:Array Value) (bR:Option (Option Addr)) (nR:Nat) (aR:Array Value):ansV prog (mkΓ [(19,con Ze9)]) N f8 [] [.r a0 31 [(2,0)]] [.sl (.came bR) nR aR 87]=(bif decide (nR≤1048576) then (some (.a (.r #[.int .i8 (num a0 0),.int .i8 (num a0 1),.slice none 0 0] 35 [(2,HOLE)]),.newS (some 1000000) nR aR 57,true))
  else (none)):=by kernel_rfl
theorem Zs4 (a0:Array Value) (bR:Option (Option Addr)) (nR:Nat) (aR:Array Value) (h_a0:WT prog 31 a0) (h_a0x2:aR.size=nR*(lay prog 87).length∧(∀ k,k<nR→WT prog 87 (aR.extract (k*(lay prog 87).length) (k*(lay prog 87).length+(lay prog 87).length)))∧nR≤9223372036854775807) (hg:(decide (nR≤1048576))=true):ansV prog (mkΓ [(19,con Ze9)]) 1000 f8 [] [.r a0 31 [(2,0)]] [.sl (.came bR) nR aR 87]=some (.a (.r a0 35 [(2,HOLE)]),.newS (some 1000000) nR aR 57,true):=by
 have hz:a0.size=3:=by rw [h_a0.layLen];kernel_rfl
 have e0:=(h_a0.int (o:=0) (k:=.i8) (by kernel_rfl)).1
 have e1:=(h_a0.int (o:=1) (k:=.i8) (by kernel_rfl)).1
 have e2:=h_a0.nil (o:=2) (by kernel_rfl)
 have he:(#[.int .i8 (num a0 0),.int .i8 (num a0 1),.slice none 0 0]:Array Value)=a0:=Zff fun i=>by
  match i with
  | 0=>exact e0.symm
  | 1=>exact e1.symm
  | 2=>exact e2.symm
  | i+3=>rw [jC (by simp),jC (by omega)]
 refine (Zu1 1000 a0 bR nR aR).trans ?_
 rw [hg,he]
 rfl
def Zjn:Con:=fun args h=>match args,h with
 | [.r a0 31 [(2,0)]],[.sl (.came bR) nR aR 87]=>some (.a (.r a0 35 [(2,HOLE)]),.newS (some 1000000) nR aR 57,decide (nR≤1048576))
 | _,_=>none
theorem Zsd:EntX prog 8:=Zap (fn:=f8)
theorem Zvq:Uab mn prog 8 Zjn:=(ansY (N:=1000) (mkΓ_consX (Zam Zrg) Znw mkΓ_nilX) f8 []).of (by
 intro ρ h w args vals r e hA hH hr
 unfold Zjn at hr
 split at hr
 ·rename_i a0 bR nR aR
  obtain ⟨rfl,rfl,hg2⟩:=BQi hr
  exact Zs4 a0 bR nR aR (hA.wtr 0 rfl) (hH.slw 0 rfl) hg2
 ·cases hr)
theorem Zvd (N:Nat) (a0 a1:Array Value) (bR:Option (Option Addr)) (nR:Nat) (aR:Array Value) (bQ:Option (Option Addr)) (nQ:Nat) (aQ:Array Value):ansV prog (mkΓ [(24,con Ze7)]) N f10 [] [.r a0 35 [(2,0)],.r a1 35 [(2,1)]] [.sl (.came bR) nR aR 57,.sl (.came bQ) nQ aQ 57]=(bif ((num a0 0) != (num a1 0)) then (some (.a (.b (false)),.none,true))
  else (bif ((num a0 1) != (num a1 1)) then (some (.a (.b (false)),.none,true))
   else (bif (!((decide (nR=nQ)&&Uas aR aQ))) then (some (.a (.b (false)),.none,true))
    else (some (.a (.b (true)),.none,true))))):=by kernel_rfl
def Zad (a0 a1:Array Value) (bR:Option (Option Addr)) (nR:Nat) (aR:Array Value) (bQ:Option (Option Addr)) (nQ:Nat) (aQ:Array Value):Bool:=(bif ((num a0 0) != (num a1 0)) then false else (bif ((num a0 1) != (num a1 1)) then false else (bif (!((decide (nR=nQ)&&Uas aR aQ))) then false else true)))
theorem Ztl (a0 a1:Array Value) (bR:Option (Option Addr)) (nR:Nat) (aR:Array Value) (bQ:Option (Option Addr)) (nQ:Nat) (aQ:Array Value) (h_a0:WT prog 35 a0) (h_a1:WT prog 35 a1) (h_a0x2:aR.size=nR*(lay prog 57).length∧(∀ k,k<nR→WT prog 57 (aR.extract (k*(lay prog 57).length) (k*(lay prog 57).length+(lay prog 57).length)))∧nR≤9223372036854775807) (h_a1x2:aQ.size=nQ*(lay prog 57).length∧(∀ k,k<nQ→WT prog 57 (aQ.extract (k*(lay prog 57).length) (k*(lay prog 57).length+(lay prog 57).length)))∧nQ≤9223372036854775807) (hg:(true)=true):ansV prog (mkΓ [(24,con Ze7)]) 1000 f10 [] [.r a0 35 [(2,0)],.r a1 35 [(2,1)]] [.sl (.came bR) nR aR 57,.sl (.came bQ) nQ aQ 57]=some (.a (.b ((Zad a0 a1 bR nR aR bQ nQ aQ))),.none,true):=by
 refine (Zvd 1000 a0 a1 bR nR aR bQ nQ aQ).trans ?_
 unfold Zad
 revert hg
 generalize (((num a0 0) != (num a1 0)))=b2
 intro hg
 cases b2
 ·skip
  revert hg
  generalize (((num a0 1) != (num a1 1)))=b4
  intro hg
  cases b4
  ·skip
   revert hg
   generalize ((!((decide (nR=nQ)&&Uas aR aQ))))=b6
   intro hg
   cases b6
   ·skip
    first | (simp only [Q1,Q2,BQ6];done) | rfl | exact (nomatch (hg:false=true))
   ·skip
    first | (simp only [Q1,Q2,BQ6];done) | rfl | exact (nomatch (hg:false=true))
  ·skip
   first | (simp only [Q1,Q2,BQ6];done) | rfl | exact (nomatch (hg:false=true))
 ·skip
  first | (simp only [Q1,Q2,BQ6];done) | rfl | exact (nomatch (hg:false=true))
def Zi9:Con:=fun args h=>match args,h with
 | [.r a0 35 [(2,0)],.r a1 35 [(2,1)]],[.sl (.came bR) nR aR 57,.sl (.came bQ) nQ aQ 57]=>some (.a (.b ((Zad a0 a1 bR nR aR bQ nQ aQ))),.none,true)
 | _,_=>none
theorem Zr4:EntX prog 10:=Zap (fn:=f10)
theorem Zvw:Uab mn prog 10 Zi9:=(ansY (N:=1000) (mkΓ_consX (Zam Zrb) Zno mkΓ_nilX) f10 []).of (by
 intro ρ h w args vals r e hA hH hr
 unfold Zi9 at hr
 split at hr
 ·rename_i a0 a1 bR nR aR bQ nQ aQ
  obtain ⟨rfl,rfl,hg2⟩:=BQi hr
  exact Ztl a0 a1 bR nR aR bQ nQ aQ (hA.wtr 0 rfl) (hA.wtr 1 rfl) (hH.slw 0 rfl) (hH.slw 1 rfl) hg2
 ·cases hr)
theorem Zuw (N:Nat) (a0:Array Value) (a1:Int) (bR:Option (Option Addr)) (nR:Nat) (aR:Array Value):ansV prog (mkΓ [(15,con Ze2)]) N f5 [] [.r a0 31 [(2,0)],.i .i64 (a1)] [.sl (.came bR) nR aR 87]=(bif decide ((Zbq a1 bR nR aR)<(0:Int)) then (some (.a (.i .i64 (-1:Int)),.none,true))
  else (some (.a (.i .i64 (Zbq a1 bR nR aR)),.none,true))):=by kernel_rfl
def Zc7 (a0:Array Value) (a1:Int) (bR:Option (Option Addr)) (nR:Nat) (aR:Array Value):Int:=(bif decide ((Zbq a1 bR nR aR)<(0:Int)) then (-1:Int) else (Zbq a1 bR nR aR))
theorem Ztk (a0:Array Value) (a1:Int) (bR:Option (Option Addr)) (nR:Nat) (aR:Array Value) (h_a0:WT prog 31 a0) (h_a1:i64.min≤a1∧a1≤i64.max) (h_a0x2:aR.size=nR*(lay prog 87).length∧(∀ k,k<nR→WT prog 87 (aR.extract (k*(lay prog 87).length) (k*(lay prog 87).length+(lay prog 87).length)))∧nR≤9223372036854775807) (hg:(true)=true):ansV prog (mkΓ [(15,con Ze2)]) 1000 f5 [] [.r a0 31 [(2,0)],.i .i64 (a1)] [.sl (.came bR) nR aR 87]=some (.a (.i .i64 (Zc7 a0 a1 bR nR aR)),.none,true):=by
 refine (Zuw 1000 a0 a1 bR nR aR).trans ?_
 unfold Zc7
 revert hg
 generalize (decide ((Zbq a1 bR nR aR)<(0:Int)))=b2
 intro hg
 cases b2
 ·skip
  first | (simp only [Q1,Q2,BQ6];done) | rfl | exact (nomatch (hg:false=true))
 ·skip
  first | (simp only [Q1,Q2,BQ6];done) | rfl | exact (nomatch (hg:false=true))
def Zi0:Con:=fun args h=>match args,h with
 | [.r a0 31 [(2,0)],.i .i64 a1],[.sl (.came bR) nR aR 87]=>some (.a (.i .i64 (Zc7 a0 a1 bR nR aR)),.none,true)
 | _,_=>none
theorem Zrp:EntX prog 5:=Zap (fn:=f5)
theorem Zv2:Uab mn prog 5 Zi0:=(ansY (N:=1000) (mkΓ_consX (Zam Zrk) Zm5 mkΓ_nilX) f5 []).of (by
 intro ρ h w args vals r e hA hH hr
 unfold Zi0 at hr
 split at hr
 ·rename_i a0 a1 bR nR aR
  obtain ⟨rfl,rfl,hg2⟩:=BQi hr
  exact Ztk a0 a1 bR nR aR (hA.wtr 0 rfl) (hA.rng 1 rfl) (hH.slw 0 rfl) hg2
 ·cases hr)
theorem Zss (N:Nat) (a0 a1:Array Value) (bQ:Option (Option Addr)) (nQ:Nat) (aQ:Array Value):ansV prog (mkΓ []) N f39 [] [.g a0 42,.r a1 35 [(2,0)]] [.sl (.came bQ) nQ aQ 57]=(some (.a (.r ((spl (spl (zc prog 64) 0 (#[.int .i64 (i64.wrap (num a1 0)),.int .i64 (i64.wrap (num a1 1))]:Array Value).toList) 2 a0.toList).setIfInBounds 365 (.slice none 0 0)) 64 [(365,0)]),.none,true)):=by kernel_rfl
theorem Zp2 (a0 a1:Array Value) (bQ:Option (Option Addr)) (nQ:Nat) (aQ:Array Value) (h_a0:WT prog 42 a0) (h_a1:WT prog 35 a1) (h_a1x2:aQ.size=nQ*(lay prog 57).length∧(∀ k,k<nQ→WT prog 57 (aQ.extract (k*(lay prog 57).length) (k*(lay prog 57).length+(lay prog 57).length)))∧nQ≤9223372036854775807) (hg:(true)=true):ansV prog (mkΓ []) 1000 f39 [] [.g a0 42,.r a1 35 [(2,0)]] [.sl (.came bQ) nQ aQ 57]=some (.a (.r ((spl (spl (zc prog 64) 0 (#[.int .i64 (i64.wrap (num a1 0)),.int .i64 (i64.wrap (num a1 1))]:Array Value).toList) 2 a0.toList).setIfInBounds 365 (.slice none 0 0)) 64 [(365,0)]),.none,true):=by
 refine (Zss 1000 a0 a1 bQ nQ aQ).trans ?_
 rfl
def Zf3:Con:=fun args h=>match args,h with
 | [.g a0 42,.r a1 35 [(2,0)]],[.sl (.came bQ) nQ aQ 57]=>some (.a (.r ((spl (spl (zc prog 64) 0 (#[.int .i64 (i64.wrap (num a1 0)),.int .i64 (i64.wrap (num a1 1))]:Array Value).toList) 2 a0.toList).setIfInBounds 365 (.slice none 0 0)) 64 [(365,0)]),.none,true)
 | _,_=>none
theorem Zgz:EntX prog 39:=Zap (fn:=f39)
theorem Zig:Uab mn prog 39 Zf3:=(ansY (N:=1000) mkΓ_nilX f39 []).of (by
 intro ρ h w args vals r e hA hH hr
 unfold Zf3 at hr
 split at hr
 ·rename_i a0 a1 bQ nQ aQ
  obtain ⟨rfl,rfl,hg2⟩:=BQi hr
  exact Zp2 a0 a1 bQ nQ aQ (hA.wt 0 rfl) (hA.wtr 1 rfl) (hH.slw 0 rfl) hg2
 ·cases hr)
theorem Zmk (N:Nat) (a0:Array Value) (a1:Int):ansV prog (mkΓ []) N f79 [] [.g a0 62,.i .i64 (a1)] []=(bif decide (a1 ≥ (0:Int)) then (some (.a (.b (decide (a1<(num a0 1)))),.none,true))
  else (some (.a (.b (false)),.none,true))):=by kernel_rfl
def Zbv (a0:Array Value) (a1:Int):Bool:=(bif decide (a1 ≥ (0:Int)) then decide (a1<(num a0 1)) else false)
theorem Zlk (a0:Array Value) (a1:Int) (h_a0:WT prog 62 a0) (h_a1:i64.min≤a1∧a1≤i64.max) (hg:(true)=true):ansV prog (mkΓ []) 1000 f79 [] [.g a0 62,.i .i64 (a1)] []=some (.a (.b ((Zbv a0 a1))),.none,true):=by
 refine (Zmk 1000 a0 a1).trans ?_
 unfold Zbv
 revert hg
 generalize (decide (a1 ≥ (0:Int)))=b2
 intro hg
 cases b2
 ·skip
  first | (simp only [Q1,Q2,BQ6];done) | rfl | exact (nomatch (hg:false=true))
 ·skip
  first | (simp only [Q1,Q2,BQ6];done) | rfl | exact (nomatch (hg:false=true))
def Zfk:Con:=fun args h=>match args,h with
 | [.g a0 62,.i .i64 a1],[]=>some (.a (.b ((Zbv a0 a1))),.none,true)
 | _,_=>none
theorem Zkl:EntX prog 79:=Zap (fn:=f79)
theorem Znn:Uab mn prog 79 Zfk:=(ansY (N:=1000) mkΓ_nilX f79 []).of (by
 intro ρ h w args vals r e hA hH hr
 unfold Zfk at hr
 split at hr
 ·rename_i a0 a1
  obtain ⟨rfl,rfl,hg2⟩:=BQi hr
  exact Zlk a0 a1 (hA.wt 0 rfl) (hA.rng 1 rfl) hg2
 ·cases hr)
def Zi7:Cons:=(mkΓ [(77,con Zgv),(78,con Zgr),(79,con Zfk)])
theorem Zm1 (N:Nat) (a0 a1:Array Value) (bS:Option (Option Addr)) (n_a0x365:Nat) (aS:Array Value):ansV prog Zi7 N f59 [] [.r a0 64 [(365,0)],.g a1 57] [.sl (.came bS) n_a0x365 aS 57]=(bif (Zal (a0.extract 2 (2+363)) (i64.wrap (num a1 0))) then (bif decide (0≤(i64.wrap (num a1 0))) then (bif (Zbt (a0.extract 2 (2+363)) (i64.wrap (num a1 0))) then (bif (Zbv (a0.extract 0 (0+2)) (i64.wrap (num a1 1))) then (bif decide ((num a1 2) ≥ (1:Int)) then (some (.a (.b (decide ((num a1 2)≤(200:Int)))),.none,true))
      else (some (.a (.b (false)),.none,true)))
     else (some (.a (.b (false)),.none,true)))
    else (some (.a (.b (false)),.none,true)))
   else (none))
  else (some (.a (.b (false)),.none,true))):=by kernel_rfl
def Zb3 (a0 a1:Array Value) (bS:Option (Option Addr)) (n_a0x365:Nat) (aS:Array Value):Bool:=(bif (Zal (a0.extract 2 (2+363)) (i64.wrap (num a1 0))) then (bif (Zbt (a0.extract 2 (2+363)) (i64.wrap (num a1 0))) then (bif (Zbv (a0.extract 0 (0+2)) (i64.wrap (num a1 1))) then (bif decide ((num a1 2) ≥ (1:Int)) then decide ((num a1 2)≤(200:Int)) else false) else false) else false) else false)
def Zb5 (a0 a1:Array Value) (bS:Option (Option Addr)) (n_a0x365:Nat) (aS:Array Value):Bool:=(bif (Zal (a0.extract 2 (2+363)) (i64.wrap (num a1 0))) then decide (0≤(i64.wrap (num a1 0))) else true)
theorem Zmi (a0 a1:Array Value) (bS:Option (Option Addr)) (n_a0x365:Nat) (aS:Array Value) (h_a0:WT prog 64 a0) (h_a1:WT prog 57 a1) (h_a0x365:aS.size=n_a0x365*(lay prog 57).length∧(∀ k,k<n_a0x365→WT prog 57 (aS.extract (k*(lay prog 57).length) (k*(lay prog 57).length+(lay prog 57).length)))∧n_a0x365≤9223372036854775807) (hg:((Zb5 a0 a1 bS n_a0x365 aS))=true):ansV prog Zi7 1000 f59 [] [.r a0 64 [(365,0)],.g a1 57] [.sl (.came bS) n_a0x365 aS 57]=some (.a (.b ((Zb3 a0 a1 bS n_a0x365 aS))),.none,true):=by
 refine (Zm1 1000 a0 a1 bS n_a0x365 aS).trans ?_
 unfold Zb5 at hg
 unfold Zb3
 revert hg
 generalize ((Zal (a0.extract 2 (2+363)) (i64.wrap (num a1 0))))=b2
 intro hg
 cases b2
 ·skip
  first | (simp only [Q1,Q2,BQ6];done) | rfl | exact (nomatch (hg:false=true))
 ·skip
  revert hg
  generalize (decide (0≤(i64.wrap (num a1 0))))=b4
  intro hg
  cases b4
  ·skip
   first | exact (nomatch (hg:false=true)) | (simp only [Q1,Q2,BQ6];done) | rfl
  ·skip
   revert hg
   generalize ((Zbt (a0.extract 2 (2+363)) (i64.wrap (num a1 0))))=b6
   intro hg
   cases b6
   ·skip
    first | (simp only [Q1,Q2,BQ6];done) | rfl | exact (nomatch (hg:false=true))
   ·skip
    revert hg
    generalize ((Zbv (a0.extract 0 (0+2)) (i64.wrap (num a1 1))))=b8
    intro hg
    cases b8
    ·skip
     first | (simp only [Q1,Q2,BQ6];done) | rfl | exact (nomatch (hg:false=true))
    ·skip
     revert hg
     generalize (decide ((num a1 2) ≥ (1:Int)))=b10
     intro hg
     cases b10
     ·skip
      first | (simp only [Q1,Q2,BQ6];done) | rfl | exact (nomatch (hg:false=true))
     ·skip
      first | (simp only [Q1,Q2,BQ6];done) | rfl | exact (nomatch (hg:false=true))
def Zfw:Con:=fun args h=>match args,h with
 | [.r a0 64 [(365,0)],.g a1 57],[.sl (.came bS) n_a0x365 aS 57]=>some (.a (.b ((Zb3 a0 a1 bS n_a0x365 aS))),.none,(Zb5 a0 a1 bS n_a0x365 aS))
 | _,_=>none
theorem Zlo:EntX prog 59:=Zap (fn:=f59)
theorem Zou:Uab mn prog 59 Zfw:=(ansY (N:=1000) (mkΓ_consX (Zam Znr) Zjt (mkΓ_consX (Zam Zn2) Zjz (mkΓ_consX (Zam Znn) Zkl mkΓ_nilX))) f59 []).of (by
 intro ρ h w args vals r e hA hH hr
 unfold Zfw at hr
 split at hr
 ·rename_i a0 a1 bS n_a0x365 aS
  obtain ⟨rfl,rfl,hg2⟩:=BQi hr
  exact Zmi a0 a1 bS n_a0x365 aS (hA.wtr 0 rfl) (hA.wt 1 rfl) (hH.slw 0 rfl) hg2
 ·cases hr)
theorem Zza {S p:Array Value} (hS:S.size=363):((spl (spl (zc prog 64) 0 (#[.int .i64 (i64.wrap (num p 0)),.int .i64 (i64.wrap (num p 1))]:Array Value).toList) 2 S.toList).setIfInBounds 365 (.slice none 0 0)).extract 2 (2+363)=S∧((spl (spl (zc prog 64) 0 (#[.int .i64 (i64.wrap (num p 0)),.int .i64 (i64.wrap (num p 1))]:Array Value).toList) 2 S.toList).setIfInBounds 365 (.slice none 0 0)).extract 0 (0+2)=#[.int .i64 (i64.wrap (num p 0)),.int .i64 (i64.wrap (num p 1))]:=by
 have hz:(zc prog 64).size=366:=by kernel_rfl
 generalize (zc prog 64)=Z at hz
 have hl:S.toList.length=363:=by rw [Array.length_toList,hS]
 constructor
 ·refine Array.ext_getElem? fun i=> ?_
  rw [Array.getElem?_extract,Array.getElem?_setIfInBounds,Array.size_setIfInBounds,Zfr _ _ _ (by rw [Zf5,hz,hl];omega),Zf5,Zf5,hz,hl]
  by_cases hi:i<363
  ·rw [if_pos (by omega),if_neg (by omega),if_pos (by omega),Array.getElem?_toList,show 2+i - 2=i by omega]
  ·rw [if_neg (by omega),jC (by omega)]
 ·refine Array.ext_getElem? fun i=> ?_
  rw [Array.getElem?_extract,Array.getElem?_setIfInBounds,Array.size_setIfInBounds,Zfr _ _ _ (by rw [Zf5,hz,hl];omega),Zfr _ _ _ (by rw [hz];simp),Zf5,Zf5,hz,hl]
  by_cases hi:i<2
  ·rw [if_pos (by omega),if_neg (by omega),if_neg (by omega),if_pos (by simp;omega),Array.getElem?_toList,show 0+i - 0=i by omega]
  ·rw [if_neg (by omega),jC (by simp;omega)]
theorem takes_eq {S V X:Array Value} {h:Int} {x:Int} (bb:Option (Option Addr)) (n:Nat) (A:Array Value) (hS:WT prog 42 S) (h1:V.extract 2 (2+363)=S) (h2:V.extract 0 (0+2)=#[.int .i64 x,.int .i64 h]) (hh: -128≤h∧h≤127) (hX:WT prog 57 X) :
  Zb5 V X bb n A=true∧Zb3 V X bb n A=relB S h X:=by
 obtain ⟨-,b0⟩:=hX.int (o:=0) (k:=.i8) (by kernel_rfl)
 obtain ⟨-,b1⟩:=hX.int (o:=1) (k:=.i8) (by kernel_rfl)
 obtain ⟨-,b2⟩:=hX.int (o:=2) (k:=.i16) (by kernel_rfl)
 have e1:IntKind.i16.min = -32768:=rfl
 have e2:IntKind.i16.max=32767:=rfl
 have w2:i64.wrap (num X 2)=num X 2:=IntWalk.i64_in _ (by omega)
 have w3:i64.wrap (h - 1)=h - 1:=IntWalk.i64_in _ (by omega)
 have w4:num (#[.int .i64 x,.int .i64 h]:Array Value) 1=h:=rfl
 unfold Zb5 Zb3 relB Zaq Zab Zbv
 rw [h1,h2,Yeu,w2,w3,w4]
 cases hi:Zaz (i64.wrap (num X 0)) S with
 | false=>exact ⟨rfl,rfl⟩
 | true=>
  have hr:=is_range hi
  refine ⟨Q3 hr.1, ?_⟩
  unfold Zbt
  rw [land_all hS hr]
  have e3:decide (i64.wrap (num X 1)<h)=decide (i64.wrap (num X 1)≤h - 1):=decide_eq_decide.2 (by omega)
  rw [e3]
  cases Zcn (i64.wrap (num X 0)) S<;>cases decide (i64.wrap (num X 1) ≥ 0)<;>cases decide (i64.wrap (num X 1)≤h - 1)<;>cases decide (num X 2 ≥ 1)<;>cases decide (num X 2≤200)<;>rfl
def Zce (a0:Array Value) (bS:Option (Option Addr)) (n_a0x365:Nat) (aS:Array Value):St:=(⟨.a (.r a0 64 [(365,0)]) :: .a (.w 1) :: .a (.i .i64 (0:Int)) :: .a (.i .i64 (0:Int)) :: .a (.u) :: .a (.u) :: .a (.p 1 (365) 33) :: .a (.l 0) :: .a (.i .i64 (n_a0x365:Int)) :: .a (.i .i64 (0:Int))::us 10 ([]),[.sl (.came bS) n_a0x365 aS 57,.one (.r a0 64 [(365,0)]) 64,.no],[]⟩:St)
def Zc2:Int×Int→LS
 | (y0_3,y0_9)=>([.a (.i .i64 (y0_3)),.a (.i .i64 (y0_9))],[])
def Zfn:Int×Int→Exit×LS
 | t=>((.exit 0),Zc2 t)
def Zbb (P:Program) (a0:Array Value) (bS:Option (Option Addr)) (n_a0x365:Nat) (aS:Array Value):Int×Int→Option (Stp (Int×Int) (Int×Int))
 | (y0_3,y0_9)=>bif decide (y0_9<(n_a0x365:Int)) then (bif (decide (0≤y0_9)&&decide (y0_9<(n_a0x365:Int))) then (some (.more ((i64.wrap (y0_3+(i64.wrap (num (aS.extract ((y0_9).toNat*3) (((y0_9).toNat*3)+3)) 2)))),(i64.wrap (y0_9+(1:Int))))))
   else (none))
  else (some (.done (y0_3,y0_9)))
noncomputable abbrev cKCnA60:=codeOf f60
def Uex:=(Uaf cKCnA60 [([3,9],[])]).1
theorem Zmp (N:Nat) (a0:Array Value) (bS:Option (Option Addr)) (n_a0x365:Nat) (aS:Array Value):∀ t:Int×Int,Uam prog (mkΓ []) N (cAt cKCnA60 [1,1,0,1,0,0]) (pAt Uex [1,1,0,1,0]) [3,9] [] (Zce a0 bS n_a0x365 aS) (Zc2 t)=mapS Zc2 Zfn (Zbb prog a0 bS n_a0x365 aS t):=by
 rintro ⟨y0_3,y0_9⟩
 refine Eq.trans (b:=(bif decide (y0_9<(n_a0x365:Int)) then (bif (decide (0≤y0_9)&&decide (y0_9<(n_a0x365:Int))) then (some (.more ([.a (.i .i64 (i64.wrap (y0_3+(i64.wrap (num (aS.extract ((y0_9).toNat*3) (((y0_9).toNat*3)+3)) 2))))),.a (.i .i64 (i64.wrap (y0_9+(1:Int))))],[])))
   else (none))
  else (some (.done ((.exit 0),([.a (.i .i64 (y0_3)),.a (.i .i64 (y0_9))],[])))))) (by kernel_rfl) ?_
 simp only [Zbb,Zbp,Zbo,Zbm,Zbn,Zc2,Zfn]
def Zes (P:Program) (N:Nat) (a0:Array Value) (bS:Option (Option Addr)) (n_a0x365:Nat) (aS:Array Value) (z0_3:Int) (z0_9:Int):Option (SV×Eff×Bool):=some (.a (.i .i64 (z0_3)),.none,true)
def Uft (N:Nat) (bS:Option (Option Addr)) (n_a0x365:Nat) (aS:Array Value):=(Uaz 0 (kSeq (veC prog (mkΓ []) N (cAt cKCnA60 [1,1,1]) (pAt Uex [1,1,1]) (SV×Eff×Bool)) (finK prog [.sl (.came bS) n_a0x365 aS 57] [.tmp 2])))
theorem Zi8 (N:Nat) (a0:Array Value) (bS:Option (Option Addr)) (n_a0x365:Nat) (aS:Array Value) (z0_3:Int) (z0_9:Int):(Uft N bS n_a0x365 aS) (.exit 0) (left (writes (cAt cKCnA60 [1,1,0,1,0,0])) [3,9] [] (Zce a0 bS n_a0x365 aS) ([.a (.i .i64 (z0_3)),.a (.i .i64 (z0_9))],[]))=Zes prog N a0 bS n_a0x365 aS z0_3 z0_9:=by
 refine Eq.trans (b:=(some (.a (.i .i64 (z0_3)),.none,true))) (by kernel_rfl) ?_
 rfl
theorem Zmq (N:Nat) (a0:Array Value) (bS:Option (Option Addr)) (n_a0x365:Nat) (aS:Array Value):Uak (Uaa (Uam prog (mkΓ []) N (cAt cKCnA60 [1,1,0,1,0,0]) (pAt Uex [1,1,0,1,0]) [3,9] [] (Zce a0 bS n_a0x365 aS)) N ([.a (.i .i64 (0:Int)),.a (.i .i64 (0:Int))],[])) (fun e s=>(Uft N bS n_a0x365 aS) e (left (writes (cAt cKCnA60 [1,1,0,1,0,0])) [3,9] [] (Zce a0 bS n_a0x365 aS) s))=Uan (Uaa (Zbb prog a0 bS n_a0x365 aS) N ((0:Int),(0:Int))) (fun x=>Zes prog N a0 bS n_a0x365 aS x.1 x.2):=by
 refine Zby Zc2 Zfn _ _ (Zmp N a0 bS n_a0x365 aS) N ((0:Int),(0:Int)) _ _ ?_
 intro x;exact Zi8 N a0 bS n_a0x365 aS x.1 x.2
theorem Zl8 (N:Nat) (a0:Array Value) (bS:Option (Option Addr)) (n_a0x365:Nat) (aS:Array Value):ansV prog (mkΓ []) N f60 [([3,9],[])] [.r a0 64 [(365,0)]] [.sl (.came bS) n_a0x365 aS 57]=(Uan (Uaa (Zbb prog a0 bS n_a0x365 aS) N ((0:Int),(0:Int))) (fun x=>Zes prog N a0 bS n_a0x365 aS x.1 x.2)):=by
 refine Eq.trans (b:=(Uak (Uaa (Uam prog (mkΓ []) N (cAt cKCnA60 [1,1,0,1,0,0]) (pAt Uex [1,1,0,1,0]) [3,9] [] (Zce a0 bS n_a0x365 aS)) N ([.a (.i .i64 (0:Int)),.a (.i .i64 (0:Int))],[])) (fun e s=>(Uft N bS n_a0x365 aS) e (left (writes (cAt cKCnA60 [1,1,0,1,0,0])) [3,9] [] (Zce a0 bS n_a0x365 aS) s)))) (by kernel_rfl) ?_
 simp only [Zmq N a0 bS n_a0x365 aS]
theorem Zkx (a0:Array Value) (bS:Option (Option Addr)) (n_a0x365:Nat) (aS:Array Value) (h_a0:WT prog 64 a0) (h_a0x365:aS.size=n_a0x365*(lay prog 57).length∧(∀ k,k<n_a0x365→WT prog 57 (aS.extract (k*(lay prog 57).length) (k*(lay prog 57).length+(lay prog 57).length)))∧n_a0x365≤9223372036854775807) (hg:(true)=true):ansV prog (mkΓ []) 18446744073709551616 f60 [([3,9],[])] [.r a0 64 [(365,0)]] [.sl (.came bS) n_a0x365 aS 57]=some (.a (.i .i64 (wsum aS n_a0x365)),.none,true):=by
 have hn:=h_a0x365.2.2
 refine (Zl8 18446744073709551616 a0 bS n_a0x365 aS).trans ?_
 have h:=Zeo (g:=Zbb prog a0 bS n_a0x365 aS) (fun k=>(wsum aS k,(k:Int))) (m:=n_a0x365) (x:=(wsum aS n_a0x365,(n_a0x365:Int))) (N:=18446744073709551616) (fun k hk=>by
  have h1:decide ((k:Int)<(n_a0x365:Int))=true:=Q3 (by omega)
  have h0:decide (0≤(k:Int))=true:=Q3 (by omega)
  have h3:i64.wrap ((k:Int)+1)=((k+1:Nat):Int):=by rw [IntWalk.i64_in _ (by omega)];omega
  simp only [Zbb,h1,h0,jA,Q9,Q1,h3]
  rfl) (by
  have h1:decide ((n_a0x365:Int)<(n_a0x365:Int))=false:=Q4 (by omega)
  simp only [Zbb,h1,Q2]) (by omega)
 have h':Uaa (Zbb prog a0 bS n_a0x365 aS) 18446744073709551616 ((0:Int),(0:Int))=some (wsum aS n_a0x365,(n_a0x365:Int)):=h
 rw [h']
 rfl
def Zfb:Con:=fun args h=>match args,h with
 | [.r a0 64 [(365,0)]],[.sl (.came bS) n_a0x365 aS 57]=>some (.a (.i .i64 (wsum aS n_a0x365)),.none,true)
 | _,_=>none
theorem Zkc:EntX prog 60:=Zap (fn:=f60)
theorem Zmn:Uab mn prog 60 Zfb:=(ansY (N:=18446744073709551616) mkΓ_nilX f60 [([3,9],[])]).of (by
 intro ρ h w args vals r e hA hH hr
 unfold Zfb at hr
 split at hr
 ·rename_i a0 bS n_a0x365 aS
  obtain ⟨rfl,rfl,hg2⟩:=BQi hr
  exact Zkx a0 bS n_a0x365 aS (hA.wtr 0 rfl) (hH.slw 0 rfl) hg2
 ·cases hr)
def Zg8:Cons:=(mkΓ [(33,con Zir),(34,con Zdt),(35,con Zhm)])
def Zfa (a0 a1:Array Value) (bQ:Option (Option Addr)) (nQ:Nat) (aQ:Array Value):St:=(⟨.a (.w 0) :: .a (.w 1) :: .a (.u) :: .a (.u) :: .a (.b (false)) :: .a (.i .i64 (0:Int)) :: .a (.i .i64 (0:Int)) :: .a (.u) :: .a (.w 1) :: .a (.w 1) :: .a (.p 1 (0) 22) :: .a (.i .i8 (num a1 0)) :: .a (.i .i64 (i64.wrap (num a1 0))) :: .a (.b ((Zab (i64.wrap (num a1 0)) (0:Int) (1:Int)))) :: .a (.b ((!((Zab (i64.wrap (num a1 0)) (0:Int) (1:Int)))))) :: .a (.b (false)) :: .a (.w 1) :: .a (.w 1) :: .a (.p 1 (1) 22) :: .a (.i .i8 (num a1 1)) :: .a (.i .i64 (i64.wrap (num a1 1))) :: .a (.b ((Zab (i64.wrap (num a1 1)) (1:Int) (8:Int)))) :: .a (.b ((!((Zab (i64.wrap (num a1 1)) (1:Int) (8:Int)))))) :: .a (.b ((!((Zab (i64.wrap (num a1 1)) (1:Int) (8:Int)))))) :: .a (.b (false)) :: .a (.w 1) :: .a (.w 1) :: .a (.p 1 (2) 33) :: .a (.l 2) :: .a (.i .i64 (nQ:Int)) :: .a (.b (decide ((nQ:Int) > (12:Int)))) :: .a (.b (decide ((nQ:Int) > (12:Int))))::us 49 ([]),[.row a0 42,.one (.r a1 35 [(2,2)]) 35,.sl (.came bQ) nQ aQ 57],[]⟩:St)
def Zf8:Bool×Int×Int→LS
 | (y0_4,y0_5,y0_6)=>([.a (.b (y0_4)),.a (.i .i64 (y0_5)),.a (.i .i64 (y0_6))],[])
def Zly:(Stp (Bool×Int×Int) (Bool×Int×Int))→Exit×LS
 | .more t=>(.ret,Zf8 t)
 | .done t=>((.exit 0),Zf8 t)
def Zc6 (P : Program) (a0 a1 : Array Value) (bQ : Option (Option Addr)) (nQ : Nat) (aQ : Array Value) : Bool × Int × Int → Option (Stp (Bool × Int × Int) (Stp (Bool × Int × Int) (Bool × Int × Int)))
 | (y0_4, y0_5, y0_6) => bif decide (y0_6 < (nQ : Int)) then (bif (decide (0 ≤ y0_6) && decide (y0_6 < (nQ : Int))) then (bif (Za5 (i64.wrap (num (aQ.extract ((y0_6).toNat * 3) (((y0_6).toNat * 3) + 3)) 0)) a0) then (bif (!((Zaq (i64.wrap (num (aQ.extract ((y0_6).toNat * 3) (((y0_6).toNat * 3) + 3)) 0)) a0))) then (some (.done (.more (false, y0_5, y0_6))))
     else (bif (!((Zab (i64.wrap (num (aQ.extract ((y0_6).toNat * 3) (((y0_6).toNat * 3) + 3)) 1)) (0 : Int) (i64.wrap ((i64.wrap (num a1 1)) - (1 : Int)))))) then (some (.done (.more (false, y0_5, y0_6))))
      else (bif (!((Zab (i64.wrap (num (aQ.extract ((y0_6).toNat * 3) (((y0_6).toNat * 3) + 3)) 2)) (1 : Int) (200 : Int)))) then (some (.done (.more (false, y0_5, y0_6))))
       else (some (.more (y0_4, (i64.wrap (y0_5 + (i64.wrap (num (aQ.extract ((y0_6).toNat * 3) (((y0_6).toNat * 3) + 3)) 2)))), (i64.wrap (y0_6 + (1 : Int)))))))))
    else (none))
   else (none))
  else (some (.done (.done (y0_4, y0_5, y0_6))))
noncomputable abbrev cKCnA17:=codeOf f17
def Ue2:=(Uaf cKCnA17 [([4,5,6],[])]).1
theorem Zxz (N:Nat) (a0 a1:Array Value) (bQ:Option (Option Addr)) (nQ:Nat) (aQ:Array Value):∀ t:Bool×Int×Int,Uam prog Zg8 N (cAt cKCnA17 [1,1,1,0,1,0,0]) (pAt Ue2 [1,1,1,0,1,0]) [4,5,6] [] (Zfa a0 a1 bQ nQ aQ) (Zf8 t)=mapS Zf8 Zly (Zc6 prog a0 a1 bQ nQ aQ t):=by
 rintro ⟨y0_4,y0_5,y0_6⟩
 refine Eq.trans (b:=(bif decide (y0_6<(nQ:Int)) then (bif (decide (0≤y0_6)&&decide (y0_6<(nQ:Int))) then (bif (Za5 (i64.wrap (num (aQ.extract ((y0_6).toNat*3) (((y0_6).toNat*3)+3)) 0)) a0) then (bif (!((Zaq (i64.wrap (num (aQ.extract ((y0_6).toNat*3) (((y0_6).toNat*3)+3)) 0)) a0))) then (some (.done (.ret,([.a (.b (false)),.a (.i .i64 (y0_5)),.a (.i .i64 (y0_6))],[]))))
     else (bif (!((Zab (i64.wrap (num (aQ.extract ((y0_6).toNat*3) (((y0_6).toNat*3)+3)) 1)) (0:Int) (i64.wrap ((i64.wrap (num a1 1)) - (1:Int)))))) then (some (.done (.ret,([.a (.b (false)),.a (.i .i64 (y0_5)),.a (.i .i64 (y0_6))],[]))))
      else (bif (!((Zab (i64.wrap (num (aQ.extract ((y0_6).toNat*3) (((y0_6).toNat*3)+3)) 2)) (1:Int) (200:Int)))) then (some (.done (.ret,([.a (.b (false)),.a (.i .i64 (y0_5)),.a (.i .i64 (y0_6))],[]))))
       else (some (.more ([.a (.b (y0_4)),.a (.i .i64 (i64.wrap (y0_5+(i64.wrap (num (aQ.extract ((y0_6).toNat*3) (((y0_6).toNat*3)+3)) 2))))),.a (.i .i64 (i64.wrap (y0_6+(1:Int))))],[]))))))
    else (none))
   else (none))
  else (some (.done ((.exit 0),([.a (.b (y0_4)),.a (.i .i64 (y0_5)),.a (.i .i64 (y0_6))],[])))))) (by kernel_rfl) ?_
 simp only [Zc6,Zbp,Zbo,Zbm,Zbn,Zf8,Zly]
def Zjl (P:Program) (N:Nat) (a0 a1:Array Value) (bQ:Option (Option Addr)) (nQ:Nat) (aQ:Array Value) (z0_4:Bool) (z0_5:Int) (z0_6:Int):Option (SV×Eff×Bool):=some (.a (.b (z0_4)),.none,true)
def Ue3 (N:Nat) (a0 a1:Array Value) (bQ:Option (Option Addr)) (nQ:Nat) (aQ:Array Value):=(Uaz 0 (kSeq (veC prog Zg8 N (cAt cKCnA17 [1,1,1,1]) (pAt Ue2 [1,1,1,1]) (SV×Eff×Bool)) (finK prog [.row a0 42,.one (.r a1 35 [(2,2)]) 35,.sl (.came bQ) nQ aQ 57] [.tmp 4])))
theorem Zq4 (N:Nat) (a0 a1:Array Value) (bQ:Option (Option Addr)) (nQ:Nat) (aQ:Array Value) (z0_4:Bool) (z0_5:Int) (z0_6:Int):(Ue3 N a0 a1 bQ nQ aQ) .ret (left (writes (cAt cKCnA17 [1,1,1,0,1,0,0])) [4,5,6] [] (Zfa a0 a1 bQ nQ aQ) ([.a (.b (z0_4)),.a (.i .i64 (z0_5)),.a (.i .i64 (z0_6))],[]))=Zjl prog N a0 a1 bQ nQ aQ z0_4 z0_5 z0_6:=by
 refine Eq.trans (b:=(some (.a (.b (z0_4)),.none,true))) (by kernel_rfl) ?_
 rfl
def Zjb (P:Program) (N:Nat) (a0 a1:Array Value) (bQ:Option (Option Addr)) (nQ:Nat) (aQ:Array Value) (z0_4:Bool) (z0_5:Int) (z0_6:Int):Option (SV×Eff×Bool):=some (.a (.b (decide (z0_5≤(1000:Int)))),.none,true)
theorem Zqs (N:Nat) (a0 a1:Array Value) (bQ:Option (Option Addr)) (nQ:Nat) (aQ:Array Value) (z0_4:Bool) (z0_5:Int) (z0_6:Int):(Ue3 N a0 a1 bQ nQ aQ) (.exit 0) (left (writes (cAt cKCnA17 [1,1,1,0,1,0,0])) [4,5,6] [] (Zfa a0 a1 bQ nQ aQ) ([.a (.b (z0_4)),.a (.i .i64 (z0_5)),.a (.i .i64 (z0_6))],[]))=Zjb prog N a0 a1 bQ nQ aQ z0_4 z0_5 z0_6:=by
 refine Eq.trans (b:=(some (.a (.b (decide (z0_5≤(1000:Int)))),.none,true))) (by kernel_rfl) ?_
 rfl
theorem Zxd (N:Nat) (a0 a1:Array Value) (bQ:Option (Option Addr)) (nQ:Nat) (aQ:Array Value):Uak (Uaa (Uam prog Zg8 N (cAt cKCnA17 [1,1,1,0,1,0,0]) (pAt Ue2 [1,1,1,0,1,0]) [4,5,6] [] (Zfa a0 a1 bQ nQ aQ)) N ([.a (.b (false)),.a (.i .i64 (0:Int)),.a (.i .i64 (0:Int))],[])) (fun e s=>(Ue3 N a0 a1 bQ nQ aQ) e (left (writes (cAt cKCnA17 [1,1,1,0,1,0,0])) [4,5,6] [] (Zfa a0 a1 bQ nQ aQ) s))=Uan (Uaa (Zc6 prog a0 a1 bQ nQ aQ) N (false,(0:Int),(0:Int))) (st2 (fun x=>Zjl prog N a0 a1 bQ nQ aQ x.1 x.2.1 x.2.2) (fun x=>Zjb prog N a0 a1 bQ nQ aQ x.1 x.2.1 x.2.2)):=by
 refine Zby Zf8 Zly _ _ (Zxz N a0 a1 bQ nQ aQ) N (false,(0:Int),(0:Int)) _ _ ?_
 intro x
 cases x with
 | more x=>exact Zq4 N a0 a1 bQ nQ aQ x.1 x.2.1 x.2.2
 | done x=>exact Zqs N a0 a1 bQ nQ aQ x.1 x.2.1 x.2.2
theorem Zvn (N:Nat) (a0 a1:Array Value) (bQ:Option (Option Addr)) (nQ:Nat) (aQ:Array Value):ansV prog Zg8 N f17 [([4,5,6],[])] [.w 0,.w 1] [.row a0 42,.one (.r a1 35 [(2,2)]) 35,.sl (.came bQ) nQ aQ 57]=(bif (!((Zab (i64.wrap (num a1 0)) (0:Int) (1:Int)))) then (some (.a (.b (false)),.none,true))
  else (bif (!((Zab (i64.wrap (num a1 1)) (1:Int) (8:Int)))) then (some (.a (.b (false)),.none,true))
   else (bif decide ((nQ:Int) > (12:Int)) then (some (.a (.b (false)),.none,true))
    else (Uan (Uaa (Zc6 prog a0 a1 bQ nQ aQ) N (false,(0:Int),(0:Int))) (st2 (fun x=>Zjl prog N a0 a1 bQ nQ aQ x.1 x.2.1 x.2.2) (fun x=>Zjb prog N a0 a1 bQ nQ aQ x.1 x.2.1 x.2.2)))))):=by
 refine Eq.trans (b:=(bif (!((Zab (i64.wrap (num a1 0)) (0:Int) (1:Int)))) then (some (.a (.b (false)),.none,true))
  else (bif (!((Zab (i64.wrap (num a1 1)) (1:Int) (8:Int)))) then (some (.a (.b (false)),.none,true))
   else (bif decide ((nQ:Int) > (12:Int)) then (some (.a (.b (false)),.none,true))
    else (Uak (Uaa (Uam prog Zg8 N (cAt cKCnA17 [1,1,1,0,1,0,0]) (pAt Ue2 [1,1,1,0,1,0]) [4,5,6] [] (Zfa a0 a1 bQ nQ aQ)) N ([.a (.b (false)),.a (.i .i64 (0:Int)),.a (.i .i64 (0:Int))],[])) (fun e s=>(Ue3 N a0 a1 bQ nQ aQ) e (left (writes (cAt cKCnA17 [1,1,1,0,1,0,0])) [4,5,6] [] (Zfa a0 a1 bQ nQ aQ) s))))))) (by kernel_rfl) ?_
 simp only [Zxd N a0 a1 bQ nQ aQ]
theorem Zun (a0 a1:Array Value) (bQ:Option (Option Addr)) (nQ:Nat) (aQ:Array Value) (h_a0:WT prog 42 a0) (h_a1:WT prog 35 a1) (h_a1x2:aQ.size=nQ*(lay prog 57).length∧(∀ k,k<nQ→WT prog 57 (aQ.extract (k*(lay prog 57).length) (k*(lay prog 57).length+(lay prog 57).length)))∧nQ≤9223372036854775807) (hg:(true)=true):ansV prog Zg8 18446744073709551616 f17 [([4,5,6],[])] [.w 0,.w 1] [.row a0 42,.one (.r a1 35 [(2,2)]) 35,.sl (.came bQ) nQ aQ 57]=some (.a (.b ((Ua0 a0 a1 nQ aQ))),.none,true):=by
 have hn:=h_a1x2.2.2
 refine (Zvn 18446744073709551616 a0 a1 bQ nQ aQ).trans ?_
 unfold Ua0
 cases Zab (i64.wrap (num a1 0)) 0 1
 ·rfl
 cases Zab (i64.wrap (num a1 1)) 1 8
 ·rfl
 cases decide ((nQ:Int) > 12)
 rotate_left
 ·rfl
 simp only [jB,jD,Q2,Bool.true_and]
 have wet:∀ k,Za5 (i64.wrap (num (aQ.extract (k*3) (k*3+3)) 0)) a0=true:=fun k=>by
  unfold Za5
  cases Zaz (i64.wrap (num (aQ.extract (k*3) (k*3+3)) 0)) a0
  ·rfl
  ·exact Q3 (Zpq .u64 _).1
 refine (Zrv (g:=Zc6 prog a0 a1 bQ nQ aQ) (fun k=>(false,wsum aQ k,(k:Int))) (fun k=>relB a0 (i64.wrap (num a1 1)) (aQ.extract (k*3) (k*3+3))) nQ (N:=18446744073709551616) (xd:=.done (false,wsum aQ nQ,(nQ:Int))) (by omega) (fun k hk hp=>by
  have h1:decide ((k:Int)<(nQ:Int))=true:=Q3 (by omega)
  have h0:decide (0≤(k:Int))=true:=Q3 (by omega)
  have h3:i64.wrap ((k:Int)+1)=((k+1:Nat):Int):=by rw [IntWalk.i64_in _ (by omega)];omega
  have hp':relB a0 (i64.wrap (num a1 1)) (aQ.extract (k*3) (k*3+3))=true:=hp
  unfold relB at hp'
  simp only [Q7] at hp'
  simp only [Zc6,h1,h0,h3,jA,Q9,Q1,Q2,wet,hp'.1,hp'.2.1,hp'.2.2,jB]
  rfl) (by
  have h1:decide ((nQ:Int)<(nQ:Int))=false:=Q4 (by omega)
  simp only [Zc6,h1,Q2]) (Ucc a0 (i64.wrap (num a1 1)) nQ aQ) (Zn8 a0 _ nQ aQ) (some (.a (.b (decide (wsum aQ nQ≤1000))),.none,true)) (some (.a (.b false),.none,true)) rfl (fun k hk hp=>by
  refine ⟨.more (false,wsum aQ k,(k:Int)), ?_,rfl⟩
  have h1:decide ((k:Int)<(nQ:Int))=true:=Q3 (by omega)
  have h0:decide (0≤(k:Int))=true:=Q3 (by omega)
  have h3:i64.wrap ((k:Int)+1)=((k+1:Nat):Int):=by rw [IntWalk.i64_in _ (by omega)];omega
  have hp':relB a0 (i64.wrap (num a1 1)) (aQ.extract (k*3) (k*3+3))=false:=hp
  unfold relB at hp'
  cases x1:Zaq (i64.wrap (num (aQ.extract (k*3) (k*3+3)) 0)) a0
  ·simp only [Zc6,h1,h0,h3,jA,Q9,Q1,wet,x1,jD]
  ·cases x2:Zab (i64.wrap (num (aQ.extract (k*3) (k*3+3)) 1)) 0 (i64.wrap (i64.wrap (num a1 1) - 1))
   ·simp only [Zc6,h1,h0,h3,jA,Q9,Q1,Q2,wet,x1,x2,jB,jD]
   ·rw [x1,x2] at hp'
    simp only [Bool.true_and] at hp'
    simp only [Zc6,h1,h0,h3,jA,Q9,Q1,Q2,wet,x1,x2,hp',jB,jD])).trans ?_
 cases Ucc a0 (i64.wrap (num a1 1)) nQ aQ<;>rfl
def Zib:Con:=fun args h=>match args,h with
 | [.w 0,.w 1],[.row a0 42,.one (.r a1 35 [(2,2)]) 35,.sl (.came bQ) nQ aQ 57]=>some (.a (.b ((Ua0 a0 a1 nQ aQ))),.none,true)
 | _,_=>none
theorem Zih:EntX prog 17:=Zap (fn:=f17)
theorem Zlu:Uab mn prog 17 Zib:=(ansY (N:=18446744073709551616) (mkΓ_consX (Zam Zu0) Zqr (mkΓ_consX (Zam Zit) Zgs (mkΓ_consX (Zam Zo6) Zkp mkΓ_nilX))) f17 [([4,5,6],[])]).of (by
 intro ρ h w args vals r e hA hH hr
 unfold Zib at hr
 split at hr
 ·rename_i a0 a1 bQ nQ aQ
  obtain ⟨rfl,rfl,hg2⟩:=BQi hr
  exact Zun a0 a1 bQ nQ aQ (hH.wt 0 rfl) (hH.wtr 1 rfl) (hH.slw 2 rfl) hg2
 ·cases hr)
def Zd7:Cons:=(mkΓ [(39,con Zf3),(45,con Zh1),(46,con Zd1),(59,con Zfw),(60,con Zfb)])
def Zc3 (a0 a1:Array Value) (bQ:Option (Option Addr)) (nQ:Nat) (aQ:Array Value):St:=(⟨.a (.g a0 42) :: .a (.r a1 35 [(2,0)]) :: .a (.w 1) :: .a (.w 2) :: .a (.b (false)) :: .a (.w 7) :: .a (.u) :: .a (.u) :: .a (.g a0 42) :: .a (.r a1 35 [(2,0)]) :: .a (.r ((spl (spl (zc prog 64) 0 (#[.int .i64 (i64.wrap (num a1 0)),.int .i64 (i64.wrap (num a1 1))]:Array Value).toList) 2 a0.toList).setIfInBounds 365 (.slice none 0 0)) 64 [(365,0)]) :: .a (.g a0 42) :: .a (.b ((okS a0))) :: .a (.b ((!((okS a0))))) :: .a (.b (false)) :: .a (.p 7 (0) 62) :: .a (.g (((spl (spl (zc prog 64) 0 (#[.int .i64 (i64.wrap (num a1 0)),.int .i64 (i64.wrap (num a1 1))]:Array Value).toList) 2 a0.toList).setIfInBounds 365 (.slice none 0 0)).extract 0 (0+2)) 62) :: .a (.b ((Zan (((spl (spl (zc prog 64) 0 (#[.int .i64 (i64.wrap (num a1 0)),.int .i64 (i64.wrap (num a1 1))]:Array Value).toList) 2 a0.toList).setIfInBounds 365 (.slice none 0 0)).extract 0 (0+2))))) :: .a (.b ((!((Zan (((spl (spl (zc prog 64) 0 (#[.int .i64 (i64.wrap (num a1 0)),.int .i64 (i64.wrap (num a1 1))]:Array Value).toList) 2 a0.toList).setIfInBounds 365 (.slice none 0 0)).extract 0 (0+2))))))) :: .a (.b ((!((Zan (((spl (spl (zc prog 64) 0 (#[.int .i64 (i64.wrap (num a1 0)),.int .i64 (i64.wrap (num a1 1))]:Array Value).toList) 2 a0.toList).setIfInBounds 365 (.slice none 0 0)).extract 0 (0+2))))))) :: .a (.b (false)) :: .a (.p 2 (2) 33) :: .a (.l 0) :: .a (.i .i64 (nQ:Int)) :: .a (.b (decide ((nQ:Int) > (12:Int)))) :: .a (.b (decide ((nQ:Int) > (12:Int)))) :: .a (.p 2 (2) 33) :: .a (.l 0) :: .a (.i .i64 (nQ:Int)) :: .a (.i .i64 (0:Int))::us 11 ([]),[.sl (.came bQ) nQ aQ 57,.row a0 42,.one (.r a1 35 [(2,0)]) 35,.no,.no,.no,.no,.one (.r ((spl (spl (zc prog 64) 0 (#[.int .i64 (i64.wrap (num a1 0)),.int .i64 (i64.wrap (num a1 1))]:Array Value).toList) 2 a0.toList).setIfInBounds 365 (.slice none 0 0)) 64 [(365,0)]) 64,.no],[7]⟩:St)
def Zdx:Bool×Int→LS
 | (y0_4,y0_29)=>([.a (.b (y0_4)),.a (.i .i64 (y0_29))],[])
def Zh6:(Stp (Bool×Int) (Bool×Int))→Exit×LS
 | .more t=>(.ret,Zdx t)
 | .done t=>((.exit 0),Zdx t)
def Zch (P : Program) (a0 a1 : Array Value) (bQ : Option (Option Addr)) (nQ : Nat) (aQ : Array Value) : Bool × Int → Option (Stp (Bool × Int) (Stp (Bool × Int) (Bool × Int)))
 | (y0_4, y0_29) => bif decide (y0_29 < (nQ : Int)) then (bif (decide (0 ≤ y0_29) && decide (y0_29 < (nQ : Int))) then (bif (Zb5 ((spl (spl (zc prog 64) 0 (#[.int .i64 (i64.wrap (num a1 0)), .int .i64 (i64.wrap (num a1 1))] : Array Value).toList) 2 a0.toList).setIfInBounds 365 (.slice none 0 0)) (aQ.extract ((y0_29).toNat * 3) (((y0_29).toNat * 3) + 3)) bQ nQ aQ) then (bif (!((Zb3 ((spl (spl (zc prog 64) 0 (#[.int .i64 (i64.wrap (num a1 0)), .int .i64 (i64.wrap (num a1 1))] : Array Value).toList) 2 a0.toList).setIfInBounds 365 (.slice none 0 0)) (aQ.extract ((y0_29).toNat * 3) (((y0_29).toNat * 3) + 3)) bQ nQ aQ))) then (some (.done (.more (false, y0_29))))
     else (some (.more (y0_4, (i64.wrap (y0_29 + (1 : Int)))))))
    else (none))
   else (none))
  else (some (.done (.done (y0_4, y0_29))))
noncomputable abbrev cKCnA38:=codeOf f38
def Ue8:=(Uaf cKCnA38 [([4,29],[])]).1
theorem Zr9 (N:Nat) (a0 a1:Array Value) (bQ:Option (Option Addr)) (nQ:Nat) (aQ:Array Value):∀ t:Bool×Int,Uam prog Zd7 N (cAt cKCnA38 [1,1,1,0,1,0,0]) (pAt Ue8 [1,1,1,0,1,0]) [4,29] [] (Zc3 a0 a1 bQ nQ aQ) (Zdx t)=mapS Zdx Zh6 (Zch prog a0 a1 bQ nQ aQ t):=by
 rintro ⟨y0_4,y0_29⟩
 refine Eq.trans (b:=(bif decide (y0_29<(nQ:Int)) then (bif (decide (0≤y0_29)&&decide (y0_29<(nQ:Int))) then (bif (Zb5 ((spl (spl (zc prog 64) 0 (#[.int .i64 (i64.wrap (num a1 0)),.int .i64 (i64.wrap (num a1 1))]:Array Value).toList) 2 a0.toList).setIfInBounds 365 (.slice none 0 0)) (aQ.extract ((y0_29).toNat*3) (((y0_29).toNat*3)+3)) bQ nQ aQ) then (bif (!((Zb3 ((spl (spl (zc prog 64) 0 (#[.int .i64 (i64.wrap (num a1 0)),.int .i64 (i64.wrap (num a1 1))]:Array Value).toList) 2 a0.toList).setIfInBounds 365 (.slice none 0 0)) (aQ.extract ((y0_29).toNat*3) (((y0_29).toNat*3)+3)) bQ nQ aQ))) then (some (.done (.ret,([.a (.b (false)),.a (.i .i64 (y0_29))],[]))))
     else (some (.more ([.a (.b (y0_4)),.a (.i .i64 (i64.wrap (y0_29+(1:Int))))],[]))))
    else (none))
   else (none))
  else (some (.done ((.exit 0),([.a (.b (y0_4)),.a (.i .i64 (y0_29))],[])))))) (by kernel_rfl) ?_
 simp only [Zch,Zbp,Zbo,Zbm,Zbn,Zdx,Zh6]
def Zg5 (P:Program) (N:Nat) (a0 a1:Array Value) (bQ:Option (Option Addr)) (nQ:Nat) (aQ:Array Value) (z0_4:Bool) (z0_29:Int):Option (SV×Eff×Bool):=some (.a (.b (z0_4)),.none,true)
def Ue5 (N:Nat) (bQ:Option (Option Addr)) (nQ:Nat) (aQ:Array Value):=(Uaz 0 (kSeq (veC prog Zd7 N (cAt cKCnA38 [1,1,1,1]) (pAt Ue8 [1,1,1,1]) (SV×Eff×Bool)) (finK prog [.sl (.came bQ) nQ aQ 57] [.tmp 4])))
theorem Zmr (N:Nat) (a0 a1:Array Value) (bQ:Option (Option Addr)) (nQ:Nat) (aQ:Array Value) (z0_4:Bool) (z0_29:Int):(Ue5 N bQ nQ aQ) .ret (left (writes (cAt cKCnA38 [1,1,1,0,1,0,0])) [4,29] [] (Zc3 a0 a1 bQ nQ aQ) ([.a (.b (z0_4)),.a (.i .i64 (z0_29))],[]))=Zg5 prog N a0 a1 bQ nQ aQ z0_4 z0_29:=by
 refine Eq.trans (b:=(some (.a (.b (z0_4)),.none,true))) (by kernel_rfl) ?_
 rfl
def Zg4 (P:Program) (N:Nat) (a0 a1:Array Value) (bQ:Option (Option Addr)) (nQ:Nat) (aQ:Array Value) (z0_4:Bool) (z0_29:Int):Option (SV×Eff×Bool):=some (.a (.b (decide ((wsum aQ nQ)≤(1000:Int)))),.none,true)
theorem Zmj (N:Nat) (a0 a1:Array Value) (bQ:Option (Option Addr)) (nQ:Nat) (aQ:Array Value) (z0_4:Bool) (z0_29:Int):(Ue5 N bQ nQ aQ) (.exit 0) (left (writes (cAt cKCnA38 [1,1,1,0,1,0,0])) [4,29] [] (Zc3 a0 a1 bQ nQ aQ) ([.a (.b (z0_4)),.a (.i .i64 (z0_29))],[]))=Zg4 prog N a0 a1 bQ nQ aQ z0_4 z0_29:=by
 refine Eq.trans (b:=(some (.a (.b (decide ((wsum aQ nQ)≤(1000:Int)))),.none,true))) (by kernel_rfl) ?_
 rfl
theorem Zr8 (N:Nat) (a0 a1:Array Value) (bQ:Option (Option Addr)) (nQ:Nat) (aQ:Array Value):Uak (Uaa (Uam prog Zd7 N (cAt cKCnA38 [1,1,1,0,1,0,0]) (pAt Ue8 [1,1,1,0,1,0]) [4,29] [] (Zc3 a0 a1 bQ nQ aQ)) N ([.a (.b (false)),.a (.i .i64 (0:Int))],[])) (fun e s=>(Ue5 N bQ nQ aQ) e (left (writes (cAt cKCnA38 [1,1,1,0,1,0,0])) [4,29] [] (Zc3 a0 a1 bQ nQ aQ) s))=Uan (Uaa (Zch prog a0 a1 bQ nQ aQ) N (false,(0:Int))) (st2 (fun x=>Zg5 prog N a0 a1 bQ nQ aQ x.1 x.2) (fun x=>Zg4 prog N a0 a1 bQ nQ aQ x.1 x.2)):=by
 refine Zby Zdx Zh6 _ _ (Zr9 N a0 a1 bQ nQ aQ) N (false,(0:Int)) _ _ ?_
 intro x
 cases x with
 | more x=>exact Zmr N a0 a1 bQ nQ aQ x.1 x.2
 | done x=>exact Zmj N a0 a1 bQ nQ aQ x.1 x.2
theorem Zqk (N:Nat) (a0 a1:Array Value) (bQ:Option (Option Addr)) (nQ:Nat) (aQ:Array Value):ansV prog Zd7 N f38 [([4,29],[])] [.g a0 42,.r a1 35 [(2,0)]] [.sl (.came bQ) nQ aQ 57]=(bif (!((okS a0))) then (some (.a (.b (false)),.none,true))
  else (bif (!((Zan (((spl (spl (zc prog 64) 0 (#[.int .i64 (i64.wrap (num a1 0)),.int .i64 (i64.wrap (num a1 1))]:Array Value).toList) 2 a0.toList).setIfInBounds 365 (.slice none 0 0)).extract 0 (0+2))))) then (some (.a (.b (false)),.none,true))
   else (bif decide ((nQ:Int) > (12:Int)) then (some (.a (.b (false)),.none,true))
    else (Uan (Uaa (Zch prog a0 a1 bQ nQ aQ) N (false,(0:Int))) (st2 (fun x=>Zg5 prog N a0 a1 bQ nQ aQ x.1 x.2) (fun x=>Zg4 prog N a0 a1 bQ nQ aQ x.1 x.2)))))):=by
 refine Eq.trans (b:=(bif (!((okS a0))) then (some (.a (.b (false)),.none,true))
  else (bif (!((Zan (((spl (spl (zc prog 64) 0 (#[.int .i64 (i64.wrap (num a1 0)),.int .i64 (i64.wrap (num a1 1))]:Array Value).toList) 2 a0.toList).setIfInBounds 365 (.slice none 0 0)).extract 0 (0+2))))) then (some (.a (.b (false)),.none,true))
   else (bif decide ((nQ:Int) > (12:Int)) then (some (.a (.b (false)),.none,true))
    else (Uak (Uaa (Uam prog Zd7 N (cAt cKCnA38 [1,1,1,0,1,0,0]) (pAt Ue8 [1,1,1,0,1,0]) [4,29] [] (Zc3 a0 a1 bQ nQ aQ)) N ([.a (.b (false)),.a (.i .i64 (0:Int))],[])) (fun e s=>(Ue5 N bQ nQ aQ) e (left (writes (cAt cKCnA38 [1,1,1,0,1,0,0])) [4,29] [] (Zc3 a0 a1 bQ nQ aQ) s))))))) (by kernel_rfl) ?_
 simp only [Zr8 N a0 a1 bQ nQ aQ]
theorem Zpo (a0 a1:Array Value) (bQ:Option (Option Addr)) (nQ:Nat) (aQ:Array Value) (h_a0:WT prog 42 a0) (h_a1:WT prog 35 a1) (h_a1x2:aQ.size=nQ*(lay prog 57).length∧(∀ k,k<nQ→WT prog 57 (aQ.extract (k*(lay prog 57).length) (k*(lay prog 57).length+(lay prog 57).length)))∧nQ≤9223372036854775807) (hg:(true)=true):ansV prog Zd7 18446744073709551616 f38 [([4,29],[])] [.g a0 42,.r a1 35 [(2,0)]] [.sl (.came bQ) nQ aQ 57]=some (.a (.b ((okS a0&&Ua0 a0 a1 nQ aQ))),.none,true):=by
 have hn:=h_a1x2.2.2
 have hS:=h_a0
 have hz:a0.size=363:=by rw [h_a0.layLen];kernel_rfl
 obtain ⟨v1,v2⟩:=Zza (p:=a1) hz
 obtain ⟨-,b0⟩:=h_a1.int (o:=0) (k:=.i8) (by kernel_rfl)
 obtain ⟨-,b1⟩:=h_a1.int (o:=1) (k:=.i8) (by kernel_rfl)
 have e1:IntKind.i8.min = -128:=rfl
 have e2:IntKind.i8.max=127:=rfl
 have w1: -128≤i64.wrap (num a1 1)∧i64.wrap (num a1 1)≤127:=by rw [IntWalk.i64_in _ (by omega)];omega
 have hRE:(lay prog 57).length=3:=by kernel_rfl
 refine (Zqk 18446744073709551616 a0 a1 bQ nQ aQ).trans ?_
 cases hok:okS a0
 ·rfl
 have hr:Zan (((spl (spl (zc prog 64) 0 (#[.int .i64 (i64.wrap (num a1 0)),.int .i64 (i64.wrap (num a1 1))]:Array Value).toList) 2 a0.toList).setIfInBounds 365 (.slice none 0 0)).extract 0 (0+2))=(Zab (i64.wrap (num a1 0)) 0 1&&Zab (i64.wrap (num a1 1)) 1 8):=by
  rw [v2]
  unfold Zan
  rw [tide_eq]
  show (bif Zab (i64.wrap (num a1 0)) 0 1 then Zab (i64.wrap (num a1 1)) 1 8 else false)=_
  cases Zab (i64.wrap (num a1 0)) 0 1<;>rfl
 unfold Ua0
 rw [hr]
 cases Zab (i64.wrap (num a1 0)) 0 1
 ·rfl
 cases Zab (i64.wrap (num a1 1)) 1 8
 ·rfl
 cases decide ((nQ:Int) > 12)
 rotate_left
 ·rfl
 simp only [jB,jD,Q2,Bool.true_and,jA]
 have tk:=fun k hk=>takes_eq (S:=a0) (V:=((spl (spl (zc prog 64) 0 (#[.int .i64 (i64.wrap (num a1 0)),.int .i64 (i64.wrap (num a1 1))]:Array Value).toList) 2 a0.toList).setIfInBounds 365 (.slice none 0 0))) (X:=aQ.extract (k*3) (k*3+3)) bQ nQ aQ hS v1 v2 w1 (by have:=h_a1x2.2.1 k hk;rw [hRE] at this;exact this)
 refine (Zrv (g:=Zch prog a0 a1 bQ nQ aQ) (fun k=>(false,(k:Int))) (fun k=>relB a0 (i64.wrap (num a1 1)) (aQ.extract (k*3) (k*3+3))) nQ (N:=18446744073709551616) (xd:=.done (false,(nQ:Int))) (by omega) (fun k hk hp=>by
  have h1:decide ((k:Int)<(nQ:Int))=true:=Q3 (by omega)
  have h0:decide (0≤(k:Int))=true:=Q3 (by omega)
  have h3:i64.wrap ((k:Int)+1)=((k+1:Nat):Int):=by rw [IntWalk.i64_in _ (by omega)];omega
  have hp':relB a0 (i64.wrap (num a1 1)) (aQ.extract (k*3) (k*3+3))=true:=hp
  simp only [Zch,h1,h0,h3,jA,Q9,Q1,Q2,(tk k hk).1,(tk k hk).2,hp',jB]) (by
  have h1:decide ((nQ:Int)<(nQ:Int))=false:=Q4 (by omega)
  simp only [Zch,h1,Q2]) (Ucc a0 (i64.wrap (num a1 1)) nQ aQ) (Zn8 a0 _ nQ aQ) (some (.a (.b (decide (wsum aQ nQ≤1000))),.none,true)) (some (.a (.b false),.none,true)) rfl (fun k hk hp=>by
  refine ⟨.more (false,(k:Int)), ?_,rfl⟩
  have h1:decide ((k:Int)<(nQ:Int))=true:=Q3 (by omega)
  have h0:decide (0≤(k:Int))=true:=Q3 (by omega)
  have h3:i64.wrap ((k:Int)+1)=((k+1:Nat):Int):=by rw [IntWalk.i64_in _ (by omega)];omega
  have hp':relB a0 (i64.wrap (num a1 1)) (aQ.extract (k*3) (k*3+3))=false:=hp
  simp only [Zch,h1,h0,h3,jA,Q9,Q1,Q2,(tk k hk).1,(tk k hk).2,hp',jD])).trans ?_
 cases Ucc a0 (i64.wrap (num a1 1)) nQ aQ<;>rfl
def Zhe:Con:=fun args h=>match args,h with
 | [.g a0 42,.r a1 35 [(2,0)]],[.sl (.came bQ) nQ aQ 57]=>some (.a (.b ((okS a0&&Ua0 a0 a1 nQ aQ))),.none,true)
 | _,_=>none
theorem Zis:EntX prog 38:=Zap (fn:=f38)
theorem Zk0:Uab mn prog 38 Zhe:=(ansY (N:=18446744073709551616) (mkΓ_consX (Zam Zig) Zgz (mkΓ_consX (Zam Zs5) Zpi (mkΓ_consX (Zam Zjp) Zin (mkΓ_consX (Zam Zou) Zlo (mkΓ_consX (Zam Zmn) Zkc mkΓ_nilX))))) f38 [([4,29],[])]).of (by
 intro ρ h w args vals r e hA hH hr
 unfold Zhe at hr
 split at hr
 ·rename_i a0 a1 bQ nQ aQ
  obtain ⟨rfl,rfl,hg2⟩:=BQi hr
  exact Zpo a0 a1 bQ nQ aQ (hA.wt 0 rfl) (hA.wtr 1 rfl) (hH.slw 0 rfl) hg2
 ·cases hr)
def voyV (P:Program) (a0 a1:Array Value):Array Value:=((spl (spl (zc P 64) 0 (#[.int .i64 (i64.wrap (num a1 0)),.int .i64 (i64.wrap (num a1 1))]:Array Value).toList) 2 a0.toList).setIfInBounds 365 (.slice none 0 0))
def Zkd:Cons:=(mkΓ [(38,con Zhe),(39,con Zf3)])
theorem Zme (N:Nat) (a0 a1:Array Value) (bQ:Option (Option Addr)) (nQ:Nat) (aQ:Array Value):ansV prog Zkd N f20 [] [.g a0 42,.r a1 35 [(2,0)]] [.sl (.came bQ) nQ aQ 57]=(bif (!((okS a0&&Ua0 a0 a1 nQ aQ))) then (some (.t [.r (zc prog 64) 64 [],.v (.iface 89 (.int .i64 (1:Int)))],.none,true))
  else (some (.t [.r ((spl (spl (zc prog 64) 0 (#[.int .i64 (i64.wrap (num a1 0)),.int .i64 (i64.wrap (num a1 1))]:Array Value).toList) 2 a0.toList).setIfInBounds 365 (.slice none 0 0)) 64 [(365,0)],.v (.nilIface)],.none,true))):=by kernel_rfl
theorem Zqn (a0 a1:Array Value) (bQ:Option (Option Addr)) (nQ:Nat) (aQ:Array Value) (h_a0:WT prog 42 a0) (h_a1:WT prog 35 a1) (h_a1x2:aQ.size=nQ*(lay prog 57).length∧(∀ k,k<nQ→WT prog 57 (aQ.extract (k*(lay prog 57).length) (k*(lay prog 57).length+(lay prog 57).length)))∧nQ≤9223372036854775807) (hc0:((okS a0&&Ua0 a0 a1 nQ aQ))=false) (hg:(true)=true):ansV prog Zkd 1000 f20 [] [.g a0 42,.r a1 35 [(2,0)]] [.sl (.came bQ) nQ aQ 57]=some (.t [.r (zc prog 64) 64 [],.v (.iface 89 (.int .i64 (1:Int)))],.none,true):=by
 refine (Zme 1000 a0 a1 bQ nQ aQ).trans ?_
 simp only [hc0,jD,Q1]
theorem Zqf (a0 a1:Array Value) (bQ:Option (Option Addr)) (nQ:Nat) (aQ:Array Value) (h_a0:WT prog 42 a0) (h_a1:WT prog 35 a1) (h_a1x2:aQ.size=nQ*(lay prog 57).length∧(∀ k,k<nQ→WT prog 57 (aQ.extract (k*(lay prog 57).length) (k*(lay prog 57).length+(lay prog 57).length)))∧nQ≤9223372036854775807) (hc0:((okS a0&&Ua0 a0 a1 nQ aQ))=true) (hg:(true)=true):ansV prog Zkd 1000 f20 [] [.g a0 42,.r a1 35 [(2,0)]] [.sl (.came bQ) nQ aQ 57]=some (.t [.r (voyV prog a0 a1) 64 [(365,0)],.v (.nilIface)],.none,true):=by
 unfold voyV
 refine (Zme 1000 a0 a1 bQ nQ aQ).trans ?_
 simp only [hc0,jB,Q2]
def Zf9:SCon:=fun args h=>match args,h with
 | [.g a0 42,.r a1 35 [(2,0)]],[.sl (.came bQ) nQ aQ 57]=>.two ((okS a0&&Ua0 a0 a1 nQ aQ)) (.one (some (.t [.r (voyV prog a0 a1) 64 [(365,0)],.v (.nilIface)],.none,true))) (.one (some (.t [.r (zc prog 64) 64 [],.v (.iface 89 (.int .i64 (1:Int)))],.none,true)))
 | _,_=>.one none
theorem Zhs:EntX prog 20:=Zap (fn:=f20)
theorem Zio:Uab mn prog 20 (fun args h=>Uae (Zf9 args h)):=by
 intro ρ h w args vals r e hn hr hA hH
 dsimp only at hr
 unfold Zf9 at hr
 split at hr
 ·rename_i a0 a1 bQ nQ aQ
  simp only [Uae] at hr
  cases hc0:((okS a0&&Ua0 a0 a1 nQ aQ))
  ·rw [hc0] at hr
   simp only [Uae,Q1,Q2] at hr
   obtain ⟨rfl,rfl,hg2⟩:=BQi hr
   exact ((ansY (N:=1000) (mkΓ_consX (Zam Zk0) Zis (mkΓ_consX (Zam Zig) Zgz mkΓ_nilX)) f20 [])) ρ _ w _ vals _ _ hn ((Zqn a0 a1 bQ nQ aQ (hA.wt 0 rfl) (hA.wtr 1 rfl) (hH.slw 0 rfl) hc0 hg2)) hA hH
  ·rw [hc0] at hr
   simp only [Uae,Q1,Q2] at hr
   obtain ⟨rfl,rfl,hg2⟩:=BQi hr
   exact ((ansY (N:=1000) (mkΓ_consX (Zam Zk0) Zis (mkΓ_consX (Zam Zig) Zgz mkΓ_nilX)) f20 [])) ρ _ w _ vals _ _ hn ((Zqf a0 a1 bQ nQ aQ (hA.wt 0 rfl) (hA.wtr 1 rfl) (hH.slw 0 rfl) hc0 hg2)) hA hH
 ·simp only [Uae] at hr
  cases hr
def Znt:Cons:=(mkΓ [(17,con Zib),(31,con Zj7),(32,con Zf7)])
theorem Zsk (N:Nat) (a2:Int) (a0 a1:Array Value) (bQ:Option (Option Addr)) (nQ:Nat) (aQ:Array Value):ansV prog Znt N f16 [] [.w 0,.w 1,.i .u64 (a2)] [.row a0 42,.one (.r a1 35 [(2,2)]) 35,.sl (.came bQ) nQ aQ 57]=(bif (!((okS a0))) then (some (.a (.i .i64 (1:Int)),.none,true))
  else (bif (!((Ua0 a0 a1 nQ aQ))) then (some (.a (.i .i64 (1:Int)),.none,true))
   else (bif ((IntKind.u64.wrap (BitVec.ofInt IntKind.u64.bits a2 &&& ~~~(BitVec.ofInt IntKind.u64.bits (Uay (num a0 0) (num a0 1) 36))).toNat) != (0:Int)) then (some (.a (.i .i64 (2:Int)),.none,true))
    else (some (.a (.i .i64 (0:Int)),.none,true))))):=by kernel_rfl
def Zao (a2:Int) (a0 a1:Array Value) (bQ:Option (Option Addr)) (nQ:Nat) (aQ:Array Value):Int:=(bif (!((okS a0))) then (1:Int) else (bif (!((Ua0 a0 a1 nQ aQ))) then (1:Int) else (bif ((IntKind.u64.wrap (BitVec.ofInt IntKind.u64.bits a2 &&& ~~~(BitVec.ofInt IntKind.u64.bits (Uay (num a0 0) (num a0 1) 36))).toNat) != (0:Int)) then (2:Int) else (0:Int))))
theorem Zqi (a2:Int) (a0 a1:Array Value) (bQ:Option (Option Addr)) (nQ:Nat) (aQ:Array Value) (h_a2:IntKind.u64.min≤a2∧a2≤IntKind.u64.max) (h_a0:WT prog 42 a0) (h_a1:WT prog 35 a1) (h_a1x2:aQ.size=nQ*(lay prog 57).length∧(∀ k,k<nQ→WT prog 57 (aQ.extract (k*(lay prog 57).length) (k*(lay prog 57).length+(lay prog 57).length)))∧nQ≤9223372036854775807) (hg:(true)=true):ansV prog Znt 1000 f16 [] [.w 0,.w 1,.i .u64 (a2)] [.row a0 42,.one (.r a1 35 [(2,2)]) 35,.sl (.came bQ) nQ aQ 57]=some (.a (.i .i64 (Zao a2 a0 a1 bQ nQ aQ)),.none,true):=by
 refine (Zsk 1000 a2 a0 a1 bQ nQ aQ).trans ?_
 unfold Zao
 revert hg
 generalize ((!((okS a0))))=b2
 intro hg
 cases b2
 ·skip
  revert hg
  generalize ((!((Ua0 a0 a1 nQ aQ))))=b4
  intro hg
  cases b4
  ·skip
   revert hg
   generalize (((IntKind.u64.wrap (BitVec.ofInt IntKind.u64.bits a2 &&& ~~~(BitVec.ofInt IntKind.u64.bits (Uay (num a0 0) (num a0 1) 36))).toNat) != (0:Int)))=b6
   intro hg
   cases b6
   ·skip
    first | (simp only [Q1,Q2,BQ6];done) | rfl | exact (nomatch (hg:false=true))
   ·skip
    first | (simp only [Q1,Q2,BQ6];done) | rfl | exact (nomatch (hg:false=true))
  ·skip
   first | (simp only [Q1,Q2,BQ6];done) | rfl | exact (nomatch (hg:false=true))
 ·skip
  first | (simp only [Q1,Q2,BQ6];done) | rfl | exact (nomatch (hg:false=true))
def Zh5:Con:=fun args h=>match args,h with
 | [.w 0,.w 1,.i .u64 a2],[.row a0 42,.one (.r a1 35 [(2,2)]) 35,.sl (.came bQ) nQ aQ 57]=>some (.a (.i .i64 (Zao a2 a0 a1 bQ nQ aQ)),.none,true)
 | _,_=>none
theorem Zi4:EntX prog 16:=Zap (fn:=f16)
theorem Zma:Uab mn prog 16 Zh5:=(ansY (N:=1000) (mkΓ_consX (Zam Zlu) Zih (mkΓ_consX (Zam Zyb) Zs7 (mkΓ_consX (Zam Zmb) Zjk mkΓ_nilX))) f16 []).of (by
 intro ρ h w args vals r e hA hH hr
 unfold Zh5 at hr
 split at hr
 ·rename_i a2 a0 a1 bQ nQ aQ
  obtain ⟨rfl,rfl,hg2⟩:=BQi hr
  exact Zqi a2 a0 a1 bQ nQ aQ (hA.rng 2 rfl) (hH.wt 0 rfl) (hH.wtr 1 rfl) (hH.slw 2 rfl) hg2
 ·cases hr)
def askC (S p:Array Value) (n:Nat) (A:Array Value) (c:Int):Int:=bif (okS S&&Ua0 S p n A) then (bif Zgt S c then 0 else 2) else 1
theorem ask_eq (S p:Array Value) (bb:Option (Option Addr)) (n:Nat) (A:Array Value) (c:Int):Zao c S p bb n A=askC S p n A c:=by
 unfold Zao askC Zgt
 simp only [bne]
 cases okS S<;>cases Ua0 S p n A<;>cases ((IntKind.u64.wrap (BitVec.ofInt IntKind.u64.bits c &&& ~~~(BitVec.ofInt IntKind.u64.bits (Uay (num S 0) (num S 1) 36))).toNat)==(0:Int))<;>rfl
theorem no_cells (S:Array Value):Zgt S 0=true:=by
 unfold Zgt
 generalize Uay (num S 0) (num S 1) 36=g
 have e:BitVec.ofInt IntKind.u64.bits 0 &&& ~~~(BitVec.ofInt IntKind.u64.bits g)=0:=by
  exact BitVec.zero_and
 rw [e]
 rfl
end
end Go.Proofs.YtdhckffhnkeogaaDoor
