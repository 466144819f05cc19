/- Plans copied, compared and valid, in company. -/
import Derived.Test.YtflnjkpejbohjaaGreatDoorProg
import Derived.Test.YtflnjkpejbohjaaGreatDoorCxK
namespace Go.Proofs.YtflnjkpejbohjaaGreatDoor
open Go.ChangeShapes Go.WideShapes Go.ChangeAt Go.RowKit Ve Vc
open IntKind (i64)
set_option linter.unusedVariables false
set_option linter.unusedSimpArgs false
set_option maxRecDepth 100000
noncomputable section
variable {F:Vc.Fd}
theorem Ztd (N:Nat) (a0:Array Value):ansV Tryz.prog (mkΓ []) N Tryz.f45 [] [.g a0 101] []=(some (.a (.g #[.int .i8 (num a0 0),.int .i8 (num a0 1),.int .i16 (num a0 2)] 95),.none,true)):=by kernel_rfl
theorem Zrw (a0:Array Value) (h_a0:WT Tryz.prog 101 a0) (hg:(true)=true):ansV Tryz.prog (mkΓ []) 1000 Tryz.f45 [] [.g a0 101] []=some (.a (.g a0 95),.none,true):=by
 have hz:a0.size=3:=by rw [h_a0.layLen];kernel_rfl
 have e0:=(h_a0.int (o:=0) (k:=.i8) (by kernel_rfl)).1
 have e1:=(h_a0.int (o:=1) (k:=.i8) (by kernel_rfl)).1
 have e2:=(h_a0.int (o:=2) (k:=.i16) (by kernel_rfl)).1
 have he:(#[.int .i8 (num a0 0),.int .i8 (num a0 1),.int .i16 (num a0 2)]:Array Value)=a0:=Zgi fun i=>by
  match i with
  | 0=>exact e0.symm
  | 1=>exact e1.symm
  | 2=>exact e2.symm
  | i+3=>rw [Array.getElem?_eq_none (by simp),Array.getElem?_eq_none (by omega)]
 refine (Ztd 1000 a0).trans ?_
 rw [he]
def Zbe:Con:=fun args h=>match args,h with
 | [.g a0 101],[]=>some (.a (.g a0 95),.none,true)
 | _,_=>none
theorem Zrc:EntX Tryz.prog 45:=Zaf (fn:=Tryz.f45) (by kernel_rfl) (by kernel_rfl) (by kernel_rfl)
theorem Zwv:ConOkX (md F) Tryz.prog 45 Zbe:=(Zag (N:=1000) (by kernel_rfl) mkΓ_nilX (fn:=Tryz.f45) (by kernel_rfl) (by kernel_rfl) []).of (by
 intro ρ h w args vals r e hA hH hr
 unfold Zbe at hr
 split at hr
 ·rename_i a0
  obtain ⟨rfl,hg⟩:=Prod.mk.inj (Option.some.inj hr)
  obtain ⟨rfl,hg2⟩:=Prod.mk.inj hg
  exact Zrw a0 (hA.wt 0 rfl) hg2
 ·cases hr)
def Zdq (b_a0:Option (Option Addr)) (n_a0:Nat) (a0:Array Value):St:=(⟨.a (.l 0) :: .a (.u) :: .a (.v (.slice none 0 0)) :: .a (.l 3) :: .a (.i .i64 (0:Int)) :: .a (.l 0) :: .a (.i .i64 (n_a0:Int)) :: .a (.l 3)::us 15 ([]),[.sl (.came b_a0) n_a0 a0 101,.no,.no,.sl .own ((n_a0:Int).toNat) (madeCells (zc Tryz.prog 95) ((n_a0:Int).toNat*3)) 95,.no],[]⟩:St)
def Zev (n_a0:Nat):Int×Array Value→LS
 | (y0_4,r0_3)=>([.a (.i .i64 (y0_4))],[.sl .own ((n_a0:Int).toNat) r0_3 95])
def Zif (n_a0:Nat):Int×Array Value→Exit×LS
 | t=>((.exit 0),(Zev n_a0) t)
def Zb1 (P : Program) (b_a0 : Option (Option Addr)) (n_a0 : Nat) (a0 : Array Value) : Int × Array Value → Option (Stp (Int × Array Value) (Int × Array Value))
 | (y0_4, r0_3) => bif decide (y0_4 < (n_a0 : Int)) then (bif (decide (0 ≤ y0_4) && decide (y0_4 < (n_a0 : Int))) then (bif (decide (0 ≤ y0_4) && decide (y0_4 < (((n_a0 : Int).toNat) : Int))) then (some (.more ((i64.wrap (y0_4 + (1 : Int))), (spl r0_3 ((y0_4).toNat * 3) (a0.extract ((y0_4).toNat * 3) (((y0_4).toNat * 3) + 3)).toList))))
    else (none))
   else (none))
  else (some (.done (y0_4, r0_3)))
theorem Zu3 (N:Nat) (b_a0:Option (Option Addr)) (n_a0:Nat) (a0:Array Value):∀ t:Int×Array Value,stepV Tryz.prog (mkΓ [(45,con Zbe)]) N (cAt (codeOf Tryz.f24) [1,1,0,1,0,0]) (pAt (mkPlan (codeOf Tryz.f24) [([4],[3])]).1 [1,1,0,1,0]) [4] [3] (Zdq b_a0 n_a0 a0) ((Zev n_a0) t)=mapS (Zev n_a0) (Zif n_a0) (Zb1 Tryz.prog b_a0 n_a0 a0 t):=by
 rintro ⟨y0_4,r0_3⟩
 refine Eq.trans (b:=(bif decide (y0_4<(n_a0:Int)) then (bif (decide (0≤y0_4)&&decide (y0_4<(n_a0:Int))) then (bif (decide (0≤y0_4)&&decide (y0_4<(((n_a0:Int).toNat):Int))) then (some (.more ([.a (.i .i64 (i64.wrap (y0_4+(1:Int))))],[.sl .own ((n_a0:Int).toNat) (spl r0_3 ((y0_4).toNat*3) (a0.extract ((y0_4).toNat*3) (((y0_4).toNat*3)+3)).toList) 95])))
    else (none))
   else (none))
  else (some (.done ((.exit 0),([.a (.i .i64 (y0_4))],[.sl .own ((n_a0:Int).toNat) r0_3 95])))))) (by kernel_rfl) ?_
 simp only [Zb1,Zay,Zaz,Zax,Zaw,Zev,Zif]
def Zhc (P:Program) (N:Nat) (b_a0:Option (Option Addr)) (n_a0:Nat) (a0:Array Value) (z0_4:Int) (q0_3:Array Value):Option (SV×Eff×Bool):=some (.a .x,.newS none ((n_a0:Int).toNat) q0_3 95,true)
theorem Zny (N:Nat) (b_a0:Option (Option Addr)) (n_a0:Nat) (a0:Array Value) (z0_4:Int) (q0_3:Array Value):(kBlock 0 (kSeq (veC Tryz.prog (mkΓ [(45,con Zbe)]) N (cAt (codeOf Tryz.f24) [1,1,1]) (pAt (mkPlan (codeOf Tryz.f24) [([4],[3])]).1 [1,1,1]) (SV×Eff×Bool)) (finK Tryz.prog [.sl (.came b_a0) n_a0 a0 101] [.tmp 2]))) (.exit 0) (left (writes (cAt (codeOf Tryz.f24) [1,1,0,1,0,0])) [4] [3] (Zdq b_a0 n_a0 a0) ([.a (.i .i64 (z0_4))],[.sl .own ((n_a0:Int).toNat) q0_3 95]))=Zhc Tryz.prog N b_a0 n_a0 a0 z0_4 q0_3:=by
 refine Eq.trans (b:=(some (.a .x,.newS none ((n_a0:Int).toNat) q0_3 95,true))) (by kernel_rfl) ?_
 rfl
theorem Zuy (N:Nat) (b_a0:Option (Option Addr)) (n_a0:Nat) (a0:Array Value):bindX (iterO (stepV Tryz.prog (mkΓ [(45,con Zbe)]) N (cAt (codeOf Tryz.f24) [1,1,0,1,0,0]) (pAt (mkPlan (codeOf Tryz.f24) [([4],[3])]).1 [1,1,0,1,0]) [4] [3] (Zdq b_a0 n_a0 a0)) N ([.a (.i .i64 (0:Int))],[.sl .own ((n_a0:Int).toNat) (madeCells (zc Tryz.prog 95) ((n_a0:Int).toNat*3)) 95])) (fun e s=>(kBlock 0 (kSeq (veC Tryz.prog (mkΓ [(45,con Zbe)]) N (cAt (codeOf Tryz.f24) [1,1,1]) (pAt (mkPlan (codeOf Tryz.f24) [([4],[3])]).1 [1,1,1]) (SV×Eff×Bool)) (finK Tryz.prog [.sl (.came b_a0) n_a0 a0 101] [.tmp 2]))) e (left (writes (cAt (codeOf Tryz.f24) [1,1,0,1,0,0])) [4] [3] (Zdq b_a0 n_a0 a0) s))=nodeX (iterO (Zb1 Tryz.prog b_a0 n_a0 a0) N ((0:Int),(madeCells (zc Tryz.prog 95) ((n_a0:Int).toNat*3)))) (fun x=>Zhc Tryz.prog N b_a0 n_a0 a0 x.1 x.2):=by
 refine Zbc (Zev n_a0) (Zif n_a0) _ _ (Zu3 N b_a0 n_a0 a0) N ((0:Int),(madeCells (zc Tryz.prog 95) ((n_a0:Int).toNat*3))) _ _ ?_
 intro x;exact Zny N b_a0 n_a0 a0 x.1 x.2
theorem Zsg (N:Nat) (b_a0:Option (Option Addr)) (n_a0:Nat) (a0:Array Value):ansV Tryz.prog (mkΓ [(45,con Zbe)]) N Tryz.f24 [([4],[3])] [.l 0] [.sl (.came b_a0) n_a0 a0 101]=(bif (decide (0≤(n_a0:Int))&&((n_a0:Int)==(n_a0:Int)&&decide ((bytesOf Tryz.prog 95:Int)*(n_a0:Int)≤281474976710656))) then (nodeX (iterO (Zb1 Tryz.prog b_a0 n_a0 a0) N ((0:Int),(madeCells (zc Tryz.prog 95) ((n_a0:Int).toNat*3)))) (fun x=>Zhc Tryz.prog N b_a0 n_a0 a0 x.1 x.2))
  else (none)):=by
 refine Eq.trans (b:=(bif (decide (0≤(n_a0:Int))&&((n_a0:Int)==(n_a0:Int)&&decide ((bytesOf Tryz.prog 95:Int)*(n_a0:Int)≤281474976710656))) then (bindX (iterO (stepV Tryz.prog (mkΓ [(45,con Zbe)]) N (cAt (codeOf Tryz.f24) [1,1,0,1,0,0]) (pAt (mkPlan (codeOf Tryz.f24) [([4],[3])]).1 [1,1,0,1,0]) [4] [3] (Zdq b_a0 n_a0 a0)) N ([.a (.i .i64 (0:Int))],[.sl .own ((n_a0:Int).toNat) (madeCells (zc Tryz.prog 95) ((n_a0:Int).toNat*3)) 95])) (fun e s=>(kBlock 0 (kSeq (veC Tryz.prog (mkΓ [(45,con Zbe)]) N (cAt (codeOf Tryz.f24) [1,1,1]) (pAt (mkPlan (codeOf Tryz.f24) [([4],[3])]).1 [1,1,1]) (SV×Eff×Bool)) (finK Tryz.prog [.sl (.came b_a0) n_a0 a0 101] [.tmp 2]))) e (left (writes (cAt (codeOf Tryz.f24) [1,1,0,1,0,0])) [4] [3] (Zdq b_a0 n_a0 a0) s)))
  else (none))) (by kernel_rfl) ?_
 simp only [Zuy N b_a0 n_a0 a0]
theorem Zrk (b_a0:Option (Option Addr)) (n_a0:Nat) (a0:Array Value) (h_a0:a0.size=n_a0*(lay Tryz.prog 101).length∧(∀ k,k<n_a0→WT Tryz.prog 101 (a0.extract (k*(lay Tryz.prog 101).length) (k*(lay Tryz.prog 101).length+(lay Tryz.prog 101).length)))∧n_a0≤9223372036854775807) (hg:(decide (n_a0≤1048576))=true):ansV Tryz.prog (mkΓ [(45,con Zbe)]) 18446744073709551616 Tryz.f24 [([4],[3])] [.l 0] [.sl (.came b_a0) n_a0 a0 101]=some (.a .x,.newS none n_a0 a0 95,true):=by
 have hn:n_a0≤1048576:=of_decide_eq_true hg
 have hm:(lay Tryz.prog 101).length=3:=by kernel_rfl
 have hb:bytesOf Tryz.prog 95=4:=by kernel_rfl
 obtain ⟨s1,s2,s3⟩:=h_a0
 rw [hm] at s1 s2
 have hq:(lay Tryz.prog 101)[0]? = some 0:=by kernel_rfl
 refine (Zsg 18446744073709551616 b_a0 n_a0 a0).trans ?_
 have hgd:(decide (0≤(n_a0:Int))&&((n_a0:Int)==(n_a0:Int)&&decide ((bytesOf Tryz.prog 95:Int)*(n_a0:Int)≤281474976710656)))=true:=by
  rw [hb,decide_eq_true (show (0:Int)≤n_a0 by omega),beq_self_eq_true,decide_eq_true (show (((4:Nat):Int))*(n_a0:Int)≤281474976710656 by omega)];rfl
 rw [hgd,cond_true]
 have hs:a0.size=(madeCells (zc Tryz.prog 95) ((n_a0:Int).toNat*3)).size:=by rw [size_madeCells,Int.toNat_natCast];exact s1
 generalize (madeCells (zc Tryz.prog 95) ((n_a0:Int).toNat*3))=Z at hs⊢
 have h:=Zei (g:=Zb1 Tryz.prog b_a0 n_a0 a0) (fun k=>((k:Int),upto a0 Z (k*3))) (m:=n_a0) (x:=((n_a0:Int),upto a0 Z (n_a0*3))) (N:=18446744073709551616) (fun k hk=>by
  have h1:decide ((k:Int)<(n_a0:Int))=true:=decide_eq_true (by omega)
  have h0:decide (0≤(k:Int))=true:=decide_eq_true (by omega)
  have h3:i64.wrap ((k:Int)+1)=((k+1:Nat):Int):=by rw [IntWalk.i64_in _ (by omega)];omega
  have h5:spl (upto a0 Z (k*3)) (k*3) (a0.extract (k*3) (k*3+3)).toList=upto a0 Z ((k+1)*3):=by
   rw [Nat.add_mul];exact Zy8 hs (by have:(k+1)*3≤n_a0*3:=Nat.mul_le_mul_right _ hk;omega) rfl
  simp only [Zb1,h1,h0,Bool.and_self,Int.toNat_natCast,cond_true,h3,h5]) (by
  have h1:decide ((n_a0:Int)<(n_a0:Int))=false:=decide_eq_false (by omega)
  simp only [Zb1,h1,cond_false]) (by omega)
 rw [Zu5 hs s1] at h
 simp only [Nat.zero_mul,Zp7 hs] at h
 have h':iterO (Zb1 Tryz.prog b_a0 n_a0 a0) 18446744073709551616 ((0:Int),Z)=some ((n_a0:Int),a0):=h
 rw [h']
 show some (_,Eff.newS none ((n_a0:Int).toNat) a0 95,true)=_
 rw [Int.toNat_natCast]
def Zfm:Con:=fun args h=>match args,h with
 | [.l 0],[.sl (.came b_a0) n_a0 a0 101]=>some (.a .x,.newS none n_a0 a0 95,decide (n_a0≤1048576))
 | _,_=>none
theorem Zqb:EntX Tryz.prog 24:=Zaf (fn:=Tryz.f24) (by kernel_rfl) (by kernel_rfl) (by kernel_rfl)
theorem Zu1:ConOkX (md F) Tryz.prog 24 Zfm:=(Zag (N:=18446744073709551616) (by kernel_rfl) (mkΓ_consX (Zad Zwv) Zrc mkΓ_nilX) (fn:=Tryz.f24) (by kernel_rfl) (by kernel_rfl) [([4],[3])]).of (by
 intro ρ h w args vals r e hA hH hr
 unfold Zfm at hr
 split at hr
 ·rename_i b_a0 n_a0 a0
  obtain ⟨rfl,hg⟩:=Prod.mk.inj (Option.some.inj hr)
  obtain ⟨rfl,hg2⟩:=Prod.mk.inj hg
  exact Zrk b_a0 n_a0 a0 (hH.slw 0 rfl) hg2
 ·cases hr)
theorem Zsy (N:Nat) (a0 a1:Array Value):ansV Tryz.prog (mkΓ []) N Tryz.f54 [] [.g a0 95,.g a1 95] []=(bif ((num a0 0) != (num a1 0)) then (some (.a (.b (false)),.none,true))
  else (bif ((num a0 1) != (num a1 1)) then (some (.a (.b (false)),.none,true))
   else (bif ((num a0 2) != (num a1 2)) then (some (.a (.b (false)),.none,true))
    else (some (.a (.b (true)),.none,true))))):=by kernel_rfl
theorem Zsa (a0 a1:Array Value) (h_a0:WT Tryz.prog 95 a0) (h_a1:WT Tryz.prog 95 a1) (hg:(true)=true):ansV Tryz.prog (mkΓ []) 1000 Tryz.f54 [] [.g a0 95,.g a1 95] []=some (.a (.b (sameB a0 a1)),.none,true):=by
 have hz:a0.size=3:=by rw [h_a0.layLen];kernel_rfl
 have hy:a1.size=3:=by rw [h_a1.layLen];kernel_rfl
 refine (Zsy 1000 a0 a1).trans ?_
 cases hb:sameB a0 a1
 ·have hne:=Yh0.1 hb
  cases h0:(num a0 0 != num a1 0)
  ·skip
   cases h1:(num a0 1 != num a1 1)
   ·skip
    cases h2:(num a0 2 != num a1 2)
    ·skip
     exfalso
     refine hne (Zgi fun i=> ?_)
     by_cases c0:i=0
     ·subst c0
      rw [(h_a0.int (k:=.i8) (o:=0) (by kernel_rfl)).1,(h_a1.int (k:=.i8) (o:=0) (by kernel_rfl)).1,Yly h0]
     by_cases c1:i=1
     ·subst c1
      rw [(h_a0.int (k:=.i8) (o:=1) (by kernel_rfl)).1,(h_a1.int (k:=.i8) (o:=1) (by kernel_rfl)).1,Yly h1]
     by_cases c2:i=2
     ·subst c2
      rw [(h_a0.int (k:=.i16) (o:=2) (by kernel_rfl)).1,(h_a1.int (k:=.i16) (o:=2) (by kernel_rfl)).1,Yly h2]
     rw [Array.getElem?_eq_none (by omega),Array.getElem?_eq_none (by omega)]
    ·rfl
   ·rfl
  ·rfl
 ·rw [Zjn.1 hb]
  simp only [bne_self_eq_false,cond_false,Zqn,Bool.not_true]
def Za6:Con:=fun args h=>match args,h with
 | [.g a0 95,.g a1 95],[]=>some (.a (.b (sameB a0 a1)),.none,true)
 | _,_=>none
theorem Zre:EntX Tryz.prog 54:=Zaf (fn:=Tryz.f54) (by kernel_rfl) (by kernel_rfl) (by kernel_rfl)
theorem Zvi:ConOkX (md F) Tryz.prog 54 Za6:=(Zag (N:=1000) (by kernel_rfl) mkΓ_nilX (fn:=Tryz.f54) (by kernel_rfl) (by kernel_rfl) []).of (by
 intro ρ h w args vals r e hA hH hr
 unfold Za6 at hr
 split at hr
 ·rename_i a0 a1
  obtain ⟨rfl,hg⟩:=Prod.mk.inj (Option.some.inj hr)
  obtain ⟨rfl,hg2⟩:=Prod.mk.inj hg
  exact Zsa a0 a1 (hA.wt 0 rfl) (hA.wt 1 rfl) hg2
 ·cases hr)
def Zct (b_a0:Option (Option Addr)) (n_a0:Nat) (a0:Array Value) (b_a1:Option (Option Addr)) (n_a1:Nat) (a1:Array Value):St:=(⟨.a (.l 0) :: .a (.l 1) :: .a (.u) :: .a (.u) :: .a (.b (false)) :: .a (.i .i64 (0:Int)) :: .a (.l 0) :: .a (.i .i64 (n_a0:Int)) :: .a (.l 1) :: .a (.i .i64 (n_a1:Int)) :: .a (.b (((n_a0:Int) != (n_a1:Int))))::us 16 ([]),[.sl (.came b_a0) n_a0 a0 95,.sl (.came b_a1) n_a1 a1 95],[]⟩:St)
def Zdt:Bool×Int→LS
 | (y0_4,y0_5)=>([.a (.b (y0_4)),.a (.i .i64 (y0_5))],[])
def Zid:(Stp (Bool×Int) (Bool×Int))→Exit×LS
 | .more t=>(.ret,Zdt t)
 | .done t=>((.exit 0),Zdt t)
def Zb4 (P : Program) (b_a0 : Option (Option Addr)) (n_a0 : Nat) (a0 : Array Value) (b_a1 : Option (Option Addr)) (n_a1 : Nat) (a1 : Array Value) : Bool × Int → Option (Stp (Bool × Int) (Stp (Bool × Int) (Bool × Int)))
 | (y0_4, y0_5) => bif decide (y0_5 < (n_a0 : Int)) then (bif (decide (0 ≤ y0_5) && decide (y0_5 < (n_a0 : Int))) then (bif (decide (0 ≤ y0_5) && decide (y0_5 < (n_a1 : Int))) then (bif (!(sameB (a0.extract ((y0_5).toNat * 3) (((y0_5).toNat * 3) + 3)) (a1.extract ((y0_5).toNat * 3) (((y0_5).toNat * 3) + 3)))) then (some (.done (.more (false, y0_5))))
     else (some (.more (y0_4, (i64.wrap (y0_5 + (1 : Int)))))))
    else (none))
   else (none))
  else (some (.done (.done (y0_4, y0_5))))
theorem Zs2 (N:Nat) (b_a0:Option (Option Addr)) (n_a0:Nat) (a0:Array Value) (b_a1:Option (Option Addr)) (n_a1:Nat) (a1:Array Value):∀ t:Bool×Int,stepV Tryz.prog (mkΓ [(54,con Za6)]) N (cAt (codeOf Tryz.f31) [1,1,0,1,0,0]) (pAt (mkPlan (codeOf Tryz.f31) [([4,5],[])]).1 [1,1,0,1,0]) [4,5] [] (Zct b_a0 n_a0 a0 b_a1 n_a1 a1) (Zdt t)=mapS Zdt Zid (Zb4 Tryz.prog b_a0 n_a0 a0 b_a1 n_a1 a1 t):=by
 rintro ⟨y0_4,y0_5⟩
 refine Eq.trans (b:=(bif decide (y0_5<(n_a0:Int)) then (bif (decide (0≤y0_5)&&decide (y0_5<(n_a0:Int))) then (bif (decide (0≤y0_5)&&decide (y0_5<(n_a1:Int))) then (bif (!(sameB (a0.extract ((y0_5).toNat*3) (((y0_5).toNat*3)+3)) (a1.extract ((y0_5).toNat*3) (((y0_5).toNat*3)+3)))) then (some (.done (.ret,([.a (.b (false)),.a (.i .i64 (y0_5))],[]))))
     else (some (.more ([.a (.b (y0_4)),.a (.i .i64 (i64.wrap (y0_5+(1:Int))))],[]))))
    else (none))
   else (none))
  else (some (.done ((.exit 0),([.a (.b (y0_4)),.a (.i .i64 (y0_5))],[])))))) (by kernel_rfl) ?_
 simp only [Zb4,Zay,Zaz,Zax,Zaw,Zdt,Zid]
def Zg8 (P:Program) (N:Nat) (b_a0:Option (Option Addr)) (n_a0:Nat) (a0:Array Value) (b_a1:Option (Option Addr)) (n_a1:Nat) (a1:Array Value) (z0_4:Bool) (z0_5:Int):Option (SV×Eff×Bool):=some (.a (.b (z0_4)),.none,true)
theorem Znl (N:Nat) (b_a0:Option (Option Addr)) (n_a0:Nat) (a0:Array Value) (b_a1:Option (Option Addr)) (n_a1:Nat) (a1:Array Value) (z0_4:Bool) (z0_5:Int):(kBlock 0 (kSeq (veC Tryz.prog (mkΓ [(54,con Za6)]) N (cAt (codeOf Tryz.f31) [1,1,1]) (pAt (mkPlan (codeOf Tryz.f31) [([4,5],[])]).1 [1,1,1]) (SV×Eff×Bool)) (finK Tryz.prog [.sl (.came b_a0) n_a0 a0 95,.sl (.came b_a1) n_a1 a1 95] [.tmp 4]))) .ret (left (writes (cAt (codeOf Tryz.f31) [1,1,0,1,0,0])) [4,5] [] (Zct b_a0 n_a0 a0 b_a1 n_a1 a1) ([.a (.b (z0_4)),.a (.i .i64 (z0_5))],[]))=Zg8 Tryz.prog N b_a0 n_a0 a0 b_a1 n_a1 a1 z0_4 z0_5:=by
 refine Eq.trans (b:=(some (.a (.b (z0_4)),.none,true))) (by kernel_rfl) ?_
 rfl
def Zg9 (P:Program) (N:Nat) (b_a0:Option (Option Addr)) (n_a0:Nat) (a0:Array Value) (b_a1:Option (Option Addr)) (n_a1:Nat) (a1:Array Value) (z0_4:Bool) (z0_5:Int):Option (SV×Eff×Bool):=some (.a (.b (true)),.none,true)
theorem Znc (N:Nat) (b_a0:Option (Option Addr)) (n_a0:Nat) (a0:Array Value) (b_a1:Option (Option Addr)) (n_a1:Nat) (a1:Array Value) (z0_4:Bool) (z0_5:Int):(kBlock 0 (kSeq (veC Tryz.prog (mkΓ [(54,con Za6)]) N (cAt (codeOf Tryz.f31) [1,1,1]) (pAt (mkPlan (codeOf Tryz.f31) [([4,5],[])]).1 [1,1,1]) (SV×Eff×Bool)) (finK Tryz.prog [.sl (.came b_a0) n_a0 a0 95,.sl (.came b_a1) n_a1 a1 95] [.tmp 4]))) (.exit 0) (left (writes (cAt (codeOf Tryz.f31) [1,1,0,1,0,0])) [4,5] [] (Zct b_a0 n_a0 a0 b_a1 n_a1 a1) ([.a (.b (z0_4)),.a (.i .i64 (z0_5))],[]))=Zg9 Tryz.prog N b_a0 n_a0 a0 b_a1 n_a1 a1 z0_4 z0_5:=by
 refine Eq.trans (b:=(some (.a (.b (true)),.none,true))) (by kernel_rfl) ?_
 rfl
theorem Zuw (N:Nat) (b_a0:Option (Option Addr)) (n_a0:Nat) (a0:Array Value) (b_a1:Option (Option Addr)) (n_a1:Nat) (a1:Array Value):bindX (iterO (stepV Tryz.prog (mkΓ [(54,con Za6)]) N (cAt (codeOf Tryz.f31) [1,1,0,1,0,0]) (pAt (mkPlan (codeOf Tryz.f31) [([4,5],[])]).1 [1,1,0,1,0]) [4,5] [] (Zct b_a0 n_a0 a0 b_a1 n_a1 a1)) N ([.a (.b (false)),.a (.i .i64 (0:Int))],[])) (fun e s=>(kBlock 0 (kSeq (veC Tryz.prog (mkΓ [(54,con Za6)]) N (cAt (codeOf Tryz.f31) [1,1,1]) (pAt (mkPlan (codeOf Tryz.f31) [([4,5],[])]).1 [1,1,1]) (SV×Eff×Bool)) (finK Tryz.prog [.sl (.came b_a0) n_a0 a0 95,.sl (.came b_a1) n_a1 a1 95] [.tmp 4]))) e (left (writes (cAt (codeOf Tryz.f31) [1,1,0,1,0,0])) [4,5] [] (Zct b_a0 n_a0 a0 b_a1 n_a1 a1) s))=nodeX (iterO (Zb4 Tryz.prog b_a0 n_a0 a0 b_a1 n_a1 a1) N (false,(0:Int))) (st2 (fun x=>Zg8 Tryz.prog N b_a0 n_a0 a0 b_a1 n_a1 a1 x.1 x.2) (fun x=>Zg9 Tryz.prog N b_a0 n_a0 a0 b_a1 n_a1 a1 x.1 x.2)):=by
 refine Zbc Zdt Zid _ _ (Zs2 N b_a0 n_a0 a0 b_a1 n_a1 a1) N (false,(0:Int)) _ _ ?_
 intro x
 cases x with
 | more x=>exact Znl N b_a0 n_a0 a0 b_a1 n_a1 a1 x.1 x.2
 | done x=>exact Znc N b_a0 n_a0 a0 b_a1 n_a1 a1 x.1 x.2
theorem Zrx (N:Nat) (b_a0:Option (Option Addr)) (n_a0:Nat) (a0:Array Value) (b_a1:Option (Option Addr)) (n_a1:Nat) (a1:Array Value):ansV Tryz.prog (mkΓ [(54,con Za6)]) N Tryz.f31 [([4,5],[])] [.l 0,.l 1] [.sl (.came b_a0) n_a0 a0 95,.sl (.came b_a1) n_a1 a1 95]=(bif ((n_a0:Int) != (n_a1:Int)) then (some (.a (.b (false)),.none,true))
  else (nodeX (iterO (Zb4 Tryz.prog b_a0 n_a0 a0 b_a1 n_a1 a1) N (false,(0:Int))) (st2 (fun x=>Zg8 Tryz.prog N b_a0 n_a0 a0 b_a1 n_a1 a1 x.1 x.2) (fun x=>Zg9 Tryz.prog N b_a0 n_a0 a0 b_a1 n_a1 a1 x.1 x.2)))):=by
 refine Eq.trans (b:=(bif ((n_a0:Int) != (n_a1:Int)) then (some (.a (.b (false)),.none,true))
  else (bindX (iterO (stepV Tryz.prog (mkΓ [(54,con Za6)]) N (cAt (codeOf Tryz.f31) [1,1,0,1,0,0]) (pAt (mkPlan (codeOf Tryz.f31) [([4,5],[])]).1 [1,1,0,1,0]) [4,5] [] (Zct b_a0 n_a0 a0 b_a1 n_a1 a1)) N ([.a (.b (false)),.a (.i .i64 (0:Int))],[])) (fun e s=>(kBlock 0 (kSeq (veC Tryz.prog (mkΓ [(54,con Za6)]) N (cAt (codeOf Tryz.f31) [1,1,1]) (pAt (mkPlan (codeOf Tryz.f31) [([4,5],[])]).1 [1,1,1]) (SV×Eff×Bool)) (finK Tryz.prog [.sl (.came b_a0) n_a0 a0 95,.sl (.came b_a1) n_a1 a1 95] [.tmp 4]))) e (left (writes (cAt (codeOf Tryz.f31) [1,1,0,1,0,0])) [4,5] [] (Zct b_a0 n_a0 a0 b_a1 n_a1 a1) s))))) (by kernel_rfl) ?_
 simp only [Zuw N b_a0 n_a0 a0 b_a1 n_a1 a1]
theorem Zqu (b_a0:Option (Option Addr)) (n_a0:Nat) (a0:Array Value) (b_a1:Option (Option Addr)) (n_a1:Nat) (a1:Array Value) (h_a0:a0.size=n_a0*(lay Tryz.prog 95).length∧(∀ k,k<n_a0→WT Tryz.prog 95 (a0.extract (k*(lay Tryz.prog 95).length) (k*(lay Tryz.prog 95).length+(lay Tryz.prog 95).length)))∧n_a0≤9223372036854775807) (h_a1:a1.size=n_a1*(lay Tryz.prog 95).length∧(∀ k,k<n_a1→WT Tryz.prog 95 (a1.extract (k*(lay Tryz.prog 95).length) (k*(lay Tryz.prog 95).length+(lay Tryz.prog 95).length)))∧n_a1≤9223372036854775807) (hg:(true)=true):ansV Tryz.prog (mkΓ [(54,con Za6)]) 18446744073709551616 Tryz.f31 [([4,5],[])] [.l 0,.l 1] [.sl (.came b_a0) n_a0 a0 95,.sl (.came b_a1) n_a1 a1 95]=some (.a (.b ((decide (n_a0=n_a1)&&sameB a0 a1))),.none,true):=by
 have hm:(lay Tryz.prog 95).length=3:=by kernel_rfl
 obtain ⟨s1,s2,s3⟩:=h_a0
 obtain ⟨t1,t2,t3⟩:=h_a1
 rw [hm] at s1 s2 t1 t2
 have hq:(lay Tryz.prog 95)[0]? = some 0:=by kernel_rfl
 refine (Zrx 18446744073709551616 b_a0 n_a0 a0 b_a1 n_a1 a1).trans ?_
 by_cases hl:n_a0=n_a1
 case neg=>
  rw [decide_eq_false hl,show ((n_a0:Int) != (n_a1:Int))=true from bne_iff_ne.2 (by omega)]
  rfl
 subst hl
 rw [decide_eq_true rfl,show ((n_a0:Int) != (n_a0:Int))=false from bne_self_eq_false _]
 simp only [cond_false,Bool.true_and]
 have hb:sameB a0 a1=true ↔ ∀ k,k<n_a0→(fun k=>sameB (a0.extract (k*3) (k*3+3)) (a1.extract (k*3) (k*3+3))) k=true:=by
  constructor
  ·intro h k hk
   rw [Zjn.1 h]
   exact Zqn _
  ·intro h
   refine Zjn.2 ?_
   exact Yfq (n:=n_a0) (m:=3) (by omega) s1 t1 (fun k hk=>Zjn.1 (h k hk))
 refine (Zwn (g:=Zb4 Tryz.prog b_a0 n_a0 a0 b_a1 n_a0 a1) (fun k=>(false,(k:Int))) (fun k=>sameB (a0.extract (k*3) (k*3+3)) (a1.extract (k*3) (k*3+3))) n_a0 (N:=18446744073709551616) (xd:=.done (false,(n_a0:Int))) (by omega) (fun k hk hp=>by
  have h1:decide ((k:Int)<(n_a0:Int))=true:=decide_eq_true (by omega)
  have h0:decide (0≤(k:Int))=true:=decide_eq_true (by omega)
  have h3:i64.wrap ((k:Int)+1)=((k+1:Nat):Int):=by rw [IntWalk.i64_in _ (by omega)];omega
  have hp':sameB (a0.extract (k*3) (k*3+3)) (a1.extract (k*3) (k*3+3))=true:=hp
  simp only [Zb4,h1,h0,Bool.and_self,Int.toNat_natCast,cond_true,h3,hp',Bool.not_true,cond_false]) (by
  have h1:decide ((n_a0:Int)<(n_a0:Int))=false:=decide_eq_false (by omega)
  simp only [Zb4,h1,cond_false]) (sameB a0 a1) hb (some (.a (.b true),.none,true)) (some (.a (.b false),.none,true)) rfl (fun k hk hp=>by
  refine ⟨.more (false,(k:Int)), ?_,rfl⟩
  have h1:decide ((k:Int)<(n_a0:Int))=true:=decide_eq_true (by omega)
  have h0:decide (0≤(k:Int))=true:=decide_eq_true (by omega)
  have hp':sameB (a0.extract (k*3) (k*3+3)) (a1.extract (k*3) (k*3+3))=false:=hp
  simp only [Zb4,h1,h0,Bool.and_self,Int.toNat_natCast,cond_true,hp',Bool.not_false])).trans ?_
 cases sameB a0 a1<;>rfl
def Zfi:Con:=fun args h=>match args,h with
 | [.l 0,.l 1],[.sl (.came b_a0) n_a0 a0 95,.sl (.came b_a1) n_a1 a1 95]=>some (.a (.b ((decide (n_a0=n_a1)&&sameB a0 a1))),.none,true)
 | _,_=>none
theorem Zpa:EntX Tryz.prog 31:=Zaf (fn:=Tryz.f31) (by kernel_rfl) (by kernel_rfl) (by kernel_rfl)
theorem Zus:ConOkX (md F) Tryz.prog 31 Zfi:=(Zag (N:=18446744073709551616) (by kernel_rfl) (mkΓ_consX (Zad Zvi) Zre mkΓ_nilX) (fn:=Tryz.f31) (by kernel_rfl) (by kernel_rfl) [([4,5],[])]).of (by
 intro ρ h w args vals r e hA hH hr
 unfold Zfi at hr
 split at hr
 ·rename_i b_a0 n_a0 a0 b_a1 n_a1 a1
  obtain ⟨rfl,hg⟩:=Prod.mk.inj (Option.some.inj hr)
  obtain ⟨rfl,hg2⟩:=Prod.mk.inj hg
  exact Zqu b_a0 n_a0 a0 b_a1 n_a1 a1 (hH.slw 0 rfl) (hH.slw 1 rfl) hg2
 ·cases hr)
theorem Zr8 (N:Nat) (a1:Int) (b_a0:Option (Option Addr)) (n_a0:Nat) (a0:Array Value):ansV Tryz.prog (mkΓ []) N Tryz.f17 [] [.l 0,.i .i64 (a1)] [.sl (.came b_a0) n_a0 a0 101]=(bif decide ((i64.wrap (a1 - (n_a0:Int)))<(0:Int)) then (some (.a (.i .i64 (-1:Int)),.none,true))
  else (some (.a (.i .i64 (i64.wrap (a1 - (n_a0:Int)))),.none,true))):=by kernel_rfl
def Zbr (a1:Int) (b_a0:Option (Option Addr)) (n_a0:Nat) (a0:Array Value):Int:=(bif decide ((i64.wrap (a1 - (n_a0:Int)))<(0:Int)) then (-1:Int) else (i64.wrap (a1 - (n_a0:Int))))
theorem Zq1 (a1:Int) (b_a0:Option (Option Addr)) (n_a0:Nat) (a0:Array Value) (h_a1:i64.min≤a1∧a1≤i64.max) (h_a0:a0.size=n_a0*(lay Tryz.prog 101).length∧(∀ k,k<n_a0→WT Tryz.prog 101 (a0.extract (k*(lay Tryz.prog 101).length) (k*(lay Tryz.prog 101).length+(lay Tryz.prog 101).length)))∧n_a0≤9223372036854775807) (hg:(true)=true):ansV Tryz.prog (mkΓ []) 1000 Tryz.f17 [] [.l 0,.i .i64 (a1)] [.sl (.came b_a0) n_a0 a0 101]=some (.a (.i .i64 (Zbr a1 b_a0 n_a0 a0)),.none,true):=by
 refine (Zr8 1000 a1 b_a0 n_a0 a0).trans ?_
 unfold Zbr
 revert hg
 generalize (decide ((i64.wrap (a1 - (n_a0:Int)))<(0:Int)))=b2
 intro hg
 cases b2
 ·skip
  first | (simp only [cond_true,cond_false,Bool.and_true,Bool.true_and,Bool.and_false,Bool.false_and];done) | rfl | exact (nomatch (hg:false=true))
 ·skip
  first | (simp only [cond_true,cond_false,Bool.and_true,Bool.true_and,Bool.and_false,Bool.false_and];done) | rfl | exact (nomatch (hg:false=true))
def Zfj:Con:=fun args h=>match args,h with
 | [.l 0,.i .i64 a1],[.sl (.came b_a0) n_a0 a0 101]=>some (.a (.i .i64 (Zbr a1 b_a0 n_a0 a0)),.none,true)
 | _,_=>none
theorem Zp5:EntX Tryz.prog 17:=Zaf (fn:=Tryz.f17) (by kernel_rfl) (by kernel_rfl) (by kernel_rfl)
theorem Zuz:ConOkX (md F) Tryz.prog 17 Zfj:=(Zag (N:=1000) (by kernel_rfl) mkΓ_nilX (fn:=Tryz.f17) (by kernel_rfl) (by kernel_rfl) []).of (by
 intro ρ h w args vals r e hA hH hr
 unfold Zfj at hr
 split at hr
 ·rename_i a1 b_a0 n_a0 a0
  obtain ⟨rfl,hg⟩:=Prod.mk.inj (Option.some.inj hr)
  obtain ⟨rfl,hg2⟩:=Prod.mk.inj hg
  exact Zq1 a1 b_a0 n_a0 a0 (hA.rng 1 rfl) (hH.slw 0 rfl) hg2
 ·cases hr)
theorem Zzq (N:Nat) (a0:Array Value) (b_a0x2:Option (Option Addr)) (n_a0x2:Nat) (a0x2:Array Value):ansV Tryz.prog (mkΓ [(24,con Zfm)]) N Tryz.f9 [] [.r a0 31 [(2,0)]] [.sl (.came b_a0x2) n_a0x2 a0x2 101]=(bif decide (n_a0x2≤1048576) then (some (.a (.r #[.int .i8 (num a0 0),.int .i8 (num a0 1),.slice none 0 0] 45 [(2,HOLE)]),.newS (some 1000000) n_a0x2 a0x2 95,true))
  else (none)):=by kernel_rfl
theorem Zys (a0:Array Value) (b_a0x2:Option (Option Addr)) (n_a0x2:Nat) (a0x2:Array Value) (h_a0:WT Tryz.prog 31 a0) (h_a0x2:a0x2.size=n_a0x2*(lay Tryz.prog 101).length∧(∀ k,k<n_a0x2→WT Tryz.prog 101 (a0x2.extract (k*(lay Tryz.prog 101).length) (k*(lay Tryz.prog 101).length+(lay Tryz.prog 101).length)))∧n_a0x2≤9223372036854775807) (hg:(decide (n_a0x2≤1048576))=true):ansV Tryz.prog (mkΓ [(24,con Zfm)]) 1000 Tryz.f9 [] [.r a0 31 [(2,0)]] [.sl (.came b_a0x2) n_a0x2 a0x2 101]=some (.a (.r a0 45 [(2,HOLE)]),.newS (some 1000000) n_a0x2 a0x2 95,true):=by
 have hz:a0.size=3:=by rw [h_a0.layLen];kernel_rfl
 have e0:=(h_a0.int (o:=0) (k:=.i8) (by kernel_rfl)).1
 have e1:=(h_a0.int (o:=1) (k:=.i8) (by kernel_rfl)).1
 have e2:=h_a0.nil (o:=2) (by kernel_rfl)
 have he:(#[.int .i8 (num a0 0),.int .i8 (num a0 1),.slice none 0 0]:Array Value)=a0:=Zgi fun i=>by
  match i with
  | 0=>exact e0.symm
  | 1=>exact e1.symm
  | 2=>exact e2.symm
  | i+3=>rw [Array.getElem?_eq_none (by simp),Array.getElem?_eq_none (by omega)]
 refine (Zzq 1000 a0 b_a0x2 n_a0x2 a0x2).trans ?_
 rw [hg,he]
 rfl
def Zls:Con:=fun args h=>match args,h with
 | [.r a0 31 [(2,0)]],[.sl (.came b_a0x2) n_a0x2 a0x2 101]=>some (.a (.r a0 45 [(2,HOLE)]),.newS (some 1000000) n_a0x2 a0x2 95,decide (n_a0x2≤1048576))
 | _,_=>none
theorem Zwz:EntX Tryz.prog 9:=Zaf (fn:=Tryz.f9) (by kernel_rfl) (by kernel_rfl) (by kernel_rfl)
theorem Ych:ConOkX (md F) Tryz.prog 9 Zls:=(Zag (N:=1000) (by kernel_rfl) (mkΓ_consX (Zad Zu1) Zqb mkΓ_nilX) (fn:=Tryz.f9) (by kernel_rfl) (by kernel_rfl) []).of (by
 intro ρ h w args vals r e hA hH hr
 unfold Zls at hr
 split at hr
 ·rename_i a0 b_a0x2 n_a0x2 a0x2
  obtain ⟨rfl,hg⟩:=Prod.mk.inj (Option.some.inj hr)
  obtain ⟨rfl,hg2⟩:=Prod.mk.inj hg
  exact Zys a0 b_a0x2 n_a0x2 a0x2 (hA.wtr 0 rfl) (hH.slw 0 rfl) hg2
 ·cases hr)
theorem Yah (N:Nat) (a0 a1:Array Value) (b_a0x2:Option (Option Addr)) (n_a0x2:Nat) (a0x2:Array Value) (b_a1x2:Option (Option Addr)) (n_a1x2:Nat) (a1x2:Array Value):ansV Tryz.prog (mkΓ [(31,con Zfi)]) N Tryz.f12 [] [.r a0 45 [(2,0)],.r a1 45 [(2,1)]] [.sl (.came b_a0x2) n_a0x2 a0x2 95,.sl (.came b_a1x2) n_a1x2 a1x2 95]=(bif ((num a0 0) != (num a1 0)) then (some (.a (.b (false)),.none,true))
  else (bif ((num a0 1) != (num a1 1)) then (some (.a (.b (false)),.none,true))
   else (bif (!((decide (n_a0x2=n_a1x2)&&sameB a0x2 a1x2))) then (some (.a (.b (false)),.none,true))
    else (some (.a (.b (true)),.none,true))))):=by kernel_rfl
def Zd7 (a0 a1:Array Value) (b_a0x2:Option (Option Addr)) (n_a0x2:Nat) (a0x2:Array Value) (b_a1x2:Option (Option Addr)) (n_a1x2:Nat) (a1x2:Array Value):Bool:=(bif ((num a0 0) != (num a1 0)) then false else (bif ((num a0 1) != (num a1 1)) then false else (bif (!((decide (n_a0x2=n_a1x2)&&sameB a0x2 a1x2))) then false else true)))
theorem Zx2 (a0 a1:Array Value) (b_a0x2:Option (Option Addr)) (n_a0x2:Nat) (a0x2:Array Value) (b_a1x2:Option (Option Addr)) (n_a1x2:Nat) (a1x2:Array Value) (h_a0:WT Tryz.prog 45 a0) (h_a1:WT Tryz.prog 45 a1) (h_a0x2:a0x2.size=n_a0x2*(lay Tryz.prog 95).length∧(∀ k,k<n_a0x2→WT Tryz.prog 95 (a0x2.extract (k*(lay Tryz.prog 95).length) (k*(lay Tryz.prog 95).length+(lay Tryz.prog 95).length)))∧n_a0x2≤9223372036854775807) (h_a1x2:a1x2.size=n_a1x2*(lay Tryz.prog 95).length∧(∀ k,k<n_a1x2→WT Tryz.prog 95 (a1x2.extract (k*(lay Tryz.prog 95).length) (k*(lay Tryz.prog 95).length+(lay Tryz.prog 95).length)))∧n_a1x2≤9223372036854775807) (hg:(true)=true):ansV Tryz.prog (mkΓ [(31,con Zfi)]) 1000 Tryz.f12 [] [.r a0 45 [(2,0)],.r a1 45 [(2,1)]] [.sl (.came b_a0x2) n_a0x2 a0x2 95,.sl (.came b_a1x2) n_a1x2 a1x2 95]=some (.a (.b ((Zd7 a0 a1 b_a0x2 n_a0x2 a0x2 b_a1x2 n_a1x2 a1x2))),.none,true):=by
 refine (Yah 1000 a0 a1 b_a0x2 n_a0x2 a0x2 b_a1x2 n_a1x2 a1x2).trans ?_
 unfold Zd7
 revert hg
 generalize (((num a0 0) != (num a1 0)))=b2
 intro hg
 cases b2
 ·skip
  revert hg
  generalize (((num a0 1) != (num a1 1)))=b4
  intro hg
  cases b4
  ·skip
   revert hg
   generalize ((!((decide (n_a0x2=n_a1x2)&&sameB a0x2 a1x2))))=b6
   intro hg
   cases b6
   ·skip
    first | (simp only [cond_true,cond_false,Bool.and_true,Bool.true_and,Bool.and_false,Bool.false_and];done) | rfl | exact (nomatch (hg:false=true))
   ·skip
    first | (simp only [cond_true,cond_false,Bool.and_true,Bool.true_and,Bool.and_false,Bool.false_and];done) | rfl | exact (nomatch (hg:false=true))
  ·skip
   first | (simp only [cond_true,cond_false,Bool.and_true,Bool.true_and,Bool.and_false,Bool.false_and];done) | rfl | exact (nomatch (hg:false=true))
 ·skip
  first | (simp only [cond_true,cond_false,Bool.and_true,Bool.true_and,Bool.and_false,Bool.false_and];done) | rfl | exact (nomatch (hg:false=true))
def Zlu:Con:=fun args h=>match args,h with
 | [.r a0 45 [(2,0)],.r a1 45 [(2,1)]],[.sl (.came b_a0x2) n_a0x2 a0x2 95,.sl (.came b_a1x2) n_a1x2 a1x2 95]=>some (.a (.b ((Zd7 a0 a1 b_a0x2 n_a0x2 a0x2 b_a1x2 n_a1x2 a1x2))),.none,true)
 | _,_=>none
theorem Zwu:EntX Tryz.prog 12:=Zaf (fn:=Tryz.f12) (by kernel_rfl) (by kernel_rfl) (by kernel_rfl)
theorem Yb4:ConOkX (md F) Tryz.prog 12 Zlu:=(Zag (N:=1000) (by kernel_rfl) (mkΓ_consX (Zad Zus) Zpa mkΓ_nilX) (fn:=Tryz.f12) (by kernel_rfl) (by kernel_rfl) []).of (by
 intro ρ h w args vals r e hA hH hr
 unfold Zlu at hr
 split at hr
 ·rename_i a0 a1 b_a0x2 n_a0x2 a0x2 b_a1x2 n_a1x2 a1x2
  obtain ⟨rfl,hg⟩:=Prod.mk.inj (Option.some.inj hr)
  obtain ⟨rfl,hg2⟩:=Prod.mk.inj hg
  exact Zx2 a0 a1 b_a0x2 n_a0x2 a0x2 b_a1x2 n_a1x2 a1x2 (hA.wtr 0 rfl) (hA.wtr 1 rfl) (hH.slw 0 rfl) (hH.slw 1 rfl) hg2
 ·cases hr)
theorem Zzk (N:Nat) (a0:Array Value) (a1:Int) (b_a0x2:Option (Option Addr)) (n_a0x2:Nat) (a0x2:Array Value):ansV Tryz.prog (mkΓ [(17,con Zfj)]) N Tryz.f6 [] [.r a0 31 [(2,0)],.i .i64 (a1)] [.sl (.came b_a0x2) n_a0x2 a0x2 101]=(bif decide ((Zbr a1 b_a0x2 n_a0x2 a0x2)<(0:Int)) then (some (.a (.i .i64 (-1:Int)),.none,true))
  else (some (.a (.i .i64 (Zbr a1 b_a0x2 n_a0x2 a0x2)),.none,true))):=by kernel_rfl
def Zdg (a0:Array Value) (a1:Int) (b_a0x2:Option (Option Addr)) (n_a0x2:Nat) (a0x2:Array Value):Int:=(bif decide ((Zbr a1 b_a0x2 n_a0x2 a0x2)<(0:Int)) then (-1:Int) else (Zbr a1 b_a0x2 n_a0x2 a0x2))
theorem Zxj (a0:Array Value) (a1:Int) (b_a0x2:Option (Option Addr)) (n_a0x2:Nat) (a0x2:Array Value) (h_a0:WT Tryz.prog 31 a0) (h_a1:i64.min≤a1∧a1≤i64.max) (h_a0x2:a0x2.size=n_a0x2*(lay Tryz.prog 101).length∧(∀ k,k<n_a0x2→WT Tryz.prog 101 (a0x2.extract (k*(lay Tryz.prog 101).length) (k*(lay Tryz.prog 101).length+(lay Tryz.prog 101).length)))∧n_a0x2≤9223372036854775807) (hg:(true)=true):ansV Tryz.prog (mkΓ [(17,con Zfj)]) 1000 Tryz.f6 [] [.r a0 31 [(2,0)],.i .i64 (a1)] [.sl (.came b_a0x2) n_a0x2 a0x2 101]=some (.a (.i .i64 (Zdg a0 a1 b_a0x2 n_a0x2 a0x2)),.none,true):=by
 refine (Zzk 1000 a0 a1 b_a0x2 n_a0x2 a0x2).trans ?_
 unfold Zdg
 revert hg
 generalize (decide ((Zbr a1 b_a0x2 n_a0x2 a0x2)<(0:Int)))=b2
 intro hg
 cases b2
 ·skip
  first | (simp only [cond_true,cond_false,Bool.and_true,Bool.true_and,Bool.and_false,Bool.false_and];done) | rfl | exact (nomatch (hg:false=true))
 ·skip
  first | (simp only [cond_true,cond_false,Bool.and_true,Bool.true_and,Bool.and_false,Bool.false_and];done) | rfl | exact (nomatch (hg:false=true))
def Zli:Con:=fun args h=>match args,h with
 | [.r a0 31 [(2,0)],.i .i64 a1],[.sl (.came b_a0x2) n_a0x2 a0x2 101]=>some (.a (.i .i64 (Zdg a0 a1 b_a0x2 n_a0x2 a0x2)),.none,true)
 | _,_=>none
theorem Zvv:EntX Tryz.prog 6:=Zaf (fn:=Tryz.f6) (by kernel_rfl) (by kernel_rfl) (by kernel_rfl)
theorem Yb5:ConOkX (md F) Tryz.prog 6 Zli:=(Zag (N:=1000) (by kernel_rfl) (mkΓ_consX (Zad Zuz) Zp5 mkΓ_nilX) (fn:=Tryz.f6) (by kernel_rfl) (by kernel_rfl) []).of (by
 intro ρ h w args vals r e hA hH hr
 unfold Zli at hr
 split at hr
 ·rename_i a0 a1 b_a0x2 n_a0x2 a0x2
  obtain ⟨rfl,hg⟩:=Prod.mk.inj (Option.some.inj hr)
  obtain ⟨rfl,hg2⟩:=Prod.mk.inj hg
  exact Zxj a0 a1 b_a0x2 n_a0x2 a0x2 (hA.wtr 0 rfl) (hA.rng 1 rfl) (hH.slw 0 rfl) hg2
 ·cases hr)
theorem Zwf (N:Nat) (a0 a1:Array Value) (b_a1x2:Option (Option Addr)) (n_a1x2:Nat) (a1x2:Array Value):ansV Tryz.prog (mkΓ []) N Tryz.f66 [] [.g a0 41,.r a1 45 [(2,0)]] [.sl (.came b_a1x2) n_a1x2 a1x2 95]=(some (.a (.r ((spl (spl (zc Tryz.prog 71) 0 (#[.int .i64 (i64.wrap (num a1 0)),.int .i64 (i64.wrap (num a1 1))]:Array Value).toList) 2 a0.toList).setIfInBounds 365 (.slice none 0 0)) 71 [(365,0)]),.none,true)):=by kernel_rfl
theorem Ztj (a0 a1:Array Value) (b_a1x2:Option (Option Addr)) (n_a1x2:Nat) (a1x2:Array Value) (h_a0:WT Tryz.prog 41 a0) (h_a1:WT Tryz.prog 45 a1) (h_a1x2:a1x2.size=n_a1x2*(lay Tryz.prog 95).length∧(∀ k,k<n_a1x2→WT Tryz.prog 95 (a1x2.extract (k*(lay Tryz.prog 95).length) (k*(lay Tryz.prog 95).length+(lay Tryz.prog 95).length)))∧n_a1x2≤9223372036854775807) (hg:(true)=true):ansV Tryz.prog (mkΓ []) 1000 Tryz.f66 [] [.g a0 41,.r a1 45 [(2,0)]] [.sl (.came b_a1x2) n_a1x2 a1x2 95]=some (.a (.r ((spl (spl (zc Tryz.prog 71) 0 (#[.int .i64 (i64.wrap (num a1 0)),.int .i64 (i64.wrap (num a1 1))]:Array Value).toList) 2 a0.toList).setIfInBounds 365 (.slice none 0 0)) 71 [(365,0)]),.none,true):=by
 refine (Zwf 1000 a0 a1 b_a1x2 n_a1x2 a1x2).trans ?_
 rfl
def Zg4:Con:=fun args h=>match args,h with
 | [.g a0 41,.r a1 45 [(2,0)]],[.sl (.came b_a1x2) n_a1x2 a1x2 95]=>some (.a (.r ((spl (spl (zc Tryz.prog 71) 0 (#[.int .i64 (i64.wrap (num a1 0)),.int .i64 (i64.wrap (num a1 1))]:Array Value).toList) 2 a0.toList).setIfInBounds 365 (.slice none 0 0)) 71 [(365,0)]),.none,true)
 | _,_=>none
theorem Zhq:EntX Tryz.prog 66:=Zaf (fn:=Tryz.f66) (by kernel_rfl) (by kernel_rfl) (by kernel_rfl)
theorem Zjs:ConOkX (md F) Tryz.prog 66 Zg4:=(Zag (N:=1000) (by kernel_rfl) mkΓ_nilX (fn:=Tryz.f66) (by kernel_rfl) (by kernel_rfl) []).of (by
 intro ρ h w args vals r e hA hH hr
 unfold Zg4 at hr
 split at hr
 ·rename_i a0 a1 b_a1x2 n_a1x2 a1x2
  obtain ⟨rfl,hg⟩:=Prod.mk.inj (Option.some.inj hr)
  obtain ⟨rfl,hg2⟩:=Prod.mk.inj hg
  exact Ztj a0 a1 b_a1x2 n_a1x2 a1x2 (hA.wt 0 rfl) (hA.wtr 1 rfl) (hH.slw 0 rfl) hg2
 ·cases hr)
theorem Zlm (N:Nat) (a0:Array Value):ansV Tryz.prog (mkΓ [(89,con Zhk)]) N Tryz.f78 [] [.g a0 69] []=(bif (Zdl (num a0 0)) then (bif decide ((num a0 1) ≥ (1:Int)) then (some (.a (.b (decide ((num a0 1)≤(8:Int)))),.none,true))
   else (some (.a (.b (false)),.none,true)))
  else (some (.a (.b (false)),.none,true))):=by kernel_rfl
def Zaj (a0:Array Value):Bool:=(bif (Zdl (num a0 0)) then (bif decide ((num a0 1) ≥ (1:Int)) then decide ((num a0 1)≤(8:Int)) else false) else false)
theorem Zkt (a0:Array Value) (h_a0:WT Tryz.prog 69 a0) (hg:(true)=true):ansV Tryz.prog (mkΓ [(89,con Zhk)]) 1000 Tryz.f78 [] [.g a0 69] []=some (.a (.b ((Zaj a0))),.none,true):=by
 refine (Zlm 1000 a0).trans ?_
 unfold Zaj
 revert hg
 generalize ((Zdl (num a0 0)))=b2
 intro hg
 cases b2
 ·skip
  first | (simp only [cond_true,cond_false,Bool.and_true,Bool.true_and,Bool.and_false,Bool.false_and];done) | rfl | exact (nomatch (hg:false=true))
 ·skip
  revert hg
  generalize (decide ((num a0 1) ≥ (1:Int)))=b4
  intro hg
  cases b4
  ·skip
   first | (simp only [cond_true,cond_false,Bool.and_true,Bool.true_and,Bool.and_false,Bool.false_and];done) | rfl | exact (nomatch (hg:false=true))
  ·skip
   first | (simp only [cond_true,cond_false,Bool.and_true,Bool.true_and,Bool.and_false,Bool.false_and];done) | rfl | exact (nomatch (hg:false=true))
def Zeh:Con:=fun args h=>match args,h with
 | [.g a0 69],[]=>some (.a (.b ((Zaj a0))),.none,true)
 | _,_=>none
theorem Zj8:EntX Tryz.prog 78:=Zaf (fn:=Tryz.f78) (by kernel_rfl) (by kernel_rfl) (by kernel_rfl)
theorem Zlw:ConOkX (md F) Tryz.prog 78 Zeh:=(Zag (N:=1000) (by kernel_rfl) (mkΓ_consX (Zad Zze) Zub mkΓ_nilX) (fn:=Tryz.f78) (by kernel_rfl) (by kernel_rfl) []).of (by
 intro ρ h w args vals r e hA hH hr
 unfold Zeh at hr
 split at hr
 ·rename_i a0
  obtain ⟨rfl,hg⟩:=Prod.mk.inj (Option.some.inj hr)
  obtain ⟨rfl,hg2⟩:=Prod.mk.inj hg
  exact Zkt a0 (hA.wt 0 rfl) hg2
 ·cases hr)
theorem Zoh (N:Nat) (a0:Array Value) (a1:Int):ansV Tryz.prog (mkΓ []) N Tryz.f92 [] [.g a0 69,.i .i64 (a1)] []=(bif decide (a1 ≥ (0:Int)) then (some (.a (.b (decide (a1<(num a0 1)))),.none,true))
  else (some (.a (.b (false)),.none,true))):=by kernel_rfl
def Zbv (a0:Array Value) (a1:Int):Bool:=(bif decide (a1 ≥ (0:Int)) then decide (a1<(num a0 1)) else false)
theorem Znp (a0:Array Value) (a1:Int) (h_a0:WT Tryz.prog 69 a0) (h_a1:i64.min≤a1∧a1≤i64.max) (hg:(true)=true):ansV Tryz.prog (mkΓ []) 1000 Tryz.f92 [] [.g a0 69,.i .i64 (a1)] []=some (.a (.b ((Zbv a0 a1))),.none,true):=by
 refine (Zoh 1000 a0 a1).trans ?_
 unfold Zbv
 revert hg
 generalize (decide (a1 ≥ (0:Int)))=b2
 intro hg
 cases b2
 ·skip
  first | (simp only [cond_true,cond_false,Bool.and_true,Bool.true_and,Bool.and_false,Bool.false_and];done) | rfl | exact (nomatch (hg:false=true))
 ·skip
  first | (simp only [cond_true,cond_false,Bool.and_true,Bool.true_and,Bool.and_false,Bool.false_and];done) | rfl | exact (nomatch (hg:false=true))
def Zf8:Con:=fun args h=>match args,h with
 | [.g a0 69,.i .i64 a1],[]=>some (.a (.b ((Zbv a0 a1))),.none,true)
 | _,_=>none
theorem Zm1:EntX Tryz.prog 92:=Zaf (fn:=Tryz.f92) (by kernel_rfl) (by kernel_rfl) (by kernel_rfl)
theorem Zox:ConOkX (md F) Tryz.prog 92 Zf8:=(Zag (N:=1000) (by kernel_rfl) mkΓ_nilX (fn:=Tryz.f92) (by kernel_rfl) (by kernel_rfl) []).of (by
 intro ρ h w args vals r e hA hH hr
 unfold Zf8 at hr
 split at hr
 ·rename_i a0 a1
  obtain ⟨rfl,hg⟩:=Prod.mk.inj (Option.some.inj hr)
  obtain ⟨rfl,hg2⟩:=Prod.mk.inj hg
  exact Znp a0 a1 (hA.wt 0 rfl) (hA.rng 1 rfl) hg2
 ·cases hr)
theorem land_all {S:Array Value} (hS:WT Tryz.prog 41 S) {c:Int} (hc:0≤c∧c≤35):Zas S c=Zco c S:=by
 obtain ⟨k,rfl⟩:=Int.eq_ofNat_of_zero_le hc.1
 exact land_dry hS (by omega)
def Zlt:Cons:=(mkΓ [(90,con Zhm),(91,con Zeo),(92,con Zf8)])
theorem Zow (N:Nat) (a0 a1:Array Value) (b_a0x365:Option (Option Addr)) (n_a0x365:Nat) (a0x365:Array Value):ansV Tryz.prog Zlt N Tryz.f79 [] [.r a0 71 [(365,0)],.g a1 95] [.sl (.came b_a0x365) n_a0x365 a0x365 95]=(bif (Zah (a0.extract 2 (2+363)) (i64.wrap (num a1 0))) then (bif decide (0≤(i64.wrap (num a1 0))) then (bif (Zab (a0.extract 2 (2+363)) (i64.wrap (num a1 0))) then (bif (Zbv (a0.extract 0 (0+2)) (i64.wrap (num a1 1))) then (bif decide ((num a1 2) ≥ (1:Int)) then (some (.a (.b (decide ((num a1 2)≤(200:Int)))),.none,true))
      else (some (.a (.b (false)),.none,true)))
     else (some (.a (.b (false)),.none,true)))
    else (some (.a (.b (false)),.none,true)))
   else (none))
  else (some (.a (.b (false)),.none,true))):=by kernel_rfl
def Zbz (a0 a1:Array Value) (b_a0x365:Option (Option Addr)) (n_a0x365:Nat) (a0x365:Array Value):Bool:=(bif (Zah (a0.extract 2 (2+363)) (i64.wrap (num a1 0))) then (bif (Zab (a0.extract 2 (2+363)) (i64.wrap (num a1 0))) then (bif (Zbv (a0.extract 0 (0+2)) (i64.wrap (num a1 1))) then (bif decide ((num a1 2) ≥ (1:Int)) then decide ((num a1 2)≤(200:Int)) else false) else false) else false) else false)
def Zb0 (a0 a1:Array Value) (b_a0x365:Option (Option Addr)) (n_a0x365:Nat) (a0x365:Array Value):Bool:=(bif (Zah (a0.extract 2 (2+363)) (i64.wrap (num a1 0))) then decide (0≤(i64.wrap (num a1 0))) else true)
theorem Zoe (a0 a1:Array Value) (b_a0x365:Option (Option Addr)) (n_a0x365:Nat) (a0x365:Array Value) (h_a0:WT Tryz.prog 71 a0) (h_a1:WT Tryz.prog 95 a1) (h_a0x365:a0x365.size=n_a0x365*(lay Tryz.prog 95).length∧(∀ k,k<n_a0x365→WT Tryz.prog 95 (a0x365.extract (k*(lay Tryz.prog 95).length) (k*(lay Tryz.prog 95).length+(lay Tryz.prog 95).length)))∧n_a0x365≤9223372036854775807) (hg:((Zb0 a0 a1 b_a0x365 n_a0x365 a0x365))=true):ansV Tryz.prog Zlt 1000 Tryz.f79 [] [.r a0 71 [(365,0)],.g a1 95] [.sl (.came b_a0x365) n_a0x365 a0x365 95]=some (.a (.b ((Zbz a0 a1 b_a0x365 n_a0x365 a0x365))),.none,true):=by
 refine (Zow 1000 a0 a1 b_a0x365 n_a0x365 a0x365).trans ?_
 unfold Zb0 at hg
 unfold Zbz
 revert hg
 generalize ((Zah (a0.extract 2 (2+363)) (i64.wrap (num a1 0))))=b2
 intro hg
 cases b2
 ·skip
  first | (simp only [cond_true,cond_false,Bool.and_true,Bool.true_and,Bool.and_false,Bool.false_and];done) | rfl | exact (nomatch (hg:false=true))
 ·skip
  revert hg
  generalize (decide (0≤(i64.wrap (num a1 0))))=b4
  intro hg
  cases b4
  ·skip
   first | exact (nomatch (hg:false=true)) | (simp only [cond_true,cond_false,Bool.and_true,Bool.true_and,Bool.and_false,Bool.false_and];done) | rfl
  ·skip
   revert hg
   generalize ((Zab (a0.extract 2 (2+363)) (i64.wrap (num a1 0))))=b6
   intro hg
   cases b6
   ·skip
    first | (simp only [cond_true,cond_false,Bool.and_true,Bool.true_and,Bool.and_false,Bool.false_and];done) | rfl | exact (nomatch (hg:false=true))
   ·skip
    revert hg
    generalize ((Zbv (a0.extract 0 (0+2)) (i64.wrap (num a1 1))))=b8
    intro hg
    cases b8
    ·skip
     first | (simp only [cond_true,cond_false,Bool.and_true,Bool.true_and,Bool.and_false,Bool.false_and];done) | rfl | exact (nomatch (hg:false=true))
    ·skip
     revert hg
     generalize (decide ((num a1 2) ≥ (1:Int)))=b10
     intro hg
     cases b10
     ·skip
      first | (simp only [cond_true,cond_false,Bool.and_true,Bool.true_and,Bool.and_false,Bool.false_and];done) | rfl | exact (nomatch (hg:false=true))
     ·skip
      first | (simp only [cond_true,cond_false,Bool.and_true,Bool.true_and,Bool.and_false,Bool.false_and];done) | rfl | exact (nomatch (hg:false=true))
def Zgh:Con:=fun args h=>match args,h with
 | [.r a0 71 [(365,0)],.g a1 95],[.sl (.came b_a0x365) n_a0x365 a0x365 95]=>some (.a (.b ((Zbz a0 a1 b_a0x365 n_a0x365 a0x365))),.none,(Zb0 a0 a1 b_a0x365 n_a0x365 a0x365))
 | _,_=>none
theorem Znv:EntX Tryz.prog 79:=Zaf (fn:=Tryz.f79) (by kernel_rfl) (by kernel_rfl) (by kernel_rfl)
theorem Zrg:ConOkX (md F) Tryz.prog 79 Zgh:=(Zag (N:=1000) (by kernel_rfl) (mkΓ_consX (Zad Zpz) Zl2 (mkΓ_consX (Zad Zil) Zgg (mkΓ_consX (Zad Zox) Zm1 mkΓ_nilX))) (fn:=Tryz.f79) (by kernel_rfl) (by kernel_rfl) []).of (by
 intro ρ h w args vals r e hA hH hr
 unfold Zgh at hr
 split at hr
 ·rename_i a0 a1 b_a0x365 n_a0x365 a0x365
  obtain ⟨rfl,hg⟩:=Prod.mk.inj (Option.some.inj hr)
  obtain ⟨rfl,hg2⟩:=Prod.mk.inj hg
  exact Zoe a0 a1 b_a0x365 n_a0x365 a0x365 (hA.wtr 0 rfl) (hA.wt 1 rfl) (hH.slw 0 rfl) hg2
 ·cases hr)
def wsum (A:Array Value):Nat→Int
 | 0=>0
 | k+1=>i64.wrap (wsum A k+i64.wrap (num (A.extract (k*3) (k*3+3)) 2))
def relB (S:Array Value) (h:Int) (X:Array Value):Bool:=Zae (i64.wrap (num X 0)) S&&(Zaa (i64.wrap (num X 1)) 0 (i64.wrap (h - 1))&&Zaa (i64.wrap (num X 2)) 1 200)
def relAll (S:Array Value) (h:Int) (n:Nat) (A:Array Value):Bool:=(List.range n).all (fun k=>relB S h (A.extract (k*3) (k*3+3)))
theorem Zqd (S:Array Value) (h:Int) (n:Nat) (A:Array Value):relAll S h n A=true ↔ ∀ k,k<n→(fun k=>relB S h (A.extract (k*3) (k*3+3))) k=true:=by
 unfold relAll
 rw [List.all_eq_true]
 exact ⟨fun h k hk=>h k (List.mem_range.2 hk),fun h k hk=>h k (List.mem_range.1 hk)⟩
def planB (S p:Array Value) (n:Nat) (A:Array Value):Bool:=Zaa (i64.wrap (num p 0)) 0 1&&(Zaa (i64.wrap (num p 1)) 1 8&&(!decide ((n:Int) > 12)&&(relAll S (i64.wrap (num p 1)) n A&&decide (wsum A n≤1000))))
theorem Zzy {S p:Array Value} (hS:S.size=363):((spl (spl (zc Tryz.prog 71) 0 (#[.int .i64 (i64.wrap (num p 0)),.int .i64 (i64.wrap (num p 1))]:Array Value).toList) 2 S.toList).setIfInBounds 365 (.slice none 0 0)).extract 2 (2+363)=S∧((spl (spl (zc Tryz.prog 71) 0 (#[.int .i64 (i64.wrap (num p 0)),.int .i64 (i64.wrap (num p 1))]:Array Value).toList) 2 S.toList).setIfInBounds 365 (.slice none 0 0)).extract 0 (0+2)=#[.int .i64 (i64.wrap (num p 0)),.int .i64 (i64.wrap (num p 1))]:=by
 have hz:(zc Tryz.prog 71).size=366:=by kernel_rfl
 generalize (zc Tryz.prog 71)=Z at hz
 have hl:S.toList.length=363:=by rw [Array.length_toList,hS]
 constructor
 ·refine Array.ext_getElem? fun i=> ?_
  rw [Array.getElem?_extract,Array.getElem?_setIfInBounds,Array.size_setIfInBounds,Zgb _ _ _ (by rw [Zgu,hz,hl];omega),Zgu,Zgu,hz,hl]
  by_cases hi:i<363
  ·rw [if_pos (by omega),if_neg (by omega),if_pos (by omega),Array.getElem?_toList,show 2+i - 2=i by omega]
  ·rw [if_neg (by omega),Array.getElem?_eq_none (by omega)]
 ·refine Array.ext_getElem? fun i=> ?_
  rw [Array.getElem?_extract,Array.getElem?_setIfInBounds,Array.size_setIfInBounds,Zgb _ _ _ (by rw [Zgu,hz,hl];omega),Zgb _ _ _ (by rw [hz];simp),Zgu,Zgu,hz,hl]
  by_cases hi:i<2
  ·rw [if_pos (by omega),if_neg (by omega),if_neg (by omega),if_pos (by simp;omega),Array.getElem?_toList,show 0+i - 0=i by omega]
  ·rw [if_neg (by omega),Array.getElem?_eq_none (by simp;omega)]
theorem takes_eq {S V X:Array Value} {h:Int} {x:Int} (bb:Option (Option Addr)) (n:Nat) (A:Array Value) (hS:WT Tryz.prog 41 S) (h1:V.extract 2 (2+363)=S) (h2:V.extract 0 (0+2)=#[.int .i64 x,.int .i64 h]) (hh: -128≤h∧h≤127) (hX:WT Tryz.prog 95 X) :
  Zb0 V X bb n A=true∧Zbz V X bb n A=relB S h X:=by
 obtain ⟨-,b0⟩:=hX.int (o:=0) (k:=.i8) (by kernel_rfl)
 obtain ⟨-,b1⟩:=hX.int (o:=1) (k:=.i8) (by kernel_rfl)
 obtain ⟨-,b2⟩:=hX.int (o:=2) (k:=.i16) (by kernel_rfl)
 have e1:IntKind.i16.min = -32768:=rfl
 have e2:IntKind.i16.max=32767:=rfl
 have w2:i64.wrap (num X 2)=num X 2:=IntWalk.i64_in _ (by omega)
 have w3:i64.wrap (h - 1)=h - 1:=IntWalk.i64_in _ (by omega)
 have w4:num (#[.int .i64 x,.int .i64 h]:Array Value) 1=h:=rfl
 unfold Zb0 Zbz relB Zae Zaa Zbv
 rw [h1,h2,Ylm,w2,w3,w4]
 cases hi:Za0 (i64.wrap (num X 0)) S with
 | false=>exact ⟨rfl,rfl⟩
 | true=>
  have hr:=Yi0 hi
  refine ⟨decide_eq_true hr.1, ?_⟩
  unfold Zab
  rw [land_all hS hr]
  have e3:decide (i64.wrap (num X 1)<h)=decide (i64.wrap (num X 1)≤h - 1):=decide_eq_decide.2 (by omega)
  rw [e3]
  cases Zco (i64.wrap (num X 0)) S<;>cases decide (i64.wrap (num X 1) ≥ 0)<;>cases decide (i64.wrap (num X 1)≤h - 1)<;>cases decide (num X 2 ≥ 1)<;>cases decide (num X 2≤200)<;>rfl
def Zb6 (a0:Array Value) (b_a0x365:Option (Option Addr)) (n_a0x365:Nat) (a0x365:Array Value):St:=(⟨.a (.r a0 71 [(365,0)]) :: .a (.w 1) :: .a (.i .i64 (0:Int)) :: .a (.i .i64 (0:Int)) :: .a (.u) :: .a (.u) :: .a (.p 1 (365) 43) :: .a (.l 0) :: .a (.i .i64 (n_a0x365:Int)) :: .a (.i .i64 (0:Int))::us 10 ([]),[.sl (.came b_a0x365) n_a0x365 a0x365 95,.one (.r a0 71 [(365,0)]) 71,.no],[]⟩:St)
def Zc7:Int×Int→LS
 | (y0_3,y0_9)=>([.a (.i .i64 (y0_3)),.a (.i .i64 (y0_9))],[])
def Zf7:Int×Int→Exit×LS
 | t=>((.exit 0),Zc7 t)
def Za8 (P:Program) (a0:Array Value) (b_a0x365:Option (Option Addr)) (n_a0x365:Nat) (a0x365:Array Value):Int×Int→Option (Stp (Int×Int) (Int×Int))
 | (y0_3,y0_9)=>bif decide (y0_9<(n_a0x365:Int)) then (bif (decide (0≤y0_9)&&decide (y0_9<(n_a0x365:Int))) then (some (.more ((i64.wrap (y0_3+(i64.wrap (num (a0x365.extract ((y0_9).toNat*3) (((y0_9).toNat*3)+3)) 2)))),(i64.wrap (y0_9+(1:Int))))))
   else (none))
  else (some (.done (y0_3,y0_9)))
theorem Zog (N:Nat) (a0:Array Value) (b_a0x365:Option (Option Addr)) (n_a0x365:Nat) (a0x365:Array Value):∀ t:Int×Int,stepV Tryz.prog (mkΓ []) N (cAt (codeOf Tryz.f80) [1,1,0,1,0,0]) (pAt (mkPlan (codeOf Tryz.f80) [([3,9],[])]).1 [1,1,0,1,0]) [3,9] [] (Zb6 a0 b_a0x365 n_a0x365 a0x365) (Zc7 t)=mapS Zc7 Zf7 (Za8 Tryz.prog a0 b_a0x365 n_a0x365 a0x365 t):=by
 rintro ⟨y0_3,y0_9⟩
 refine Eq.trans (b:=(bif decide (y0_9<(n_a0x365:Int)) then (bif (decide (0≤y0_9)&&decide (y0_9<(n_a0x365:Int))) then (some (.more ([.a (.i .i64 (i64.wrap (y0_3+(i64.wrap (num (a0x365.extract ((y0_9).toNat*3) (((y0_9).toNat*3)+3)) 2))))),.a (.i .i64 (i64.wrap (y0_9+(1:Int))))],[])))
   else (none))
  else (some (.done ((.exit 0),([.a (.i .i64 (y0_3)),.a (.i .i64 (y0_9))],[])))))) (by kernel_rfl) ?_
 simp only [Za8,Zay,Zaz,Zax,Zaw,Zc7,Zf7]
def Zfa (P:Program) (N:Nat) (a0:Array Value) (b_a0x365:Option (Option Addr)) (n_a0x365:Nat) (a0x365:Array Value) (z0_3:Int) (z0_9:Int):Option (SV×Eff×Bool):=some (.a (.i .i64 (z0_3)),.none,true)
theorem Zk3 (N:Nat) (a0:Array Value) (b_a0x365:Option (Option Addr)) (n_a0x365:Nat) (a0x365:Array Value) (z0_3:Int) (z0_9:Int):(kBlock 0 (kSeq (veC Tryz.prog (mkΓ []) N (cAt (codeOf Tryz.f80) [1,1,1]) (pAt (mkPlan (codeOf Tryz.f80) [([3,9],[])]).1 [1,1,1]) (SV×Eff×Bool)) (finK Tryz.prog [.sl (.came b_a0x365) n_a0x365 a0x365 95] [.tmp 2]))) (.exit 0) (left (writes (cAt (codeOf Tryz.f80) [1,1,0,1,0,0])) [3,9] [] (Zb6 a0 b_a0x365 n_a0x365 a0x365) ([.a (.i .i64 (z0_3)),.a (.i .i64 (z0_9))],[]))=Zfa Tryz.prog N a0 b_a0x365 n_a0x365 a0x365 z0_3 z0_9:=by
 refine Eq.trans (b:=(some (.a (.i .i64 (z0_3)),.none,true))) (by kernel_rfl) ?_
 rfl
theorem Zn9 (N:Nat) (a0:Array Value) (b_a0x365:Option (Option Addr)) (n_a0x365:Nat) (a0x365:Array Value):bindX (iterO (stepV Tryz.prog (mkΓ []) N (cAt (codeOf Tryz.f80) [1,1,0,1,0,0]) (pAt (mkPlan (codeOf Tryz.f80) [([3,9],[])]).1 [1,1,0,1,0]) [3,9] [] (Zb6 a0 b_a0x365 n_a0x365 a0x365)) N ([.a (.i .i64 (0:Int)),.a (.i .i64 (0:Int))],[])) (fun e s=>(kBlock 0 (kSeq (veC Tryz.prog (mkΓ []) N (cAt (codeOf Tryz.f80) [1,1,1]) (pAt (mkPlan (codeOf Tryz.f80) [([3,9],[])]).1 [1,1,1]) (SV×Eff×Bool)) (finK Tryz.prog [.sl (.came b_a0x365) n_a0x365 a0x365 95] [.tmp 2]))) e (left (writes (cAt (codeOf Tryz.f80) [1,1,0,1,0,0])) [3,9] [] (Zb6 a0 b_a0x365 n_a0x365 a0x365) s))=nodeX (iterO (Za8 Tryz.prog a0 b_a0x365 n_a0x365 a0x365) N ((0:Int),(0:Int))) (fun x=>Zfa Tryz.prog N a0 b_a0x365 n_a0x365 a0x365 x.1 x.2):=by
 refine Zbc Zc7 Zf7 _ _ (Zog N a0 b_a0x365 n_a0x365 a0x365) N ((0:Int),(0:Int)) _ _ ?_
 intro x;exact Zk3 N a0 b_a0x365 n_a0x365 a0x365 x.1 x.2
theorem Znj (N:Nat) (a0:Array Value) (b_a0x365:Option (Option Addr)) (n_a0x365:Nat) (a0x365:Array Value):ansV Tryz.prog (mkΓ []) N Tryz.f80 [([3,9],[])] [.r a0 71 [(365,0)]] [.sl (.came b_a0x365) n_a0x365 a0x365 95]=(nodeX (iterO (Za8 Tryz.prog a0 b_a0x365 n_a0x365 a0x365) N ((0:Int),(0:Int))) (fun x=>Zfa Tryz.prog N a0 b_a0x365 n_a0x365 a0x365 x.1 x.2)):=by
 refine Eq.trans (b:=(bindX (iterO (stepV Tryz.prog (mkΓ []) N (cAt (codeOf Tryz.f80) [1,1,0,1,0,0]) (pAt (mkPlan (codeOf Tryz.f80) [([3,9],[])]).1 [1,1,0,1,0]) [3,9] [] (Zb6 a0 b_a0x365 n_a0x365 a0x365)) N ([.a (.i .i64 (0:Int)),.a (.i .i64 (0:Int))],[])) (fun e s=>(kBlock 0 (kSeq (veC Tryz.prog (mkΓ []) N (cAt (codeOf Tryz.f80) [1,1,1]) (pAt (mkPlan (codeOf Tryz.f80) [([3,9],[])]).1 [1,1,1]) (SV×Eff×Bool)) (finK Tryz.prog [.sl (.came b_a0x365) n_a0x365 a0x365 95] [.tmp 2]))) e (left (writes (cAt (codeOf Tryz.f80) [1,1,0,1,0,0])) [3,9] [] (Zb6 a0 b_a0x365 n_a0x365 a0x365) s)))) (by kernel_rfl) ?_
 simp only [Zn9 N a0 b_a0x365 n_a0x365 a0x365]
theorem Zmr (a0:Array Value) (b_a0x365:Option (Option Addr)) (n_a0x365:Nat) (a0x365:Array Value) (h_a0:WT Tryz.prog 71 a0) (h_a0x365:a0x365.size=n_a0x365*(lay Tryz.prog 95).length∧(∀ k,k<n_a0x365→WT Tryz.prog 95 (a0x365.extract (k*(lay Tryz.prog 95).length) (k*(lay Tryz.prog 95).length+(lay Tryz.prog 95).length)))∧n_a0x365≤9223372036854775807) (hg:(true)=true):ansV Tryz.prog (mkΓ []) 18446744073709551616 Tryz.f80 [([3,9],[])] [.r a0 71 [(365,0)]] [.sl (.came b_a0x365) n_a0x365 a0x365 95]=some (.a (.i .i64 (wsum a0x365 n_a0x365)),.none,true):=by
 have hn:=h_a0x365.2.2
 refine (Znj 18446744073709551616 a0 b_a0x365 n_a0x365 a0x365).trans ?_
 have h:=Zei (g:=Za8 Tryz.prog a0 b_a0x365 n_a0x365 a0x365) (fun k=>(wsum a0x365 k,(k:Int))) (m:=n_a0x365) (x:=(wsum a0x365 n_a0x365,(n_a0x365:Int))) (N:=18446744073709551616) (fun k hk=>by
  have h1:decide ((k:Int)<(n_a0x365:Int))=true:=decide_eq_true (by omega)
  have h0:decide (0≤(k:Int))=true:=decide_eq_true (by omega)
  have h3:i64.wrap ((k:Int)+1)=((k+1:Nat):Int):=by rw [IntWalk.i64_in _ (by omega)];omega
  simp only [Za8,h1,h0,Bool.and_self,Int.toNat_natCast,cond_true,h3]
  rfl) (by
  have h1:decide ((n_a0x365:Int)<(n_a0x365:Int))=false:=decide_eq_false (by omega)
  simp only [Za8,h1,cond_false]) (by omega)
 have h':iterO (Za8 Tryz.prog a0 b_a0x365 n_a0x365 a0x365) 18446744073709551616 ((0:Int),(0:Int))=some (wsum a0x365 n_a0x365,(n_a0x365:Int)):=h
 rw [h']
 rfl
def Zfl:Con:=fun args h=>match args,h with
 | [.r a0 71 [(365,0)]],[.sl (.came b_a0x365) n_a0x365 a0x365 95]=>some (.a (.i .i64 (wsum a0x365 n_a0x365)),.none,true)
 | _,_=>none
theorem Zmi:EntX Tryz.prog 80:=Zaf (fn:=Tryz.f80) (by kernel_rfl) (by kernel_rfl) (by kernel_rfl)
theorem Zn8:ConOkX (md F) Tryz.prog 80 Zfl:=(Zag (N:=18446744073709551616) (by kernel_rfl) mkΓ_nilX (fn:=Tryz.f80) (by kernel_rfl) (by kernel_rfl) [([3,9],[])]).of (by
 intro ρ h w args vals r e hA hH hr
 unfold Zfl at hr
 split at hr
 ·rename_i a0 b_a0x365 n_a0x365 a0x365
  obtain ⟨rfl,hg⟩:=Prod.mk.inj (Option.some.inj hr)
  obtain ⟨rfl,hg2⟩:=Prod.mk.inj hg
  exact Zmr a0 b_a0x365 n_a0x365 a0x365 (hA.wtr 0 rfl) (hH.slw 0 rfl) hg2
 ·cases hr)
def Zeu:Cons:=(mkΓ [(58,con Zcn),(59,con Zgk),(61,con Zjw)])
def Zfk (a0 a1:Array Value) (b_a1x2:Option (Option Addr)) (n_a1x2:Nat) (a1x2:Array Value):St:=(⟨.a (.w 0) :: .a (.w 1) :: .a (.u) :: .a (.u) :: .a (.b (false)) :: .a (.i .i64 (0:Int)) :: .a (.i .i64 (0:Int)) :: .a (.u) :: .a (.w 1) :: .a (.w 1) :: .a (.p 1 (0) 22) :: .a (.i .i8 (num a1 0)) :: .a (.i .i64 (i64.wrap (num a1 0))) :: .a (.b ((Zaa (i64.wrap (num a1 0)) (0:Int) (1:Int)))) :: .a (.b ((!((Zaa (i64.wrap (num a1 0)) (0:Int) (1:Int)))))) :: .a (.b (false)) :: .a (.w 1) :: .a (.w 1) :: .a (.p 1 (1) 22) :: .a (.i .i8 (num a1 1)) :: .a (.i .i64 (i64.wrap (num a1 1))) :: .a (.b ((Zaa (i64.wrap (num a1 1)) (1:Int) (8:Int)))) :: .a (.b ((!((Zaa (i64.wrap (num a1 1)) (1:Int) (8:Int)))))) :: .a (.b ((!((Zaa (i64.wrap (num a1 1)) (1:Int) (8:Int)))))) :: .a (.b (false)) :: .a (.w 1) :: .a (.w 1) :: .a (.p 1 (2) 43) :: .a (.l 2) :: .a (.i .i64 (n_a1x2:Int)) :: .a (.b (decide ((n_a1x2:Int) > (12:Int)))) :: .a (.b (decide ((n_a1x2:Int) > (12:Int))))::us 49 ([]),[.row a0 41,.one (.r a1 45 [(2,2)]) 45,.sl (.came b_a1x2) n_a1x2 a1x2 95],[]⟩:St)
def Zgv:Bool×Int×Int→LS
 | (y0_4,y0_5,y0_6)=>([.a (.b (y0_4)),.a (.i .i64 (y0_5)),.a (.i .i64 (y0_6))],[])
def Znu:(Stp (Bool×Int×Int) (Bool×Int×Int))→Exit×LS
 | .more t=>(.ret,Zgv t)
 | .done t=>((.exit 0),Zgv t)
def Zdi (P : Program) (a0 a1 : Array Value) (b_a1x2 : Option (Option Addr)) (n_a1x2 : Nat) (a1x2 : Array Value) : Bool × Int × Int → Option (Stp (Bool × Int × Int) (Stp (Bool × Int × Int) (Bool × Int × Int)))
 | (y0_4, y0_5, y0_6) => bif decide (y0_6 < (n_a1x2 : Int)) then (bif (decide (0 ≤ y0_6) && decide (y0_6 < (n_a1x2 : Int))) then (bif (Za1 (i64.wrap (num (a1x2.extract ((y0_6).toNat * 3) (((y0_6).toNat * 3) + 3)) 0)) a0) then (bif (!((Zae (i64.wrap (num (a1x2.extract ((y0_6).toNat * 3) (((y0_6).toNat * 3) + 3)) 0)) a0))) then (some (.done (.more (false, y0_5, y0_6))))
     else (bif (!((Zaa (i64.wrap (num (a1x2.extract ((y0_6).toNat * 3) (((y0_6).toNat * 3) + 3)) 1)) (0 : Int) (i64.wrap ((i64.wrap (num a1 1)) - (1 : Int)))))) then (some (.done (.more (false, y0_5, y0_6))))
      else (bif (!((Zaa (i64.wrap (num (a1x2.extract ((y0_6).toNat * 3) (((y0_6).toNat * 3) + 3)) 2)) (1 : Int) (200 : Int)))) then (some (.done (.more (false, y0_5, y0_6))))
       else (some (.more (y0_4, (i64.wrap (y0_5 + (i64.wrap (num (a1x2.extract ((y0_6).toNat * 3) (((y0_6).toNat * 3) + 3)) 2)))), (i64.wrap (y0_6 + (1 : Int)))))))))
    else (none))
   else (none))
  else (some (.done (.done (y0_4, y0_5, y0_6))))
theorem Yd9 (N:Nat) (a0 a1:Array Value) (b_a1x2:Option (Option Addr)) (n_a1x2:Nat) (a1x2:Array Value):∀ t:Bool×Int×Int,stepV Tryz.prog Zeu N (cAt (codeOf Tryz.f39) [1,1,1,0,1,0,0]) (pAt (mkPlan (codeOf Tryz.f39) [([4,5,6],[])]).1 [1,1,1,0,1,0]) [4,5,6] [] (Zfk a0 a1 b_a1x2 n_a1x2 a1x2) (Zgv t)=mapS Zgv Znu (Zdi Tryz.prog a0 a1 b_a1x2 n_a1x2 a1x2 t):=by
 rintro ⟨y0_4,y0_5,y0_6⟩
 refine Eq.trans (b:=(bif decide (y0_6<(n_a1x2:Int)) then (bif (decide (0≤y0_6)&&decide (y0_6<(n_a1x2:Int))) then (bif (Za1 (i64.wrap (num (a1x2.extract ((y0_6).toNat*3) (((y0_6).toNat*3)+3)) 0)) a0) then (bif (!((Zae (i64.wrap (num (a1x2.extract ((y0_6).toNat*3) (((y0_6).toNat*3)+3)) 0)) a0))) then (some (.done (.ret,([.a (.b (false)),.a (.i .i64 (y0_5)),.a (.i .i64 (y0_6))],[]))))
     else (bif (!((Zaa (i64.wrap (num (a1x2.extract ((y0_6).toNat*3) (((y0_6).toNat*3)+3)) 1)) (0:Int) (i64.wrap ((i64.wrap (num a1 1)) - (1:Int)))))) then (some (.done (.ret,([.a (.b (false)),.a (.i .i64 (y0_5)),.a (.i .i64 (y0_6))],[]))))
      else (bif (!((Zaa (i64.wrap (num (a1x2.extract ((y0_6).toNat*3) (((y0_6).toNat*3)+3)) 2)) (1:Int) (200:Int)))) then (some (.done (.ret,([.a (.b (false)),.a (.i .i64 (y0_5)),.a (.i .i64 (y0_6))],[]))))
       else (some (.more ([.a (.b (y0_4)),.a (.i .i64 (i64.wrap (y0_5+(i64.wrap (num (a1x2.extract ((y0_6).toNat*3) (((y0_6).toNat*3)+3)) 2))))),.a (.i .i64 (i64.wrap (y0_6+(1:Int))))],[]))))))
    else (none))
   else (none))
  else (some (.done ((.exit 0),([.a (.b (y0_4)),.a (.i .i64 (y0_5)),.a (.i .i64 (y0_6))],[])))))) (by kernel_rfl) ?_
 simp only [Zdi,Zay,Zaz,Zax,Zaw,Zgv,Znu]
def Zk7 (P:Program) (N:Nat) (a0 a1:Array Value) (b_a1x2:Option (Option Addr)) (n_a1x2:Nat) (a1x2:Array Value) (z0_4:Bool) (z0_5:Int) (z0_6:Int):Option (SV×Eff×Bool):=some (.a (.b (z0_4)),.none,true)
theorem Zs1 (N:Nat) (a0 a1:Array Value) (b_a1x2:Option (Option Addr)) (n_a1x2:Nat) (a1x2:Array Value) (z0_4:Bool) (z0_5:Int) (z0_6:Int):(kBlock 0 (kSeq (veC Tryz.prog Zeu N (cAt (codeOf Tryz.f39) [1,1,1,1]) (pAt (mkPlan (codeOf Tryz.f39) [([4,5,6],[])]).1 [1,1,1,1]) (SV×Eff×Bool)) (finK Tryz.prog [.row a0 41,.one (.r a1 45 [(2,2)]) 45,.sl (.came b_a1x2) n_a1x2 a1x2 95] [.tmp 4]))) .ret (left (writes (cAt (codeOf Tryz.f39) [1,1,1,0,1,0,0])) [4,5,6] [] (Zfk a0 a1 b_a1x2 n_a1x2 a1x2) ([.a (.b (z0_4)),.a (.i .i64 (z0_5)),.a (.i .i64 (z0_6))],[]))=Zk7 Tryz.prog N a0 a1 b_a1x2 n_a1x2 a1x2 z0_4 z0_5 z0_6:=by
 refine Eq.trans (b:=(some (.a (.b (z0_4)),.none,true))) (by kernel_rfl) ?_
 rfl
def Zlh (P:Program) (N:Nat) (a0 a1:Array Value) (b_a1x2:Option (Option Addr)) (n_a1x2:Nat) (a1x2:Array Value) (z0_4:Bool) (z0_5:Int) (z0_6:Int):Option (SV×Eff×Bool):=some (.a (.b (decide (z0_5≤(1000:Int)))),.none,true)
theorem Zt2 (N:Nat) (a0 a1:Array Value) (b_a1x2:Option (Option Addr)) (n_a1x2:Nat) (a1x2:Array Value) (z0_4:Bool) (z0_5:Int) (z0_6:Int):(kBlock 0 (kSeq (veC Tryz.prog Zeu N (cAt (codeOf Tryz.f39) [1,1,1,1]) (pAt (mkPlan (codeOf Tryz.f39) [([4,5,6],[])]).1 [1,1,1,1]) (SV×Eff×Bool)) (finK Tryz.prog [.row a0 41,.one (.r a1 45 [(2,2)]) 45,.sl (.came b_a1x2) n_a1x2 a1x2 95] [.tmp 4]))) (.exit 0) (left (writes (cAt (codeOf Tryz.f39) [1,1,1,0,1,0,0])) [4,5,6] [] (Zfk a0 a1 b_a1x2 n_a1x2 a1x2) ([.a (.b (z0_4)),.a (.i .i64 (z0_5)),.a (.i .i64 (z0_6))],[]))=Zlh Tryz.prog N a0 a1 b_a1x2 n_a1x2 a1x2 z0_4 z0_5 z0_6:=by
 refine Eq.trans (b:=(some (.a (.b (decide (z0_5≤(1000:Int)))),.none,true))) (by kernel_rfl) ?_
 rfl
theorem Ydu (N:Nat) (a0 a1:Array Value) (b_a1x2:Option (Option Addr)) (n_a1x2:Nat) (a1x2:Array Value):bindX (iterO (stepV Tryz.prog Zeu N (cAt (codeOf Tryz.f39) [1,1,1,0,1,0,0]) (pAt (mkPlan (codeOf Tryz.f39) [([4,5,6],[])]).1 [1,1,1,0,1,0]) [4,5,6] [] (Zfk a0 a1 b_a1x2 n_a1x2 a1x2)) N ([.a (.b (false)),.a (.i .i64 (0:Int)),.a (.i .i64 (0:Int))],[])) (fun e s=>(kBlock 0 (kSeq (veC Tryz.prog Zeu N (cAt (codeOf Tryz.f39) [1,1,1,1]) (pAt (mkPlan (codeOf Tryz.f39) [([4,5,6],[])]).1 [1,1,1,1]) (SV×Eff×Bool)) (finK Tryz.prog [.row a0 41,.one (.r a1 45 [(2,2)]) 45,.sl (.came b_a1x2) n_a1x2 a1x2 95] [.tmp 4]))) e (left (writes (cAt (codeOf Tryz.f39) [1,1,1,0,1,0,0])) [4,5,6] [] (Zfk a0 a1 b_a1x2 n_a1x2 a1x2) s))=nodeX (iterO (Zdi Tryz.prog a0 a1 b_a1x2 n_a1x2 a1x2) N (false,(0:Int),(0:Int))) (st2 (fun x=>Zk7 Tryz.prog N a0 a1 b_a1x2 n_a1x2 a1x2 x.1 x.2.1 x.2.2) (fun x=>Zlh Tryz.prog N a0 a1 b_a1x2 n_a1x2 a1x2 x.1 x.2.1 x.2.2)):=by
 refine Zbc Zgv Znu _ _ (Yd9 N a0 a1 b_a1x2 n_a1x2 a1x2) N (false,(0:Int),(0:Int)) _ _ ?_
 intro x
 cases x with
 | more x=>exact Zs1 N a0 a1 b_a1x2 n_a1x2 a1x2 x.1 x.2.1 x.2.2
 | done x=>exact Zt2 N a0 a1 b_a1x2 n_a1x2 a1x2 x.1 x.2.1 x.2.2
theorem Yca (N:Nat) (a0 a1:Array Value) (b_a1x2:Option (Option Addr)) (n_a1x2:Nat) (a1x2:Array Value):ansV Tryz.prog Zeu N Tryz.f39 [([4,5,6],[])] [.w 0,.w 1] [.row a0 41,.one (.r a1 45 [(2,2)]) 45,.sl (.came b_a1x2) n_a1x2 a1x2 95]=(bif (!((Zaa (i64.wrap (num a1 0)) (0:Int) (1:Int)))) then (some (.a (.b (false)),.none,true))
  else (bif (!((Zaa (i64.wrap (num a1 1)) (1:Int) (8:Int)))) then (some (.a (.b (false)),.none,true))
   else (bif decide ((n_a1x2:Int) > (12:Int)) then (some (.a (.b (false)),.none,true))
    else (nodeX (iterO (Zdi Tryz.prog a0 a1 b_a1x2 n_a1x2 a1x2) N (false,(0:Int),(0:Int))) (st2 (fun x=>Zk7 Tryz.prog N a0 a1 b_a1x2 n_a1x2 a1x2 x.1 x.2.1 x.2.2) (fun x=>Zlh Tryz.prog N a0 a1 b_a1x2 n_a1x2 a1x2 x.1 x.2.1 x.2.2)))))):=by
 refine Eq.trans (b:=(bif (!((Zaa (i64.wrap (num a1 0)) (0:Int) (1:Int)))) then (some (.a (.b (false)),.none,true))
  else (bif (!((Zaa (i64.wrap (num a1 1)) (1:Int) (8:Int)))) then (some (.a (.b (false)),.none,true))
   else (bif decide ((n_a1x2:Int) > (12:Int)) then (some (.a (.b (false)),.none,true))
    else (bindX (iterO (stepV Tryz.prog Zeu N (cAt (codeOf Tryz.f39) [1,1,1,0,1,0,0]) (pAt (mkPlan (codeOf Tryz.f39) [([4,5,6],[])]).1 [1,1,1,0,1,0]) [4,5,6] [] (Zfk a0 a1 b_a1x2 n_a1x2 a1x2)) N ([.a (.b (false)),.a (.i .i64 (0:Int)),.a (.i .i64 (0:Int))],[])) (fun e s=>(kBlock 0 (kSeq (veC Tryz.prog Zeu N (cAt (codeOf Tryz.f39) [1,1,1,1]) (pAt (mkPlan (codeOf Tryz.f39) [([4,5,6],[])]).1 [1,1,1,1]) (SV×Eff×Bool)) (finK Tryz.prog [.row a0 41,.one (.r a1 45 [(2,2)]) 45,.sl (.came b_a1x2) n_a1x2 a1x2 95] [.tmp 4]))) e (left (writes (cAt (codeOf Tryz.f39) [1,1,1,0,1,0,0])) [4,5,6] [] (Zfk a0 a1 b_a1x2 n_a1x2 a1x2) s))))))) (by kernel_rfl) ?_
 simp only [Ydu N a0 a1 b_a1x2 n_a1x2 a1x2]
theorem Ya7 (a0 a1:Array Value) (b_a1x2:Option (Option Addr)) (n_a1x2:Nat) (a1x2:Array Value) (h_a0:WT Tryz.prog 41 a0) (h_a1:WT Tryz.prog 45 a1) (h_a1x2:a1x2.size=n_a1x2*(lay Tryz.prog 95).length∧(∀ k,k<n_a1x2→WT Tryz.prog 95 (a1x2.extract (k*(lay Tryz.prog 95).length) (k*(lay Tryz.prog 95).length+(lay Tryz.prog 95).length)))∧n_a1x2≤9223372036854775807) (hg:(true)=true):ansV Tryz.prog Zeu 18446744073709551616 Tryz.f39 [([4,5,6],[])] [.w 0,.w 1] [.row a0 41,.one (.r a1 45 [(2,2)]) 45,.sl (.came b_a1x2) n_a1x2 a1x2 95]=some (.a (.b ((planB a0 a1 n_a1x2 a1x2))),.none,true):=by
 have hn:=h_a1x2.2.2
 refine (Yca 18446744073709551616 a0 a1 b_a1x2 n_a1x2 a1x2).trans ?_
 unfold planB
 cases Zaa (i64.wrap (num a1 0)) 0 1
 ·rfl
 cases Zaa (i64.wrap (num a1 1)) 1 8
 ·rfl
 cases decide ((n_a1x2:Int) > 12)
 rotate_left
 ·rfl
 simp only [Bool.not_true,Bool.not_false,cond_false,Bool.true_and]
 have wet:∀ k,Za1 (i64.wrap (num (a1x2.extract (k*3) (k*3+3)) 0)) a0=true:=fun k=>by
  unfold Za1
  cases Za0 (i64.wrap (num (a1x2.extract (k*3) (k*3+3)) 0)) a0
  ·rfl
  ·exact decide_eq_true (Zgl .u64 _).1
 refine (Zwn (g:=Zdi Tryz.prog a0 a1 b_a1x2 n_a1x2 a1x2) (fun k=>(false,wsum a1x2 k,(k:Int))) (fun k=>relB a0 (i64.wrap (num a1 1)) (a1x2.extract (k*3) (k*3+3))) n_a1x2 (N:=18446744073709551616) (xd:=.done (false,wsum a1x2 n_a1x2,(n_a1x2:Int))) (by omega) (fun k hk hp=>by
  have h1:decide ((k:Int)<(n_a1x2:Int))=true:=decide_eq_true (by omega)
  have h0:decide (0≤(k:Int))=true:=decide_eq_true (by omega)
  have h3:i64.wrap ((k:Int)+1)=((k+1:Nat):Int):=by rw [IntWalk.i64_in _ (by omega)];omega
  have hp':relB a0 (i64.wrap (num a1 1)) (a1x2.extract (k*3) (k*3+3))=true:=hp
  unfold relB at hp'
  simp only [Bool.and_eq_true] at hp'
  simp only [Zdi,h1,h0,h3,Bool.and_self,Int.toNat_natCast,cond_true,cond_false,wet,hp'.1,hp'.2.1,hp'.2.2,Bool.not_true]
  rfl) (by
  have h1:decide ((n_a1x2:Int)<(n_a1x2:Int))=false:=decide_eq_false (by omega)
  simp only [Zdi,h1,cond_false]) (relAll a0 (i64.wrap (num a1 1)) n_a1x2 a1x2) (Zqd a0 _ n_a1x2 a1x2) (some (.a (.b (decide (wsum a1x2 n_a1x2≤1000))),.none,true)) (some (.a (.b false),.none,true)) rfl (fun k hk hp=>by
  refine ⟨.more (false,wsum a1x2 k,(k:Int)), ?_,rfl⟩
  have h1:decide ((k:Int)<(n_a1x2:Int))=true:=decide_eq_true (by omega)
  have h0:decide (0≤(k:Int))=true:=decide_eq_true (by omega)
  have h3:i64.wrap ((k:Int)+1)=((k+1:Nat):Int):=by rw [IntWalk.i64_in _ (by omega)];omega
  have hp':relB a0 (i64.wrap (num a1 1)) (a1x2.extract (k*3) (k*3+3))=false:=hp
  unfold relB at hp'
  cases x1:Zae (i64.wrap (num (a1x2.extract (k*3) (k*3+3)) 0)) a0
  ·simp only [Zdi,h1,h0,h3,Bool.and_self,Int.toNat_natCast,cond_true,wet,x1,Bool.not_false]
  ·cases x2:Zaa (i64.wrap (num (a1x2.extract (k*3) (k*3+3)) 1)) 0 (i64.wrap (i64.wrap (num a1 1) - 1))
   ·simp only [Zdi,h1,h0,h3,Bool.and_self,Int.toNat_natCast,cond_true,cond_false,wet,x1,x2,Bool.not_true,Bool.not_false]
   ·rw [x1,x2] at hp'
    simp only [Bool.true_and] at hp'
    simp only [Zdi,h1,h0,h3,Bool.and_self,Int.toNat_natCast,cond_true,cond_false,wet,x1,x2,hp',Bool.not_true,Bool.not_false])).trans ?_
 cases relAll a0 (i64.wrap (num a1 1)) n_a1x2 a1x2<;>rfl
def Zmg:Con:=fun args h=>match args,h with
 | [.w 0,.w 1],[.row a0 41,.one (.r a1 45 [(2,2)]) 45,.sl (.came b_a1x2) n_a1x2 a1x2 95]=>some (.a (.b ((planB a0 a1 n_a1x2 a1x2))),.none,true)
 | _,_=>none
theorem Zxz:EntX Tryz.prog 39:=Zaf (fn:=Tryz.f39) (by kernel_rfl) (by kernel_rfl) (by kernel_rfl)
theorem Yd0:ConOkX (md F) Tryz.prog 39 Zmg:=(Zag (N:=18446744073709551616) (by kernel_rfl) (mkΓ_consX (Zad Ziv) Zfx (mkΓ_consX (Zad Zmd) Zi5 (mkΓ_consX (Zad Ybi) Ztw mkΓ_nilX))) (fn:=Tryz.f39) (by kernel_rfl) (by kernel_rfl) [([4,5,6],[])]).of (by
 intro ρ h w args vals r e hA hH hr
 unfold Zmg at hr
 split at hr
 ·rename_i a0 a1 b_a1x2 n_a1x2 a1x2
  obtain ⟨rfl,hg⟩:=Prod.mk.inj (Option.some.inj hr)
  obtain ⟨rfl,hg2⟩:=Prod.mk.inj hg
  exact Ya7 a0 a1 b_a1x2 n_a1x2 a1x2 (hH.wt 0 rfl) (hH.wtr 1 rfl) (hH.slw 2 rfl) hg2
 ·cases hr)
def Zcg:Cons:=(mkΓ [(66,con Zg4),(77,con Zjd),(78,con Zeh),(79,con Zgh),(80,con Zfl)])
def Zda (a0 a1:Array Value) (b_a1x2:Option (Option Addr)) (n_a1x2:Nat) (a1x2:Array Value):St:=(⟨.a (.g a0 41) :: .a (.r a1 45 [(2,0)]) :: .a (.w 1) :: .a (.w 2) :: .a (.b (false)) :: .a (.w 7) :: .a (.u) :: .a (.u) :: .a (.g a0 41) :: .a (.r a1 45 [(2,0)]) :: .a (.r ((spl (spl (zc Tryz.prog 71) 0 (#[.int .i64 (i64.wrap (num a1 0)),.int .i64 (i64.wrap (num a1 1))]:Array Value).toList) 2 a0.toList).setIfInBounds 365 (.slice none 0 0)) 71 [(365,0)]) :: .a (.g a0 41) :: .a (.b ((okS a0))) :: .a (.b ((!((okS a0))))) :: .a (.b (false)) :: .a (.p 7 (0) 69) :: .a (.g (((spl (spl (zc Tryz.prog 71) 0 (#[.int .i64 (i64.wrap (num a1 0)),.int .i64 (i64.wrap (num a1 1))]:Array Value).toList) 2 a0.toList).setIfInBounds 365 (.slice none 0 0)).extract 0 (0+2)) 69) :: .a (.b ((Zaj (((spl (spl (zc Tryz.prog 71) 0 (#[.int .i64 (i64.wrap (num a1 0)),.int .i64 (i64.wrap (num a1 1))]:Array Value).toList) 2 a0.toList).setIfInBounds 365 (.slice none 0 0)).extract 0 (0+2))))) :: .a (.b ((!((Zaj (((spl (spl (zc Tryz.prog 71) 0 (#[.int .i64 (i64.wrap (num a1 0)),.int .i64 (i64.wrap (num a1 1))]:Array Value).toList) 2 a0.toList).setIfInBounds 365 (.slice none 0 0)).extract 0 (0+2))))))) :: .a (.b ((!((Zaj (((spl (spl (zc Tryz.prog 71) 0 (#[.int .i64 (i64.wrap (num a1 0)),.int .i64 (i64.wrap (num a1 1))]:Array Value).toList) 2 a0.toList).setIfInBounds 365 (.slice none 0 0)).extract 0 (0+2))))))) :: .a (.b (false)) :: .a (.p 2 (2) 43) :: .a (.l 0) :: .a (.i .i64 (n_a1x2:Int)) :: .a (.b (decide ((n_a1x2:Int) > (12:Int)))) :: .a (.b (decide ((n_a1x2:Int) > (12:Int)))) :: .a (.p 2 (2) 43) :: .a (.l 0) :: .a (.i .i64 (n_a1x2:Int)) :: .a (.i .i64 (0:Int))::us 11 ([]),[.sl (.came b_a1x2) n_a1x2 a1x2 95,.row a0 41,.one (.r a1 45 [(2,0)]) 45,.no,.no,.no,.no,.one (.r ((spl (spl (zc Tryz.prog 71) 0 (#[.int .i64 (i64.wrap (num a1 0)),.int .i64 (i64.wrap (num a1 1))]:Array Value).toList) 2 a0.toList).setIfInBounds 365 (.slice none 0 0)) 71 [(365,0)]) 71,.no],[7]⟩:St)
def Zd9:Bool×Int→LS
 | (y0_4,y0_29)=>([.a (.b (y0_4)),.a (.i .i64 (y0_29))],[])
def Zi0:(Stp (Bool×Int) (Bool×Int))→Exit×LS
 | .more t=>(.ret,Zd9 t)
 | .done t=>((.exit 0),Zd9 t)
def Zck (P : Program) (a0 a1 : Array Value) (b_a1x2 : Option (Option Addr)) (n_a1x2 : Nat) (a1x2 : Array Value) : Bool × Int → Option (Stp (Bool × Int) (Stp (Bool × Int) (Bool × Int)))
 | (y0_4, y0_29) => bif decide (y0_29 < (n_a1x2 : Int)) then (bif (decide (0 ≤ y0_29) && decide (y0_29 < (n_a1x2 : Int))) then (bif (Zb0 ((spl (spl (zc Tryz.prog 71) 0 (#[.int .i64 (i64.wrap (num a1 0)), .int .i64 (i64.wrap (num a1 1))] : Array Value).toList) 2 a0.toList).setIfInBounds 365 (.slice none 0 0)) (a1x2.extract ((y0_29).toNat * 3) (((y0_29).toNat * 3) + 3)) b_a1x2 n_a1x2 a1x2) then (bif (!((Zbz ((spl (spl (zc Tryz.prog 71) 0 (#[.int .i64 (i64.wrap (num a1 0)), .int .i64 (i64.wrap (num a1 1))] : Array Value).toList) 2 a0.toList).setIfInBounds 365 (.slice none 0 0)) (a1x2.extract ((y0_29).toNat * 3) (((y0_29).toNat * 3) + 3)) b_a1x2 n_a1x2 a1x2))) then (some (.done (.more (false, y0_29))))
     else (some (.more (y0_4, (i64.wrap (y0_29 + (1 : Int)))))))
    else (none))
   else (none))
  else (some (.done (.done (y0_4, y0_29))))
theorem Zvj (N:Nat) (a0 a1:Array Value) (b_a1x2:Option (Option Addr)) (n_a1x2:Nat) (a1x2:Array Value):∀ t:Bool×Int,stepV Tryz.prog Zcg N (cAt (codeOf Tryz.f65) [1,1,1,0,1,0,0]) (pAt (mkPlan (codeOf Tryz.f65) [([4,29],[])]).1 [1,1,1,0,1,0]) [4,29] [] (Zda a0 a1 b_a1x2 n_a1x2 a1x2) (Zd9 t)=mapS Zd9 Zi0 (Zck Tryz.prog a0 a1 b_a1x2 n_a1x2 a1x2 t):=by
 rintro ⟨y0_4,y0_29⟩
 refine Eq.trans (b:=(bif decide (y0_29<(n_a1x2:Int)) then (bif (decide (0≤y0_29)&&decide (y0_29<(n_a1x2:Int))) then (bif (Zb0 ((spl (spl (zc Tryz.prog 71) 0 (#[.int .i64 (i64.wrap (num a1 0)),.int .i64 (i64.wrap (num a1 1))]:Array Value).toList) 2 a0.toList).setIfInBounds 365 (.slice none 0 0)) (a1x2.extract ((y0_29).toNat*3) (((y0_29).toNat*3)+3)) b_a1x2 n_a1x2 a1x2) then (bif (!((Zbz ((spl (spl (zc Tryz.prog 71) 0 (#[.int .i64 (i64.wrap (num a1 0)),.int .i64 (i64.wrap (num a1 1))]:Array Value).toList) 2 a0.toList).setIfInBounds 365 (.slice none 0 0)) (a1x2.extract ((y0_29).toNat*3) (((y0_29).toNat*3)+3)) b_a1x2 n_a1x2 a1x2))) then (some (.done (.ret,([.a (.b (false)),.a (.i .i64 (y0_29))],[]))))
     else (some (.more ([.a (.b (y0_4)),.a (.i .i64 (i64.wrap (y0_29+(1:Int))))],[]))))
    else (none))
   else (none))
  else (some (.done ((.exit 0),([.a (.b (y0_4)),.a (.i .i64 (y0_29))],[])))))) (by kernel_rfl) ?_
 simp only [Zck,Zay,Zaz,Zax,Zaw,Zd9,Zi0]
def Zh2 (P:Program) (N:Nat) (a0 a1:Array Value) (b_a1x2:Option (Option Addr)) (n_a1x2:Nat) (a1x2:Array Value) (z0_4:Bool) (z0_29:Int):Option (SV×Eff×Bool):=some (.a (.b (z0_4)),.none,true)
theorem Zoo (N:Nat) (a0 a1:Array Value) (b_a1x2:Option (Option Addr)) (n_a1x2:Nat) (a1x2:Array Value) (z0_4:Bool) (z0_29:Int):(kBlock 0 (kSeq (veC Tryz.prog Zcg N (cAt (codeOf Tryz.f65) [1,1,1,1]) (pAt (mkPlan (codeOf Tryz.f65) [([4,29],[])]).1 [1,1,1,1]) (SV×Eff×Bool)) (finK Tryz.prog [.sl (.came b_a1x2) n_a1x2 a1x2 95] [.tmp 4]))) .ret (left (writes (cAt (codeOf Tryz.f65) [1,1,1,0,1,0,0])) [4,29] [] (Zda a0 a1 b_a1x2 n_a1x2 a1x2) ([.a (.b (z0_4)),.a (.i .i64 (z0_29))],[]))=Zh2 Tryz.prog N a0 a1 b_a1x2 n_a1x2 a1x2 z0_4 z0_29:=by
 refine Eq.trans (b:=(some (.a (.b (z0_4)),.none,true))) (by kernel_rfl) ?_
 rfl
def Zhy (P:Program) (N:Nat) (a0 a1:Array Value) (b_a1x2:Option (Option Addr)) (n_a1x2:Nat) (a1x2:Array Value) (z0_4:Bool) (z0_29:Int):Option (SV×Eff×Bool):=some (.a (.b (decide ((wsum a1x2 n_a1x2)≤(1000:Int)))),.none,true)
theorem Zor (N:Nat) (a0 a1:Array Value) (b_a1x2:Option (Option Addr)) (n_a1x2:Nat) (a1x2:Array Value) (z0_4:Bool) (z0_29:Int):(kBlock 0 (kSeq (veC Tryz.prog Zcg N (cAt (codeOf Tryz.f65) [1,1,1,1]) (pAt (mkPlan (codeOf Tryz.f65) [([4,29],[])]).1 [1,1,1,1]) (SV×Eff×Bool)) (finK Tryz.prog [.sl (.came b_a1x2) n_a1x2 a1x2 95] [.tmp 4]))) (.exit 0) (left (writes (cAt (codeOf Tryz.f65) [1,1,1,0,1,0,0])) [4,29] [] (Zda a0 a1 b_a1x2 n_a1x2 a1x2) ([.a (.b (z0_4)),.a (.i .i64 (z0_29))],[]))=Zhy Tryz.prog N a0 a1 b_a1x2 n_a1x2 a1x2 z0_4 z0_29:=by
 refine Eq.trans (b:=(some (.a (.b (decide ((wsum a1x2 n_a1x2)≤(1000:Int)))),.none,true))) (by kernel_rfl) ?_
 rfl
theorem Zwq (N:Nat) (a0 a1:Array Value) (b_a1x2:Option (Option Addr)) (n_a1x2:Nat) (a1x2:Array Value):bindX (iterO (stepV Tryz.prog Zcg N (cAt (codeOf Tryz.f65) [1,1,1,0,1,0,0]) (pAt (mkPlan (codeOf Tryz.f65) [([4,29],[])]).1 [1,1,1,0,1,0]) [4,29] [] (Zda a0 a1 b_a1x2 n_a1x2 a1x2)) N ([.a (.b (false)),.a (.i .i64 (0:Int))],[])) (fun e s=>(kBlock 0 (kSeq (veC Tryz.prog Zcg N (cAt (codeOf Tryz.f65) [1,1,1,1]) (pAt (mkPlan (codeOf Tryz.f65) [([4,29],[])]).1 [1,1,1,1]) (SV×Eff×Bool)) (finK Tryz.prog [.sl (.came b_a1x2) n_a1x2 a1x2 95] [.tmp 4]))) e (left (writes (cAt (codeOf Tryz.f65) [1,1,1,0,1,0,0])) [4,29] [] (Zda a0 a1 b_a1x2 n_a1x2 a1x2) s))=nodeX (iterO (Zck Tryz.prog a0 a1 b_a1x2 n_a1x2 a1x2) N (false,(0:Int))) (st2 (fun x=>Zh2 Tryz.prog N a0 a1 b_a1x2 n_a1x2 a1x2 x.1 x.2) (fun x=>Zhy Tryz.prog N a0 a1 b_a1x2 n_a1x2 a1x2 x.1 x.2)):=by
 refine Zbc Zd9 Zi0 _ _ (Zvj N a0 a1 b_a1x2 n_a1x2 a1x2) N (false,(0:Int)) _ _ ?_
 intro x
 cases x with
 | more x=>exact Zoo N a0 a1 b_a1x2 n_a1x2 a1x2 x.1 x.2
 | done x=>exact Zor N a0 a1 b_a1x2 n_a1x2 a1x2 x.1 x.2
theorem Zua (N:Nat) (a0 a1:Array Value) (b_a1x2:Option (Option Addr)) (n_a1x2:Nat) (a1x2:Array Value):ansV Tryz.prog Zcg N Tryz.f65 [([4,29],[])] [.g a0 41,.r a1 45 [(2,0)]] [.sl (.came b_a1x2) n_a1x2 a1x2 95]=(bif (!((okS a0))) then (some (.a (.b (false)),.none,true))
  else (bif (!((Zaj (((spl (spl (zc Tryz.prog 71) 0 (#[.int .i64 (i64.wrap (num a1 0)),.int .i64 (i64.wrap (num a1 1))]:Array Value).toList) 2 a0.toList).setIfInBounds 365 (.slice none 0 0)).extract 0 (0+2))))) then (some (.a (.b (false)),.none,true))
   else (bif decide ((n_a1x2:Int) > (12:Int)) then (some (.a (.b (false)),.none,true))
    else (nodeX (iterO (Zck Tryz.prog a0 a1 b_a1x2 n_a1x2 a1x2) N (false,(0:Int))) (st2 (fun x=>Zh2 Tryz.prog N a0 a1 b_a1x2 n_a1x2 a1x2 x.1 x.2) (fun x=>Zhy Tryz.prog N a0 a1 b_a1x2 n_a1x2 a1x2 x.1 x.2)))))):=by
 refine Eq.trans (b:=(bif (!((okS a0))) then (some (.a (.b (false)),.none,true))
  else (bif (!((Zaj (((spl (spl (zc Tryz.prog 71) 0 (#[.int .i64 (i64.wrap (num a1 0)),.int .i64 (i64.wrap (num a1 1))]:Array Value).toList) 2 a0.toList).setIfInBounds 365 (.slice none 0 0)).extract 0 (0+2))))) then (some (.a (.b (false)),.none,true))
   else (bif decide ((n_a1x2:Int) > (12:Int)) then (some (.a (.b (false)),.none,true))
    else (bindX (iterO (stepV Tryz.prog Zcg N (cAt (codeOf Tryz.f65) [1,1,1,0,1,0,0]) (pAt (mkPlan (codeOf Tryz.f65) [([4,29],[])]).1 [1,1,1,0,1,0]) [4,29] [] (Zda a0 a1 b_a1x2 n_a1x2 a1x2)) N ([.a (.b (false)),.a (.i .i64 (0:Int))],[])) (fun e s=>(kBlock 0 (kSeq (veC Tryz.prog Zcg N (cAt (codeOf Tryz.f65) [1,1,1,1]) (pAt (mkPlan (codeOf Tryz.f65) [([4,29],[])]).1 [1,1,1,1]) (SV×Eff×Bool)) (finK Tryz.prog [.sl (.came b_a1x2) n_a1x2 a1x2 95] [.tmp 4]))) e (left (writes (cAt (codeOf Tryz.f65) [1,1,1,0,1,0,0])) [4,29] [] (Zda a0 a1 b_a1x2 n_a1x2 a1x2) s))))))) (by kernel_rfl) ?_
 simp only [Zwq N a0 a1 b_a1x2 n_a1x2 a1x2]
theorem Zry (a0 a1:Array Value) (b_a1x2:Option (Option Addr)) (n_a1x2:Nat) (a1x2:Array Value) (h_a0:WT Tryz.prog 41 a0) (h_a1:WT Tryz.prog 45 a1) (h_a1x2:a1x2.size=n_a1x2*(lay Tryz.prog 95).length∧(∀ k,k<n_a1x2→WT Tryz.prog 95 (a1x2.extract (k*(lay Tryz.prog 95).length) (k*(lay Tryz.prog 95).length+(lay Tryz.prog 95).length)))∧n_a1x2≤9223372036854775807) (hg:(true)=true):ansV Tryz.prog Zcg 18446744073709551616 Tryz.f65 [([4,29],[])] [.g a0 41,.r a1 45 [(2,0)]] [.sl (.came b_a1x2) n_a1x2 a1x2 95]=some (.a (.b ((okS a0&&planB a0 a1 n_a1x2 a1x2))),.none,true):=by
 have hn:=h_a1x2.2.2
 have hS:=h_a0
 have hz:a0.size=363:=by rw [h_a0.layLen];kernel_rfl
 obtain ⟨v1,v2⟩:=Zzy (p:=a1) hz
 obtain ⟨-,b0⟩:=h_a1.int (o:=0) (k:=.i8) (by kernel_rfl)
 obtain ⟨-,b1⟩:=h_a1.int (o:=1) (k:=.i8) (by kernel_rfl)
 have e1:IntKind.i8.min = -128:=rfl
 have e2:IntKind.i8.max=127:=rfl
 have w1: -128≤i64.wrap (num a1 1)∧i64.wrap (num a1 1)≤127:=by rw [IntWalk.i64_in _ (by omega)];omega
 have hRE:(lay Tryz.prog 95).length=3:=by kernel_rfl
 refine (Zua 18446744073709551616 a0 a1 b_a1x2 n_a1x2 a1x2).trans ?_
 cases hok:okS a0
 ·rfl
 have hr:Zaj (((spl (spl (zc Tryz.prog 71) 0 (#[.int .i64 (i64.wrap (num a1 0)),.int .i64 (i64.wrap (num a1 1))]:Array Value).toList) 2 a0.toList).setIfInBounds 365 (.slice none 0 0)).extract 0 (0+2))=(Zaa (i64.wrap (num a1 0)) 0 1&&Zaa (i64.wrap (num a1 1)) 1 8):=by
  rw [v2]
  unfold Zaj
  rw [tide_eq]
  show (bif Zaa (i64.wrap (num a1 0)) 0 1 then Zaa (i64.wrap (num a1 1)) 1 8 else false)=_
  cases Zaa (i64.wrap (num a1 0)) 0 1<;>rfl
 unfold planB
 rw [hr]
 cases Zaa (i64.wrap (num a1 0)) 0 1
 ·rfl
 cases Zaa (i64.wrap (num a1 1)) 1 8
 ·rfl
 cases decide ((n_a1x2:Int) > 12)
 rotate_left
 ·rfl
 simp only [Bool.not_true,Bool.not_false,cond_false,Bool.true_and,Bool.and_self]
 have tk:=fun k hk=>takes_eq (S:=a0) (V:=((spl (spl (zc Tryz.prog 71) 0 (#[.int .i64 (i64.wrap (num a1 0)),.int .i64 (i64.wrap (num a1 1))]:Array Value).toList) 2 a0.toList).setIfInBounds 365 (.slice none 0 0))) (X:=a1x2.extract (k*3) (k*3+3)) b_a1x2 n_a1x2 a1x2 hS v1 v2 w1 (by have:=h_a1x2.2.1 k hk;rw [hRE] at this;exact this)
 refine (Zwn (g:=Zck Tryz.prog a0 a1 b_a1x2 n_a1x2 a1x2) (fun k=>(false,(k:Int))) (fun k=>relB a0 (i64.wrap (num a1 1)) (a1x2.extract (k*3) (k*3+3))) n_a1x2 (N:=18446744073709551616) (xd:=.done (false,(n_a1x2:Int))) (by omega) (fun k hk hp=>by
  have h1:decide ((k:Int)<(n_a1x2:Int))=true:=decide_eq_true (by omega)
  have h0:decide (0≤(k:Int))=true:=decide_eq_true (by omega)
  have h3:i64.wrap ((k:Int)+1)=((k+1:Nat):Int):=by rw [IntWalk.i64_in _ (by omega)];omega
  have hp':relB a0 (i64.wrap (num a1 1)) (a1x2.extract (k*3) (k*3+3))=true:=hp
  simp only [Zck,h1,h0,h3,Bool.and_self,Int.toNat_natCast,cond_true,cond_false,(tk k hk).1,(tk k hk).2,hp',Bool.not_true]) (by
  have h1:decide ((n_a1x2:Int)<(n_a1x2:Int))=false:=decide_eq_false (by omega)
  simp only [Zck,h1,cond_false]) (relAll a0 (i64.wrap (num a1 1)) n_a1x2 a1x2) (Zqd a0 _ n_a1x2 a1x2) (some (.a (.b (decide (wsum a1x2 n_a1x2≤1000))),.none,true)) (some (.a (.b false),.none,true)) rfl (fun k hk hp=>by
  refine ⟨.more (false,(k:Int)), ?_,rfl⟩
  have h1:decide ((k:Int)<(n_a1x2:Int))=true:=decide_eq_true (by omega)
  have h0:decide (0≤(k:Int))=true:=decide_eq_true (by omega)
  have h3:i64.wrap ((k:Int)+1)=((k+1:Nat):Int):=by rw [IntWalk.i64_in _ (by omega)];omega
  have hp':relB a0 (i64.wrap (num a1 1)) (a1x2.extract (k*3) (k*3+3))=false:=hp
  simp only [Zck,h1,h0,h3,Bool.and_self,Int.toNat_natCast,cond_true,cond_false,(tk k hk).1,(tk k hk).2,hp',Bool.not_false])).trans ?_
 cases relAll a0 (i64.wrap (num a1 1)) n_a1x2 a1x2<;>rfl
def Ziw:Con:=fun args h=>match args,h with
 | [.g a0 41,.r a1 45 [(2,0)]],[.sl (.came b_a1x2) n_a1x2 a1x2 95]=>some (.a (.b ((okS a0&&planB a0 a1 n_a1x2 a1x2))),.none,true)
 | _,_=>none
theorem Zkk:EntX Tryz.prog 65:=Zaf (fn:=Tryz.f65) (by kernel_rfl) (by kernel_rfl) (by kernel_rfl)
theorem Zm8:ConOkX (md F) Tryz.prog 65 Ziw:=(Zag (N:=18446744073709551616) (by kernel_rfl) (mkΓ_consX (Zad Zjs) Zhq (mkΓ_consX (Zad Zxm) Zsb (mkΓ_consX (Zad Zlw) Zj8 (mkΓ_consX (Zad Zrg) Znv (mkΓ_consX (Zad Zn8) Zmi mkΓ_nilX))))) (fn:=Tryz.f65) (by kernel_rfl) (by kernel_rfl) [([4,29],[])]).of (by
 intro ρ h w args vals r e hA hH hr
 unfold Ziw at hr
 split at hr
 ·rename_i a0 a1 b_a1x2 n_a1x2 a1x2
  obtain ⟨rfl,hg⟩:=Prod.mk.inj (Option.some.inj hr)
  obtain ⟨rfl,hg2⟩:=Prod.mk.inj hg
  exact Zry a0 a1 b_a1x2 n_a1x2 a1x2 (hA.wt 0 rfl) (hA.wtr 1 rfl) (hH.slw 0 rfl) hg2
 ·cases hr)
end
end Go.Proofs.YtflnjkpejbohjaaGreatDoor
