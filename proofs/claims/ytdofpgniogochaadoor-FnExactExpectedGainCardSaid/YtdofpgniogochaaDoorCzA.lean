import Derived.Test.YtdofpgniogochaaDoorProg
import Derived.Test.YtdofpgniogochaaDoorCyR
namespace Go.Proofs.YtdofpgniogochaaDoor
open Go.ChangeShapes Go.WideShapes Go.ChangeAt Go.RowKit Ve Vc
open Tryd (prog)
open IntKind (i64)
set_option linter.unusedVariables false
set_option linter.unusedSimpArgs false
set_option maxRecDepth 100000
noncomputable section
variable {F:Vc.Fd}
def Zb8:Cons:=(mkΓ [(39,con Zf5),(88,con Zgc),(89,con Zeq),(112,con Zho)])
def Zdh (a0:Array Value):St:=(⟨.a (.g a0 35) :: .a (.v (.slice none 0 0)) :: .a (.w 0) :: .a (.u) :: .a (.b (false))::us 3 (.a (.g a0 35) :: .a (.b ((okS a0))) :: .a (.b ((!((okS a0))))) :: .a (.b (false)) :: .a (.v (.slice none 0 0)) :: .a (.i .i64 (0:Int)) :: .a (.b (false)) :: .a (.b (false)) :: .a (.v (.slice none 0 0)) :: .a (.i .i64 (0:Int)) :: .a (.i .i64 (0:Int))::us 23 ([])),[.row a0 35,.no],[]⟩:St)
def Zez:Bool×Int→LS
 | (y0_4,y0_18)=>([.a (.b (y0_4)),.a (.i .i64 (y0_18))],[])
def Zjc:Bool×Int→Exit×LS
 | t=>((.exit 0),Zez t)
def Zgx (P:Program) (a0:Array Value):Bool×Int→Option (Stp (Bool×Int) (Bool×Int))
 | (y0_4,y0_18)=>bif decide (y0_18<(0:Int)) then (none)
  else (some (.done (y0_4,y0_18)))
theorem Zvu (N:Nat) (a0:Array Value):∀ t:Bool×Int,stepV prog Zb8 N (cAt (codeOf Tryd.f110) [1,1,0,1,0,0]) (pAt (mkPlan (codeOf Tryd.f110) [([4,18],[])]).1 [1,1,0,1,0]) [4,18] [] (Zdh a0) (Zez t)=mapS Zez Zjc (Zgx prog a0 t):=by
 rintro ⟨y0_4,y0_18⟩
 refine Eq.trans (b:=(bif decide (y0_18<(0:Int)) then (none)
  else (some (.done ((.exit 0),([.a (.b (y0_4)),.a (.i .i64 (y0_18))],[])))))) (by kernel_rfl) ?_
 simp only [Zgx,Zav,Zas,Zat,Zau,Zez,Zjc]
def Zh5 (P:Program) (N:Nat) (a0:Array Value) (z0_4:Bool) (z0_18:Int):Option (SV×Eff×Bool):=some (.a (.b (true)),.none,true)
theorem Zoy (N:Nat) (a0:Array Value) (z0_4:Bool) (z0_18:Int):(kBlock 0 (kSeq (veC prog Zb8 N (cAt (codeOf Tryd.f110) [1,1,1]) (pAt (mkPlan (codeOf Tryd.f110) [([4,18],[])]).1 [1,1,1]) (SV×Eff×Bool)) (finK prog [] [.tmp 4]))) (.exit 0) (left (writes (cAt (codeOf Tryd.f110) [1,1,0,1,0,0])) [4,18] [] (Zdh a0) ([.a (.b (z0_4)),.a (.i .i64 (z0_18))],[]))=Zh5 prog N a0 z0_4 z0_18:=by
 refine Eq.trans (b:=(some (.a (.b (true)),.none,true))) (by kernel_rfl) ?_
 rfl
theorem Zvw (N:Nat) (a0:Array Value):bindX (iterO (stepV prog Zb8 N (cAt (codeOf Tryd.f110) [1,1,0,1,0,0]) (pAt (mkPlan (codeOf Tryd.f110) [([4,18],[])]).1 [1,1,0,1,0]) [4,18] [] (Zdh a0)) N ([.a (.b (false)),.a (.i .i64 (0:Int))],[])) (fun e s=>(kBlock 0 (kSeq (veC prog Zb8 N (cAt (codeOf Tryd.f110) [1,1,1]) (pAt (mkPlan (codeOf Tryd.f110) [([4,18],[])]).1 [1,1,1]) (SV×Eff×Bool)) (finK prog [] [.tmp 4]))) e (left (writes (cAt (codeOf Tryd.f110) [1,1,0,1,0,0])) [4,18] [] (Zdh a0) s))=nodeX (iterO (Zgx prog a0) N (false,(0:Int))) (fun x=>Zh5 prog N a0 x.1 x.2):=by
 refine Za9 Zez Zjc _ _ (Zvu N a0) N (false,(0:Int)) _ _ ?_
 intro x;exact Zoy N a0 x.1 x.2
theorem Ztp (N:Nat) (a0:Array Value):ansV prog Zb8 N Tryd.f110 [([4,18],[])] [.g a0 35,.v (.slice none 0 0)] []=(bif (!((okS a0))) then (some (.a (.b (false)),.none,true))
  else (nodeX (iterO (Zgx prog a0) N (false,(0:Int))) (fun x=>Zh5 prog N a0 x.1 x.2))):=by
 refine Eq.trans (b:=(bif (!((okS a0))) then (some (.a (.b (false)),.none,true))
  else (bindX (iterO (stepV prog Zb8 N (cAt (codeOf Tryd.f110) [1,1,0,1,0,0]) (pAt (mkPlan (codeOf Tryd.f110) [([4,18],[])]).1 [1,1,0,1,0]) [4,18] [] (Zdh a0)) N ([.a (.b (false)),.a (.i .i64 (0:Int))],[])) (fun e s=>(kBlock 0 (kSeq (veC prog Zb8 N (cAt (codeOf Tryd.f110) [1,1,1]) (pAt (mkPlan (codeOf Tryd.f110) [([4,18],[])]).1 [1,1,1]) (SV×Eff×Bool)) (finK prog [] [.tmp 4]))) e (left (writes (cAt (codeOf Tryd.f110) [1,1,0,1,0,0])) [4,18] [] (Zdh a0) s))))) (by kernel_rfl) ?_
 simp only [Zvw N a0]
theorem Zrw (a0:Array Value) (h_a0:WT prog 35 a0) (hg:(true)=true):ansV prog Zb8 1000 Tryd.f110 [([4,18],[])] [.g a0 35,.v (.slice none 0 0)] []=some (.a (.b ((okS a0))),.none,true):=by
 refine (Ztp 1000 a0).trans ?_
 cases okS a0<;>rfl
def Zis:Con:=fun args h=>match args,h with
 | [.g a0 35,.v (.slice none 0 0)],[]=>some (.a (.b ((okS a0))),.none,true)
 | _,_=>none
theorem Zql:EntX prog 110:=Zai (fn:=Tryd.f110) (by kernel_rfl) (by kernel_rfl) (by kernel_rfl)
theorem Zwr:ConOkX (md F) prog 110 Zis:=(Zaj (N:=1000) (by kernel_rfl) (mkΓ_consX (Zad Zmw) Zjk (mkΓ_consX (Zad Zfb) Zde (mkΓ_consX (Zad Zju) Zgw (mkΓ_consX (Zad Zf8) Zd9 mkΓ_nilX)))) (fn:=Tryd.f110) (by kernel_rfl) (by kernel_rfl) [([4,18],[])]).of (by
 intro ρ h w args vals r e hA hH hr
 unfold Zis at hr
 split at hr
 ·rename_i a0
  obtain ⟨rfl,hg⟩:=Prod.mk.inj (Option.some.inj hr)
  obtain ⟨rfl,hg2⟩:=Prod.mk.inj hg
  exact Zrw a0 (hA.wt 0 rfl) hg2
 ·cases hr)
theorem Ztj (N:Nat) (a0 a1:Array Value):ansV prog (mkΓ []) N Tryd.f111 [] [.g a0 35,.g a1 35] []=(bif ((num a0 0)==(num a1 0)) then (bif ((num a0 1)==(num a1 1)) then (some (.a (.b (((num a0 2)==(num a1 2)))),.none,true))
   else (some (.a (.b (false)),.none,true)))
  else (some (.a (.b (false)),.none,true))):=by kernel_rfl
def Zaz (a0 a1:Array Value):Bool:=(bif ((num a0 0)==(num a1 0)) then (bif ((num a0 1)==(num a1 1)) then ((num a0 2)==(num a1 2)) else false) else false)
theorem Zsi (a0 a1:Array Value) (h_a0:WT prog 35 a0) (h_a1:WT prog 35 a1) (hg:(true)=true):ansV prog (mkΓ []) 1000 Tryd.f111 [] [.g a0 35,.g a1 35] []=some (.a (.b ((Zaz a0 a1))),.none,true):=by
 refine (Ztj 1000 a0 a1).trans ?_
 unfold Zaz
 revert hg
 generalize (((num a0 0)==(num a1 0)))=b2
 intro hg
 cases b2
 ·skip
  first | (simp only [cond_true,cond_false,Bool.and_true,Bool.true_and,Bool.and_false,Bool.false_and];done) | rfl | exact (nomatch (hg:false=true))
 ·skip
  revert hg
  generalize (((num a0 1)==(num a1 1)))=b4
  intro hg
  cases b4
  ·skip
   first | (simp only [cond_true,cond_false,Bool.and_true,Bool.true_and,Bool.and_false,Bool.false_and];done) | rfl | exact (nomatch (hg:false=true))
  ·skip
   first | (simp only [cond_true,cond_false,Bool.and_true,Bool.true_and,Bool.and_false,Bool.false_and];done) | rfl | exact (nomatch (hg:false=true))
def Ziw:Con:=fun args h=>match args,h with
 | [.g a0 35,.g a1 35],[]=>some (.a (.b ((Zaz a0 a1))),.none,true)
 | _,_=>none
theorem Zp7:EntX prog 111:=Zai (fn:=Tryd.f111) (by kernel_rfl) (by kernel_rfl) (by kernel_rfl)
theorem Zvb:ConOkX (md F) prog 111 Ziw:=(Zaj (N:=1000) (by kernel_rfl) mkΓ_nilX (fn:=Tryd.f111) (by kernel_rfl) (by kernel_rfl) []).of (by
 intro ρ h w args vals r e hA hH hr
 unfold Ziw at hr
 split at hr
 ·rename_i a0 a1
  obtain ⟨rfl,hg⟩:=Prod.mk.inj (Option.some.inj hr)
  obtain ⟨rfl,hg2⟩:=Prod.mk.inj hg
  exact Zsi a0 a1 (hA.wt 0 rfl) (hA.wt 1 rfl) hg2
 ·cases hr)
theorem Zxj (N:Nat) (a0 a1:Array Value):ansV prog (mkΓ []) N Tryd.f107 [] [.w 0,.w 1] [.row a0 35,.row a1 35]=(bif ((num a0 0)==(num a1 0)) then (bif ((num a0 1)==(num a1 1)) then (some (.a (.b (((num a0 2)==(num a1 2)))),.none,true))
   else (some (.a (.b (false)),.none,true)))
  else (some (.a (.b (false)),.none,true))):=by kernel_rfl
def Za4 (a0 a1:Array Value):Bool:=(bif ((num a0 0)==(num a1 0)) then (bif ((num a0 1)==(num a1 1)) then ((num a0 2)==(num a1 2)) else false) else false)
theorem Zws (a0 a1:Array Value) (h_a0:WT prog 35 a0) (h_a1:WT prog 35 a1) (hg:(true)=true):ansV prog (mkΓ []) 1000 Tryd.f107 [] [.w 0,.w 1] [.row a0 35,.row a1 35]=some (.a (.b ((Za4 a0 a1))),.none,true):=by
 refine (Zxj 1000 a0 a1).trans ?_
 unfold Za4
 revert hg
 generalize (((num a0 0)==(num a1 0)))=b2
 intro hg
 cases b2
 ·skip
  first | (simp only [cond_true,cond_false,Bool.and_true,Bool.true_and,Bool.and_false,Bool.false_and];done) | rfl | exact (nomatch (hg:false=true))
 ·skip
  revert hg
  generalize (((num a0 1)==(num a1 1)))=b4
  intro hg
  cases b4
  ·skip
   first | (simp only [cond_true,cond_false,Bool.and_true,Bool.true_and,Bool.and_false,Bool.false_and];done) | rfl | exact (nomatch (hg:false=true))
  ·skip
   first | (simp only [cond_true,cond_false,Bool.and_true,Bool.true_and,Bool.and_false,Bool.false_and];done) | rfl | exact (nomatch (hg:false=true))
def Zkf:Con:=fun args h=>match args,h with
 | [.w 0,.w 1],[.row a0 35,.row a1 35]=>some (.a (.b ((Za4 a0 a1))),.none,true)
 | _,_=>none
theorem Zt1:EntX prog 107:=Zai (fn:=Tryd.f107) (by kernel_rfl) (by kernel_rfl) (by kernel_rfl)
theorem Zyr:ConOkX (md F) prog 107 Zkf:=(Zaj (N:=1000) (by kernel_rfl) mkΓ_nilX (fn:=Tryd.f107) (by kernel_rfl) (by kernel_rfl) []).of (by
 intro ρ h w args vals r e hA hH hr
 unfold Zkf at hr
 split at hr
 ·rename_i a0 a1
  obtain ⟨rfl,hg⟩:=Prod.mk.inj (Option.some.inj hr)
  obtain ⟨rfl,hg2⟩:=Prod.mk.inj hg
  exact Zws a0 a1 (hH.wt 0 rfl) (hH.wt 1 rfl) hg2
 ·cases hr)
def Zsw:Cons:=(mkΓ [(70,con Zih),(107,con Zkf)])
theorem Zy9 (N:Nat) (a0 a1:Array Value):ansV prog Zsw N Tryd.f72 [] [.w 0,.w 1] [.row a0 35,.row a1 35]=(bif (!((okS a0))) then (some (.a (.i .i64 (1:Int)),.none,true))
  else (bif (!((okS a1))) then (some (.a (.i .i64 (1:Int)),.none,true))
   else (bif (!((Za4 a0 a1))) then (some (.a (.i .i64 (4:Int)),.none,true))
    else (some (.a (.i .i64 (0:Int)),.none,true))))):=by kernel_rfl
def Zbf (a0 a1:Array Value):Int:=(bif (!((okS a0))) then (1:Int) else (bif (!((okS a1))) then (1:Int) else (bif (!((Za4 a0 a1))) then (4:Int) else (0:Int))))
theorem Zxt (a0 a1:Array Value) (h_a0:WT prog 35 a0) (h_a1:WT prog 35 a1) (hg:(true)=true):ansV prog Zsw 1000 Tryd.f72 [] [.w 0,.w 1] [.row a0 35,.row a1 35]=some (.a (.i .i64 (Zbf a0 a1)),.none,true):=by
 refine (Zy9 1000 a0 a1).trans ?_
 unfold Zbf
 revert hg
 generalize ((!((okS a0))))=b2
 intro hg
 cases b2
 ·skip
  revert hg
  generalize ((!((okS a1))))=b4
  intro hg
  cases b4
  ·skip
   revert hg
   generalize ((!((Za4 a0 a1))))=b6
   intro hg
   cases b6
   ·skip
    first | (simp only [cond_true,cond_false,Bool.and_true,Bool.true_and,Bool.and_false,Bool.false_and];done) | rfl | exact (nomatch (hg:false=true))
   ·skip
    first | (simp only [cond_true,cond_false,Bool.and_true,Bool.true_and,Bool.and_false,Bool.false_and];done) | rfl | exact (nomatch (hg:false=true))
  ·skip
   first | (simp only [cond_true,cond_false,Bool.and_true,Bool.true_and,Bool.and_false,Bool.false_and];done) | rfl | exact (nomatch (hg:false=true))
 ·skip
  first | (simp only [cond_true,cond_false,Bool.and_true,Bool.true_and,Bool.and_false,Bool.false_and];done) | rfl | exact (nomatch (hg:false=true))
def Zla:Con:=fun args h=>match args,h with
 | [.w 0,.w 1],[.row a0 35,.row a1 35]=>some (.a (.i .i64 (Zbf a0 a1)),.none,true)
 | _,_=>none
theorem Zvl:EntX prog 72:=Zai (fn:=Tryd.f72) (by kernel_rfl) (by kernel_rfl) (by kernel_rfl)
theorem Ybr:ConOkX (md F) prog 72 Zla:=(Zaj (N:=1000) (by kernel_rfl) (mkΓ_consX (Zad Zou) Zky (mkΓ_consX (Zad Zyr) Zt1 mkΓ_nilX)) (fn:=Tryd.f72) (by kernel_rfl) (by kernel_rfl) []).of (by
 intro ρ h w args vals r e hA hH hr
 unfold Zla at hr
 split at hr
 ·rename_i a0 a1
  obtain ⟨rfl,hg⟩:=Prod.mk.inj (Option.some.inj hr)
  obtain ⟨rfl,hg2⟩:=Prod.mk.inj hg
  exact Zxt a0 a1 (hH.wt 0 rfl) (hH.wt 1 rfl) hg2
 ·cases hr)
def Za2:Cons:=(mkΓ [(110,con Zis),(111,con Ziw)])
def Zdk (b_a0:Option (Option Addr)) (n_a0:Nat) (a0:Array Value):St:=(⟨.a (.l 0) :: .a (.v (.slice none 0 0)) :: .a (.u) :: .a (.u) :: .a (.i .i64 (0:Int))::us 4 (.a (.l 0) :: .a (.i .i64 (n_a0:Int)) :: .a (.i .i64 (0:Int))::us 24 ([])),[.sl (.came b_a0) n_a0 a0 35],[]⟩:St)
def Zef:Int×Int→LS
 | (y0_4,y0_11)=>([.a (.i .i64 (y0_4)),.a (.i .i64 (y0_11))],[])
def Zk2:(Stp (Int×Int) (Int×Int))→Exit×LS
 | .more t=>(.ret,Zef t)
 | .done t=>((.exit 0),Zef t)
def Zam (P : Program) (b_a0 : Option (Option Addr)) (n_a0 : Nat) (a0 : Array Value) : Int × Int → Option (Stp (Int × Int) (Stp (Int × Int) (Int × Int)))
 | (y0_4, y0_11) => bif decide (y0_11 < (n_a0 : Int)) then (bif (decide (0 ≤ y0_11) && decide (y0_11 < (n_a0 : Int))) then (bif (!((okS (a0.extract ((y0_11).toNat * 363) (((y0_11).toNat * 363) + 363))))) then (some (.done (.more ((1 : Int), y0_11))))
    else (some (.more (y0_4, (i64.wrap (y0_11 + (1 : Int)))))))
   else (none))
  else (some (.done (.done (y0_4, y0_11))))
theorem Zys (N:Nat) (b_a0:Option (Option Addr)) (n_a0:Nat) (a0:Array Value):∀ t:Int×Int,stepV prog Za2 N (cAt (codeOf Tryd.f76) [1,0,1,0,0]) (pAt (mkPlan (codeOf Tryd.f76) [([4,11],[]),([4,25],[])]).1 [1,0,1,0]) [4,11] [] (Zdk b_a0 n_a0 a0) (Zef t)=mapS Zef Zk2 (Zam prog b_a0 n_a0 a0 t):=by
 rintro ⟨y0_4,y0_11⟩
 refine Eq.trans (b:=(bif decide (y0_11<(n_a0:Int)) then (bif (decide (0≤y0_11)&&decide (y0_11<(n_a0:Int))) then (bif (!((okS (a0.extract ((y0_11).toNat*363) (((y0_11).toNat*363)+363))))) then (some (.done (.ret,([.a (.i .i64 (1:Int)),.a (.i .i64 (y0_11))],[]))))
    else (some (.more ([.a (.i .i64 (y0_4)),.a (.i .i64 (i64.wrap (y0_11+(1:Int))))],[]))))
   else (none))
  else (some (.done ((.exit 0),([.a (.i .i64 (y0_4)),.a (.i .i64 (y0_11))],[])))))) (by kernel_rfl) ?_
 simp only [Zam,Zav,Zas,Zat,Zau,Zef,Zk2]
def Zdj (b_a0:Option (Option Addr)) (n_a0:Nat) (a0:Array Value) (z0_4:Int) (z0_11:Int):St:=(⟨.a (.l 0) :: .a (.v (.slice none 0 0)) :: .a (.u) :: .a (.u) :: .a (.i .i64 (z0_4)) :: .a (.u) :: .a (.x) :: .a (.u) :: .a (.u) :: .a (.l 0) :: .a (.i .i64 (n_a0:Int)) :: .a (.i .i64 (z0_11))::xs 8 (.a (.l 0) :: .a (.i .i64 (n_a0:Int)) :: .a (.b (decide ((n_a0:Int) > (8:Int)))) :: .a (.l 0) :: .a (.i .i64 (n_a0:Int)) :: .a (.i .i64 (0:Int))::us 10 ([])),[.sl (.came b_a0) n_a0 a0 35],[]⟩:St)
def Zes:Int×Int→LS
 | (y1_4,y1_25)=>([.a (.i .i64 (y1_4)),.a (.i .i64 (y1_25))],[])
def Zlh:(Stp (Int×Int) (Int×Int))→Exit×LS
 | .more t=>(.ret,Zes t)
 | .done t=>((.exit 2),Zes t)
def Zal (P : Program) (b_a0 : Option (Option Addr)) (n_a0 : Nat) (a0 : Array Value) (z0_4 : Int) (z0_11 : Int) : Int × Int → Option (Stp (Int × Int) (Stp (Int × Int) (Int × Int)))
 | (y1_4, y1_25) => bif decide (y1_25 < (n_a0 : Int)) then (bif (decide (0 ≤ y1_25) && decide (y1_25 < (n_a0 : Int))) then (bif (decide (0 ≤ (0 : Int)) && decide ((0 : Int) < (n_a0 : Int))) then (bif (!((Zaz (a0.extract ((y1_25).toNat * 363) (((y1_25).toNat * 363) + 363)) (a0.extract ((0 : Int).toNat * 363) (((0 : Int).toNat * 363) + 363))))) then (some (.done (.more ((4 : Int), y1_25))))
     else (some (.more (y1_4, (i64.wrap (y1_25 + (1 : Int)))))))
    else (none))
   else (none))
  else (some (.done (.done (y1_4, y1_25))))
theorem Zz2 (N:Nat) (b_a0:Option (Option Addr)) (n_a0:Nat) (a0:Array Value) (z0_4:Int) (z0_11:Int):∀ t:Int×Int,stepV prog Za2 N (cAt (codeOf Tryd.f76) [1,1,1,0,1,0,0]) (pAt (mkPlan (codeOf Tryd.f76) [([4,11],[]),([4,25],[])]).1 [1,1,1,0,1,0]) [4,25] [] (Zdj b_a0 n_a0 a0 z0_4 z0_11) (Zes t)=mapS Zes Zlh (Zal prog b_a0 n_a0 a0 z0_4 z0_11 t):=by
 rintro ⟨y1_4,y1_25⟩
 refine Eq.trans (b:=(bif decide (y1_25<(n_a0:Int)) then (bif (decide (0≤y1_25)&&decide (y1_25<(n_a0:Int))) then (bif (decide (0≤(0:Int))&&decide ((0:Int)<(n_a0:Int))) then (bif (!((Zaz (a0.extract ((y1_25).toNat*363) (((y1_25).toNat*363)+363)) (a0.extract ((0:Int).toNat*363) (((0:Int).toNat*363)+363))))) then (some (.done (.ret,([.a (.i .i64 (4:Int)),.a (.i .i64 (y1_25))],[]))))
     else (some (.more ([.a (.i .i64 (y1_4)),.a (.i .i64 (i64.wrap (y1_25+(1:Int))))],[]))))
    else (none))
   else (none))
  else (some (.done ((.exit 2),([.a (.i .i64 (y1_4)),.a (.i .i64 (y1_25))],[])))))) (by kernel_rfl) ?_
 simp only [Zal,Zav,Zas,Zat,Zau,Zes,Zlh]
def Zjd (P:Program) (N:Nat) (b_a0:Option (Option Addr)) (n_a0:Nat) (a0:Array Value) (z0_4:Int) (z0_11:Int) (z1_4:Int) (z1_25:Int):Option (SV×Eff×Bool):=some (.a (.i .i64 (z1_4)),.none,true)
theorem Zp9 (N:Nat) (b_a0:Option (Option Addr)) (n_a0:Nat) (a0:Array Value) (z0_4:Int) (z0_11:Int) (z1_4:Int) (z1_25:Int):(kBlock 2 (kSeq (veC prog Za2 N (cAt (codeOf Tryd.f76) [1,1,1,1]) (pAt (mkPlan (codeOf Tryd.f76) [([4,11],[]),([4,25],[])]).1 [1,1,1,1]) (SV×Eff×Bool)) (finK prog [.sl (.came b_a0) n_a0 a0 35] [.tmp 4]))) .ret (left (writes (cAt (codeOf Tryd.f76) [1,1,1,0,1,0,0])) [4,25] [] (Zdj b_a0 n_a0 a0 z0_4 z0_11) ([.a (.i .i64 (z1_4)),.a (.i .i64 (z1_25))],[]))=Zjd prog N b_a0 n_a0 a0 z0_4 z0_11 z1_4 z1_25:=by
 refine Eq.trans (b:=(some (.a (.i .i64 (z1_4)),.none,true))) (by kernel_rfl) ?_
 rfl
def Zjw (P:Program) (N:Nat) (b_a0:Option (Option Addr)) (n_a0:Nat) (a0:Array Value) (z0_4:Int) (z0_11:Int) (z1_4:Int) (z1_25:Int):Option (SV×Eff×Bool):=some (.a (.i .i64 (0:Int)),.none,true)
theorem Zp3 (N:Nat) (b_a0:Option (Option Addr)) (n_a0:Nat) (a0:Array Value) (z0_4:Int) (z0_11:Int) (z1_4:Int) (z1_25:Int):(kBlock 2 (kSeq (veC prog Za2 N (cAt (codeOf Tryd.f76) [1,1,1,1]) (pAt (mkPlan (codeOf Tryd.f76) [([4,11],[]),([4,25],[])]).1 [1,1,1,1]) (SV×Eff×Bool)) (finK prog [.sl (.came b_a0) n_a0 a0 35] [.tmp 4]))) (.exit 2) (left (writes (cAt (codeOf Tryd.f76) [1,1,1,0,1,0,0])) [4,25] [] (Zdj b_a0 n_a0 a0 z0_4 z0_11) ([.a (.i .i64 (z1_4)),.a (.i .i64 (z1_25))],[]))=Zjw prog N b_a0 n_a0 a0 z0_4 z0_11 z1_4 z1_25:=by
 refine Eq.trans (b:=(some (.a (.i .i64 (0:Int)),.none,true))) (by kernel_rfl) ?_
 rfl
theorem Zyq (N:Nat) (b_a0:Option (Option Addr)) (n_a0:Nat) (a0:Array Value) (z0_4:Int) (z0_11:Int):bindX (iterO (stepV prog Za2 N (cAt (codeOf Tryd.f76) [1,1,1,0,1,0,0]) (pAt (mkPlan (codeOf Tryd.f76) [([4,11],[]),([4,25],[])]).1 [1,1,1,0,1,0]) [4,25] [] (Zdj b_a0 n_a0 a0 z0_4 z0_11)) N ([.a (.i .i64 (z0_4)),.a (.i .i64 (0:Int))],[])) (fun e s=>(kBlock 2 (kSeq (veC prog Za2 N (cAt (codeOf Tryd.f76) [1,1,1,1]) (pAt (mkPlan (codeOf Tryd.f76) [([4,11],[]),([4,25],[])]).1 [1,1,1,1]) (SV×Eff×Bool)) (finK prog [.sl (.came b_a0) n_a0 a0 35] [.tmp 4]))) e (left (writes (cAt (codeOf Tryd.f76) [1,1,1,0,1,0,0])) [4,25] [] (Zdj b_a0 n_a0 a0 z0_4 z0_11) s))=nodeX (iterO (Zal prog b_a0 n_a0 a0 z0_4 z0_11) N (z0_4,(0:Int))) (st2 (fun x=>Zjd prog N b_a0 n_a0 a0 z0_4 z0_11 x.1 x.2) (fun x=>Zjw prog N b_a0 n_a0 a0 z0_4 z0_11 x.1 x.2)):=by
 refine Za9 Zes Zlh _ _ (Zz2 N b_a0 n_a0 a0 z0_4 z0_11) N (z0_4,(0:Int)) _ _ ?_
 intro x
 cases x with
 | more x=>exact Zp9 N b_a0 n_a0 a0 z0_4 z0_11 x.1 x.2
 | done x=>exact Zp3 N b_a0 n_a0 a0 z0_4 z0_11 x.1 x.2
def Zi4 (P:Program) (N:Nat) (b_a0:Option (Option Addr)) (n_a0:Nat) (a0:Array Value) (z0_4:Int) (z0_11:Int):Option (SV×Eff×Bool):=some (.a (.i .i64 (z0_4)),.none,true)
theorem Zps (N:Nat) (b_a0:Option (Option Addr)) (n_a0:Nat) (a0:Array Value) (z0_4:Int) (z0_11:Int):(kBlock 0 (kSeq (veC prog Za2 N (cAt (codeOf Tryd.f76) [1,1]) (pAt (mkPlan (codeOf Tryd.f76) [([4,11],[]),([4,25],[])]).1 [1,1]) (SV×Eff×Bool)) (finK prog [.sl (.came b_a0) n_a0 a0 35] [.tmp 4]))) .ret (left (writes (cAt (codeOf Tryd.f76) [1,0,1,0,0])) [4,11] [] (Zdk b_a0 n_a0 a0) ([.a (.i .i64 (z0_4)),.a (.i .i64 (z0_11))],[]))=Zi4 prog N b_a0 n_a0 a0 z0_4 z0_11:=by
 refine Eq.trans (b:=(some (.a (.i .i64 (z0_4)),.none,true))) (by kernel_rfl) ?_
 rfl
def Zeu (P:Program) (N:Nat) (b_a0:Option (Option Addr)) (n_a0:Nat) (a0:Array Value) (z0_4:Int) (z0_11:Int):Option (SV×Eff×Bool):=bif decide ((n_a0:Int) > (8:Int)) then (some (.a (.i .i64 (3:Int)),.none,true))
  else (nodeX (iterO (Zal P b_a0 n_a0 a0 z0_4 z0_11) N (z0_4,(0:Int))) (st2 (fun x=>Zjd P N b_a0 n_a0 a0 z0_4 z0_11 x.1 x.2) (fun x=>Zjw P N b_a0 n_a0 a0 z0_4 z0_11 x.1 x.2)))
theorem Zpy (N:Nat) (b_a0:Option (Option Addr)) (n_a0:Nat) (a0:Array Value) (z0_4:Int) (z0_11:Int):(kBlock 0 (kSeq (veC prog Za2 N (cAt (codeOf Tryd.f76) [1,1]) (pAt (mkPlan (codeOf Tryd.f76) [([4,11],[]),([4,25],[])]).1 [1,1]) (SV×Eff×Bool)) (finK prog [.sl (.came b_a0) n_a0 a0 35] [.tmp 4]))) (.exit 0) (left (writes (cAt (codeOf Tryd.f76) [1,0,1,0,0])) [4,11] [] (Zdk b_a0 n_a0 a0) ([.a (.i .i64 (z0_4)),.a (.i .i64 (z0_11))],[]))=Zeu prog N b_a0 n_a0 a0 z0_4 z0_11:=by
 refine Eq.trans (b:=(bif decide ((n_a0:Int) > (8:Int)) then (some (.a (.i .i64 (3:Int)),.none,true))
  else (bindX (iterO (stepV prog Za2 N (cAt (codeOf Tryd.f76) [1,1,1,0,1,0,0]) (pAt (mkPlan (codeOf Tryd.f76) [([4,11],[]),([4,25],[])]).1 [1,1,1,0,1,0]) [4,25] [] (Zdj b_a0 n_a0 a0 z0_4 z0_11)) N ([.a (.i .i64 (z0_4)),.a (.i .i64 (0:Int))],[])) (fun e s=>(kBlock 2 (kSeq (veC prog Za2 N (cAt (codeOf Tryd.f76) [1,1,1,1]) (pAt (mkPlan (codeOf Tryd.f76) [([4,11],[]),([4,25],[])]).1 [1,1,1,1]) (SV×Eff×Bool)) (finK prog [.sl (.came b_a0) n_a0 a0 35] [.tmp 4]))) e (left (writes (cAt (codeOf Tryd.f76) [1,1,1,0,1,0,0])) [4,25] [] (Zdj b_a0 n_a0 a0 z0_4 z0_11) s))))) (by kernel_rfl) ?_
 simp only [Zyq N b_a0 n_a0 a0 z0_4 z0_11,Zeu]
theorem Zzq (N:Nat) (b_a0:Option (Option Addr)) (n_a0:Nat) (a0:Array Value):bindX (iterO (stepV prog Za2 N (cAt (codeOf Tryd.f76) [1,0,1,0,0]) (pAt (mkPlan (codeOf Tryd.f76) [([4,11],[]),([4,25],[])]).1 [1,0,1,0]) [4,11] [] (Zdk b_a0 n_a0 a0)) N ([.a (.i .i64 (0:Int)),.a (.i .i64 (0:Int))],[])) (fun e s=>(kBlock 0 (kSeq (veC prog Za2 N (cAt (codeOf Tryd.f76) [1,1]) (pAt (mkPlan (codeOf Tryd.f76) [([4,11],[]),([4,25],[])]).1 [1,1]) (SV×Eff×Bool)) (finK prog [.sl (.came b_a0) n_a0 a0 35] [.tmp 4]))) e (left (writes (cAt (codeOf Tryd.f76) [1,0,1,0,0])) [4,11] [] (Zdk b_a0 n_a0 a0) s))=nodeX (iterO (Zam prog b_a0 n_a0 a0) N ((0:Int),(0:Int))) (st2 (fun x=>Zi4 prog N b_a0 n_a0 a0 x.1 x.2) (fun x=>Zeu prog N b_a0 n_a0 a0 x.1 x.2)):=by
 refine Za9 Zef Zk2 _ _ (Zys N b_a0 n_a0 a0) N ((0:Int),(0:Int)) _ _ ?_
 intro x
 cases x with
 | more x=>exact Zps N b_a0 n_a0 a0 x.1 x.2
 | done x=>exact Zpy N b_a0 n_a0 a0 x.1 x.2
theorem Zx9 (N:Nat) (b_a0:Option (Option Addr)) (n_a0:Nat) (a0:Array Value):ansV prog Za2 N Tryd.f76 [([4,11],[]),([4,25],[])] [.l 0,.v (.slice none 0 0)] [.sl (.came b_a0) n_a0 a0 35]=(nodeX (iterO (Zam prog b_a0 n_a0 a0) N ((0:Int),(0:Int))) (st2 (fun x=>Zi4 prog N b_a0 n_a0 a0 x.1 x.2) (fun x=>Zeu prog N b_a0 n_a0 a0 x.1 x.2))):=by
 refine Eq.trans (b:=(bindX (iterO (stepV prog Za2 N (cAt (codeOf Tryd.f76) [1,0,1,0,0]) (pAt (mkPlan (codeOf Tryd.f76) [([4,11],[]),([4,25],[])]).1 [1,0,1,0]) [4,11] [] (Zdk b_a0 n_a0 a0)) N ([.a (.i .i64 (0:Int)),.a (.i .i64 (0:Int))],[])) (fun e s=>(kBlock 0 (kSeq (veC prog Za2 N (cAt (codeOf Tryd.f76) [1,1]) (pAt (mkPlan (codeOf Tryd.f76) [([4,11],[]),([4,25],[])]).1 [1,1]) (SV×Eff×Bool)) (finK prog [.sl (.came b_a0) n_a0 a0 35] [.tmp 4]))) e (left (writes (cAt (codeOf Tryd.f76) [1,0,1,0,0])) [4,11] [] (Zdk b_a0 n_a0 a0) s)))) (by kernel_rfl) ?_
 simp only [Zzq N b_a0 n_a0 a0]
def pairC (A C:Array Value):Int:=bif okS A then (bif okS C then (bif (Zaz A A&&Zaz C A) then 0 else 4) else 1) else 1
theorem Zv8 (b_a0:Option (Option Addr)) (n_a0:Nat) (a0:Array Value) (h_a0:a0.size=n_a0*(lay prog 35).length∧(∀ k,k<n_a0→WT prog 35 (a0.extract (k*(lay prog 35).length) (k*(lay prog 35).length+(lay prog 35).length)))∧n_a0≤9223372036854775807) (hg:(Nat.beq n_a0 2)=true):ansV prog Za2 1000 Tryd.f76 [([4,11],[]),([4,25],[])] [.l 0,.v (.slice none 0 0)] [.sl (.came b_a0) n_a0 a0 35]=some (.a (.i .i64 (pairC (a0.extract 0 363) (a0.extract 363 726))),.none,true):=by
 obtain rfl:n_a0=2:=Nat.eq_of_beq_eq_true hg
 refine (Zx9 1000 b_a0 2 a0).trans ?_
 have d1:decide ((0:Int)<((2:Nat):Int))=true:=rfl
 have d2:decide (0≤(0:Int))=true:=rfl
 have d3:decide ((1:Int)<((2:Nat):Int))=true:=rfl
 have d4:decide (0≤(1:Int))=true:=rfl
 have d5:decide ((2:Int)<((2:Nat):Int))=false:=rfl
 have d6:decide ((((2:Nat):Int)) > (8:Int))=false:=rfl
 have w1:i64.wrap ((0:Int)+1)=1:=by decide
 have w2:i64.wrap ((1:Int)+1)=2:=by decide
 have e0:a0.extract ((0:Int).toNat*363) ((0:Int).toNat*363+363)=(a0.extract 0 363):=rfl
 have e1:a0.extract ((1:Int).toNat*363) ((1:Int).toNat*363+363)=(a0.extract 363 726):=rfl
 generalize hA:(a0.extract 0 363)=A at e0⊢
 generalize hC:(a0.extract 363 726)=C at e1⊢
 unfold pairC
 have two:∀ {m:Nat} {Q:Nat→Prop},m≤2→(0<m→Q 0)→(1<m→Q 1)→∀ k,k<m→Q k:=fun hm q0 q1 k hk=>by
  match k,hk with
  | 0,hk=>exact q0 hk
  | 1,hk=>exact q1 hk
  | k+2,hk=>omega
 cases hk0:okS A with
 | false=>
  have h:=Zb9 (g:=Zam prog b_a0 2 a0) (fun k=>((0:Int),(k:Int))) (m:=0) (x:=.more ((1:Int),(0:Int))) (N:=1000) (fun k hk=>absurd hk (Nat.not_lt_zero k)) (by
   show Zam prog b_a0 2 a0 ((0:Int),(0:Int))=_
   simp only [Zam,d1,d2,e0,hk0,Bool.and_self,Bool.not_false,cond_true]) (by omega)
  have h':iterO (Zam prog b_a0 2 a0) 1000 ((0:Int),(0:Int))=some (.more ((1:Int),(0:Int))):=h
  rw [h'];rfl
 | true=>
  have s0:Zam prog b_a0 2 a0 ((0:Int),(0:Int))=some (.more ((0:Int),(1:Int))):=by simp only [Zam,d1,d2,e0,hk0,w1,Bool.and_self,Bool.not_true,cond_true,cond_false]
  cases hk1:okS C with
  | false=>
   have h:=Zb9 (g:=Zam prog b_a0 2 a0) (fun k=>((0:Int),(k:Int))) (m:=1) (x:=.more ((1:Int),(1:Int))) (N:=1000) (two (by omega) (fun _=>s0) (fun h=>absurd h (by omega))) (by
    show Zam prog b_a0 2 a0 ((0:Int),(1:Int))=_
    simp only [Zam,d3,d4,e1,hk1,Bool.and_self,Bool.not_false,cond_true]) (by omega)
   have h':iterO (Zam prog b_a0 2 a0) 1000 ((0:Int),(0:Int))=some (.more ((1:Int),(1:Int))):=h
   rw [h'];rfl
  | true=>
   have s1:Zam prog b_a0 2 a0 ((0:Int),(1:Int))=some (.more ((0:Int),(2:Int))):=by simp only [Zam,d3,d4,e1,hk1,w2,Bool.and_self,Bool.not_true,cond_true,cond_false]
   have h:=Zb9 (g:=Zam prog b_a0 2 a0) (fun k=>((0:Int),(k:Int))) (m:=2) (x:=.done ((0:Int),(2:Int))) (N:=1000) (two (by omega) (fun _=>s0) (fun _=>s1)) (by
    show Zam prog b_a0 2 a0 ((0:Int),(2:Int))=_
    simp only [Zam,d5,cond_false]) (by omega)
   have h':iterO (Zam prog b_a0 2 a0) 1000 ((0:Int),(0:Int))=some (.done ((0:Int),(2:Int))):=h
   rw [h']
   simp only [nodeX,st2,Zeu,d6,cond_false]
   cases hc0:Zaz A A with
   | false=>
    have h:=Zb9 (g:=Zal prog b_a0 2 a0 0 2) (fun k=>((0:Int),(k:Int))) (m:=0) (x:=.more ((4:Int),(0:Int))) (N:=1000) (fun k hk=>absurd hk (Nat.not_lt_zero k)) (by
     show Zal prog b_a0 2 a0 0 2 ((0:Int),(0:Int))=_
     simp only [Zal,d1,d2,e0,hc0,Bool.and_self,Bool.not_false,cond_true]) (by omega)
    have h':iterO (Zal prog b_a0 2 a0 0 2) 1000 ((0:Int),(0:Int))=some (.more ((4:Int),(0:Int))):=h
    rw [h'];rfl
   | true=>
    have t0:Zal prog b_a0 2 a0 0 2 ((0:Int),(0:Int))=some (.more ((0:Int),(1:Int))):=by simp only [Zal,d1,d2,e0,hc0,w1,Bool.and_self,Bool.not_true,cond_true,cond_false]
    cases hc1:Zaz C A with
    | false=>
     have h:=Zb9 (g:=Zal prog b_a0 2 a0 0 2) (fun k=>((0:Int),(k:Int))) (m:=1) (x:=.more ((4:Int),(1:Int))) (N:=1000) (two (by omega) (fun _=>t0) (fun h=>absurd h (by omega))) (by
      show Zal prog b_a0 2 a0 0 2 ((0:Int),(1:Int))=_
      simp only [Zal,d1,d2,d3,d4,e0,e1,hc1,Bool.and_self,Bool.not_false,cond_true]) (by omega)
     have h':iterO (Zal prog b_a0 2 a0 0 2) 1000 ((0:Int),(0:Int))=some (.more ((4:Int),(1:Int))):=h
     rw [h'];rfl
    | true=>
     have t1:Zal prog b_a0 2 a0 0 2 ((0:Int),(1:Int))=some (.more ((0:Int),(2:Int))):=by simp only [Zal,d1,d2,d3,d4,e0,e1,hc1,w2,Bool.and_self,Bool.not_true,cond_true,cond_false]
     have h:=Zb9 (g:=Zal prog b_a0 2 a0 0 2) (fun k=>((0:Int),(k:Int))) (m:=2) (x:=.done ((0:Int),(2:Int))) (N:=1000) (two (by omega) (fun _=>t0) (fun _=>t1)) (by
      show Zal prog b_a0 2 a0 0 2 ((0:Int),(2:Int))=_
      simp only [Zal,d5,cond_false]) (by omega)
     have h':iterO (Zal prog b_a0 2 a0 0 2) 1000 ((0:Int),(0:Int))=some (.done ((0:Int),(2:Int))):=h
     rw [h'];rfl
def Zd3:Con:=fun args h=>match args,h with
 | [.l 0,.v (.slice none 0 0)],[.sl (.came b_a0) n_a0 a0 35]=>some (.a (.i .i64 (pairC (a0.extract 0 363) (a0.extract 363 726))),.none,Nat.beq n_a0 2)
 | _,_=>none
theorem Zfp:EntX prog 76:=Zai (fn:=Tryd.f76) (by kernel_rfl) (by kernel_rfl) (by kernel_rfl)
theorem Zij:ConOkX (md F) prog 76 Zd3:=(Zaj (N:=1000) (by kernel_rfl) (mkΓ_consX (Zad Zwr) Zql (mkΓ_consX (Zad Zvb) Zp7 mkΓ_nilX)) (fn:=Tryd.f76) (by kernel_rfl) (by kernel_rfl) [([4,11],[]),([4,25],[])]).of (by
 intro ρ h w args vals r e hA hH hr
 unfold Zd3 at hr
 split at hr
 ·rename_i b_a0 n_a0 a0
  obtain ⟨rfl,hg⟩:=Prod.mk.inj (Option.some.inj hr)
  obtain ⟨rfl,hg2⟩:=Prod.mk.inj hg
  exact Zv8 b_a0 n_a0 a0 (hH.slw 0 rfl) hg2
 ·cases hr)
theorem Yh1 (A C:Array Value):pairC A C=Zbf A C:=by
 have bc:∀ x y:Int,(x==y)=(y==x):=fun x y=>by rw [Bool.eq_iff_iff,beq_iff_eq,beq_iff_eq];exact eq_comm
 have e1:Zaz A A=true:=by unfold Zaz;simp only [beq_self_eq_true,cond_true]
 have e2:Zaz C A=Za4 A C:=by unfold Zaz Za4;rw [bc (num C 0),bc (num C 1),bc (num C 2)]
 unfold pairC Zbf
 rw [e1,e2,Bool.true_and]
 cases okS A<;>cases okS C<;>cases Za4 A C<;>rfl
def bothC (A C:Array Value) (c b:Int) (f:Bool):Int:=bif (pairC A C==(0:Int)) then Zb3 c b f A else pairC A C
def Zcf:Cons:=(mkΓ [(34,con Zf2),(86,con Zbj),(87,con Zfn)])
def Zdm (a0:Array Value) (b_a1:Option (Option Addr)) (n_a1:Nat) (a1:Array Value):St:=(⟨.a (.w 0) :: .a (.l 1) :: .a (.u) :: .a (.u) :: .a (.b (false)) :: .a (.i .i64 (0:Int))::us 36 ([]),[.row a0 35,.sl (.came b_a1) n_a1 a1 39],[]⟩:St)
def Zei:Bool×Int→LS
 | (y0_4,y0_5)=>([.a (.b (y0_4)),.a (.i .i64 (y0_5))],[])
def Zlj:(Stp (Bool×Int) (Bool×Int))→Exit×LS
 | .more t=>(.ret,Zei t)
 | .done t=>((.exit 0),Zei t)
def Zct (P:Program) (a0:Array Value) (b_a1:Option (Option Addr)) (n_a1:Nat) (a1:Array Value):Bool×Int→Option (Stp (Bool×Int) (Stp (Bool×Int) (Bool×Int)))
  | (y0_4,y0_5)=>bif decide (y0_5<(n_a1:Int)) then (bif (decide (0≤y0_5)&&decide (y0_5<(n_a1:Int))) then (bif (!((Zab (i64.wrap (num a1 (((y0_5).toNat*2)+0))) a0))) then (some (.done (.more (false,y0_5))))
        else (bif decide (0≤(IntKind.u64.wrap (i64.wrap (num a1 (((y0_5).toNat*2)+0))))) then (bif (!((Zag (i64.wrap (num a1 (((y0_5).toNat*2)+0))) a0))) then (some (.done (.more (false,y0_5))))
            else (bif (decide (0≤y0_5)&&decide (y0_5<(n_a1:Int))) then (bif (!((Zaa (i64.wrap (num a1 (((y0_5).toNat*2)+1))) (1:Int) (14:Int)))) then (some (.done (.more (false,y0_5))))
                else (some (.more (y0_4,(i64.wrap (y0_5+(1:Int)))))))
              else (none)))
          else (none)))
      else (none))
    else (some (.done (.done (y0_4,y0_5))))
theorem Zyn (N:Nat) (a0:Array Value) (b_a1:Option (Option Addr)) (n_a1:Nat) (a1:Array Value):∀ t:Bool×Int,stepV prog Zcf N (cAt (codeOf Tryd.f71) [1,0,1,0,0]) (pAt (mkPlan (codeOf Tryd.f71) [([4,5],[])]).1 [1,0,1,0]) [4,5] [] (Zdm a0 b_a1 n_a1 a1) (Zei t)=mapS Zei Zlj (Zct prog a0 b_a1 n_a1 a1 t):=by
  rintro ⟨y0_4,y0_5⟩
  refine Eq.trans (b:=(bif decide (y0_5<(n_a1:Int)) then (bif (decide (0≤y0_5)&&decide (y0_5<(n_a1:Int))) then (bif (!((Zab (i64.wrap (num a1 (((y0_5).toNat*2)+0))) a0))) then (some (.done (.ret,([.a (.b (false)),.a (.i .i64 (y0_5))],[]))))
        else (bif decide (0≤(IntKind.u64.wrap (i64.wrap (num a1 (((y0_5).toNat*2)+0))))) then (bif (!((Zag (i64.wrap (num a1 (((y0_5).toNat*2)+0))) a0))) then (some (.done (.ret,([.a (.b (false)),.a (.i .i64 (y0_5))],[]))))
            else (bif (decide (0≤y0_5)&&decide (y0_5<(n_a1:Int))) then (bif (!((Zaa (i64.wrap (num a1 (((y0_5).toNat*2)+1))) (1:Int) (14:Int)))) then (some (.done (.ret,([.a (.b (false)),.a (.i .i64 (y0_5))],[]))))
                else (some (.more ([.a (.b (y0_4)),.a (.i .i64 (i64.wrap (y0_5+(1:Int))))],[]))))
              else (none)))
          else (none)))
      else (none))
    else (some (.done ((.exit 0),([.a (.b (y0_4)),.a (.i .i64 (y0_5))],[])))))) (by kernel_rfl) ?_
  simp only [Zct,Zav,Zas,Zat,Zau,Zei,Zlj]
def Zjj (P:Program) (N:Nat) (a0:Array Value) (b_a1:Option (Option Addr)) (n_a1:Nat) (a1:Array Value) (z0_4:Bool) (z0_5:Int):Option (SV×Eff×Bool):=some (.a (.b (z0_4)),.none,true)
theorem Zre (N:Nat) (a0:Array Value) (b_a1:Option (Option Addr)) (n_a1:Nat) (a1:Array Value) (z0_4:Bool) (z0_5:Int):(kBlock 0 (kSeq (veC prog Zcf N (cAt (codeOf Tryd.f71) [1,1]) (pAt (mkPlan (codeOf Tryd.f71) [([4,5],[])]).1 [1,1]) (SV×Eff×Bool)) (finK prog [.row a0 35,.sl (.came b_a1) n_a1 a1 39] [.tmp 4]))) .ret (left (writes (cAt (codeOf Tryd.f71) [1,0,1,0,0])) [4,5] [] (Zdm a0 b_a1 n_a1 a1) ([.a (.b (z0_4)),.a (.i .i64 (z0_5))],[]))=Zjj prog N a0 b_a1 n_a1 a1 z0_4 z0_5:=by
 refine Eq.trans (b:=(some (.a (.b (z0_4)),.none,true))) (by kernel_rfl) ?_
 rfl
def Zjo (P:Program) (N:Nat) (a0:Array Value) (b_a1:Option (Option Addr)) (n_a1:Nat) (a1:Array Value) (z0_4:Bool) (z0_5:Int):Option (SV×Eff×Bool):=some (.a (.b (decide ((n_a1:Int)≤(60:Int)))),.none,true)
theorem Zqw (N:Nat) (a0:Array Value) (b_a1:Option (Option Addr)) (n_a1:Nat) (a1:Array Value) (z0_4:Bool) (z0_5:Int):(kBlock 0 (kSeq (veC prog Zcf N (cAt (codeOf Tryd.f71) [1,1]) (pAt (mkPlan (codeOf Tryd.f71) [([4,5],[])]).1 [1,1]) (SV×Eff×Bool)) (finK prog [.row a0 35,.sl (.came b_a1) n_a1 a1 39] [.tmp 4]))) (.exit 0) (left (writes (cAt (codeOf Tryd.f71) [1,0,1,0,0])) [4,5] [] (Zdm a0 b_a1 n_a1 a1) ([.a (.b (z0_4)),.a (.i .i64 (z0_5))],[]))=Zjo prog N a0 b_a1 n_a1 a1 z0_4 z0_5:=by
 refine Eq.trans (b:=(some (.a (.b (decide ((n_a1:Int)≤(60:Int)))),.none,true))) (by kernel_rfl) ?_
 rfl
theorem Zy4 (N:Nat) (a0:Array Value) (b_a1:Option (Option Addr)) (n_a1:Nat) (a1:Array Value):bindX (iterO (stepV prog Zcf N (cAt (codeOf Tryd.f71) [1,0,1,0,0]) (pAt (mkPlan (codeOf Tryd.f71) [([4,5],[])]).1 [1,0,1,0]) [4,5] [] (Zdm a0 b_a1 n_a1 a1)) N ([.a (.b (false)),.a (.i .i64 (0:Int))],[])) (fun e s=>(kBlock 0 (kSeq (veC prog Zcf N (cAt (codeOf Tryd.f71) [1,1]) (pAt (mkPlan (codeOf Tryd.f71) [([4,5],[])]).1 [1,1]) (SV×Eff×Bool)) (finK prog [.row a0 35,.sl (.came b_a1) n_a1 a1 39] [.tmp 4]))) e (left (writes (cAt (codeOf Tryd.f71) [1,0,1,0,0])) [4,5] [] (Zdm a0 b_a1 n_a1 a1) s))=nodeX (iterO (Zct prog a0 b_a1 n_a1 a1) N (false,(0:Int))) (st2 (fun x=>Zjj prog N a0 b_a1 n_a1 a1 x.1 x.2) (fun x=>Zjo prog N a0 b_a1 n_a1 a1 x.1 x.2)):=by
 refine Za9 Zei Zlj _ _ (Zyn N a0 b_a1 n_a1 a1) N (false,(0:Int)) _ _ ?_
 intro x
 cases x with
 | more x=>exact Zre N a0 b_a1 n_a1 a1 x.1 x.2
 | done x=>exact Zqw N a0 b_a1 n_a1 a1 x.1 x.2
theorem Zxi (N:Nat) (a0:Array Value) (b_a1:Option (Option Addr)) (n_a1:Nat) (a1:Array Value):ansV prog Zcf N Tryd.f71 [([4,5],[])] [.w 0,.l 1] [.row a0 35,.sl (.came b_a1) n_a1 a1 39]=(nodeX (iterO (Zct prog a0 b_a1 n_a1 a1) N (false,(0:Int))) (st2 (fun x=>Zjj prog N a0 b_a1 n_a1 a1 x.1 x.2) (fun x=>Zjo prog N a0 b_a1 n_a1 a1 x.1 x.2))):=by
 refine Eq.trans (b:=(bindX (iterO (stepV prog Zcf N (cAt (codeOf Tryd.f71) [1,0,1,0,0]) (pAt (mkPlan (codeOf Tryd.f71) [([4,5],[])]).1 [1,0,1,0]) [4,5] [] (Zdm a0 b_a1 n_a1 a1)) N ([.a (.b (false)),.a (.i .i64 (0:Int))],[])) (fun e s=>(kBlock 0 (kSeq (veC prog Zcf N (cAt (codeOf Tryd.f71) [1,1]) (pAt (mkPlan (codeOf Tryd.f71) [([4,5],[])]).1 [1,1]) (SV×Eff×Bool)) (finK prog [.row a0 35,.sl (.came b_a1) n_a1 a1 39] [.tmp 4]))) e (left (writes (cAt (codeOf Tryd.f71) [1,0,1,0,0])) [4,5] [] (Zdm a0 b_a1 n_a1 a1) s)))) (by kernel_rfl) ?_
 simp only [Zy4 N a0 b_a1 n_a1 a1]
theorem Zvs (a0:Array Value) (b_a1:Option (Option Addr)) (n_a1:Nat) (a1:Array Value) (h_a0:WT prog 35 a0) (h_a1:a1.size=n_a1*(lay prog 39).length∧(∀ k,k<n_a1→WT prog 39 (a1.extract (k*(lay prog 39).length) (k*(lay prog 39).length+(lay prog 39).length)))∧n_a1≤9223372036854775807) (hg:(Nat.beq n_a1 0)=true):ansV prog Zcf 1000 Tryd.f71 [([4,5],[])] [.w 0,.l 1] [.row a0 35,.sl (.came b_a1) n_a1 a1 39]=some (.a (.b (true)),.none,true):=by
 obtain rfl:n_a1=0:=Nat.eq_of_beq_eq_true hg
 refine (Zxi 1000 a0 b_a1 0 a1).trans ?_
 have h:=Zb9 (g:=Zct prog a0 b_a1 0 a1) (fun k=>(false,(k:Int))) (m:=0) (x:=.done (false,(0:Int))) (N:=1000) (fun k hk=>absurd hk (Nat.not_lt_zero k)) (by
  have h0:decide ((0:Int)<((0:Nat):Int))=false:=by decide
  show Zct prog a0 b_a1 0 a1 (false,(0:Int))=_
  simp only [Zct,h0,cond_false]) (by omega)
 have h':iterO (Zct prog a0 b_a1 0 a1) 1000 (false,(0:Int))=some (.done (false,(0:Int))):=h
 rw [h']
 rfl
def Zkb:Con:=fun args h=>match args,h with
 | [.w 0,.l 1],[.row a0 35,.sl (.came b_a1) n_a1 a1 39]=>some (.a (.b (true)),.none,Nat.beq n_a1 0)
 | _,_=>none
theorem Ztx:EntX prog 71:=Zai (fn:=Tryd.f71) (by kernel_rfl) (by kernel_rfl) (by kernel_rfl)
theorem Zzn:ConOkX (md F) prog 71 Zkb:=(Zaj (N:=1000) (by kernel_rfl) (mkΓ_consX (Zad Zmx) Zji (mkΓ_consX (Zad Zja) Zge (mkΓ_consX (Zad Zks) Zhq mkΓ_nilX))) (fn:=Tryd.f71) (by kernel_rfl) (by kernel_rfl) [([4,5],[])]).of (by
 intro ρ h w args vals r e hA hH hr
 unfold Zkb at hr
 split at hr
 ·rename_i a0 b_a1 n_a1 a1
  obtain ⟨rfl,hg⟩:=Prod.mk.inj (Option.some.inj hr)
  obtain ⟨rfl,hg2⟩:=Prod.mk.inj hg
  exact Zvs a0 b_a1 n_a1 a1 (hH.wt 0 rfl) (hH.slw 1 rfl) hg2
 ·cases hr)
def Zsu:Cons:=(mkΓ [(70,con Zih),(71,con Zkb),(72,con Zla),(73,con Zld)])
theorem Zy2 (N:Nat) (a2 a3:Int) (a5:Bool) (a0 a1:Array Value) (b_a4:Option (Option Addr)) (n_a4:Nat) (a4:Array Value):ansV prog Zsu N Tryd.f33 [] [.w 0,.w 1,.i .i64 (a2),.i .i64 (a3),.l 2,.b (a5)] [.row a0 35,.row a1 35,.sl (.came b_a4) n_a4 a4 39]=(bif (okS a0) then (bif (okS a1) then (bif Nat.beq n_a4 0 then (bif Nat.beq n_a4 0 then (bif ((Zbf a0 a1) != (0:Int)) then (some (.a (.i .i64 (Zbf a0 a1)),.none,true))
      else (bif (Zdb a2 a3 a5 a0) then (some (.a (.i .i64 (Zb3 a2 a3 a5 a0)),.none,true))
       else (none)))
     else (none))
    else (none))
   else (bif ((Zbf a0 a1) != (0:Int)) then (some (.a (.i .i64 (Zbf a0 a1)),.none,true))
    else (bif (Zdb a2 a3 a5 a0) then (some (.a (.i .i64 (Zb3 a2 a3 a5 a0)),.none,true))
     else (none))))
  else (bif ((Zbf a0 a1) != (0:Int)) then (some (.a (.i .i64 (Zbf a0 a1)),.none,true))
   else (bif (Zdb a2 a3 a5 a0) then (some (.a (.i .i64 (Zb3 a2 a3 a5 a0)),.none,true))
    else (none)))):=by kernel_rfl
theorem Zwx (a2 a3:Int) (a5:Bool) (a0 a1:Array Value) (b_a4:Option (Option Addr)) (n_a4:Nat) (a4:Array Value) (h_a2:i64.min≤a2∧a2≤i64.max) (h_a3:i64.min≤a3∧a3≤i64.max) (h_a0:WT prog 35 a0) (h_a1:WT prog 35 a1) (h_a4:a4.size=n_a4*(lay prog 39).length∧(∀ k,k<n_a4→WT prog 39 (a4.extract (k*(lay prog 39).length) (k*(lay prog 39).length+(lay prog 39).length)))∧n_a4≤9223372036854775807) (hg:(Nat.beq n_a4 0)=true):ansV prog Zsu 1000 Tryd.f33 [] [.w 0,.w 1,.i .i64 (a2),.i .i64 (a3),.l 2,.b (a5)] [.row a0 35,.row a1 35,.sl (.came b_a4) n_a4 a4 39]=some (.a (.i .i64 (bothC a0 a1 a2 a3 a5)),.none,true):=by
 obtain rfl:n_a4=0:=Nat.eq_of_beq_eq_true hg
 refine (Zy2 1000 a2 a3 a5 a0 a1 b_a4 0 a4).trans ?_
 have hb:Nat.beq 0 0=true:=rfl
 unfold bothC
 rw [hb,from_gd,Yh1]
 cases hz:(Zbf a0 a1==(0:Int))<;>simp only [bne,hz,Bool.not_true,Bool.not_false,cond_true,cond_false,Bool.cond_self]
def Zin:Con:=fun args h=>match args,h with
 | [.w 0,.w 1,.i .i64 a2,.i .i64 a3,.l 2,.b a5],[.row a0 35,.row a1 35,.sl (.came b_a4) n_a4 a4 39]=>some (.a (.i .i64 (bothC a0 a1 a2 a3 a5)),.none,Nat.beq n_a4 0)
 | _,_=>none
theorem Znf:EntX prog 33:=Zai (fn:=Tryd.f33) (by kernel_rfl) (by kernel_rfl) (by kernel_rfl)
theorem Zpw:ConOkX (md F) prog 33 Zin:=(Zaj (N:=1000) (by kernel_rfl) (mkΓ_consX (Zad Zou) Zky (mkΓ_consX (Zad Zzn) Ztx (mkΓ_consX (Zad Ybr) Zvl (mkΓ_consX (Zad Ycd) Zwc mkΓ_nilX)))) (fn:=Tryd.f33) (by kernel_rfl) (by kernel_rfl) []).of (by
 intro ρ h w args vals r e hA hH hr
 unfold Zin at hr
 split at hr
 ·rename_i a2 a3 a5 a0 a1 b_a4 n_a4 a4
  obtain ⟨rfl,hg⟩:=Prod.mk.inj (Option.some.inj hr)
  obtain ⟨rfl,hg2⟩:=Prod.mk.inj hg
  exact Zwx a2 a3 a5 a0 a1 b_a4 n_a4 a4 (hA.rng 2 rfl) (hA.rng 3 rfl) (hH.wt 0 rfl) (hH.wt 1 rfl) (hH.slw 2 rfl) hg2
 ·cases hr)
def Zhv:Cons:=(mkΓ [(52,conG Zha),(76,con Zd3),(77,conG Zgo)])
theorem Zlt (N:Nat) (a0:Array Value) (a1:Bool) (g_e0 g_e1 g_e2 g_e3 g_e4:Addr) (b_a2:Option (Option Addr)) (n_a2:Nat) (a2:Array Value):ansV prog Zhv N Tryd.f38 [] [.r a0 76 [],.b (a1),.l 5] [.gl 1 215 g_e0 101973,.gl 2 215 g_e1 93330,.gl 0 215 g_e2 124718,.gl 3 215 g_e3 112315,.gl 4 215 g_e4 94254,.sl (.came b_a2) n_a2 a2 35]=(bif Nat.beq n_a2 2 then (bif ((pairC (a2.extract 0 363) (a2.extract 363 726))==(0:Int)) then (bif decide ((n_a2:Int) > (0:Int)) then (bif (decide (0≤(0:Int))&&decide ((0:Int)<(n_a2:Int))) then (bif (okS (a2.extract ((0:Int).toNat*363) (((0:Int).toNat*363)+363))&&(rl (a2.extract ((0:Int).toNat*363) (((0:Int).toNat*363)+363)) (num a0 0) (num a0 1) a1&&(Zag (num a0 0) (a2.extract ((0:Int).toNat*363) (((0:Int).toNat*363)+363))))) then (some (.a (.i .i64 (4:Int)),.none,true))
      else (none))
     else (none))
    else (some (.a (.i .i64 (pairC (a2.extract 0 363) (a2.extract 363 726))),.none,true)))
   else (some (.a (.i .i64 (pairC (a2.extract 0 363) (a2.extract 363 726))),.none,true)))
  else (none)):=by kernel_rfl
def Zhu:Cons:=(mkΓ [(52,conG Zha),(76,con Zd3),(77,conG Zgt)])
theorem Zl2 (N:Nat) (a0:Array Value) (a1:Bool) (g_e0 g_e1 g_e2 g_e3 g_e4:Addr) (b_a2:Option (Option Addr)) (n_a2:Nat) (a2:Array Value):ansV prog Zhu N Tryd.f38 [] [.r a0 76 [],.b (a1),.l 5] [.gl 1 215 g_e0 101973,.gl 2 215 g_e1 93330,.gl 0 215 g_e2 124718,.gl 3 215 g_e3 112315,.gl 4 215 g_e4 94254,.sl (.came b_a2) n_a2 a2 35]=(bif Nat.beq n_a2 2 then (bif ((pairC (a2.extract 0 363) (a2.extract 363 726))==(0:Int)) then (bif decide ((n_a2:Int) > (0:Int)) then (bif (decide (0≤(0:Int))&&decide ((0:Int)<(n_a2:Int))) then (bif (okS (a2.extract ((0:Int).toNat*363) (((0:Int).toNat*363)+363))&&(rl (a2.extract ((0:Int).toNat*363) (((0:Int).toNat*363)+363)) (num a0 0) (num a0 1) a1&&((!(Zag (num a0 0) (a2.extract ((0:Int).toNat*363) (((0:Int).toNat*363)+363))))))) then (some (.a (.i .i64 (0:Int)),.none,true))
      else (none))
     else (none))
    else (some (.a (.i .i64 (pairC (a2.extract 0 363) (a2.extract 363 726))),.none,true)))
   else (some (.a (.i .i64 (pairC (a2.extract 0 363) (a2.extract 363 726))),.none,true)))
  else (none)):=by kernel_rfl
def Zhx:Cons:=(mkΓ [(52,conG Zha),(76,con Zd3),(77,conG Zgn)])
theorem Zlw (N:Nat) (a0:Array Value) (a1:Bool) (g_e0 g_e1 g_e2 g_e3 g_e4:Addr) (b_a2:Option (Option Addr)) (n_a2:Nat) (a2:Array Value):ansV prog Zhx N Tryd.f38 [] [.r a0 76 [],.b (a1),.l 5] [.gl 1 215 g_e0 101973,.gl 2 215 g_e1 93330,.gl 0 215 g_e2 124718,.gl 3 215 g_e3 112315,.gl 4 215 g_e4 94254,.sl (.came b_a2) n_a2 a2 35]=(bif Nat.beq n_a2 2 then (bif ((pairC (a2.extract 0 363) (a2.extract 363 726))==(0:Int)) then (bif decide ((n_a2:Int) > (0:Int)) then (bif (decide (0≤(0:Int))&&decide ((0:Int)<(n_a2:Int))) then (bif (okS (a2.extract ((0:Int).toNat*363) (((0:Int).toNat*363)+363))&&((!(rl (a2.extract ((0:Int).toNat*363) (((0:Int).toNat*363)+363)) (num a0 0) (num a0 1) a1)))) then (some (.a (.i .i64 (2:Int)),.none,true))
      else (none))
     else (none))
    else (some (.a (.i .i64 (pairC (a2.extract 0 363) (a2.extract 363 726))),.none,true)))
   else (some (.a (.i .i64 (pairC (a2.extract 0 363) (a2.extract 363 726))),.none,true)))
  else (none)):=by kernel_rfl
def Zhw:Cons:=(mkΓ [(52,conG Zha),(76,con Zd3),(77,conG Zgs)])
theorem Zlq (N:Nat) (a0:Array Value) (a1:Bool) (g_e0 g_e1 g_e2 g_e3 g_e4:Addr) (b_a2:Option (Option Addr)) (n_a2:Nat) (a2:Array Value):ansV prog Zhw N Tryd.f38 [] [.r a0 76 [],.b (a1),.l 5] [.gl 1 215 g_e0 101973,.gl 2 215 g_e1 93330,.gl 0 215 g_e2 124718,.gl 3 215 g_e3 112315,.gl 4 215 g_e4 94254,.sl (.came b_a2) n_a2 a2 35]=(bif Nat.beq n_a2 2 then (bif ((pairC (a2.extract 0 363) (a2.extract 363 726))==(0:Int)) then (bif decide ((n_a2:Int) > (0:Int)) then (bif (decide (0≤(0:Int))&&decide ((0:Int)<(n_a2:Int))) then (bif (!(okS (a2.extract ((0:Int).toNat*363) (((0:Int).toNat*363)+363)))) then (some (.a (.i .i64 (1:Int)),.none,true))
      else (none))
     else (none))
    else (some (.a (.i .i64 (pairC (a2.extract 0 363) (a2.extract 363 726))),.none,true)))
   else (some (.a (.i .i64 (pairC (a2.extract 0 363) (a2.extract 363 726))),.none,true)))
  else (none)):=by kernel_rfl
theorem Zlo (a0:Array Value) (a1:Bool) (g_e0 g_e1 g_e2 g_e3 g_e4:Addr) (b_a2:Option (Option Addr)) (n_a2:Nat) (a2:Array Value) (h_a0:WT prog 76 a0) (h_a2:a2.size=n_a2*(lay prog 35).length∧(∀ k,k<n_a2→WT prog 35 (a2.extract (k*(lay prog 35).length) (k*(lay prog 35).length+(lay prog 35).length)))∧n_a2≤9223372036854775807) (hc0:(okS (a2.extract 0 363))=false) (hg:(Nat.beq n_a2 2)=true):ansV prog Zhw 1000 Tryd.f38 [] [.r a0 76 [],.b (a1),.l 5] [.gl 1 215 g_e0 101973,.gl 2 215 g_e1 93330,.gl 0 215 g_e2 124718,.gl 3 215 g_e3 112315,.gl 4 215 g_e4 94254,.sl (.came b_a2) n_a2 a2 35]=some (.a (.i .i64 (bif (pairC (a2.extract 0 363) (a2.extract 363 726)==(0:Int)) then (1:Int) else pairC (a2.extract 0 363) (a2.extract 363 726))),.none,true):=by
 obtain rfl:n_a2=2:=Nat.eq_of_beq_eq_true hg
 refine (Zlq 1000 a0 a1 g_e0 g_e1 g_e2 g_e3 g_e4 b_a2 2 a2).trans ?_
 have x0:a2.extract ((0:Int).toNat*363) ((0:Int).toNat*363+363)=(a2.extract 0 363):=rfl
 have b2:Nat.beq 2 2=true:=rfl
 have d2:decide (((2:Nat):Int) > 0)=true:=rfl
 have d3:(decide ((0:Int)≤0)&&true)=true:=rfl
 rw [x0,b2,d2,d3]
 cases hz:(pairC (a2.extract 0 363) (a2.extract 363 726)==(0:Int))<;>simp only [hc0,Bool.and_self,Bool.and_true,Bool.true_and,Bool.not_false,Bool.not_true,cond_true,cond_false]
 all_goals rfl
theorem Zln (a0:Array Value) (a1:Bool) (g_e0 g_e1 g_e2 g_e3 g_e4:Addr) (b_a2:Option (Option Addr)) (n_a2:Nat) (a2:Array Value) (h_a0:WT prog 76 a0) (h_a2:a2.size=n_a2*(lay prog 35).length∧(∀ k,k<n_a2→WT prog 35 (a2.extract (k*(lay prog 35).length) (k*(lay prog 35).length+(lay prog 35).length)))∧n_a2≤9223372036854775807) (hc0:(okS (a2.extract 0 363))=true) (hc1:(rl (a2.extract 0 363) (num a0 0) (num a0 1) a1)=false) (hg:(Nat.beq n_a2 2)=true):ansV prog Zhx 1000 Tryd.f38 [] [.r a0 76 [],.b (a1),.l 5] [.gl 1 215 g_e0 101973,.gl 2 215 g_e1 93330,.gl 0 215 g_e2 124718,.gl 3 215 g_e3 112315,.gl 4 215 g_e4 94254,.sl (.came b_a2) n_a2 a2 35]=some (.a (.i .i64 (bif (pairC (a2.extract 0 363) (a2.extract 363 726)==(0:Int)) then (2:Int) else pairC (a2.extract 0 363) (a2.extract 363 726))),.none,true):=by
 obtain rfl:n_a2=2:=Nat.eq_of_beq_eq_true hg
 refine (Zlw 1000 a0 a1 g_e0 g_e1 g_e2 g_e3 g_e4 b_a2 2 a2).trans ?_
 have x0:a2.extract ((0:Int).toNat*363) ((0:Int).toNat*363+363)=(a2.extract 0 363):=rfl
 have b2:Nat.beq 2 2=true:=rfl
 have d2:decide (((2:Nat):Int) > 0)=true:=rfl
 have d3:(decide ((0:Int)≤0)&&true)=true:=rfl
 rw [x0,b2,d2,d3]
 cases hz:(pairC (a2.extract 0 363) (a2.extract 363 726)==(0:Int))<;>simp only [hc0,hc1,Bool.and_self,Bool.and_true,Bool.true_and,Bool.not_false,Bool.not_true,cond_true,cond_false]
 all_goals rfl
theorem Zl0 (a0:Array Value) (a1:Bool) (g_e0 g_e1 g_e2 g_e3 g_e4:Addr) (b_a2:Option (Option Addr)) (n_a2:Nat) (a2:Array Value) (h_a0:WT prog 76 a0) (h_a2:a2.size=n_a2*(lay prog 35).length∧(∀ k,k<n_a2→WT prog 35 (a2.extract (k*(lay prog 35).length) (k*(lay prog 35).length+(lay prog 35).length)))∧n_a2≤9223372036854775807) (hc0:(okS (a2.extract 0 363))=true) (hc1:(rl (a2.extract 0 363) (num a0 0) (num a0 1) a1)=true) (hc2:(Zag (num a0 0) (a2.extract 0 363))=false) (hg:(Nat.beq n_a2 2)=true):ansV prog Zhu 1000 Tryd.f38 [] [.r a0 76 [],.b (a1),.l 5] [.gl 1 215 g_e0 101973,.gl 2 215 g_e1 93330,.gl 0 215 g_e2 124718,.gl 3 215 g_e3 112315,.gl 4 215 g_e4 94254,.sl (.came b_a2) n_a2 a2 35]=some (.a (.i .i64 (bif (pairC (a2.extract 0 363) (a2.extract 363 726)==(0:Int)) then (0:Int) else pairC (a2.extract 0 363) (a2.extract 363 726))),.none,true):=by
 obtain rfl:n_a2=2:=Nat.eq_of_beq_eq_true hg
 refine (Zl2 1000 a0 a1 g_e0 g_e1 g_e2 g_e3 g_e4 b_a2 2 a2).trans ?_
 have x0:a2.extract ((0:Int).toNat*363) ((0:Int).toNat*363+363)=(a2.extract 0 363):=rfl
 have b2:Nat.beq 2 2=true:=rfl
 have d2:decide (((2:Nat):Int) > 0)=true:=rfl
 have d3:(decide ((0:Int)≤0)&&true)=true:=rfl
 rw [x0,b2,d2,d3]
 cases hz:(pairC (a2.extract 0 363) (a2.extract 363 726)==(0:Int))<;>simp only [hc0,hc1,hc2,Bool.and_self,Bool.and_true,Bool.true_and,Bool.not_false,Bool.not_true,cond_true,cond_false]
 all_goals rfl
theorem Zl1 (a0:Array Value) (a1:Bool) (g_e0 g_e1 g_e2 g_e3 g_e4:Addr) (b_a2:Option (Option Addr)) (n_a2:Nat) (a2:Array Value) (h_a0:WT prog 76 a0) (h_a2:a2.size=n_a2*(lay prog 35).length∧(∀ k,k<n_a2→WT prog 35 (a2.extract (k*(lay prog 35).length) (k*(lay prog 35).length+(lay prog 35).length)))∧n_a2≤9223372036854775807) (hc0:(okS (a2.extract 0 363))=true) (hc1:(rl (a2.extract 0 363) (num a0 0) (num a0 1) a1)=true) (hc2:(Zag (num a0 0) (a2.extract 0 363))=true) (hg:(Nat.beq n_a2 2)=true):ansV prog Zhv 1000 Tryd.f38 [] [.r a0 76 [],.b (a1),.l 5] [.gl 1 215 g_e0 101973,.gl 2 215 g_e1 93330,.gl 0 215 g_e2 124718,.gl 3 215 g_e3 112315,.gl 4 215 g_e4 94254,.sl (.came b_a2) n_a2 a2 35]=some (.a (.i .i64 (bif (pairC (a2.extract 0 363) (a2.extract 363 726)==(0:Int)) then (4:Int) else pairC (a2.extract 0 363) (a2.extract 363 726))),.none,true):=by
 obtain rfl:n_a2=2:=Nat.eq_of_beq_eq_true hg
 refine (Zlt 1000 a0 a1 g_e0 g_e1 g_e2 g_e3 g_e4 b_a2 2 a2).trans ?_
 have x0:a2.extract ((0:Int).toNat*363) ((0:Int).toNat*363+363)=(a2.extract 0 363):=rfl
 have b2:Nat.beq 2 2=true:=rfl
 have d2:decide (((2:Nat):Int) > 0)=true:=rfl
 have d3:(decide ((0:Int)≤0)&&true)=true:=rfl
 rw [x0,b2,d2,d3]
 cases hz:(pairC (a2.extract 0 363) (a2.extract 363 726)==(0:Int))<;>simp only [hc0,hc1,hc2,Bool.and_self,Bool.and_true,Bool.true_and,Bool.not_false,Bool.not_true,cond_true,cond_false]
 all_goals rfl
def Zci:SCon:=fun args h=>match args,h with
 | [.r a0 76 [],.b a1,.l 5],[.gl 1 215 g_e0 101973,.gl 2 215 g_e1 93330,.gl 0 215 g_e2 124718,.gl 3 215 g_e3 112315,.gl 4 215 g_e4 94254,.sl (.came b_a2) n_a2 a2 35]=>.two (okS (a2.extract 0 363)) (.two (rl (a2.extract 0 363) (num a0 0) (num a0 1) a1) (.two (Zag (num a0 0) (a2.extract 0 363)) (.one (some (.a (.i .i64 (bif (pairC (a2.extract 0 363) (a2.extract 363 726)==(0:Int)) then (4:Int) else pairC (a2.extract 0 363) (a2.extract 363 726))),.none,Nat.beq n_a2 2))) (.one (some (.a (.i .i64 (bif (pairC (a2.extract 0 363) (a2.extract 363 726)==(0:Int)) then (0:Int) else pairC (a2.extract 0 363) (a2.extract 363 726))),.none,Nat.beq n_a2 2)))) (.one (some (.a (.i .i64 (bif (pairC (a2.extract 0 363) (a2.extract 363 726)==(0:Int)) then (2:Int) else pairC (a2.extract 0 363) (a2.extract 363 726))),.none,Nat.beq n_a2 2)))) (.one (some (.a (.i .i64 (bif (pairC (a2.extract 0 363) (a2.extract 363 726)==(0:Int)) then (1:Int) else pairC (a2.extract 0 363) (a2.extract 363 726))),.none,Nat.beq n_a2 2)))
 | _,_=>.one none
theorem Zgy:EntX prog 38:=Zai (fn:=Tryd.f38) (by kernel_rfl) (by kernel_rfl) (by kernel_rfl)
theorem Zm3:ConOkX (md F) prog 38 (fun args h=>wayRes (Zci args h)):=by
 intro ρ h w args vals r e hn hr hA hH
 dsimp only at hr
 unfold Zci at hr
 split at hr
 ·rename_i a0 a1 g_e0 g_e1 g_e2 g_e3 g_e4 b_a2 n_a2 a2
  simp only [wayRes] at hr
  cases hc0:(okS (a2.extract 0 363))
  ·rw [hc0] at hr
   simp only [wayRes,cond_true,cond_false] at hr
   obtain ⟨rfl,hg⟩:=Prod.mk.inj (Option.some.inj hr)
   obtain ⟨rfl,hg2⟩:=Prod.mk.inj hg
   exact ((Zaj (N:=1000) (by kernel_rfl) (mkΓ_consX (Zhe Zko) Zhn (mkΓ_consX (Zad Zij) Zfp (mkΓ_consX (Zhe Zq0) Zdv mkΓ_nilX))) (fn:=Tryd.f38) (by kernel_rfl) (by kernel_rfl) [])) ρ _ w _ vals _ _ hn ((Zlo a0 a1 g_e0 g_e1 g_e2 g_e3 g_e4 b_a2 n_a2 a2 (hA.wtr 0 rfl) (hH.slw 5 rfl) hc0 hg2)) hA hH
  ·rw [hc0] at hr
   simp only [wayRes,cond_true,cond_false] at hr
   cases hc1:(rl (a2.extract 0 363) (num a0 0) (num a0 1) a1)
   ·rw [hc1] at hr
    simp only [wayRes,cond_true,cond_false] at hr
    obtain ⟨rfl,hg⟩:=Prod.mk.inj (Option.some.inj hr)
    obtain ⟨rfl,hg2⟩:=Prod.mk.inj hg
    exact ((Zaj (N:=1000) (by kernel_rfl) (mkΓ_consX (Zhe Zko) Zhn (mkΓ_consX (Zad Zij) Zfp (mkΓ_consX (Zhe Zqs) Zdv mkΓ_nilX))) (fn:=Tryd.f38) (by kernel_rfl) (by kernel_rfl) [])) ρ _ w _ vals _ _ hn ((Zln a0 a1 g_e0 g_e1 g_e2 g_e3 g_e4 b_a2 n_a2 a2 (hA.wtr 0 rfl) (hH.slw 5 rfl) hc0 hc1 hg2)) hA hH
   ·rw [hc1] at hr
    simp only [wayRes,cond_true,cond_false] at hr
    cases hc2:(Zag (num a0 0) (a2.extract 0 363))
    ·rw [hc2] at hr
     simp only [wayRes,cond_true,cond_false] at hr
     obtain ⟨rfl,hg⟩:=Prod.mk.inj (Option.some.inj hr)
     obtain ⟨rfl,hg2⟩:=Prod.mk.inj hg
     exact ((Zaj (N:=1000) (by kernel_rfl) (mkΓ_consX (Zhe Zko) Zhn (mkΓ_consX (Zad Zij) Zfp (mkΓ_consX (Zhe Zqu) Zdv mkΓ_nilX))) (fn:=Tryd.f38) (by kernel_rfl) (by kernel_rfl) [])) ρ _ w _ vals _ _ hn ((Zl0 a0 a1 g_e0 g_e1 g_e2 g_e3 g_e4 b_a2 n_a2 a2 (hA.wtr 0 rfl) (hH.slw 5 rfl) hc0 hc1 hc2 hg2)) hA hH
    ·rw [hc2] at hr
     simp only [wayRes,cond_true,cond_false] at hr
     obtain ⟨rfl,hg⟩:=Prod.mk.inj (Option.some.inj hr)
     obtain ⟨rfl,hg2⟩:=Prod.mk.inj hg
     exact ((Zaj (N:=1000) (by kernel_rfl) (mkΓ_consX (Zhe Zko) Zhn (mkΓ_consX (Zad Zij) Zfp (mkΓ_consX (Zhe Zqm) Zdv mkΓ_nilX))) (fn:=Tryd.f38) (by kernel_rfl) (by kernel_rfl) [])) ρ _ w _ vals _ _ hn ((Zl1 a0 a1 g_e0 g_e1 g_e2 g_e3 g_e4 b_a2 n_a2 a2 (hA.wtr 0 rfl) (hH.slw 5 rfl) hc0 hc1 hc2 hg2)) hA hH
 ·simp only [wayRes] at hr
  cases hr
def Zcw:Con:=fun args h=>match args,h with
 | [.r a0 76 [],.b a1,.l 5],[.gl 1 215 g_e0 101973,.gl 2 215 g_e1 93330,.gl 0 215 g_e2 124718,.gl 3 215 g_e3 112315,.gl 4 215 g_e4 94254,.sl (.came b_a2) n_a2 a2 35]=>some (.a (.i .i64 (bothC (a2.extract 0 363) (a2.extract 363 726) (num a0 0) (num a0 1) a1)),.none,Nat.beq n_a2 2)
 | _,_=>none
theorem Zig:ConOkX (md F) prog 38 Zcw:=ConOkX.of Zm3 (by
 intro ρ h w args vals r e hA hH hr
 unfold Zcw at hr
 split at hr
 ·rename_i a0 a1 g_e0 g_e1 g_e2 g_e3 g_e4 b_a2 n_a2 a2
  obtain ⟨rfl,hg⟩:=Prod.mk.inj (Option.some.inj hr)
  obtain ⟨rfl,hg2⟩:=Prod.mk.inj hg
  show wayRes (Zci _ _)=_
  unfold Zci
  simp only [wayRes]
  rw [hg2]
  unfold bothC
  rw [Ynj]
  cases (okS (a2.extract 0 363))<;>cases (rl (a2.extract 0 363) (num a0 0) (num a0 1) a1)<;>cases (Zag (num a0 0) (a2.extract 0 363))<;>simp only [cond_true,cond_false]
 ·cases hr)
theorem Yj6 {A C:Array Value} (hA:A.size=363) (hC:C.size=363):(spl (spl (repC (zc prog 35) 2) 0 A.toList) 363 C.toList).extract 0 363=A∧(spl (spl (repC (zc prog 35) 2) 0 A.toList) 363 C.toList).extract 363 726=C:=by
 have hz:(repC (zc prog 35) 2).size=726:=by kernel_rfl
 have hl:A.toList.length=363:=by rw [Array.length_toList,hA]
 have hm:C.toList.length=363:=by rw [Array.length_toList,hC]
 constructor
 ·refine Array.ext_getElem? fun i=> ?_
  rw [Array.getElem?_extract,Zgp _ _ _ (by rw [Zhm,hz,hm];omega),Zgp _ _ _ (by rw [hz,hl];omega),Zhm,Zhm,hz,hl,hm]
  by_cases hi:i<363
  ·rw [if_pos (by omega),if_neg (by omega),if_pos (by omega)]
   simp
  ·rw [if_neg (by omega),Array.getElem?_eq_none (by omega)]
 ·refine Array.ext_getElem? fun i=> ?_
  rw [Array.getElem?_extract,Zgp _ _ _ (by rw [Zhm,hz,hm];omega),Zhm,Zhm,hz,hm]
  by_cases hi:i<363
  ·rw [if_pos (by omega),if_pos (by omega),show 363+i - 363=i by omega]
   simp
  ·rw [if_neg (by omega),Array.getElem?_eq_none (by omega)]
theorem alike_of {A C:Array Value} (h:Za4 A C=true):num A 0=num C 0∧num A 1=num C 1∧num A 2=num C 2:=by
 unfold Za4 at h
 cases h0:(num A 0==num C 0)<;>cases h1:(num A 1==num C 1)<;>cases h2:(num A 2==num C 2)<;>rw [h0,h1,h2] at h<;>first | exact ⟨eq_of_beq h0,eq_of_beq h1,eq_of_beq h2⟩ | cases h
theorem Ym5 {A C:Array Value} (h:(pairC A C==(0:Int))=true):okS A=true∧okS C=true∧Za4 A C=true:=by
 rw [Yh1] at h
 unfold Zbf at h
 cases h0:okS A<;>cases h1:okS C<;>cases h2:Za4 A C<;>rw [h0,h1,h2] at h<;>first | exact ⟨rfl,rfl,rfl⟩ | (exfalso;revert h;decide)
theorem Zmu {A C:Array Value} {c b:Int} {f:Bool} (h:(bothC A C c b f != (0:Int))=false):okS A=true∧okS C=true∧Za4 A C=true∧Zab c A=true∧Zab c C=true∧Zaa b 0 1=true∧f=true∧Zag c A=false:=by
 unfold bothC at h
 cases hz:(pairC A C==(0:Int)) with
 | false=>
  rw [hz,cond_false] at h
  rw [bne,hz] at h
  cases h
 | true=>
  rw [hz,cond_true] at h
  obtain ⟨o0,o1,al⟩:=Ym5 hz
  obtain ⟨_,i0,t0,f0,d0⟩:=Ynl h
  obtain ⟨e0,e1,_⟩:=alike_of al
  have i1:Zab c C=true:=by
   unfold Zab at i0⊢
   rw [← e0,← e1]
   exact i0
  exact ⟨o0,o1,al,i0,i1,t0,f0,d0⟩
end
end Go.Proofs.YtdofpgniogochaaDoor
