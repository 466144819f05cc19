import Derived.Test.YtdofpgniogochaaDoorProg
import Derived.Test.YtdofpgniogochaaDoorCyR
namespace Go.Proofs.YtdofpgniogochaaDoor
open Go.ChangeShapes Go.WideShapes Go.ChangeAt Go.RowKit Ve Vc
open Tryd (prog)
open IntKind (i64)
set_option linter.unusedVariables false
set_option linter.unusedSimpArgs false
set_option maxRecDepth 100000
noncomputable section
variable {F:Vc.Fd}
def Zcj:Cons:=(mkΓ [(39,con Zex),(88,con Zgr),(89,con Ze1),(112,con Zib)])
def Zdr (a0:Array Value):St:=(⟨.a (.g a0 35) :: .a (.v (.slice none 0 0)) :: .a (.w 0) :: .a (.u) :: .a (.b (false))::us 3 (.a (.g a0 35) :: .a (.b ((okS a0))) :: .a (.b ((!((okS a0))))) :: .a (.b (false)) :: .a (.v (.slice none 0 0)) :: .a (.i .i64 (0:Int)) :: .a (.b (false)) :: .a (.b (false)) :: .a (.v (.slice none 0 0)) :: .a (.i .i64 (0:Int)) :: .a (.i .i64 (0:Int))::us 23 ([])),[.row a0 35,.no],[]⟩:St)
def Zfi:Bool×Int→LS
 | (y0_4,y0_18)=>([.a (.b (y0_4)),.a (.i .i64 (y0_18))],[])
def Zjx:Bool×Int→Exit×LS
 | t=>((.exit 0),Zfi t)
def Zhk (P:Program) (a0:Array Value):Bool×Int→Option (Stp (Bool×Int) (Bool×Int))
 | (y0_4,y0_18)=>bif decide (y0_18<(0:Int)) then (none)
  else (some (.done (y0_4,y0_18)))
theorem Zx7 (N:Nat) (a0:Array Value):∀ t:Bool×Int,stepV prog Zcj N (cAt (codeOf Tryd.f110) [1,1,0,1,0,0]) (pAt (mkPlan (codeOf Tryd.f110) [([4,18],[])]).1 [1,1,0,1,0]) [4,18] [] (Zdr a0) (Zfi t)=mapS Zfi Zjx (Zhk prog a0 t):=by
 rintro ⟨y0_4,y0_18⟩
 refine Eq.trans (b:=(bif decide (y0_18<(0:Int)) then (none)
  else (some (.done ((.exit 0),([.a (.b (y0_4)),.a (.i .i64 (y0_18))],[])))))) (by kernel_rfl) ?_
 simp only [Zhk,Zav,Zat,Zau,Zas,Zfi,Zjx]
def Ziu (P:Program) (N:Nat) (a0:Array Value) (z0_4:Bool) (z0_18:Int):Option (SV×Eff×Bool):=some (.a (.b (true)),.none,true)
theorem Zpu (N:Nat) (a0:Array Value) (z0_4:Bool) (z0_18:Int):(kBlock 0 (kSeq (veC prog Zcj N (cAt (codeOf Tryd.f110) [1,1,1]) (pAt (mkPlan (codeOf Tryd.f110) [([4,18],[])]).1 [1,1,1]) (SV×Eff×Bool)) (finK prog [] [.tmp 4]))) (.exit 0) (left (writes (cAt (codeOf Tryd.f110) [1,1,0,1,0,0])) [4,18] [] (Zdr a0) ([.a (.b (z0_4)),.a (.i .i64 (z0_18))],[]))=Ziu prog N a0 z0_4 z0_18:=by
 refine Eq.trans (b:=(some (.a (.b (true)),.none,true))) (by kernel_rfl) ?_
 rfl
theorem Zwp (N:Nat) (a0:Array Value):bindX (iterO (stepV prog Zcj N (cAt (codeOf Tryd.f110) [1,1,0,1,0,0]) (pAt (mkPlan (codeOf Tryd.f110) [([4,18],[])]).1 [1,1,0,1,0]) [4,18] [] (Zdr a0)) N ([.a (.b (false)),.a (.i .i64 (0:Int))],[])) (fun e s=>(kBlock 0 (kSeq (veC prog Zcj N (cAt (codeOf Tryd.f110) [1,1,1]) (pAt (mkPlan (codeOf Tryd.f110) [([4,18],[])]).1 [1,1,1]) (SV×Eff×Bool)) (finK prog [] [.tmp 4]))) e (left (writes (cAt (codeOf Tryd.f110) [1,1,0,1,0,0])) [4,18] [] (Zdr a0) s))=nodeX (iterO (Zhk prog a0) N (false,(0:Int))) (fun x=>Ziu prog N a0 x.1 x.2):=by
 refine Za4 Zfi Zjx _ _ (Zx7 N a0) N (false,(0:Int)) _ _ ?_
 intro x;exact Zpu N a0 x.1 x.2
theorem Zvc (N:Nat) (a0:Array Value):ansV prog Zcj N Tryd.f110 [([4,18],[])] [.g a0 35,.v (.slice none 0 0)] []=(bif (!((okS a0))) then (some (.a (.b (false)),.none,true))
  else (nodeX (iterO (Zhk prog a0) N (false,(0:Int))) (fun x=>Ziu prog N a0 x.1 x.2))):=by
 refine Eq.trans (b:=(bif (!((okS a0))) then (some (.a (.b (false)),.none,true))
  else (bindX (iterO (stepV prog Zcj N (cAt (codeOf Tryd.f110) [1,1,0,1,0,0]) (pAt (mkPlan (codeOf Tryd.f110) [([4,18],[])]).1 [1,1,0,1,0]) [4,18] [] (Zdr a0)) N ([.a (.b (false)),.a (.i .i64 (0:Int))],[])) (fun e s=>(kBlock 0 (kSeq (veC prog Zcj N (cAt (codeOf Tryd.f110) [1,1,1]) (pAt (mkPlan (codeOf Tryd.f110) [([4,18],[])]).1 [1,1,1]) (SV×Eff×Bool)) (finK prog [] [.tmp 4]))) e (left (writes (cAt (codeOf Tryd.f110) [1,1,0,1,0,0])) [4,18] [] (Zdr a0) s))))) (by kernel_rfl) ?_
 simp only [Zwp N a0]
theorem Zte (a0:Array Value) (h_a0:WT prog 35 a0) (hg:(true)=true):ansV prog Zcj 1000 Tryd.f110 [([4,18],[])] [.g a0 35,.v (.slice none 0 0)] []=some (.a (.b ((okS a0))),.none,true):=by
 refine (Zvc 1000 a0).trans ?_
 cases okS a0<;>rfl
def Zjj:Con:=fun args h=>match args,h with
 | [.g a0 35,.v (.slice none 0 0)],[]=>some (.a (.b ((okS a0))),.none,true)
 | _,_=>none
theorem Zri:EntX prog 110:=Zai (fn:=Tryd.f110) (by kernel_rfl) (by kernel_rfl) (by kernel_rfl)
theorem Zwo:ConOkX (md F) prog 110 Zjj:=(Zaj (N:=1000) (by kernel_rfl) (mkΓ_consX (Zad Zkv) Zhf (mkΓ_consX (Zad Zfx) Zdp (mkΓ_consX (Zad Zj4) Zhl (mkΓ_consX (Zad Zgq) Zeq mkΓ_nilX)))) (fn:=Tryd.f110) (by kernel_rfl) (by kernel_rfl) [([4,18],[])]).of (by
 intro ρ h w args vals r e hA hH hr
 unfold Zjj at hr
 split at hr
 ·rename_i a0
  obtain ⟨rfl,hg⟩:=Prod.mk.inj (Option.some.inj hr)
  obtain ⟨rfl,hg2⟩:=Prod.mk.inj hg
  exact Zte a0 (hA.wt 0 rfl) hg2
 ·cases hr)
theorem Zu8 (N:Nat) (a0 a1:Array Value):ansV prog (mkΓ []) N Tryd.f111 [] [.g a0 35,.g a1 35] []=(bif ((num a0 0)==(num a1 0)) then (bif ((num a0 1)==(num a1 1)) then (some (.a (.b (((num a0 2)==(num a1 2)))),.none,true))
   else (some (.a (.b (false)),.none,true)))
  else (some (.a (.b (false)),.none,true))):=by kernel_rfl
def Za2 (a0 a1:Array Value):Bool:=(bif ((num a0 0)==(num a1 0)) then (bif ((num a0 1)==(num a1 1)) then ((num a0 2)==(num a1 2)) else false) else false)
theorem Zt0 (a0 a1:Array Value) (h_a0:WT prog 35 a0) (h_a1:WT prog 35 a1) (hg:(true)=true):ansV prog (mkΓ []) 1000 Tryd.f111 [] [.g a0 35,.g a1 35] []=some (.a (.b ((Za2 a0 a1))),.none,true):=by
 refine (Zu8 1000 a0 a1).trans ?_
 unfold Za2
 revert hg
 generalize (((num a0 0)==(num a1 0)))=b2
 intro hg
 cases b2
 ·skip
  first | (simp only [cond_true,cond_false,Bool.and_true,Bool.true_and,Bool.and_false,Bool.false_and];done) | rfl | exact (nomatch (hg:false=true))
 ·skip
  revert hg
  generalize (((num a0 1)==(num a1 1)))=b4
  intro hg
  cases b4
  ·skip
   first | (simp only [cond_true,cond_false,Bool.and_true,Bool.true_and,Bool.and_false,Bool.false_and];done) | rfl | exact (nomatch (hg:false=true))
  ·skip
   first | (simp only [cond_true,cond_false,Bool.and_true,Bool.true_and,Bool.and_false,Bool.false_and];done) | rfl | exact (nomatch (hg:false=true))
def Zjg:Con:=fun args h=>match args,h with
 | [.g a0 35,.g a1 35],[]=>some (.a (.b ((Za2 a0 a1))),.none,true)
 | _,_=>none
theorem Zq3:EntX prog 111:=Zai (fn:=Tryd.f111) (by kernel_rfl) (by kernel_rfl) (by kernel_rfl)
theorem Zxq:ConOkX (md F) prog 111 Zjg:=(Zaj (N:=1000) (by kernel_rfl) mkΓ_nilX (fn:=Tryd.f111) (by kernel_rfl) (by kernel_rfl) []).of (by
 intro ρ h w args vals r e hA hH hr
 unfold Zjg at hr
 split at hr
 ·rename_i a0 a1
  obtain ⟨rfl,hg⟩:=Prod.mk.inj (Option.some.inj hr)
  obtain ⟨rfl,hg2⟩:=Prod.mk.inj hg
  exact Zt0 a0 a1 (hA.wt 0 rfl) (hA.wt 1 rfl) hg2
 ·cases hr)
theorem Zyj (N:Nat) (a0 a1:Array Value):ansV prog (mkΓ []) N Tryd.f107 [] [.w 0,.w 1] [.row a0 35,.row a1 35]=(bif ((num a0 0)==(num a1 0)) then (bif ((num a0 1)==(num a1 1)) then (some (.a (.b (((num a0 2)==(num a1 2)))),.none,true))
   else (some (.a (.b (false)),.none,true)))
  else (some (.a (.b (false)),.none,true))):=by kernel_rfl
def Za8 (a0 a1:Array Value):Bool:=(bif ((num a0 0)==(num a1 0)) then (bif ((num a0 1)==(num a1 1)) then ((num a0 2)==(num a1 2)) else false) else false)
theorem Zxp (a0 a1:Array Value) (h_a0:WT prog 35 a0) (h_a1:WT prog 35 a1) (hg:(true)=true):ansV prog (mkΓ []) 1000 Tryd.f107 [] [.w 0,.w 1] [.row a0 35,.row a1 35]=some (.a (.b ((Za8 a0 a1))),.none,true):=by
 refine (Zyj 1000 a0 a1).trans ?_
 unfold Za8
 revert hg
 generalize (((num a0 0)==(num a1 0)))=b2
 intro hg
 cases b2
 ·skip
  first | (simp only [cond_true,cond_false,Bool.and_true,Bool.true_and,Bool.and_false,Bool.false_and];done) | rfl | exact (nomatch (hg:false=true))
 ·skip
  revert hg
  generalize (((num a0 1)==(num a1 1)))=b4
  intro hg
  cases b4
  ·skip
   first | (simp only [cond_true,cond_false,Bool.and_true,Bool.true_and,Bool.and_false,Bool.false_and];done) | rfl | exact (nomatch (hg:false=true))
  ·skip
   first | (simp only [cond_true,cond_false,Bool.and_true,Bool.true_and,Bool.and_false,Bool.false_and];done) | rfl | exact (nomatch (hg:false=true))
def Zk0:Con:=fun args h=>match args,h with
 | [.w 0,.w 1],[.row a0 35,.row a1 35]=>some (.a (.b ((Za8 a0 a1))),.none,true)
 | _,_=>none
theorem Zur:EntX prog 107:=Zai (fn:=Tryd.f107) (by kernel_rfl) (by kernel_rfl) (by kernel_rfl)
theorem Yau:ConOkX (md F) prog 107 Zk0:=(Zaj (N:=1000) (by kernel_rfl) mkΓ_nilX (fn:=Tryd.f107) (by kernel_rfl) (by kernel_rfl) []).of (by
 intro ρ h w args vals r e hA hH hr
 unfold Zk0 at hr
 split at hr
 ·rename_i a0 a1
  obtain ⟨rfl,hg⟩:=Prod.mk.inj (Option.some.inj hr)
  obtain ⟨rfl,hg2⟩:=Prod.mk.inj hg
  exact Zxp a0 a1 (hH.wt 0 rfl) (hH.wt 1 rfl) hg2
 ·cases hr)
def Zt9:Cons:=(mkΓ [(70,con Zi2),(107,con Zk0)])
theorem Ya2 (N:Nat) (a0 a1:Array Value):ansV prog Zt9 N Tryd.f72 [] [.w 0,.w 1] [.row a0 35,.row a1 35]=(bif (!((okS a0))) then (some (.a (.i .i64 (1:Int)),.none,true))
  else (bif (!((okS a1))) then (some (.a (.i .i64 (1:Int)),.none,true))
   else (bif (!((Za8 a0 a1))) then (some (.a (.i .i64 (4:Int)),.none,true))
    else (some (.a (.i .i64 (0:Int)),.none,true))))):=by kernel_rfl
def Zbi (a0 a1:Array Value):Int:=(bif (!((okS a0))) then (1:Int) else (bif (!((okS a1))) then (1:Int) else (bif (!((Za8 a0 a1))) then (4:Int) else (0:Int))))
theorem Zyp (a0 a1:Array Value) (h_a0:WT prog 35 a0) (h_a1:WT prog 35 a1) (hg:(true)=true):ansV prog Zt9 1000 Tryd.f72 [] [.w 0,.w 1] [.row a0 35,.row a1 35]=some (.a (.i .i64 (Zbi a0 a1)),.none,true):=by
 refine (Ya2 1000 a0 a1).trans ?_
 unfold Zbi
 revert hg
 generalize ((!((okS a0))))=b2
 intro hg
 cases b2
 ·skip
  revert hg
  generalize ((!((okS a1))))=b4
  intro hg
  cases b4
  ·skip
   revert hg
   generalize ((!((Za8 a0 a1))))=b6
   intro hg
   cases b6
   ·skip
    first | (simp only [cond_true,cond_false,Bool.and_true,Bool.true_and,Bool.and_false,Bool.false_and];done) | rfl | exact (nomatch (hg:false=true))
   ·skip
    first | (simp only [cond_true,cond_false,Bool.and_true,Bool.true_and,Bool.and_false,Bool.false_and];done) | rfl | exact (nomatch (hg:false=true))
  ·skip
   first | (simp only [cond_true,cond_false,Bool.and_true,Bool.true_and,Bool.and_false,Bool.false_and];done) | rfl | exact (nomatch (hg:false=true))
 ·skip
  first | (simp only [cond_true,cond_false,Bool.and_true,Bool.true_and,Bool.and_false,Bool.false_and];done) | rfl | exact (nomatch (hg:false=true))
def Zmg:Con:=fun args h=>match args,h with
 | [.w 0,.w 1],[.row a0 35,.row a1 35]=>some (.a (.i .i64 (Zbi a0 a1)),.none,true)
 | _,_=>none
theorem Zvy:EntX prog 72:=Zai (fn:=Tryd.f72) (by kernel_rfl) (by kernel_rfl) (by kernel_rfl)
theorem Yc7:ConOkX (md F) prog 72 Zmg:=(Zaj (N:=1000) (by kernel_rfl) (mkΓ_consX (Zad Zp7) Zlw (mkΓ_consX (Zad Yau) Zur mkΓ_nilX)) (fn:=Tryd.f72) (by kernel_rfl) (by kernel_rfl) []).of (by
 intro ρ h w args vals r e hA hH hr
 unfold Zmg at hr
 split at hr
 ·rename_i a0 a1
  obtain ⟨rfl,hg⟩:=Prod.mk.inj (Option.some.inj hr)
  obtain ⟨rfl,hg2⟩:=Prod.mk.inj hg
  exact Zyp a0 a1 (hH.wt 0 rfl) (hH.wt 1 rfl) hg2
 ·cases hr)
def Za6:Cons:=(mkΓ [(110,con Zjj),(111,con Zjg)])
def Zdx (b_a0:Option (Option Addr)) (n_a0:Nat) (a0:Array Value):St:=(⟨.a (.l 0) :: .a (.v (.slice none 0 0)) :: .a (.u) :: .a (.u) :: .a (.i .i64 (0:Int))::us 4 (.a (.l 0) :: .a (.i .i64 (n_a0:Int)) :: .a (.i .i64 (0:Int))::us 24 ([])),[.sl (.came b_a0) n_a0 a0 35],[]⟩:St)
def Zez:Int×Int→LS
 | (y0_4,y0_11)=>([.a (.i .i64 (y0_4)),.a (.i .i64 (y0_11))],[])
def Zmf:(Stp (Int×Int) (Int×Int))→Exit×LS
 | .more t=>(.ret,Zez t)
 | .done t=>((.exit 0),Zez t)
def Zam (P : Program) (b_a0 : Option (Option Addr)) (n_a0 : Nat) (a0 : Array Value) : Int × Int → Option (Stp (Int × Int) (Stp (Int × Int) (Int × Int)))
 | (y0_4, y0_11) => bif decide (y0_11 < (n_a0 : Int)) then (bif (decide (0 ≤ y0_11) && decide (y0_11 < (n_a0 : Int))) then (bif (!((okS (a0.extract ((y0_11).toNat * 363) (((y0_11).toNat * 363) + 363))))) then (some (.done (.more ((1 : Int), y0_11))))
    else (some (.more (y0_4, (i64.wrap (y0_11 + (1 : Int)))))))
   else (none))
  else (some (.done (.done (y0_4, y0_11))))
theorem Ybm (N:Nat) (b_a0:Option (Option Addr)) (n_a0:Nat) (a0:Array Value):∀ t:Int×Int,stepV prog Za6 N (cAt (codeOf Tryd.f76) [1,0,1,0,0]) (pAt (mkPlan (codeOf Tryd.f76) [([4,11],[]),([4,25],[])]).1 [1,0,1,0]) [4,11] [] (Zdx b_a0 n_a0 a0) (Zez t)=mapS Zez Zmf (Zam prog b_a0 n_a0 a0 t):=by
 rintro ⟨y0_4,y0_11⟩
 refine Eq.trans (b:=(bif decide (y0_11<(n_a0:Int)) then (bif (decide (0≤y0_11)&&decide (y0_11<(n_a0:Int))) then (bif (!((okS (a0.extract ((y0_11).toNat*363) (((y0_11).toNat*363)+363))))) then (some (.done (.ret,([.a (.i .i64 (1:Int)),.a (.i .i64 (y0_11))],[]))))
    else (some (.more ([.a (.i .i64 (y0_4)),.a (.i .i64 (i64.wrap (y0_11+(1:Int))))],[]))))
   else (none))
  else (some (.done ((.exit 0),([.a (.i .i64 (y0_4)),.a (.i .i64 (y0_11))],[])))))) (by kernel_rfl) ?_
 simp only [Zam,Zav,Zat,Zau,Zas,Zez,Zmf]
def Zdy (b_a0:Option (Option Addr)) (n_a0:Nat) (a0:Array Value) (z0_4:Int) (z0_11:Int):St:=(⟨.a (.l 0) :: .a (.v (.slice none 0 0)) :: .a (.u) :: .a (.u) :: .a (.i .i64 (z0_4)) :: .a (.u) :: .a (.x) :: .a (.u) :: .a (.u) :: .a (.l 0) :: .a (.i .i64 (n_a0:Int)) :: .a (.i .i64 (z0_11))::xs 8 (.a (.l 0) :: .a (.i .i64 (n_a0:Int)) :: .a (.b (decide ((n_a0:Int) > (8:Int)))) :: .a (.l 0) :: .a (.i .i64 (n_a0:Int)) :: .a (.i .i64 (0:Int))::us 10 ([])),[.sl (.came b_a0) n_a0 a0 35],[]⟩:St)
def Zew:Int×Int→LS
 | (y1_4,y1_25)=>([.a (.i .i64 (y1_4)),.a (.i .i64 (y1_25))],[])
def Zl0:(Stp (Int×Int) (Int×Int))→Exit×LS
 | .more t=>(.ret,Zew t)
 | .done t=>((.exit 2),Zew t)
def Zan (P : Program) (b_a0 : Option (Option Addr)) (n_a0 : Nat) (a0 : Array Value) (z0_4 : Int) (z0_11 : Int) : Int × Int → Option (Stp (Int × Int) (Stp (Int × Int) (Int × Int)))
 | (y1_4, y1_25) => bif decide (y1_25 < (n_a0 : Int)) then (bif (decide (0 ≤ y1_25) && decide (y1_25 < (n_a0 : Int))) then (bif (decide (0 ≤ (0 : Int)) && decide ((0 : Int) < (n_a0 : Int))) then (bif (!((Za2 (a0.extract ((y1_25).toNat * 363) (((y1_25).toNat * 363) + 363)) (a0.extract ((0 : Int).toNat * 363) (((0 : Int).toNat * 363) + 363))))) then (some (.done (.more ((4 : Int), y1_25))))
     else (some (.more (y1_4, (i64.wrap (y1_25 + (1 : Int)))))))
    else (none))
   else (none))
  else (some (.done (.done (y1_4, y1_25))))
theorem Ybg (N:Nat) (b_a0:Option (Option Addr)) (n_a0:Nat) (a0:Array Value) (z0_4:Int) (z0_11:Int):∀ t:Int×Int,stepV prog Za6 N (cAt (codeOf Tryd.f76) [1,1,1,0,1,0,0]) (pAt (mkPlan (codeOf Tryd.f76) [([4,11],[]),([4,25],[])]).1 [1,1,1,0,1,0]) [4,25] [] (Zdy b_a0 n_a0 a0 z0_4 z0_11) (Zew t)=mapS Zew Zl0 (Zan prog b_a0 n_a0 a0 z0_4 z0_11 t):=by
 rintro ⟨y1_4,y1_25⟩
 refine Eq.trans (b:=(bif decide (y1_25<(n_a0:Int)) then (bif (decide (0≤y1_25)&&decide (y1_25<(n_a0:Int))) then (bif (decide (0≤(0:Int))&&decide ((0:Int)<(n_a0:Int))) then (bif (!((Za2 (a0.extract ((y1_25).toNat*363) (((y1_25).toNat*363)+363)) (a0.extract ((0:Int).toNat*363) (((0:Int).toNat*363)+363))))) then (some (.done (.ret,([.a (.i .i64 (4:Int)),.a (.i .i64 (y1_25))],[]))))
     else (some (.more ([.a (.i .i64 (y1_4)),.a (.i .i64 (i64.wrap (y1_25+(1:Int))))],[]))))
    else (none))
   else (none))
  else (some (.done ((.exit 2),([.a (.i .i64 (y1_4)),.a (.i .i64 (y1_25))],[])))))) (by kernel_rfl) ?_
 simp only [Zan,Zav,Zat,Zau,Zas,Zew,Zl0]
def Zj7 (P:Program) (N:Nat) (b_a0:Option (Option Addr)) (n_a0:Nat) (a0:Array Value) (z0_4:Int) (z0_11:Int) (z1_4:Int) (z1_25:Int):Option (SV×Eff×Bool):=some (.a (.i .i64 (z1_4)),.none,true)
theorem Zsc (N:Nat) (b_a0:Option (Option Addr)) (n_a0:Nat) (a0:Array Value) (z0_4:Int) (z0_11:Int) (z1_4:Int) (z1_25:Int):(kBlock 2 (kSeq (veC prog Za6 N (cAt (codeOf Tryd.f76) [1,1,1,1]) (pAt (mkPlan (codeOf Tryd.f76) [([4,11],[]),([4,25],[])]).1 [1,1,1,1]) (SV×Eff×Bool)) (finK prog [.sl (.came b_a0) n_a0 a0 35] [.tmp 4]))) .ret (left (writes (cAt (codeOf Tryd.f76) [1,1,1,0,1,0,0])) [4,25] [] (Zdy b_a0 n_a0 a0 z0_4 z0_11) ([.a (.i .i64 (z1_4)),.a (.i .i64 (z1_25))],[]))=Zj7 prog N b_a0 n_a0 a0 z0_4 z0_11 z1_4 z1_25:=by
 refine Eq.trans (b:=(some (.a (.i .i64 (z1_4)),.none,true))) (by kernel_rfl) ?_
 rfl
def Zj6 (P:Program) (N:Nat) (b_a0:Option (Option Addr)) (n_a0:Nat) (a0:Array Value) (z0_4:Int) (z0_11:Int) (z1_4:Int) (z1_25:Int):Option (SV×Eff×Bool):=some (.a (.i .i64 (0:Int)),.none,true)
theorem Zsp (N:Nat) (b_a0:Option (Option Addr)) (n_a0:Nat) (a0:Array Value) (z0_4:Int) (z0_11:Int) (z1_4:Int) (z1_25:Int):(kBlock 2 (kSeq (veC prog Za6 N (cAt (codeOf Tryd.f76) [1,1,1,1]) (pAt (mkPlan (codeOf Tryd.f76) [([4,11],[]),([4,25],[])]).1 [1,1,1,1]) (SV×Eff×Bool)) (finK prog [.sl (.came b_a0) n_a0 a0 35] [.tmp 4]))) (.exit 2) (left (writes (cAt (codeOf Tryd.f76) [1,1,1,0,1,0,0])) [4,25] [] (Zdy b_a0 n_a0 a0 z0_4 z0_11) ([.a (.i .i64 (z1_4)),.a (.i .i64 (z1_25))],[]))=Zj6 prog N b_a0 n_a0 a0 z0_4 z0_11 z1_4 z1_25:=by
 refine Eq.trans (b:=(some (.a (.i .i64 (0:Int)),.none,true))) (by kernel_rfl) ?_
 rfl
theorem Yaf (N:Nat) (b_a0:Option (Option Addr)) (n_a0:Nat) (a0:Array Value) (z0_4:Int) (z0_11:Int):bindX (iterO (stepV prog Za6 N (cAt (codeOf Tryd.f76) [1,1,1,0,1,0,0]) (pAt (mkPlan (codeOf Tryd.f76) [([4,11],[]),([4,25],[])]).1 [1,1,1,0,1,0]) [4,25] [] (Zdy b_a0 n_a0 a0 z0_4 z0_11)) N ([.a (.i .i64 (z0_4)),.a (.i .i64 (0:Int))],[])) (fun e s=>(kBlock 2 (kSeq (veC prog Za6 N (cAt (codeOf Tryd.f76) [1,1,1,1]) (pAt (mkPlan (codeOf Tryd.f76) [([4,11],[]),([4,25],[])]).1 [1,1,1,1]) (SV×Eff×Bool)) (finK prog [.sl (.came b_a0) n_a0 a0 35] [.tmp 4]))) e (left (writes (cAt (codeOf Tryd.f76) [1,1,1,0,1,0,0])) [4,25] [] (Zdy b_a0 n_a0 a0 z0_4 z0_11) s))=nodeX (iterO (Zan prog b_a0 n_a0 a0 z0_4 z0_11) N (z0_4,(0:Int))) (st2 (fun x=>Zj7 prog N b_a0 n_a0 a0 z0_4 z0_11 x.1 x.2) (fun x=>Zj6 prog N b_a0 n_a0 a0 z0_4 z0_11 x.1 x.2)):=by
 refine Za4 Zew Zl0 _ _ (Ybg N b_a0 n_a0 a0 z0_4 z0_11) N (z0_4,(0:Int)) _ _ ?_
 intro x
 cases x with
 | more x=>exact Zsc N b_a0 n_a0 a0 z0_4 z0_11 x.1 x.2
 | done x=>exact Zsp N b_a0 n_a0 a0 z0_4 z0_11 x.1 x.2
def Zj9 (P:Program) (N:Nat) (b_a0:Option (Option Addr)) (n_a0:Nat) (a0:Array Value) (z0_4:Int) (z0_11:Int):Option (SV×Eff×Bool):=some (.a (.i .i64 (z0_4)),.none,true)
theorem Zq2 (N:Nat) (b_a0:Option (Option Addr)) (n_a0:Nat) (a0:Array Value) (z0_4:Int) (z0_11:Int):(kBlock 0 (kSeq (veC prog Za6 N (cAt (codeOf Tryd.f76) [1,1]) (pAt (mkPlan (codeOf Tryd.f76) [([4,11],[]),([4,25],[])]).1 [1,1]) (SV×Eff×Bool)) (finK prog [.sl (.came b_a0) n_a0 a0 35] [.tmp 4]))) .ret (left (writes (cAt (codeOf Tryd.f76) [1,0,1,0,0])) [4,11] [] (Zdx b_a0 n_a0 a0) ([.a (.i .i64 (z0_4)),.a (.i .i64 (z0_11))],[]))=Zj9 prog N b_a0 n_a0 a0 z0_4 z0_11:=by
 refine Eq.trans (b:=(some (.a (.i .i64 (z0_4)),.none,true))) (by kernel_rfl) ?_
 rfl
def Zfd (P:Program) (N:Nat) (b_a0:Option (Option Addr)) (n_a0:Nat) (a0:Array Value) (z0_4:Int) (z0_11:Int):Option (SV×Eff×Bool):=bif decide ((n_a0:Int) > (8:Int)) then (some (.a (.i .i64 (3:Int)),.none,true))
  else (nodeX (iterO (Zan P b_a0 n_a0 a0 z0_4 z0_11) N (z0_4,(0:Int))) (st2 (fun x=>Zj7 P N b_a0 n_a0 a0 z0_4 z0_11 x.1 x.2) (fun x=>Zj6 P N b_a0 n_a0 a0 z0_4 z0_11 x.1 x.2)))
theorem Zr9 (N:Nat) (b_a0:Option (Option Addr)) (n_a0:Nat) (a0:Array Value) (z0_4:Int) (z0_11:Int):(kBlock 0 (kSeq (veC prog Za6 N (cAt (codeOf Tryd.f76) [1,1]) (pAt (mkPlan (codeOf Tryd.f76) [([4,11],[]),([4,25],[])]).1 [1,1]) (SV×Eff×Bool)) (finK prog [.sl (.came b_a0) n_a0 a0 35] [.tmp 4]))) (.exit 0) (left (writes (cAt (codeOf Tryd.f76) [1,0,1,0,0])) [4,11] [] (Zdx b_a0 n_a0 a0) ([.a (.i .i64 (z0_4)),.a (.i .i64 (z0_11))],[]))=Zfd prog N b_a0 n_a0 a0 z0_4 z0_11:=by
 refine Eq.trans (b:=(bif decide ((n_a0:Int) > (8:Int)) then (some (.a (.i .i64 (3:Int)),.none,true))
  else (bindX (iterO (stepV prog Za6 N (cAt (codeOf Tryd.f76) [1,1,1,0,1,0,0]) (pAt (mkPlan (codeOf Tryd.f76) [([4,11],[]),([4,25],[])]).1 [1,1,1,0,1,0]) [4,25] [] (Zdy b_a0 n_a0 a0 z0_4 z0_11)) N ([.a (.i .i64 (z0_4)),.a (.i .i64 (0:Int))],[])) (fun e s=>(kBlock 2 (kSeq (veC prog Za6 N (cAt (codeOf Tryd.f76) [1,1,1,1]) (pAt (mkPlan (codeOf Tryd.f76) [([4,11],[]),([4,25],[])]).1 [1,1,1,1]) (SV×Eff×Bool)) (finK prog [.sl (.came b_a0) n_a0 a0 35] [.tmp 4]))) e (left (writes (cAt (codeOf Tryd.f76) [1,1,1,0,1,0,0])) [4,25] [] (Zdy b_a0 n_a0 a0 z0_4 z0_11) s))))) (by kernel_rfl) ?_
 simp only [Yaf N b_a0 n_a0 a0 z0_4 z0_11,Zfd]
theorem Ya3 (N:Nat) (b_a0:Option (Option Addr)) (n_a0:Nat) (a0:Array Value):bindX (iterO (stepV prog Za6 N (cAt (codeOf Tryd.f76) [1,0,1,0,0]) (pAt (mkPlan (codeOf Tryd.f76) [([4,11],[]),([4,25],[])]).1 [1,0,1,0]) [4,11] [] (Zdx b_a0 n_a0 a0)) N ([.a (.i .i64 (0:Int)),.a (.i .i64 (0:Int))],[])) (fun e s=>(kBlock 0 (kSeq (veC prog Za6 N (cAt (codeOf Tryd.f76) [1,1]) (pAt (mkPlan (codeOf Tryd.f76) [([4,11],[]),([4,25],[])]).1 [1,1]) (SV×Eff×Bool)) (finK prog [.sl (.came b_a0) n_a0 a0 35] [.tmp 4]))) e (left (writes (cAt (codeOf Tryd.f76) [1,0,1,0,0])) [4,11] [] (Zdx b_a0 n_a0 a0) s))=nodeX (iterO (Zam prog b_a0 n_a0 a0) N ((0:Int),(0:Int))) (st2 (fun x=>Zj9 prog N b_a0 n_a0 a0 x.1 x.2) (fun x=>Zfd prog N b_a0 n_a0 a0 x.1 x.2)):=by
 refine Za4 Zez Zmf _ _ (Ybm N b_a0 n_a0 a0) N ((0:Int),(0:Int)) _ _ ?_
 intro x
 cases x with
 | more x=>exact Zq2 N b_a0 n_a0 a0 x.1 x.2
 | done x=>exact Zr9 N b_a0 n_a0 a0 x.1 x.2
theorem Zyx (N:Nat) (b_a0:Option (Option Addr)) (n_a0:Nat) (a0:Array Value):ansV prog Za6 N Tryd.f76 [([4,11],[]),([4,25],[])] [.l 0,.v (.slice none 0 0)] [.sl (.came b_a0) n_a0 a0 35]=(nodeX (iterO (Zam prog b_a0 n_a0 a0) N ((0:Int),(0:Int))) (st2 (fun x=>Zj9 prog N b_a0 n_a0 a0 x.1 x.2) (fun x=>Zfd prog N b_a0 n_a0 a0 x.1 x.2))):=by
 refine Eq.trans (b:=(bindX (iterO (stepV prog Za6 N (cAt (codeOf Tryd.f76) [1,0,1,0,0]) (pAt (mkPlan (codeOf Tryd.f76) [([4,11],[]),([4,25],[])]).1 [1,0,1,0]) [4,11] [] (Zdx b_a0 n_a0 a0)) N ([.a (.i .i64 (0:Int)),.a (.i .i64 (0:Int))],[])) (fun e s=>(kBlock 0 (kSeq (veC prog Za6 N (cAt (codeOf Tryd.f76) [1,1]) (pAt (mkPlan (codeOf Tryd.f76) [([4,11],[]),([4,25],[])]).1 [1,1]) (SV×Eff×Bool)) (finK prog [.sl (.came b_a0) n_a0 a0 35] [.tmp 4]))) e (left (writes (cAt (codeOf Tryd.f76) [1,0,1,0,0])) [4,11] [] (Zdx b_a0 n_a0 a0) s)))) (by kernel_rfl) ?_
 simp only [Ya3 N b_a0 n_a0 a0]
def pairC (A C:Array Value):Int:=bif okS A then (bif okS C then (bif (Za2 A A&&Za2 C A) then 0 else 4) else 1) else 1
theorem Zxh (b_a0:Option (Option Addr)) (n_a0:Nat) (a0:Array Value) (h_a0:a0.size=n_a0*(lay prog 35).length∧(∀ k,k<n_a0→WT prog 35 (a0.extract (k*(lay prog 35).length) (k*(lay prog 35).length+(lay prog 35).length)))∧n_a0≤9223372036854775807) (hg:(Nat.beq n_a0 2)=true):ansV prog Za6 1000 Tryd.f76 [([4,11],[]),([4,25],[])] [.l 0,.v (.slice none 0 0)] [.sl (.came b_a0) n_a0 a0 35]=some (.a (.i .i64 (pairC (a0.extract 0 363) (a0.extract 363 726))),.none,true):=by
 obtain rfl:n_a0=2:=Nat.eq_of_beq_eq_true hg
 refine (Zyx 1000 b_a0 2 a0).trans ?_
 have d1:decide ((0:Int)<((2:Nat):Int))=true:=rfl
 have d2:decide (0≤(0:Int))=true:=rfl
 have d3:decide ((1:Int)<((2:Nat):Int))=true:=rfl
 have d4:decide (0≤(1:Int))=true:=rfl
 have d5:decide ((2:Int)<((2:Nat):Int))=false:=rfl
 have d6:decide ((((2:Nat):Int)) > (8:Int))=false:=rfl
 have w1:i64.wrap ((0:Int)+1)=1:=by decide
 have w2:i64.wrap ((1:Int)+1)=2:=by decide
 have e0:a0.extract ((0:Int).toNat*363) ((0:Int).toNat*363+363)=(a0.extract 0 363):=rfl
 have e1:a0.extract ((1:Int).toNat*363) ((1:Int).toNat*363+363)=(a0.extract 363 726):=rfl
 generalize hA:(a0.extract 0 363)=A at e0⊢
 generalize hC:(a0.extract 363 726)=C at e1⊢
 unfold pairC
 have two:∀ {m:Nat} {Q:Nat→Prop},m≤2→(0<m→Q 0)→(1<m→Q 1)→∀ k,k<m→Q k:=fun hm q0 q1 k hk=>by
  match k,hk with
  | 0,hk=>exact q0 hk
  | 1,hk=>exact q1 hk
  | k+2,hk=>omega
 cases hk0:okS A with
 | false=>
  have h:=Zb5 (g:=Zam prog b_a0 2 a0) (fun k=>((0:Int),(k:Int))) (m:=0) (x:=.more ((1:Int),(0:Int))) (N:=1000) (fun k hk=>absurd hk (Nat.not_lt_zero k)) (by
   show Zam prog b_a0 2 a0 ((0:Int),(0:Int))=_
   simp only [Zam,d1,d2,e0,hk0,Bool.and_self,Bool.not_false,cond_true]) (by omega)
  have h':iterO (Zam prog b_a0 2 a0) 1000 ((0:Int),(0:Int))=some (.more ((1:Int),(0:Int))):=h
  rw [h'];rfl
 | true=>
  have s0:Zam prog b_a0 2 a0 ((0:Int),(0:Int))=some (.more ((0:Int),(1:Int))):=by simp only [Zam,d1,d2,e0,hk0,w1,Bool.and_self,Bool.not_true,cond_true,cond_false]
  cases hk1:okS C with
  | false=>
   have h:=Zb5 (g:=Zam prog b_a0 2 a0) (fun k=>((0:Int),(k:Int))) (m:=1) (x:=.more ((1:Int),(1:Int))) (N:=1000) (two (by omega) (fun _=>s0) (fun h=>absurd h (by omega))) (by
    show Zam prog b_a0 2 a0 ((0:Int),(1:Int))=_
    simp only [Zam,d3,d4,e1,hk1,Bool.and_self,Bool.not_false,cond_true]) (by omega)
   have h':iterO (Zam prog b_a0 2 a0) 1000 ((0:Int),(0:Int))=some (.more ((1:Int),(1:Int))):=h
   rw [h'];rfl
  | true=>
   have s1:Zam prog b_a0 2 a0 ((0:Int),(1:Int))=some (.more ((0:Int),(2:Int))):=by simp only [Zam,d3,d4,e1,hk1,w2,Bool.and_self,Bool.not_true,cond_true,cond_false]
   have h:=Zb5 (g:=Zam prog b_a0 2 a0) (fun k=>((0:Int),(k:Int))) (m:=2) (x:=.done ((0:Int),(2:Int))) (N:=1000) (two (by omega) (fun _=>s0) (fun _=>s1)) (by
    show Zam prog b_a0 2 a0 ((0:Int),(2:Int))=_
    simp only [Zam,d5,cond_false]) (by omega)
   have h':iterO (Zam prog b_a0 2 a0) 1000 ((0:Int),(0:Int))=some (.done ((0:Int),(2:Int))):=h
   rw [h']
   simp only [nodeX,st2,Zfd,d6,cond_false]
   cases hc0:Za2 A A with
   | false=>
    have h:=Zb5 (g:=Zan prog b_a0 2 a0 0 2) (fun k=>((0:Int),(k:Int))) (m:=0) (x:=.more ((4:Int),(0:Int))) (N:=1000) (fun k hk=>absurd hk (Nat.not_lt_zero k)) (by
     show Zan prog b_a0 2 a0 0 2 ((0:Int),(0:Int))=_
     simp only [Zan,d1,d2,e0,hc0,Bool.and_self,Bool.not_false,cond_true]) (by omega)
    have h':iterO (Zan prog b_a0 2 a0 0 2) 1000 ((0:Int),(0:Int))=some (.more ((4:Int),(0:Int))):=h
    rw [h'];rfl
   | true=>
    have t0:Zan prog b_a0 2 a0 0 2 ((0:Int),(0:Int))=some (.more ((0:Int),(1:Int))):=by simp only [Zan,d1,d2,e0,hc0,w1,Bool.and_self,Bool.not_true,cond_true,cond_false]
    cases hc1:Za2 C A with
    | false=>
     have h:=Zb5 (g:=Zan prog b_a0 2 a0 0 2) (fun k=>((0:Int),(k:Int))) (m:=1) (x:=.more ((4:Int),(1:Int))) (N:=1000) (two (by omega) (fun _=>t0) (fun h=>absurd h (by omega))) (by
      show Zan prog b_a0 2 a0 0 2 ((0:Int),(1:Int))=_
      simp only [Zan,d1,d2,d3,d4,e0,e1,hc1,Bool.and_self,Bool.not_false,cond_true]) (by omega)
     have h':iterO (Zan prog b_a0 2 a0 0 2) 1000 ((0:Int),(0:Int))=some (.more ((4:Int),(1:Int))):=h
     rw [h'];rfl
    | true=>
     have t1:Zan prog b_a0 2 a0 0 2 ((0:Int),(1:Int))=some (.more ((0:Int),(2:Int))):=by simp only [Zan,d1,d2,d3,d4,e0,e1,hc1,w2,Bool.and_self,Bool.not_true,cond_true,cond_false]
     have h:=Zb5 (g:=Zan prog b_a0 2 a0 0 2) (fun k=>((0:Int),(k:Int))) (m:=2) (x:=.done ((0:Int),(2:Int))) (N:=1000) (two (by omega) (fun _=>t0) (fun _=>t1)) (by
      show Zan prog b_a0 2 a0 0 2 ((0:Int),(2:Int))=_
      simp only [Zan,d5,cond_false]) (by omega)
     have h':iterO (Zan prog b_a0 2 a0 0 2) 1000 ((0:Int),(0:Int))=some (.done ((0:Int),(2:Int))):=h
     rw [h'];rfl
def Zef:Con:=fun args h=>match args,h with
 | [.l 0,.v (.slice none 0 0)],[.sl (.came b_a0) n_a0 a0 35]=>some (.a (.i .i64 (pairC (a0.extract 0 363) (a0.extract 363 726))),.none,Nat.beq n_a0 2)
 | _,_=>none
theorem Zgf:EntX prog 76:=Zai (fn:=Tryd.f76) (by kernel_rfl) (by kernel_rfl) (by kernel_rfl)
theorem Zja:ConOkX (md F) prog 76 Zef:=(Zaj (N:=1000) (by kernel_rfl) (mkΓ_consX (Zad Zwo) Zri (mkΓ_consX (Zad Zxq) Zq3 mkΓ_nilX)) (fn:=Tryd.f76) (by kernel_rfl) (by kernel_rfl) [([4,11],[]),([4,25],[])]).of (by
 intro ρ h w args vals r e hA hH hr
 unfold Zef at hr
 split at hr
 ·rename_i b_a0 n_a0 a0
  obtain ⟨rfl,hg⟩:=Prod.mk.inj (Option.some.inj hr)
  obtain ⟨rfl,hg2⟩:=Prod.mk.inj hg
  exact Zxh b_a0 n_a0 a0 (hH.slw 0 rfl) hg2
 ·cases hr)
theorem Yjs (A C:Array Value):pairC A C=Zbi A C:=by
 have bc:∀ x y:Int,(x==y)=(y==x):=fun x y=>by rw [Bool.eq_iff_iff,beq_iff_eq,beq_iff_eq];exact eq_comm
 have e1:Za2 A A=true:=by unfold Za2;simp only [beq_self_eq_true,cond_true]
 have e2:Za2 C A=Za8 A C:=by unfold Za2 Za8;rw [bc (num C 0),bc (num C 1),bc (num C 2)]
 unfold pairC Zbi
 rw [e1,e2,Bool.true_and]
 cases okS A<;>cases okS C<;>cases Za8 A C<;>rfl
def bothC (A C:Array Value) (c b:Int) (f:Bool):Int:=bif (pairC A C==(0:Int)) then Zcd c b f A else pairC A C
def Zct:Cons:=(mkΓ [(34,con Ze7),(86,con Zbo),(87,con Zf2)])
def Zdw (a0:Array Value) (b_a1:Option (Option Addr)) (n_a1:Nat) (a1:Array Value):St:=(⟨.a (.w 0) :: .a (.l 1) :: .a (.u) :: .a (.u) :: .a (.b (false)) :: .a (.i .i64 (0:Int))::us 36 ([]),[.row a0 35,.sl (.came b_a1) n_a1 a1 39],[]⟩:St)
def Ze6:Bool×Int→LS
 | (y0_4,y0_5)=>([.a (.b (y0_4)),.a (.i .i64 (y0_5))],[])
def Zl4:(Stp (Bool×Int) (Bool×Int))→Exit×LS
 | .more t=>(.ret,Ze6 t)
 | .done t=>((.exit 0),Ze6 t)
def Zcz (P:Program) (a0:Array Value) (b_a1:Option (Option Addr)) (n_a1:Nat) (a1:Array Value):Bool×Int→Option (Stp (Bool×Int) (Stp (Bool×Int) (Bool×Int)))
  | (y0_4,y0_5)=>bif decide (y0_5<(n_a1:Int)) then (bif (decide (0≤y0_5)&&decide (y0_5<(n_a1:Int))) then (bif (!((Zab (i64.wrap (num a1 (((y0_5).toNat*2)+0))) a0))) then (some (.done (.more (false,y0_5))))
        else (bif decide (0≤(IntKind.u64.wrap (i64.wrap (num a1 (((y0_5).toNat*2)+0))))) then (bif (!((Zah (i64.wrap (num a1 (((y0_5).toNat*2)+0))) a0))) then (some (.done (.more (false,y0_5))))
            else (bif (decide (0≤y0_5)&&decide (y0_5<(n_a1:Int))) then (bif (!((Zaa (i64.wrap (num a1 (((y0_5).toNat*2)+1))) (1:Int) (14:Int)))) then (some (.done (.more (false,y0_5))))
                else (some (.more (y0_4,(i64.wrap (y0_5+(1:Int)))))))
              else (none)))
          else (none)))
      else (none))
    else (some (.done (.done (y0_4,y0_5))))
theorem Yaq (N:Nat) (a0:Array Value) (b_a1:Option (Option Addr)) (n_a1:Nat) (a1:Array Value):∀ t:Bool×Int,stepV prog Zct N (cAt (codeOf Tryd.f71) [1,0,1,0,0]) (pAt (mkPlan (codeOf Tryd.f71) [([4,5],[])]).1 [1,0,1,0]) [4,5] [] (Zdw a0 b_a1 n_a1 a1) (Ze6 t)=mapS Ze6 Zl4 (Zcz prog a0 b_a1 n_a1 a1 t):=by
  rintro ⟨y0_4,y0_5⟩
  refine Eq.trans (b:=(bif decide (y0_5<(n_a1:Int)) then (bif (decide (0≤y0_5)&&decide (y0_5<(n_a1:Int))) then (bif (!((Zab (i64.wrap (num a1 (((y0_5).toNat*2)+0))) a0))) then (some (.done (.ret,([.a (.b (false)),.a (.i .i64 (y0_5))],[]))))
        else (bif decide (0≤(IntKind.u64.wrap (i64.wrap (num a1 (((y0_5).toNat*2)+0))))) then (bif (!((Zah (i64.wrap (num a1 (((y0_5).toNat*2)+0))) a0))) then (some (.done (.ret,([.a (.b (false)),.a (.i .i64 (y0_5))],[]))))
            else (bif (decide (0≤y0_5)&&decide (y0_5<(n_a1:Int))) then (bif (!((Zaa (i64.wrap (num a1 (((y0_5).toNat*2)+1))) (1:Int) (14:Int)))) then (some (.done (.ret,([.a (.b (false)),.a (.i .i64 (y0_5))],[]))))
                else (some (.more ([.a (.b (y0_4)),.a (.i .i64 (i64.wrap (y0_5+(1:Int))))],[]))))
              else (none)))
          else (none)))
      else (none))
    else (some (.done ((.exit 0),([.a (.b (y0_4)),.a (.i .i64 (y0_5))],[])))))) (by kernel_rfl) ?_
  simp only [Zcz,Zav,Zat,Zau,Zas,Ze6,Zl4]
def Zkc (P:Program) (N:Nat) (a0:Array Value) (b_a1:Option (Option Addr)) (n_a1:Nat) (a1:Array Value) (z0_4:Bool) (z0_5:Int):Option (SV×Eff×Bool):=some (.a (.b (z0_4)),.none,true)
theorem Zrl (N:Nat) (a0:Array Value) (b_a1:Option (Option Addr)) (n_a1:Nat) (a1:Array Value) (z0_4:Bool) (z0_5:Int):(kBlock 0 (kSeq (veC prog Zct N (cAt (codeOf Tryd.f71) [1,1]) (pAt (mkPlan (codeOf Tryd.f71) [([4,5],[])]).1 [1,1]) (SV×Eff×Bool)) (finK prog [.row a0 35,.sl (.came b_a1) n_a1 a1 39] [.tmp 4]))) .ret (left (writes (cAt (codeOf Tryd.f71) [1,0,1,0,0])) [4,5] [] (Zdw a0 b_a1 n_a1 a1) ([.a (.b (z0_4)),.a (.i .i64 (z0_5))],[]))=Zkc prog N a0 b_a1 n_a1 a1 z0_4 z0_5:=by
 refine Eq.trans (b:=(some (.a (.b (z0_4)),.none,true))) (by kernel_rfl) ?_
 rfl
def Zkw (P:Program) (N:Nat) (a0:Array Value) (b_a1:Option (Option Addr)) (n_a1:Nat) (a1:Array Value) (z0_4:Bool) (z0_5:Int):Option (SV×Eff×Bool):=some (.a (.b (decide ((n_a1:Int)≤(60:Int)))),.none,true)
theorem Zsh (N:Nat) (a0:Array Value) (b_a1:Option (Option Addr)) (n_a1:Nat) (a1:Array Value) (z0_4:Bool) (z0_5:Int):(kBlock 0 (kSeq (veC prog Zct N (cAt (codeOf Tryd.f71) [1,1]) (pAt (mkPlan (codeOf Tryd.f71) [([4,5],[])]).1 [1,1]) (SV×Eff×Bool)) (finK prog [.row a0 35,.sl (.came b_a1) n_a1 a1 39] [.tmp 4]))) (.exit 0) (left (writes (cAt (codeOf Tryd.f71) [1,0,1,0,0])) [4,5] [] (Zdw a0 b_a1 n_a1 a1) ([.a (.b (z0_4)),.a (.i .i64 (z0_5))],[]))=Zkw prog N a0 b_a1 n_a1 a1 z0_4 z0_5:=by
 refine Eq.trans (b:=(some (.a (.b (decide ((n_a1:Int)≤(60:Int)))),.none,true))) (by kernel_rfl) ?_
 rfl
theorem Ybq (N:Nat) (a0:Array Value) (b_a1:Option (Option Addr)) (n_a1:Nat) (a1:Array Value):bindX (iterO (stepV prog Zct N (cAt (codeOf Tryd.f71) [1,0,1,0,0]) (pAt (mkPlan (codeOf Tryd.f71) [([4,5],[])]).1 [1,0,1,0]) [4,5] [] (Zdw a0 b_a1 n_a1 a1)) N ([.a (.b (false)),.a (.i .i64 (0:Int))],[])) (fun e s=>(kBlock 0 (kSeq (veC prog Zct N (cAt (codeOf Tryd.f71) [1,1]) (pAt (mkPlan (codeOf Tryd.f71) [([4,5],[])]).1 [1,1]) (SV×Eff×Bool)) (finK prog [.row a0 35,.sl (.came b_a1) n_a1 a1 39] [.tmp 4]))) e (left (writes (cAt (codeOf Tryd.f71) [1,0,1,0,0])) [4,5] [] (Zdw a0 b_a1 n_a1 a1) s))=nodeX (iterO (Zcz prog a0 b_a1 n_a1 a1) N (false,(0:Int))) (st2 (fun x=>Zkc prog N a0 b_a1 n_a1 a1 x.1 x.2) (fun x=>Zkw prog N a0 b_a1 n_a1 a1 x.1 x.2)):=by
 refine Za4 Ze6 Zl4 _ _ (Yaq N a0 b_a1 n_a1 a1) N (false,(0:Int)) _ _ ?_
 intro x
 cases x with
 | more x=>exact Zrl N a0 b_a1 n_a1 a1 x.1 x.2
 | done x=>exact Zsh N a0 b_a1 n_a1 a1 x.1 x.2
theorem Zy6 (N:Nat) (a0:Array Value) (b_a1:Option (Option Addr)) (n_a1:Nat) (a1:Array Value):ansV prog Zct N Tryd.f71 [([4,5],[])] [.w 0,.l 1] [.row a0 35,.sl (.came b_a1) n_a1 a1 39]=(nodeX (iterO (Zcz prog a0 b_a1 n_a1 a1) N (false,(0:Int))) (st2 (fun x=>Zkc prog N a0 b_a1 n_a1 a1 x.1 x.2) (fun x=>Zkw prog N a0 b_a1 n_a1 a1 x.1 x.2))):=by
 refine Eq.trans (b:=(bindX (iterO (stepV prog Zct N (cAt (codeOf Tryd.f71) [1,0,1,0,0]) (pAt (mkPlan (codeOf Tryd.f71) [([4,5],[])]).1 [1,0,1,0]) [4,5] [] (Zdw a0 b_a1 n_a1 a1)) N ([.a (.b (false)),.a (.i .i64 (0:Int))],[])) (fun e s=>(kBlock 0 (kSeq (veC prog Zct N (cAt (codeOf Tryd.f71) [1,1]) (pAt (mkPlan (codeOf Tryd.f71) [([4,5],[])]).1 [1,1]) (SV×Eff×Bool)) (finK prog [.row a0 35,.sl (.came b_a1) n_a1 a1 39] [.tmp 4]))) e (left (writes (cAt (codeOf Tryd.f71) [1,0,1,0,0])) [4,5] [] (Zdw a0 b_a1 n_a1 a1) s)))) (by kernel_rfl) ?_
 simp only [Ybq N a0 b_a1 n_a1 a1]
theorem Zws (a0:Array Value) (b_a1:Option (Option Addr)) (n_a1:Nat) (a1:Array Value) (h_a0:WT prog 35 a0) (h_a1:a1.size=n_a1*(lay prog 39).length∧(∀ k,k<n_a1→WT prog 39 (a1.extract (k*(lay prog 39).length) (k*(lay prog 39).length+(lay prog 39).length)))∧n_a1≤9223372036854775807) (hg:(Nat.beq n_a1 0)=true):ansV prog Zct 1000 Tryd.f71 [([4,5],[])] [.w 0,.l 1] [.row a0 35,.sl (.came b_a1) n_a1 a1 39]=some (.a (.b (true)),.none,true):=by
 obtain rfl:n_a1=0:=Nat.eq_of_beq_eq_true hg
 refine (Zy6 1000 a0 b_a1 0 a1).trans ?_
 have h:=Zb5 (g:=Zcz prog a0 b_a1 0 a1) (fun k=>(false,(k:Int))) (m:=0) (x:=.done (false,(0:Int))) (N:=1000) (fun k hk=>absurd hk (Nat.not_lt_zero k)) (by
  have h0:decide ((0:Int)<((0:Nat):Int))=false:=by decide
  show Zcz prog a0 b_a1 0 a1 (false,(0:Int))=_
  simp only [Zcz,h0,cond_false]) (by omega)
 have h':iterO (Zcz prog a0 b_a1 0 a1) 1000 (false,(0:Int))=some (.done (false,(0:Int))):=h
 rw [h']
 rfl
def Zla:Con:=fun args h=>match args,h with
 | [.w 0,.l 1],[.row a0 35,.sl (.came b_a1) n_a1 a1 39]=>some (.a (.b (true)),.none,Nat.beq n_a1 0)
 | _,_=>none
theorem Zvm:EntX prog 71:=Zai (fn:=Tryd.f71) (by kernel_rfl) (by kernel_rfl) (by kernel_rfl)
theorem Ybo:ConOkX (md F) prog 71 Zla:=(Zaj (N:=1000) (by kernel_rfl) (mkΓ_consX (Zad Zkg) Zhi (mkΓ_consX (Zad Zjy) Zgw (mkΓ_consX (Zad Zlk) Zig mkΓ_nilX))) (fn:=Tryd.f71) (by kernel_rfl) (by kernel_rfl) [([4,5],[])]).of (by
 intro ρ h w args vals r e hA hH hr
 unfold Zla at hr
 split at hr
 ·rename_i a0 b_a1 n_a1 a1
  obtain ⟨rfl,hg⟩:=Prod.mk.inj (Option.some.inj hr)
  obtain ⟨rfl,hg2⟩:=Prod.mk.inj hg
  exact Zws a0 b_a1 n_a1 a1 (hH.wt 0 rfl) (hH.slw 1 rfl) hg2
 ·cases hr)
def Zt7:Cons:=(mkΓ [(70,con Zi2),(71,con Zla),(72,con Zmg),(73,con Zmb)])
theorem Yan (N:Nat) (a2 a3:Int) (a5:Bool) (a0 a1:Array Value) (b_a4:Option (Option Addr)) (n_a4:Nat) (a4:Array Value):ansV prog Zt7 N Tryd.f33 [] [.w 0,.w 1,.i .i64 (a2),.i .i64 (a3),.l 2,.b (a5)] [.row a0 35,.row a1 35,.sl (.came b_a4) n_a4 a4 39]=(bif (okS a0) then (bif (okS a1) then (bif Nat.beq n_a4 0 then (bif Nat.beq n_a4 0 then (bif ((Zbi a0 a1) != (0:Int)) then (some (.a (.i .i64 (Zbi a0 a1)),.none,true))
      else (bif (Zdj a2 a3 a5 a0) then (some (.a (.i .i64 (Zcd a2 a3 a5 a0)),.none,true))
       else (none)))
     else (none))
    else (none))
   else (bif ((Zbi a0 a1) != (0:Int)) then (some (.a (.i .i64 (Zbi a0 a1)),.none,true))
    else (bif (Zdj a2 a3 a5 a0) then (some (.a (.i .i64 (Zcd a2 a3 a5 a0)),.none,true))
     else (none))))
  else (bif ((Zbi a0 a1) != (0:Int)) then (some (.a (.i .i64 (Zbi a0 a1)),.none,true))
   else (bif (Zdj a2 a3 a5 a0) then (some (.a (.i .i64 (Zcd a2 a3 a5 a0)),.none,true))
    else (none)))):=by kernel_rfl
theorem Zym (a2 a3:Int) (a5:Bool) (a0 a1:Array Value) (b_a4:Option (Option Addr)) (n_a4:Nat) (a4:Array Value) (h_a2:i64.min≤a2∧a2≤i64.max) (h_a3:i64.min≤a3∧a3≤i64.max) (h_a0:WT prog 35 a0) (h_a1:WT prog 35 a1) (h_a4:a4.size=n_a4*(lay prog 39).length∧(∀ k,k<n_a4→WT prog 39 (a4.extract (k*(lay prog 39).length) (k*(lay prog 39).length+(lay prog 39).length)))∧n_a4≤9223372036854775807) (hg:(Nat.beq n_a4 0)=true):ansV prog Zt7 1000 Tryd.f33 [] [.w 0,.w 1,.i .i64 (a2),.i .i64 (a3),.l 2,.b (a5)] [.row a0 35,.row a1 35,.sl (.came b_a4) n_a4 a4 39]=some (.a (.i .i64 (bothC a0 a1 a2 a3 a5)),.none,true):=by
 obtain rfl:n_a4=0:=Nat.eq_of_beq_eq_true hg
 refine (Yan 1000 a2 a3 a5 a0 a1 b_a4 0 a4).trans ?_
 have hb:Nat.beq 0 0=true:=rfl
 unfold bothC
 rw [hb,from_gd,Yjs]
 cases hz:(Zbi a0 a1==(0:Int))<;>simp only [bne,hz,Bool.not_true,Bool.not_false,cond_true,cond_false,Bool.cond_self]
def Zgo:Con:=fun args h=>match args,h with
 | [.w 0,.w 1,.i .i64 a2,.i .i64 a3,.l 2,.b a5],[.row a0 35,.row a1 35,.sl (.came b_a4) n_a4 a4 39]=>some (.a (.i .i64 (bothC a0 a1 a2 a3 a5)),.none,Nat.beq n_a4 0)
 | _,_=>none
theorem Zj1:EntX prog 33:=Zai (fn:=Tryd.f33) (by kernel_rfl) (by kernel_rfl) (by kernel_rfl)
theorem Zm8:ConOkX (md F) prog 33 Zgo:=(Zaj (N:=1000) (by kernel_rfl) (mkΓ_consX (Zad Zp7) Zlw (mkΓ_consX (Zad Ybo) Zvm (mkΓ_consX (Zad Yc7) Zvy (mkΓ_consX (Zad Ydg) Zxo mkΓ_nilX)))) (fn:=Tryd.f33) (by kernel_rfl) (by kernel_rfl) []).of (by
 intro ρ h w args vals r e hA hH hr
 unfold Zgo at hr
 split at hr
 ·rename_i a2 a3 a5 a0 a1 b_a4 n_a4 a4
  obtain ⟨rfl,hg⟩:=Prod.mk.inj (Option.some.inj hr)
  obtain ⟨rfl,hg2⟩:=Prod.mk.inj hg
  exact Zym a2 a3 a5 a0 a1 b_a4 n_a4 a4 (hA.rng 2 rfl) (hA.rng 3 rfl) (hH.wt 0 rfl) (hH.wt 1 rfl) (hH.slw 2 rfl) hg2
 ·cases hr)
def Zij:Cons:=(mkΓ [(52,conG Zhp),(76,con Zef),(77,conG Zhb)])
theorem Zmq (N:Nat) (a0:Array Value) (a1:Bool) (g_e0 g_e1 g_e2 g_e3 g_e4:Addr) (b_a2:Option (Option Addr)) (n_a2:Nat) (a2:Array Value):ansV prog Zij N Tryd.f38 [] [.r a0 76 [],.b (a1),.l 5] [.gl 1 215 g_e0 101973,.gl 2 215 g_e1 93330,.gl 0 215 g_e2 124718,.gl 3 215 g_e3 112315,.gl 4 215 g_e4 94254,.sl (.came b_a2) n_a2 a2 35]=(bif Nat.beq n_a2 2 then (bif ((pairC (a2.extract 0 363) (a2.extract 363 726))==(0:Int)) then (bif decide ((n_a2:Int) > (0:Int)) then (bif (decide (0≤(0:Int))&&decide ((0:Int)<(n_a2:Int))) then (bif (okS (a2.extract ((0:Int).toNat*363) (((0:Int).toNat*363)+363))&&(rl (a2.extract ((0:Int).toNat*363) (((0:Int).toNat*363)+363)) (num a0 0) (num a0 1) a1&&(Zah (num a0 0) (a2.extract ((0:Int).toNat*363) (((0:Int).toNat*363)+363))))) then (some (.a (.i .i64 (4:Int)),.none,true))
      else (none))
     else (none))
    else (some (.a (.i .i64 (pairC (a2.extract 0 363) (a2.extract 363 726))),.none,true)))
   else (some (.a (.i .i64 (pairC (a2.extract 0 363) (a2.extract 363 726))),.none,true)))
  else (none)):=by kernel_rfl
def Zim:Cons:=(mkΓ [(52,conG Zhp),(76,con Zef),(77,conG Zhc)])
theorem Zms (N:Nat) (a0:Array Value) (a1:Bool) (g_e0 g_e1 g_e2 g_e3 g_e4:Addr) (b_a2:Option (Option Addr)) (n_a2:Nat) (a2:Array Value):ansV prog Zim N Tryd.f38 [] [.r a0 76 [],.b (a1),.l 5] [.gl 1 215 g_e0 101973,.gl 2 215 g_e1 93330,.gl 0 215 g_e2 124718,.gl 3 215 g_e3 112315,.gl 4 215 g_e4 94254,.sl (.came b_a2) n_a2 a2 35]=(bif Nat.beq n_a2 2 then (bif ((pairC (a2.extract 0 363) (a2.extract 363 726))==(0:Int)) then (bif decide ((n_a2:Int) > (0:Int)) then (bif (decide (0≤(0:Int))&&decide ((0:Int)<(n_a2:Int))) then (bif (okS (a2.extract ((0:Int).toNat*363) (((0:Int).toNat*363)+363))&&(rl (a2.extract ((0:Int).toNat*363) (((0:Int).toNat*363)+363)) (num a0 0) (num a0 1) a1&&((!(Zah (num a0 0) (a2.extract ((0:Int).toNat*363) (((0:Int).toNat*363)+363))))))) then (some (.a (.i .i64 (0:Int)),.none,true))
      else (none))
     else (none))
    else (some (.a (.i .i64 (pairC (a2.extract 0 363) (a2.extract 363 726))),.none,true)))
   else (some (.a (.i .i64 (pairC (a2.extract 0 363) (a2.extract 363 726))),.none,true)))
  else (none)):=by kernel_rfl
def Zil:Cons:=(mkΓ [(52,conG Zhp),(76,con Zef),(77,conG Zhe)])
theorem Zmu (N:Nat) (a0:Array Value) (a1:Bool) (g_e0 g_e1 g_e2 g_e3 g_e4:Addr) (b_a2:Option (Option Addr)) (n_a2:Nat) (a2:Array Value):ansV prog Zil N Tryd.f38 [] [.r a0 76 [],.b (a1),.l 5] [.gl 1 215 g_e0 101973,.gl 2 215 g_e1 93330,.gl 0 215 g_e2 124718,.gl 3 215 g_e3 112315,.gl 4 215 g_e4 94254,.sl (.came b_a2) n_a2 a2 35]=(bif Nat.beq n_a2 2 then (bif ((pairC (a2.extract 0 363) (a2.extract 363 726))==(0:Int)) then (bif decide ((n_a2:Int) > (0:Int)) then (bif (decide (0≤(0:Int))&&decide ((0:Int)<(n_a2:Int))) then (bif (okS (a2.extract ((0:Int).toNat*363) (((0:Int).toNat*363)+363))&&((!(rl (a2.extract ((0:Int).toNat*363) (((0:Int).toNat*363)+363)) (num a0 0) (num a0 1) a1)))) then (some (.a (.i .i64 (2:Int)),.none,true))
      else (none))
     else (none))
    else (some (.a (.i .i64 (pairC (a2.extract 0 363) (a2.extract 363 726))),.none,true)))
   else (some (.a (.i .i64 (pairC (a2.extract 0 363) (a2.extract 363 726))),.none,true)))
  else (none)):=by kernel_rfl
def Zik:Cons:=(mkΓ [(52,conG Zhp),(76,con Zef),(77,conG Zhd)])
theorem Zmp (N:Nat) (a0:Array Value) (a1:Bool) (g_e0 g_e1 g_e2 g_e3 g_e4:Addr) (b_a2:Option (Option Addr)) (n_a2:Nat) (a2:Array Value):ansV prog Zik N Tryd.f38 [] [.r a0 76 [],.b (a1),.l 5] [.gl 1 215 g_e0 101973,.gl 2 215 g_e1 93330,.gl 0 215 g_e2 124718,.gl 3 215 g_e3 112315,.gl 4 215 g_e4 94254,.sl (.came b_a2) n_a2 a2 35]=(bif Nat.beq n_a2 2 then (bif ((pairC (a2.extract 0 363) (a2.extract 363 726))==(0:Int)) then (bif decide ((n_a2:Int) > (0:Int)) then (bif (decide (0≤(0:Int))&&decide ((0:Int)<(n_a2:Int))) then (bif (!(okS (a2.extract ((0:Int).toNat*363) (((0:Int).toNat*363)+363)))) then (some (.a (.i .i64 (1:Int)),.none,true))
      else (none))
     else (none))
    else (some (.a (.i .i64 (pairC (a2.extract 0 363) (a2.extract 363 726))),.none,true)))
   else (some (.a (.i .i64 (pairC (a2.extract 0 363) (a2.extract 363 726))),.none,true)))
  else (none)):=by kernel_rfl
theorem Zmw (a0:Array Value) (a1:Bool) (g_e0 g_e1 g_e2 g_e3 g_e4:Addr) (b_a2:Option (Option Addr)) (n_a2:Nat) (a2:Array Value) (h_a0:WT prog 76 a0) (h_a2:a2.size=n_a2*(lay prog 35).length∧(∀ k,k<n_a2→WT prog 35 (a2.extract (k*(lay prog 35).length) (k*(lay prog 35).length+(lay prog 35).length)))∧n_a2≤9223372036854775807) (hc0:(okS (a2.extract 0 363))=false) (hg:(Nat.beq n_a2 2)=true):ansV prog Zik 1000 Tryd.f38 [] [.r a0 76 [],.b (a1),.l 5] [.gl 1 215 g_e0 101973,.gl 2 215 g_e1 93330,.gl 0 215 g_e2 124718,.gl 3 215 g_e3 112315,.gl 4 215 g_e4 94254,.sl (.came b_a2) n_a2 a2 35]=some (.a (.i .i64 (bif (pairC (a2.extract 0 363) (a2.extract 363 726)==(0:Int)) then (1:Int) else pairC (a2.extract 0 363) (a2.extract 363 726))),.none,true):=by
 obtain rfl:n_a2=2:=Nat.eq_of_beq_eq_true hg
 refine (Zmp 1000 a0 a1 g_e0 g_e1 g_e2 g_e3 g_e4 b_a2 2 a2).trans ?_
 have x0:a2.extract ((0:Int).toNat*363) ((0:Int).toNat*363+363)=(a2.extract 0 363):=rfl
 have b2:Nat.beq 2 2=true:=rfl
 have d2:decide (((2:Nat):Int) > 0)=true:=rfl
 have d3:(decide ((0:Int)≤0)&&true)=true:=rfl
 rw [x0,b2,d2,d3]
 cases hz:(pairC (a2.extract 0 363) (a2.extract 363 726)==(0:Int))<;>simp only [hc0,Bool.and_self,Bool.and_true,Bool.true_and,Bool.not_false,Bool.not_true,cond_true,cond_false]
 all_goals rfl
theorem Zmo (a0:Array Value) (a1:Bool) (g_e0 g_e1 g_e2 g_e3 g_e4:Addr) (b_a2:Option (Option Addr)) (n_a2:Nat) (a2:Array Value) (h_a0:WT prog 76 a0) (h_a2:a2.size=n_a2*(lay prog 35).length∧(∀ k,k<n_a2→WT prog 35 (a2.extract (k*(lay prog 35).length) (k*(lay prog 35).length+(lay prog 35).length)))∧n_a2≤9223372036854775807) (hc0:(okS (a2.extract 0 363))=true) (hc1:(rl (a2.extract 0 363) (num a0 0) (num a0 1) a1)=false) (hg:(Nat.beq n_a2 2)=true):ansV prog Zil 1000 Tryd.f38 [] [.r a0 76 [],.b (a1),.l 5] [.gl 1 215 g_e0 101973,.gl 2 215 g_e1 93330,.gl 0 215 g_e2 124718,.gl 3 215 g_e3 112315,.gl 4 215 g_e4 94254,.sl (.came b_a2) n_a2 a2 35]=some (.a (.i .i64 (bif (pairC (a2.extract 0 363) (a2.extract 363 726)==(0:Int)) then (2:Int) else pairC (a2.extract 0 363) (a2.extract 363 726))),.none,true):=by
 obtain rfl:n_a2=2:=Nat.eq_of_beq_eq_true hg
 refine (Zmu 1000 a0 a1 g_e0 g_e1 g_e2 g_e3 g_e4 b_a2 2 a2).trans ?_
 have x0:a2.extract ((0:Int).toNat*363) ((0:Int).toNat*363+363)=(a2.extract 0 363):=rfl
 have b2:Nat.beq 2 2=true:=rfl
 have d2:decide (((2:Nat):Int) > 0)=true:=rfl
 have d3:(decide ((0:Int)≤0)&&true)=true:=rfl
 rw [x0,b2,d2,d3]
 cases hz:(pairC (a2.extract 0 363) (a2.extract 363 726)==(0:Int))<;>simp only [hc0,hc1,Bool.and_self,Bool.and_true,Bool.true_and,Bool.not_false,Bool.not_true,cond_true,cond_false]
 all_goals rfl
theorem Zm0 (a0:Array Value) (a1:Bool) (g_e0 g_e1 g_e2 g_e3 g_e4:Addr) (b_a2:Option (Option Addr)) (n_a2:Nat) (a2:Array Value) (h_a0:WT prog 76 a0) (h_a2:a2.size=n_a2*(lay prog 35).length∧(∀ k,k<n_a2→WT prog 35 (a2.extract (k*(lay prog 35).length) (k*(lay prog 35).length+(lay prog 35).length)))∧n_a2≤9223372036854775807) (hc0:(okS (a2.extract 0 363))=true) (hc1:(rl (a2.extract 0 363) (num a0 0) (num a0 1) a1)=true) (hc2:(Zah (num a0 0) (a2.extract 0 363))=false) (hg:(Nat.beq n_a2 2)=true):ansV prog Zim 1000 Tryd.f38 [] [.r a0 76 [],.b (a1),.l 5] [.gl 1 215 g_e0 101973,.gl 2 215 g_e1 93330,.gl 0 215 g_e2 124718,.gl 3 215 g_e3 112315,.gl 4 215 g_e4 94254,.sl (.came b_a2) n_a2 a2 35]=some (.a (.i .i64 (bif (pairC (a2.extract 0 363) (a2.extract 363 726)==(0:Int)) then (0:Int) else pairC (a2.extract 0 363) (a2.extract 363 726))),.none,true):=by
 obtain rfl:n_a2=2:=Nat.eq_of_beq_eq_true hg
 refine (Zms 1000 a0 a1 g_e0 g_e1 g_e2 g_e3 g_e4 b_a2 2 a2).trans ?_
 have x0:a2.extract ((0:Int).toNat*363) ((0:Int).toNat*363+363)=(a2.extract 0 363):=rfl
 have b2:Nat.beq 2 2=true:=rfl
 have d2:decide (((2:Nat):Int) > 0)=true:=rfl
 have d3:(decide ((0:Int)≤0)&&true)=true:=rfl
 rw [x0,b2,d2,d3]
 cases hz:(pairC (a2.extract 0 363) (a2.extract 363 726)==(0:Int))<;>simp only [hc0,hc1,hc2,Bool.and_self,Bool.and_true,Bool.true_and,Bool.not_false,Bool.not_true,cond_true,cond_false]
 all_goals rfl
theorem Zmv (a0:Array Value) (a1:Bool) (g_e0 g_e1 g_e2 g_e3 g_e4:Addr) (b_a2:Option (Option Addr)) (n_a2:Nat) (a2:Array Value) (h_a0:WT prog 76 a0) (h_a2:a2.size=n_a2*(lay prog 35).length∧(∀ k,k<n_a2→WT prog 35 (a2.extract (k*(lay prog 35).length) (k*(lay prog 35).length+(lay prog 35).length)))∧n_a2≤9223372036854775807) (hc0:(okS (a2.extract 0 363))=true) (hc1:(rl (a2.extract 0 363) (num a0 0) (num a0 1) a1)=true) (hc2:(Zah (num a0 0) (a2.extract 0 363))=true) (hg:(Nat.beq n_a2 2)=true):ansV prog Zij 1000 Tryd.f38 [] [.r a0 76 [],.b (a1),.l 5] [.gl 1 215 g_e0 101973,.gl 2 215 g_e1 93330,.gl 0 215 g_e2 124718,.gl 3 215 g_e3 112315,.gl 4 215 g_e4 94254,.sl (.came b_a2) n_a2 a2 35]=some (.a (.i .i64 (bif (pairC (a2.extract 0 363) (a2.extract 363 726)==(0:Int)) then (4:Int) else pairC (a2.extract 0 363) (a2.extract 363 726))),.none,true):=by
 obtain rfl:n_a2=2:=Nat.eq_of_beq_eq_true hg
 refine (Zmq 1000 a0 a1 g_e0 g_e1 g_e2 g_e3 g_e4 b_a2 2 a2).trans ?_
 have x0:a2.extract ((0:Int).toNat*363) ((0:Int).toNat*363+363)=(a2.extract 0 363):=rfl
 have b2:Nat.beq 2 2=true:=rfl
 have d2:decide (((2:Nat):Int) > 0)=true:=rfl
 have d3:(decide ((0:Int)≤0)&&true)=true:=rfl
 rw [x0,b2,d2,d3]
 cases hz:(pairC (a2.extract 0 363) (a2.extract 363 726)==(0:Int))<;>simp only [hc0,hc1,hc2,Bool.and_self,Bool.and_true,Bool.true_and,Bool.not_false,Bool.not_true,cond_true,cond_false]
 all_goals rfl
def Zcs:SCon:=fun args h=>match args,h with
 | [.r a0 76 [],.b a1,.l 5],[.gl 1 215 g_e0 101973,.gl 2 215 g_e1 93330,.gl 0 215 g_e2 124718,.gl 3 215 g_e3 112315,.gl 4 215 g_e4 94254,.sl (.came b_a2) n_a2 a2 35]=>.two (okS (a2.extract 0 363)) (.two (rl (a2.extract 0 363) (num a0 0) (num a0 1) a1) (.two (Zah (num a0 0) (a2.extract 0 363)) (.one (some (.a (.i .i64 (bif (pairC (a2.extract 0 363) (a2.extract 363 726)==(0:Int)) then (4:Int) else pairC (a2.extract 0 363) (a2.extract 363 726))),.none,Nat.beq n_a2 2))) (.one (some (.a (.i .i64 (bif (pairC (a2.extract 0 363) (a2.extract 363 726)==(0:Int)) then (0:Int) else pairC (a2.extract 0 363) (a2.extract 363 726))),.none,Nat.beq n_a2 2)))) (.one (some (.a (.i .i64 (bif (pairC (a2.extract 0 363) (a2.extract 363 726)==(0:Int)) then (2:Int) else pairC (a2.extract 0 363) (a2.extract 363 726))),.none,Nat.beq n_a2 2)))) (.one (some (.a (.i .i64 (bif (pairC (a2.extract 0 363) (a2.extract 363 726)==(0:Int)) then (1:Int) else pairC (a2.extract 0 363) (a2.extract 363 726))),.none,Nat.beq n_a2 2)))
 | _,_=>.one none
theorem Zd6:EntX prog 38:=Zai (fn:=Tryd.f38) (by kernel_rfl) (by kernel_rfl) (by kernel_rfl)
theorem Zn6:ConOkX (md F) prog 38 (fun args h=>wayRes (Zcs args h)):=by
 intro ρ h w args vals r e hn hr hA hH
 dsimp only at hr
 unfold Zcs at hr
 split at hr
 ·rename_i a0 a1 g_e0 g_e1 g_e2 g_e3 g_e4 b_a2 n_a2 a2
  simp only [wayRes] at hr
  cases hc0:(okS (a2.extract 0 363))
  ·rw [hc0] at hr
   simp only [wayRes,cond_true,cond_false] at hr
   obtain ⟨rfl,hg⟩:=Prod.mk.inj (Option.some.inj hr)
   obtain ⟨rfl,hg2⟩:=Prod.mk.inj hg
   exact ((Zaj (N:=1000) (by kernel_rfl) (mkΓ_consX (Zgk Zlh) Zh5 (mkΓ_consX (Zad Zja) Zgf (mkΓ_consX (Zgk Zq9) Zd9 mkΓ_nilX))) (fn:=Tryd.f38) (by kernel_rfl) (by kernel_rfl) [])) ρ _ w _ vals _ _ hn ((Zmw a0 a1 g_e0 g_e1 g_e2 g_e3 g_e4 b_a2 n_a2 a2 (hA.wtr 0 rfl) (hH.slw 5 rfl) hc0 hg2)) hA hH
  ·rw [hc0] at hr
   simp only [wayRes,cond_true,cond_false] at hr
   cases hc1:(rl (a2.extract 0 363) (num a0 0) (num a0 1) a1)
   ·rw [hc1] at hr
    simp only [wayRes,cond_true,cond_false] at hr
    obtain ⟨rfl,hg⟩:=Prod.mk.inj (Option.some.inj hr)
    obtain ⟨rfl,hg2⟩:=Prod.mk.inj hg
    exact ((Zaj (N:=1000) (by kernel_rfl) (mkΓ_consX (Zgk Zlh) Zh5 (mkΓ_consX (Zad Zja) Zgf (mkΓ_consX (Zgk Zrc) Zd9 mkΓ_nilX))) (fn:=Tryd.f38) (by kernel_rfl) (by kernel_rfl) [])) ρ _ w _ vals _ _ hn ((Zmo a0 a1 g_e0 g_e1 g_e2 g_e3 g_e4 b_a2 n_a2 a2 (hA.wtr 0 rfl) (hH.slw 5 rfl) hc0 hc1 hg2)) hA hH
   ·rw [hc1] at hr
    simp only [wayRes,cond_true,cond_false] at hr
    cases hc2:(Zah (num a0 0) (a2.extract 0 363))
    ·rw [hc2] at hr
     simp only [wayRes,cond_true,cond_false] at hr
     obtain ⟨rfl,hg⟩:=Prod.mk.inj (Option.some.inj hr)
     obtain ⟨rfl,hg2⟩:=Prod.mk.inj hg
     exact ((Zaj (N:=1000) (by kernel_rfl) (mkΓ_consX (Zgk Zlh) Zh5 (mkΓ_consX (Zad Zja) Zgf (mkΓ_consX (Zgk Zrq) Zd9 mkΓ_nilX))) (fn:=Tryd.f38) (by kernel_rfl) (by kernel_rfl) [])) ρ _ w _ vals _ _ hn ((Zm0 a0 a1 g_e0 g_e1 g_e2 g_e3 g_e4 b_a2 n_a2 a2 (hA.wtr 0 rfl) (hH.slw 5 rfl) hc0 hc1 hc2 hg2)) hA hH
    ·rw [hc2] at hr
     simp only [wayRes,cond_true,cond_false] at hr
     obtain ⟨rfl,hg⟩:=Prod.mk.inj (Option.some.inj hr)
     obtain ⟨rfl,hg2⟩:=Prod.mk.inj hg
     exact ((Zaj (N:=1000) (by kernel_rfl) (mkΓ_consX (Zgk Zlh) Zh5 (mkΓ_consX (Zad Zja) Zgf (mkΓ_consX (Zgk Zsl) Zd9 mkΓ_nilX))) (fn:=Tryd.f38) (by kernel_rfl) (by kernel_rfl) [])) ρ _ w _ vals _ _ hn ((Zmv a0 a1 g_e0 g_e1 g_e2 g_e3 g_e4 b_a2 n_a2 a2 (hA.wtr 0 rfl) (hH.slw 5 rfl) hc0 hc1 hc2 hg2)) hA hH
 ·simp only [wayRes] at hr
  cases hr
def Zb6:Con:=fun args h=>match args,h with
 | [.r a0 76 [],.b a1,.l 5],[.gl 1 215 g_e0 101973,.gl 2 215 g_e1 93330,.gl 0 215 g_e2 124718,.gl 3 215 g_e3 112315,.gl 4 215 g_e4 94254,.sl (.came b_a2) n_a2 a2 35]=>some (.a (.i .i64 (bothC (a2.extract 0 363) (a2.extract 363 726) (num a0 0) (num a0 1) a1)),.none,Nat.beq n_a2 2)
 | _,_=>none
theorem Zfs:ConOkX (md F) prog 38 Zb6:=ConOkX.of Zn6 (by
 intro ρ h w args vals r e hA hH hr
 unfold Zb6 at hr
 split at hr
 ·rename_i a0 a1 g_e0 g_e1 g_e2 g_e3 g_e4 b_a2 n_a2 a2
  obtain ⟨rfl,hg⟩:=Prod.mk.inj (Option.some.inj hr)
  obtain ⟨rfl,hg2⟩:=Prod.mk.inj hg
  show wayRes (Zcs _ _)=_
  unfold Zcs
  simp only [wayRes]
  rw [hg2]
  unfold bothC
  rw [Yns]
  cases (okS (a2.extract 0 363))<;>cases (rl (a2.extract 0 363) (num a0 0) (num a0 1) a1)<;>cases (Zah (num a0 0) (a2.extract 0 363))<;>simp only [cond_true,cond_false]
 ·cases hr)
theorem Yhs {A C:Array Value} (hA:A.size=363) (hC:C.size=363):(spl (spl (repC (zc prog 35) 2) 0 A.toList) 363 C.toList).extract 0 363=A∧(spl (spl (repC (zc prog 35) 2) 0 A.toList) 363 C.toList).extract 363 726=C:=by
 have hz:(repC (zc prog 35) 2).size=726:=by kernel_rfl
 have hl:A.toList.length=363:=by rw [Array.length_toList,hA]
 have hm:C.toList.length=363:=by rw [Array.length_toList,hC]
 constructor
 ·refine Array.ext_getElem? fun i=> ?_
  rw [Array.getElem?_extract,Zg8 _ _ _ (by rw [Zih,hz,hm];omega),Zg8 _ _ _ (by rw [hz,hl];omega),Zih,Zih,hz,hl,hm]
  by_cases hi:i<363
  ·rw [if_pos (by omega),if_neg (by omega),if_pos (by omega)]
   simp
  ·rw [if_neg (by omega),Array.getElem?_eq_none (by omega)]
 ·refine Array.ext_getElem? fun i=> ?_
  rw [Array.getElem?_extract,Zg8 _ _ _ (by rw [Zih,hz,hm];omega),Zih,Zih,hz,hm]
  by_cases hi:i<363
  ·rw [if_pos (by omega),if_pos (by omega),show 363+i - 363=i by omega]
   simp
  ·rw [if_neg (by omega),Array.getElem?_eq_none (by omega)]
theorem alike_of {A C:Array Value} (h:Za8 A C=true):num A 0=num C 0∧num A 1=num C 1∧num A 2=num C 2:=by
 unfold Za8 at h
 cases h0:(num A 0==num C 0)<;>cases h1:(num A 1==num C 1)<;>cases h2:(num A 2==num C 2)<;>rw [h0,h1,h2] at h<;>first | exact ⟨eq_of_beq h0,eq_of_beq h1,eq_of_beq h2⟩ | cases h
theorem Ypa {A C:Array Value} (h:(pairC A C==(0:Int))=true):okS A=true∧okS C=true∧Za8 A C=true:=by
 rw [Yjs] at h
 unfold Zbi at h
 cases h0:okS A<;>cases h1:okS C<;>cases h2:Za8 A C<;>rw [h0,h1,h2] at h<;>first | exact ⟨rfl,rfl,rfl⟩ | (exfalso;revert h;decide)
theorem Zku {A C:Array Value} {c b:Int} {f:Bool} (h:(bothC A C c b f != (0:Int))=false):okS A=true∧okS C=true∧Za8 A C=true∧Zab c A=true∧Zab c C=true∧Zaa b 0 1=true∧f=true∧Zah c A=false:=by
 unfold bothC at h
 cases hz:(pairC A C==(0:Int)) with
 | false=>
  rw [hz,cond_false] at h
  rw [bne,hz] at h
  cases h
 | true=>
  rw [hz,cond_true] at h
  obtain ⟨o0,o1,al⟩:=Ypa hz
  obtain ⟨_,i0,t0,f0,d0⟩:=Yn8 h
  obtain ⟨e0,e1,_⟩:=alike_of al
  have i1:Zab c C=true:=by
   unfold Zab at i0⊢
   rw [← e0,← e1]
   exact i0
  exact ⟨o0,o1,al,i0,i1,t0,f0,d0⟩
end
end Go.Proofs.YtdofpgniogochaaDoor
