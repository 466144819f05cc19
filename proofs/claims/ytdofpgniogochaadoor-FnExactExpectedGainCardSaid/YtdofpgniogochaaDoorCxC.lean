import Derived.Test.YtdofpgniogochaaDoorProg
import Derived.Test.YtdofpgniogochaaDoorCxB
namespace Go.Proofs.YtdofpgniogochaaDoor
open Go.ChangeShapes Go.WideShapes Go.ChangeAt Go.RowKit Ve Vc
open Tryd (prog)
open IntKind (i64)
set_option linter.unusedVariables false
set_option linter.unusedSimpArgs false
set_option maxRecDepth 100000
noncomputable section
variable {mn:Md}
def sumW (a:Array Value):Nat→Int
 | 0=>0
 | k+1=>i64.wrap (sumW a k+i64.wrap (num a (k*1)))
theorem Yiu (t:Int):Zcj t=Zaa t 0 1:=by
 unfold Zcj Zaa
 by_cases h0:t=0
 ·subst h0;rfl
 ·by_cases h1:t=1
  ·subst h1;rfl
  ·rw [show (t==0)=false from beq_eq_false_iff_ne.2 h0,show (t==1)=false from beq_eq_false_iff_ne.2 h1]
   by_cases h2:t ≥ 0
   ·rw [decide_eq_true h2,decide_eq_false (show ¬ t≤1 by omega)];rfl
   ·rw [decide_eq_false h2];rfl
def Zcm (a0:Array Value):St:=(⟨.a (.g a0 31) :: .a (.w 0) :: .a (.b (false)) :: .a (.i .i64 (0:Int)) :: .a (.u) :: .a (.u) :: .a (.g a0 31) :: .a (.i .i64 (0:Int))::us 9 ([]),[.row a0 31,.no],[]⟩:St)
def Zdp:Int×Int→LS
 | (y0_3,y0_7)=>([.a (.i .i64 (y0_3)),.a (.i .i64 (y0_7))],[])
def Zh3:Int×Int→Exit×LS
 | t=>((.exit 0),Zdp t)
def Zbq (P:Program) (a0:Array Value):Int×Int→Option (Stp (Int×Int) (Int×Int))
 | (y0_3,y0_7)=>bif decide (y0_7<(5:Int)) then (bif (decide (0≤y0_7)&&decide (y0_7<5)) then (some (.more ((i64.wrap (y0_3+(i64.wrap (num a0 ((y0_7).toNat*1))))),(i64.wrap (y0_7+(1:Int))))))
   else (none))
  else (some (.done (y0_3,y0_7)))
theorem Zsg (N:Nat) (a0:Array Value):∀ t:Int×Int,stepV prog (mkΓ []) N (cAt (codeOf Tryd.f141) [1,1,0,1,0,0]) (pAt (mkPlan (codeOf Tryd.f141) [([3,7],[])]).1 [1,1,0,1,0]) [3,7] [] (Zcm a0) (Zdp t)=mapS Zdp Zh3 (Zbq prog a0 t):=by
 rintro ⟨y0_3,y0_7⟩
 refine Eq.trans (b:=(bif decide (y0_7<(5:Int)) then (bif (decide (0≤y0_7)&&decide (y0_7<5)) then (some (.more ([.a (.i .i64 (i64.wrap (y0_3+(i64.wrap (num a0 ((y0_7).toNat*1)))))),.a (.i .i64 (i64.wrap (y0_7+(1:Int))))],[])))
   else (none))
  else (some (.done ((.exit 0),([.a (.i .i64 (y0_3)),.a (.i .i64 (y0_7))],[])))))) (by kernel_rfl) ?_
 simp only [Zbq,Zav,Zas,Zat,Zau,Zdp,Zh3]
def Zgq (P:Program) (N:Nat) (a0:Array Value) (z0_3:Int) (z0_7:Int):Option (SV×Eff×Bool):=some (.a (.b ((z0_3==(12:Int)))),.none,true)
theorem Znp (N:Nat) (a0:Array Value) (z0_3:Int) (z0_7:Int):(kBlock 0 (kSeq (veC prog (mkΓ []) N (cAt (codeOf Tryd.f141) [1,1,1]) (pAt (mkPlan (codeOf Tryd.f141) [([3,7],[])]).1 [1,1,1]) (SV×Eff×Bool)) (finK prog [] [.tmp 2]))) (.exit 0) (left (writes (cAt (codeOf Tryd.f141) [1,1,0,1,0,0])) [3,7] [] (Zcm a0) ([.a (.i .i64 (z0_3)),.a (.i .i64 (z0_7))],[]))=Zgq prog N a0 z0_3 z0_7:=by
 refine Eq.trans (b:=(some (.a (.b ((z0_3==(12:Int)))),.none,true))) (by kernel_rfl) ?_
 rfl
theorem Zr5 (N:Nat) (a0:Array Value):bindX (iterO (stepV prog (mkΓ []) N (cAt (codeOf Tryd.f141) [1,1,0,1,0,0]) (pAt (mkPlan (codeOf Tryd.f141) [([3,7],[])]).1 [1,1,0,1,0]) [3,7] [] (Zcm a0)) N ([.a (.i .i64 (0:Int)),.a (.i .i64 (0:Int))],[])) (fun e s=>(kBlock 0 (kSeq (veC prog (mkΓ []) N (cAt (codeOf Tryd.f141) [1,1,1]) (pAt (mkPlan (codeOf Tryd.f141) [([3,7],[])]).1 [1,1,1]) (SV×Eff×Bool)) (finK prog [] [.tmp 2]))) e (left (writes (cAt (codeOf Tryd.f141) [1,1,0,1,0,0])) [3,7] [] (Zcm a0) s))=nodeX (iterO (Zbq prog a0) N ((0:Int),(0:Int))) (fun x=>Zgq prog N a0 x.1 x.2):=by
 refine Za9 Zdp Zh3 _ _ (Zsg N a0) N ((0:Int),(0:Int)) _ _ ?_
 intro x;exact Znp N a0 x.1 x.2
theorem Zqf (N:Nat) (a0:Array Value):ansV prog (mkΓ []) N Tryd.f141 [([3,7],[])] [.g a0 31] []=(nodeX (iterO (Zbq prog a0) N ((0:Int),(0:Int))) (fun x=>Zgq prog N a0 x.1 x.2)):=by
 refine Eq.trans (b:=(bindX (iterO (stepV prog (mkΓ []) N (cAt (codeOf Tryd.f141) [1,1,0,1,0,0]) (pAt (mkPlan (codeOf Tryd.f141) [([3,7],[])]).1 [1,1,0,1,0]) [3,7] [] (Zcm a0)) N ([.a (.i .i64 (0:Int)),.a (.i .i64 (0:Int))],[])) (fun e s=>(kBlock 0 (kSeq (veC prog (mkΓ []) N (cAt (codeOf Tryd.f141) [1,1,1]) (pAt (mkPlan (codeOf Tryd.f141) [([3,7],[])]).1 [1,1,1]) (SV×Eff×Bool)) (finK prog [] [.tmp 2]))) e (left (writes (cAt (codeOf Tryd.f141) [1,1,0,1,0,0])) [3,7] [] (Zcm a0) s)))) (by kernel_rfl) ?_
 simp only [Zr5 N a0]
theorem Zpm (a0:Array Value) (h_a0:WT prog 31 a0) (hg:(true)=true):ansV prog (mkΓ []) 1000 Tryd.f141 [([3,7],[])] [.g a0 31] []=some (.a (.b ((sumW a0 5==(12:Int)))),.none,true):=by
 have h:=Zb9 (g:=Zbq prog a0) (fun k=>(sumW a0 k,(k:Int))) (m:=5) (x:=(sumW a0 5,((5:Nat):Int))) (N:=1000) (fun k hk=>by
  have h1:decide ((k:Int)<5)=true:=decide_eq_true (by omega)
  have h0:decide (0≤(k:Int))=true:=decide_eq_true (by omega)
  have h3:i64.wrap ((k:Int)+1)=((k+1:Nat):Int):=by rw [IntWalk.i64_in _ (by omega)];omega
  have h4:((k:Int)).toNat=k:=Int.toNat_natCast k
  simp only [Zbq,h1,h0,Bool.and_self,h4,cond_true,h3,sumW]) (by
  have h1:decide (((5:Nat):Int)<5)=false:=by decide
  simp only [Zbq,h1,cond_false]) (by omega)
 refine (Zqf 1000 a0).trans ?_
 have h':iterO (Zbq prog a0) 1000 ((0:Int),(0:Int))=some (sumW a0 5,((5:Nat):Int)):=h
 rw [h']
 rfl
def Zg9:Con:=fun args h=>match args,h with
 | [.g a0 31],[]=>some (.a (.b ((sumW a0 5==(12:Int)))),.none,true)
 | _,_=>none
theorem Zog:EntX prog 141:=Zai (fn:=Tryd.f141) (by kernel_rfl) (by kernel_rfl) (by kernel_rfl)
theorem Zrz:ConOkX mn prog 141 Zg9:=(Zaj (N:=1000) (by kernel_rfl) mkΓ_nilX (fn:=Tryd.f141) (by kernel_rfl) (by kernel_rfl) [([3,7],[])]).of (by
 intro ρ h w args vals r e hA hH hr
 unfold Zg9 at hr
 split at hr
 ·rename_i a0
  obtain ⟨rfl,hg⟩:=Prod.mk.inj (Option.some.inj hr)
  obtain ⟨rfl,hg2⟩:=Prod.mk.inj hg
  exact Zpm a0 (hA.wt 0 rfl) hg2
 ·cases hr)
def Zdf (a0:Array Value):St:=(⟨.a (.g a0 31) :: .a (.w 0) :: .a (.b (false)) :: .a (.i .i64 (0:Int)) :: .a (.i .i64 (0:Int))::us 12 ([]),[.row a0 31,.no],[]⟩:St)
def Ze2:Int×Int→LS
 | (y0_3,y0_4)=>([.a (.i .i64 (y0_3)),.a (.i .i64 (y0_4))],[])
def Zjb:Int×Int→Exit×LS
 | t=>((.exit 0),Ze2 t)
def Zby (P:Program) (a0:Array Value):Int×Int→Option (Stp (Int×Int) (Int×Int))
 | (y0_3,y0_4)=>bif decide (y0_4<(5:Int)) then (bif (decide (0≤y0_4)&&decide (y0_4<5)) then (some (.more ((i64.wrap (y0_3+(i64.wrap (num a0 ((y0_4).toNat*1))))),(i64.wrap (y0_4+(1:Int))))))
   else (none))
  else (some (.done (y0_3,y0_4)))
theorem Zt7 (N:Nat) (a0:Array Value):∀ t:Int×Int,stepV prog (mkΓ []) N (cAt (codeOf Tryd.f106) [1,1,0,1,0,0]) (pAt (mkPlan (codeOf Tryd.f106) [([3,4],[])]).1 [1,1,0,1,0]) [3,4] [] (Zdf a0) (Ze2 t)=mapS Ze2 Zjb (Zby prog a0 t):=by
 rintro ⟨y0_3,y0_4⟩
 refine Eq.trans (b:=(bif decide (y0_4<(5:Int)) then (bif (decide (0≤y0_4)&&decide (y0_4<5)) then (some (.more ([.a (.i .i64 (i64.wrap (y0_3+(i64.wrap (num a0 ((y0_4).toNat*1)))))),.a (.i .i64 (i64.wrap (y0_4+(1:Int))))],[])))
   else (none))
  else (some (.done ((.exit 0),([.a (.i .i64 (y0_3)),.a (.i .i64 (y0_4))],[])))))) (by kernel_rfl) ?_
 simp only [Zby,Zav,Zas,Zat,Zau,Ze2,Zjb]
def Zh4 (P:Program) (N:Nat) (a0:Array Value) (z0_3:Int) (z0_4:Int):Option (SV×Eff×Bool):=some (.a (.b ((z0_3==(12:Int)))),.none,true)
theorem Zox (N:Nat) (a0:Array Value) (z0_3:Int) (z0_4:Int):(kBlock 0 (kSeq (veC prog (mkΓ []) N (cAt (codeOf Tryd.f106) [1,1,1]) (pAt (mkPlan (codeOf Tryd.f106) [([3,4],[])]).1 [1,1,1]) (SV×Eff×Bool)) (finK prog [] [.tmp 2]))) (.exit 0) (left (writes (cAt (codeOf Tryd.f106) [1,1,0,1,0,0])) [3,4] [] (Zdf a0) ([.a (.i .i64 (z0_3)),.a (.i .i64 (z0_4))],[]))=Zh4 prog N a0 z0_3 z0_4:=by
 refine Eq.trans (b:=(some (.a (.b ((z0_3==(12:Int)))),.none,true))) (by kernel_rfl) ?_
 rfl
theorem Zvh (N:Nat) (a0:Array Value):bindX (iterO (stepV prog (mkΓ []) N (cAt (codeOf Tryd.f106) [1,1,0,1,0,0]) (pAt (mkPlan (codeOf Tryd.f106) [([3,4],[])]).1 [1,1,0,1,0]) [3,4] [] (Zdf a0)) N ([.a (.i .i64 (0:Int)),.a (.i .i64 (0:Int))],[])) (fun e s=>(kBlock 0 (kSeq (veC prog (mkΓ []) N (cAt (codeOf Tryd.f106) [1,1,1]) (pAt (mkPlan (codeOf Tryd.f106) [([3,4],[])]).1 [1,1,1]) (SV×Eff×Bool)) (finK prog [] [.tmp 2]))) e (left (writes (cAt (codeOf Tryd.f106) [1,1,0,1,0,0])) [3,4] [] (Zdf a0) s))=nodeX (iterO (Zby prog a0) N ((0:Int),(0:Int))) (fun x=>Zh4 prog N a0 x.1 x.2):=by
 refine Za9 Ze2 Zjb _ _ (Zt7 N a0) N ((0:Int),(0:Int)) _ _ ?_
 intro x;exact Zox N a0 x.1 x.2
theorem Zta (N:Nat) (a0:Array Value):ansV prog (mkΓ []) N Tryd.f106 [([3,4],[])] [.g a0 31] []=(nodeX (iterO (Zby prog a0) N ((0:Int),(0:Int))) (fun x=>Zh4 prog N a0 x.1 x.2)):=by
 refine Eq.trans (b:=(bindX (iterO (stepV prog (mkΓ []) N (cAt (codeOf Tryd.f106) [1,1,0,1,0,0]) (pAt (mkPlan (codeOf Tryd.f106) [([3,4],[])]).1 [1,1,0,1,0]) [3,4] [] (Zdf a0)) N ([.a (.i .i64 (0:Int)),.a (.i .i64 (0:Int))],[])) (fun e s=>(kBlock 0 (kSeq (veC prog (mkΓ []) N (cAt (codeOf Tryd.f106) [1,1,1]) (pAt (mkPlan (codeOf Tryd.f106) [([3,4],[])]).1 [1,1,1]) (SV×Eff×Bool)) (finK prog [] [.tmp 2]))) e (left (writes (cAt (codeOf Tryd.f106) [1,1,0,1,0,0])) [3,4] [] (Zdf a0) s)))) (by kernel_rfl) ?_
 simp only [Zvh N a0]
theorem Zsr (a0:Array Value) (h_a0:WT prog 31 a0) (hg:(true)=true):ansV prog (mkΓ []) 1000 Tryd.f106 [([3,4],[])] [.g a0 31] []=some (.a (.b ((sumW a0 5==(12:Int)))),.none,true):=by
 have h:=Zb9 (g:=Zby prog a0) (fun k=>(sumW a0 k,(k:Int))) (m:=5) (x:=(sumW a0 5,((5:Nat):Int))) (N:=1000) (fun k hk=>by
  have h1:decide ((k:Int)<5)=true:=decide_eq_true (by omega)
  have h0:decide (0≤(k:Int))=true:=decide_eq_true (by omega)
  have h3:i64.wrap ((k:Int)+1)=((k+1:Nat):Int):=by rw [IntWalk.i64_in _ (by omega)];omega
  have h4:((k:Int)).toNat=k:=Int.toNat_natCast k
  simp only [Zby,h1,h0,Bool.and_self,h4,cond_true,h3,sumW]) (by
  have h1:decide (((5:Nat):Int)<5)=false:=by decide
  simp only [Zby,h1,cond_false]) (by omega)
 refine (Zta 1000 a0).trans ?_
 have h':iterO (Zby prog a0) 1000 ((0:Int),(0:Int))=some (sumW a0 5,((5:Nat):Int)):=h
 rw [h']
 rfl
def Ziv:Con:=fun args h=>match args,h with
 | [.g a0 31],[]=>some (.a (.b ((sumW a0 5==(12:Int)))),.none,true)
 | _,_=>none
theorem Zq7:EntX prog 106:=Zai (fn:=Tryd.f106) (by kernel_rfl) (by kernel_rfl) (by kernel_rfl)
theorem Zus:ConOkX mn prog 106 Ziv:=(Zaj (N:=1000) (by kernel_rfl) mkΓ_nilX (fn:=Tryd.f106) (by kernel_rfl) (by kernel_rfl) [([3,4],[])]).of (by
 intro ρ h w args vals r e hA hH hr
 unfold Ziv at hr
 split at hr
 ·rename_i a0
  obtain ⟨rfl,hg⟩:=Prod.mk.inj (Option.some.inj hr)
  obtain ⟨rfl,hg2⟩:=Prod.mk.inj hg
  exact Zsr a0 (hA.wt 0 rfl) hg2
 ·cases hr)
def Zoc:Cons:=(mkΓ [(88,con Zgc),(89,con Zeq),(141,con Zg9)])
theorem Zts (N:Nat) (a0:Array Value) (a1:Int) (a2:Array Value):ansV prog Zoc N Tryd.f134 [] [.g a0 35,.i .i64 (a1),.g a2 31] []=(bif (Zap a0 a1) then (bif decide (0≤a1) then (bif (Zae a0 a1) then (some (.a (.b ((sumW a2 5==(12:Int)))),.none,true))
    else (some (.a (.b ((sameB a2 (#[.int .u8 (0:Int),.int .u8 (0:Int),.int .u8 (0:Int),.int .u8 (0:Int),.int .u8 (0:Int)]:Array Value)))),.none,true)))
   else (none))
  else (some (.a (.b ((sameB a2 (#[.int .u8 (0:Int),.int .u8 (0:Int),.int .u8 (0:Int),.int .u8 (0:Int),.int .u8 (0:Int)]:Array Value)))),.none,true))):=by kernel_rfl
def Zbt (a0:Array Value) (a1:Int) (a2:Array Value):Bool:=(bif (Zap a0 a1) then (bif (Zae a0 a1) then (sumW a2 5==(12:Int)) else (sameB a2 (#[.int .u8 (0:Int),.int .u8 (0:Int),.int .u8 (0:Int),.int .u8 (0:Int),.int .u8 (0:Int)]:Array Value))) else (sameB a2 (#[.int .u8 (0:Int),.int .u8 (0:Int),.int .u8 (0:Int),.int .u8 (0:Int),.int .u8 (0:Int)]:Array Value)))
theorem Zsn (a0:Array Value) (a1:Int) (a2:Array Value) (h_a0:WT prog 35 a0) (h_a1:i64.min≤a1∧a1≤i64.max) (h_a2:WT prog 31 a2) (hg:((bif (Zap a0 a1) then decide (0≤a1) else true))=true):ansV prog Zoc 1000 Tryd.f134 [] [.g a0 35,.i .i64 (a1),.g a2 31] []=some (.a (.b ((Zbt a0 a1 a2))),.none,true):=by
 refine (Zts 1000 a0 a1 a2).trans ?_
 unfold Zbt
 revert hg
 generalize ((Zap a0 a1))=b2
 intro hg
 cases b2
 ·skip
  first | (simp only [cond_true,cond_false,Bool.and_true,Bool.true_and,Bool.and_false,Bool.false_and];done) | rfl | exact (nomatch (hg:false=true))
 ·skip
  revert hg
  generalize (decide (0≤a1))=b4
  intro hg
  cases b4
  ·skip
   first | exact (nomatch (hg:false=true)) | (simp only [cond_true,cond_false,Bool.and_true,Bool.true_and,Bool.and_false,Bool.false_and];done) | rfl
  ·skip
   revert hg
   generalize ((Zae a0 a1))=b6
   intro hg
   cases b6
   ·skip
    first | (simp only [cond_true,cond_false,Bool.and_true,Bool.true_and,Bool.and_false,Bool.false_and];done) | rfl | exact (nomatch (hg:false=true))
   ·skip
    first | (simp only [cond_true,cond_false,Bool.and_true,Bool.true_and,Bool.and_false,Bool.false_and];done) | rfl | exact (nomatch (hg:false=true))
def Ziq:Con:=fun args h=>match args,h with
 | [.g a0 35,.i .i64 a1,.g a2 31],[]=>some (.a (.b ((Zbt a0 a1 a2))),.none,(bif (Zap a0 a1) then decide (0≤a1) else true))
 | _,_=>none
theorem Zqp:EntX prog 134:=Zai (fn:=Tryd.f134) (by kernel_rfl) (by kernel_rfl) (by kernel_rfl)
theorem Zuw:ConOkX mn prog 134 Ziq:=(Zaj (N:=1000) (by kernel_rfl) (mkΓ_consX (Zad Zfb) Zde (mkΓ_consX (Zad Zju) Zgw (mkΓ_consX (Zad Zrz) Zog mkΓ_nilX))) (fn:=Tryd.f134) (by kernel_rfl) (by kernel_rfl) []).of (by
 intro ρ h w args vals r e hA hH hr
 unfold Ziq at hr
 split at hr
 ·rename_i a0 a1 a2
  obtain ⟨rfl,hg⟩:=Prod.mk.inj (Option.some.inj hr)
  obtain ⟨rfl,hg2⟩:=Prod.mk.inj hg
  exact Zsn a0 a1 a2 (hA.wt 0 rfl) (hA.rng 1 rfl) (hA.wt 2 rfl) hg2
 ·cases hr)
def chR (S:Array Value) (t k:Nat):Array Value:=S.extract (3+t*180+k*5) (3+t*180+k*5+5)
def fitS (S:Array Value) (t k:Nat):Bool:=bif inC (num S 0) (num S 1) k && !(bitI (num S 2) k) then (sumW (chR S t k) 5==(12:Int)) else sameB (chR S t k) (#[.int .u8 (0:Int),.int .u8 (0:Int),.int .u8 (0:Int),.int .u8 (0:Int),.int .u8 (0:Int)]:Array Value)
def okD (S:Array Value):Bool:=decide (1≤num S 0)&&decide (num S 0≤6)&&(decide (1≤num S 1)&&decide (num S 1≤6))
def okS (S:Array Value):Bool:=okD S&&((andNotI (num S 2) (gridI (num S 0) (num S 1) 36)==0)&&(List.range 36).all fun k=>fitS S 0 k&&fitS S 1 k)
theorem Yez (n:Nat) (p:Nat→Bool):((List.range n).find? (fun k=> !(p k))).isNone=(List.range n).all p:=by
 rw [Bool.eq_iff_iff,Option.isNone_iff_eq_none,List.find?_eq_none,List.all_eq_true]
 simp
theorem all_two (n:Nat) (p q:Nat→Bool):(List.range n).all (fun k=>p k&&q k)=((List.range n).all p&&(List.range n).all q):=by
 rw [Bool.eq_iff_iff,Bool.and_eq_true,List.all_eq_true,List.all_eq_true,List.all_eq_true]
 simp only [Bool.and_eq_true]
 exact ⟨fun h=>⟨fun x hx=>(h x hx).1,fun x hx=>(h x hx).2⟩,fun h x hx=>⟨h.1 x hx,h.2 x hx⟩⟩
theorem Yl8 {S:Array Value} (h:WT prog 35 S) {k:Nat} (hk:k<36):Zap S (k:Int)=inC (num S 0) (num S 1) k:=by rw [Ye3,Ygm h hk]
theorem Yaf {S:Array Value} (h:WT prog 35 S) {k:Nat} (hk:k<36) (t:Nat):Zbt S (k:Int) (chR S t k)=fitS S t k:=by
 unfold Zbt fitS
 rw [Yl8 h hk]
 unfold Zae
 rw [Zro hk]
 cases inC (num S 0) (num S 1) k<;>cases bitI (num S 2) k<;>rfl
theorem Yav {S:Array Value} (h:WT prog 35 S) {k:Nat} (hk:k<36):Zbp (k:Int) S=true∧Zah (k:Int) S=(inC (num S 0) (num S 1) k && !(bitI (num S 2) k)):=by
 have hu:decide (0≤IntKind.u64.wrap (k:Int))=true:=decide_eq_true (Zh9 .u64 _).1
 unfold Zbp Zah
 rw [Ygm h hk,Ymh h hk]
 constructor
 ·cases inC (num S 0) (num S 1) k<;>simp [hu]
 ·cases inC (num S 0) (num S 1) k<;>simp
def Zck:Cons:=(mkΓ [(133,con Zj3),(134,con Ziq)])
def Zdi (a0:Array Value):St:=(⟨.a (.g a0 35) :: .a (.w 0) :: .a (.b (false)) :: .a (.u) :: .a (.p 0 (0) 22) :: .a (.i .i8 (num a0 0)) :: .a (.b (decide ((num a0 0)<(1:Int)))) :: .a (.b (false)) :: .a (.p 0 (0) 22) :: .a (.i .i8 (num a0 0)) :: .a (.b (decide ((num a0 0) > (6:Int)))) :: .a (.b (decide ((num a0 0) > (6:Int)))) :: .a (.b (false)) :: .a (.p 0 (1) 22) :: .a (.i .i8 (num a0 1)) :: .a (.b (decide ((num a0 1)<(1:Int)))) :: .a (.b (decide ((num a0 1)<(1:Int)))) :: .a (.b (false)) :: .a (.p 0 (1) 22) :: .a (.i .i8 (num a0 1)) :: .a (.b (decide ((num a0 1) > (6:Int)))) :: .a (.b (decide ((num a0 1) > (6:Int)))) :: .a (.p 0 (2) 23) :: .a (.i .u64 (num a0 2)) :: .a (.g a0 35) :: .a (.i .u64 (gridI (num a0 0) (num a0 1) 36)) :: .a (.i .u64 (IntKind.u64.wrap (BitVec.ofInt IntKind.u64.bits (num a0 2) &&& ~~~(BitVec.ofInt IntKind.u64.bits (gridI (num a0 0) (num a0 1) 36))).toNat)) :: .a (.b (((IntKind.u64.wrap (BitVec.ofInt IntKind.u64.bits (num a0 2) &&& ~~~(BitVec.ofInt IntKind.u64.bits (gridI (num a0 0) (num a0 1) 36))).toNat) != (0:Int)))) :: .a (.i .i64 (0:Int))::us 23 ([]),[.row a0 35,.no,.no,.no,.no,.no,.no,.no],[]⟩:St)
def Zem:Bool×Int→LS
 | (y0_2,y0_28)=>([.a (.b (y0_2)),.a (.i .i64 (y0_28))],[])
def Zlf:(Stp (Bool×Int) (Bool×Int))→Exit×LS
 | .more t=>(.ret,Zem t)
 | .done t=>((.exit 0),Zem t)
def Zbu (P:Program) (a0:Array Value):Bool×Int→Option (Stp (Bool×Int) (Stp (Bool×Int) (Bool×Int)))
  | (y0_2,y0_28)=>bif decide (y0_28<(36:Int)) then (bif (decide (0≤y0_28)&&decide (y0_28<36)) then (bif (bif (Zap a0 y0_28) then decide (0≤y0_28) else true) then (bif (!((Zbt a0 y0_28 (a0.extract (3+((y0_28).toNat*5)) ((3+((y0_28).toNat*5))+5))))) then (some (.done (.more (false,y0_28))))
          else (bif (decide (0≤y0_28)&&decide (y0_28<36)) then (bif (bif (Zap a0 y0_28) then decide (0≤y0_28) else true) then (bif (!((Zbt a0 y0_28 (a0.extract (183+((y0_28).toNat*5)) ((183+((y0_28).toNat*5))+5))))) then (some (.done (.more (false,y0_28))))
                else (some (.more (y0_2,(i64.wrap (y0_28+(1:Int)))))))
              else (none))
            else (none)))
        else (none))
      else (none))
    else (some (.done (.done (y0_2,y0_28))))
theorem Zy1 (N:Nat) (a0:Array Value):∀ t:Bool×Int,stepV prog Zck N (cAt (codeOf Tryd.f112) [1,1,1,0,1,0,0]) (pAt (mkPlan (codeOf Tryd.f112) [([2,28],[])]).1 [1,1,1,0,1,0]) [2,28] [] (Zdi a0) (Zem t)=mapS Zem Zlf (Zbu prog a0 t):=by
  rintro ⟨y0_2,y0_28⟩
  refine Eq.trans (b:=(bif decide (y0_28<(36:Int)) then (bif (decide (0≤y0_28)&&decide (y0_28<36)) then (bif (bif (Zap a0 y0_28) then decide (0≤y0_28) else true) then (bif (!((Zbt a0 y0_28 (a0.extract (3+((y0_28).toNat*5)) ((3+((y0_28).toNat*5))+5))))) then (some (.done (.ret,([.a (.b (false)),.a (.i .i64 (y0_28))],[]))))
          else (bif (decide (0≤y0_28)&&decide (y0_28<36)) then (bif (bif (Zap a0 y0_28) then decide (0≤y0_28) else true) then (bif (!((Zbt a0 y0_28 (a0.extract (183+((y0_28).toNat*5)) ((183+((y0_28).toNat*5))+5))))) then (some (.done (.ret,([.a (.b (false)),.a (.i .i64 (y0_28))],[]))))
                else (some (.more ([.a (.b (y0_2)),.a (.i .i64 (i64.wrap (y0_28+(1:Int))))],[]))))
              else (none))
            else (none)))
        else (none))
      else (none))
    else (some (.done ((.exit 0),([.a (.b (y0_2)),.a (.i .i64 (y0_28))],[])))))) (by kernel_rfl) ?_
  simp only [Zbu,Zav,Zas,Zat,Zau,Zem,Zlf]
def Zjl (P:Program) (N:Nat) (a0:Array Value) (z0_2:Bool) (z0_28:Int):Option (SV×Eff×Bool):=some (.a (.b (z0_2)),.none,true)
theorem Zqt (N:Nat) (a0:Array Value) (z0_2:Bool) (z0_28:Int):(kBlock 0 (kSeq (veC prog Zck N (cAt (codeOf Tryd.f112) [1,1,1,1]) (pAt (mkPlan (codeOf Tryd.f112) [([2,28],[])]).1 [1,1,1,1]) (SV×Eff×Bool)) (finK prog [] [.tmp 2]))) .ret (left (writes (cAt (codeOf Tryd.f112) [1,1,1,0,1,0,0])) [2,28] [] (Zdi a0) ([.a (.b (z0_2)),.a (.i .i64 (z0_28))],[]))=Zjl prog N a0 z0_2 z0_28:=by
 refine Eq.trans (b:=(some (.a (.b (z0_2)),.none,true))) (by kernel_rfl) ?_
 rfl
def Zjp (P:Program) (N:Nat) (a0:Array Value) (z0_2:Bool) (z0_28:Int):Option (SV×Eff×Bool):=some (.a (.b (true)),.none,true)
theorem Zpu (N:Nat) (a0:Array Value) (z0_2:Bool) (z0_28:Int):(kBlock 0 (kSeq (veC prog Zck N (cAt (codeOf Tryd.f112) [1,1,1,1]) (pAt (mkPlan (codeOf Tryd.f112) [([2,28],[])]).1 [1,1,1,1]) (SV×Eff×Bool)) (finK prog [] [.tmp 2]))) (.exit 0) (left (writes (cAt (codeOf Tryd.f112) [1,1,1,0,1,0,0])) [2,28] [] (Zdi a0) ([.a (.b (z0_2)),.a (.i .i64 (z0_28))],[]))=Zjp prog N a0 z0_2 z0_28:=by
 refine Eq.trans (b:=(some (.a (.b (true)),.none,true))) (by kernel_rfl) ?_
 rfl
theorem Zyu (N:Nat) (a0:Array Value):bindX (iterO (stepV prog Zck N (cAt (codeOf Tryd.f112) [1,1,1,0,1,0,0]) (pAt (mkPlan (codeOf Tryd.f112) [([2,28],[])]).1 [1,1,1,0,1,0]) [2,28] [] (Zdi a0)) N ([.a (.b (false)),.a (.i .i64 (0:Int))],[])) (fun e s=>(kBlock 0 (kSeq (veC prog Zck N (cAt (codeOf Tryd.f112) [1,1,1,1]) (pAt (mkPlan (codeOf Tryd.f112) [([2,28],[])]).1 [1,1,1,1]) (SV×Eff×Bool)) (finK prog [] [.tmp 2]))) e (left (writes (cAt (codeOf Tryd.f112) [1,1,1,0,1,0,0])) [2,28] [] (Zdi a0) s))=nodeX (iterO (Zbu prog a0) N (false,(0:Int))) (st2 (fun x=>Zjl prog N a0 x.1 x.2) (fun x=>Zjp prog N a0 x.1 x.2)):=by
 refine Za9 Zem Zlf _ _ (Zy1 N a0) N (false,(0:Int)) _ _ ?_
 intro x
 cases x with
 | more x=>exact Zqt N a0 x.1 x.2
 | done x=>exact Zpu N a0 x.1 x.2
theorem Zxo (N:Nat) (a0:Array Value):ansV prog Zck N Tryd.f112 [([2,28],[])] [.g a0 35] []=(bif decide ((num a0 0)<(1:Int)) then (some (.a (.b (false)),.none,true))
    else (bif decide ((num a0 0) > (6:Int)) then (some (.a (.b (false)),.none,true))
      else (bif decide ((num a0 1)<(1:Int)) then (some (.a (.b (false)),.none,true))
        else (bif decide ((num a0 1) > (6:Int)) then (some (.a (.b (false)),.none,true))
          else (bif (decide (0≤num a0 0)&&decide (num a0 0≤6)&&(decide (0≤num a0 1)&&decide (num a0 1≤6))) then (bif ((IntKind.u64.wrap (BitVec.ofInt IntKind.u64.bits (num a0 2) &&& ~~~(BitVec.ofInt IntKind.u64.bits (gridI (num a0 0) (num a0 1) 36))).toNat) != (0:Int)) then (some (.a (.b (false)),.none,true))
              else (nodeX (iterO (Zbu prog a0) N (false,(0:Int))) (st2 (fun x=>Zjl prog N a0 x.1 x.2) (fun x=>Zjp prog N a0 x.1 x.2))))
            else (none)))))):=by
  refine Eq.trans (b:=(bif decide ((num a0 0)<(1:Int)) then (some (.a (.b (false)),.none,true))
    else (bif decide ((num a0 0) > (6:Int)) then (some (.a (.b (false)),.none,true))
      else (bif decide ((num a0 1)<(1:Int)) then (some (.a (.b (false)),.none,true))
        else (bif decide ((num a0 1) > (6:Int)) then (some (.a (.b (false)),.none,true))
          else (bif (decide (0≤num a0 0)&&decide (num a0 0≤6)&&(decide (0≤num a0 1)&&decide (num a0 1≤6))) then (bif ((IntKind.u64.wrap (BitVec.ofInt IntKind.u64.bits (num a0 2) &&& ~~~(BitVec.ofInt IntKind.u64.bits (gridI (num a0 0) (num a0 1) 36))).toNat) != (0:Int)) then (some (.a (.b (false)),.none,true))
              else (bindX (iterO (stepV prog Zck N (cAt (codeOf Tryd.f112) [1,1,1,0,1,0,0]) (pAt (mkPlan (codeOf Tryd.f112) [([2,28],[])]).1 [1,1,1,0,1,0]) [2,28] [] (Zdi a0)) N ([.a (.b (false)),.a (.i .i64 (0:Int))],[])) (fun e s=>(kBlock 0 (kSeq (veC prog Zck N (cAt (codeOf Tryd.f112) [1,1,1,1]) (pAt (mkPlan (codeOf Tryd.f112) [([2,28],[])]).1 [1,1,1,1]) (SV×Eff×Bool)) (finK prog [] [.tmp 2]))) e (left (writes (cAt (codeOf Tryd.f112) [1,1,1,0,1,0,0])) [2,28] [] (Zdi a0) s))))
            else (none))))))) (by kernel_rfl) ?_
  simp only [Zyu N a0]
theorem Zuo (a0:Array Value) (h_a0:WT prog 35 a0) (hg:(true)=true):ansV prog Zck 1000 Tryd.f112 [([2,28],[])] [.g a0 35] []=some (.a (.b ((okS a0))),.none,true):=by
 refine (Zxo 1000 a0).trans ?_
 have h:=Zwp (g:=Zbu prog a0) (fun k=>(false,(k:Int))) (fun k=> !(fitS a0 0 k&&fitS a0 1 k)) 36 (N:=1000) (by omega) (xd:=.done (false,((36:Nat):Int))) (fun k=>.more (false,(k:Int))) (fun k hk hp=>by
  have h1:decide ((k:Int)<36)=true:=decide_eq_true (by omega)
  have h0:decide (0≤(k:Int))=true:=decide_eq_true (by omega)
  have h3:i64.wrap ((k:Int)+1)=((k+1:Nat):Int):=by rw [IntWalk.i64_in _ (by omega)];omega
  have f0:=Yaf h_a0 hk 0
  have f1:=Yaf h_a0 hk 1
  unfold chR at f0 f1
  rw [show 3+0*180+k*5=3+k*5 by omega] at f0
  rw [show 3+1*180+k*5=183+k*5 by omega] at f1
  have hg:(bif Zap a0 (k:Int) then true else true)=true:=by cases Zap a0 (k:Int)<;>rfl
  simp only [Bool.not_eq_false',Bool.and_eq_true] at hp
  simp only [Zbu,h1,h0,h3,Bool.and_self,cond_true,Int.toNat_natCast,hg,f0,f1,hp.1,hp.2,Bool.not_true,cond_false]) (fun k hk hp=>by
  have h1:decide ((k:Int)<36)=true:=decide_eq_true (by omega)
  have h0:decide (0≤(k:Int))=true:=decide_eq_true (by omega)
  have f0:=Yaf h_a0 hk 0
  have f1:=Yaf h_a0 hk 1
  unfold chR at f0 f1
  rw [show 3+0*180+k*5=3+k*5 by omega] at f0
  rw [show 3+1*180+k*5=183+k*5 by omega] at f1
  have hg:(bif Zap a0 (k:Int) then true else true)=true:=by cases Zap a0 (k:Int)<;>rfl
  cases e0:fitS a0 0 k with
  | false=>simp only [Zbu,h1,h0,Bool.and_self,cond_true,Int.toNat_natCast,hg,f0,e0,Bool.not_false]
  | true=>
   rw [e0] at hp
   have e1:fitS a0 1 k=false:=by simpa using hp
   simp only [Zbu,h1,h0,Bool.and_self,cond_true,Int.toNat_natCast,hg,f0,f1,e0,e1,Bool.not_false,Bool.not_true,cond_false]) (by
  have h1:decide (((36:Nat):Int)<36)=false:=by decide
  simp only [Zbu,h1,cond_false])
 have h':iterO (Zbu prog a0) 1000 (false,(0:Int))=some (match (List.range 36).find? (fun k=> !(fitS a0 0 k&&fitS a0 1 k)) with | some k=>.more (false,(k:Int)) | none=>.done (false,((36:Nat):Int))):=h
 have hf:=Yez 36 (fun k=>fitS a0 0 k&&fitS a0 1 k)
 unfold okS okD
 by_cases d1:1≤num a0 0
 ·rw [decide_eq_true d1,decide_eq_false (show ¬ num a0 0<1 by omega)]
  by_cases d2:num a0 0≤6
  ·rw [decide_eq_true d2,decide_eq_false (show ¬ num a0 0 > 6 by omega)]
   by_cases d3:1≤num a0 1
   ·rw [decide_eq_true d3,decide_eq_false (show ¬ num a0 1<1 by omega)]
    by_cases d4:num a0 1≤6
    ·rw [decide_eq_true d4,decide_eq_false (show ¬ num a0 1 > 6 by omega),decide_eq_true (show 0≤num a0 0 by omega),decide_eq_true (show 0≤num a0 1 by omega)]
     simp only [Bool.and_self,cond_true,cond_false,Bool.true_and,h']
     rw [show IntKind.u64.wrap (BitVec.ofInt IntKind.u64.bits (num a0 2) &&& ~~~(BitVec.ofInt IntKind.u64.bits (gridI (num a0 0) (num a0 1) 36))).toNat=andNotI (num a0 2) (gridI (num a0 0) (num a0 1) 36) from rfl]
     cases hb:(andNotI (num a0 2) (gridI (num a0 0) (num a0 1) 36)==0) with
     | false=>rw [show (andNotI (num a0 2) (gridI (num a0 0) (num a0 1) 36) != 0)=true by simp [bne,hb]];rfl
     | true=>
      rw [show (andNotI (num a0 2) (gridI (num a0 0) (num a0 1) 36) != 0)=false by simp [bne,hb],← hf]
      cases (List.range 36).find? (fun k=> !(fitS a0 0 k&&fitS a0 1 k))<;>rfl
    ·rw [decide_eq_false d4,decide_eq_true (show num a0 1 > 6 by omega)];rfl
   ·rw [decide_eq_false d3,decide_eq_true (show num a0 1<1 by omega)];rfl
  ·rw [decide_eq_false d2,decide_eq_true (show num a0 0 > 6 by omega)];rfl
 ·rw [decide_eq_false d1,decide_eq_true (show num a0 0<1 by omega)];rfl
def Zho:Con:=fun args h=>match args,h with
 | [.g a0 35],[]=>some (.a (.b ((okS a0))),.none,true)
 | _,_=>none
theorem Zd9:EntX prog 112:=Zai (fn:=Tryd.f112) (by kernel_rfl) (by kernel_rfl) (by kernel_rfl)
theorem Zf8:ConOkX mn prog 112 Zho:=(Zaj (N:=1000) (by kernel_rfl) (mkΓ_consX (Zad Zzy) Zt2 (mkΓ_consX (Zad Zuw) Zqp mkΓ_nilX)) (fn:=Tryd.f112) (by kernel_rfl) (by kernel_rfl) [([2,28],[])]).of (by
 intro ρ h w args vals r e hA hH hr
 unfold Zho at hr
 split at hr
 ·rename_i a0
  obtain ⟨rfl,hg⟩:=Prod.mk.inj (Option.some.inj hr)
  obtain ⟨rfl,hg2⟩:=Prod.mk.inj hg
  exact Zuo a0 (hA.wt 0 rfl) hg2
 ·cases hr)
def Zbr:Cons:=(mkΓ [(56,con Zbv),(95,con Zke),(105,con Zjt),(106,con Ziv)])
def Zfw (a0:Array Value) (y0_2:Bool) (y0_3:Int):St:=(⟨.a (.w 0) :: .a (.u) :: .a (.b (y0_2)) :: .a (.i .i64 (y0_3)) :: .a (.i .i64 (0:Int)) :: .a (.x) :: .a (.w 0) :: .a (.w 0) :: .a (.p 0 (0) 22) :: .a (.i .i8 (num a0 0)) :: .a (.i .i64 (i64.wrap (num a0 0))) :: .a (.b ((Zaa (i64.wrap (num a0 0)) (1:Int) (6:Int)))) :: .a (.b ((!((Zaa (i64.wrap (num a0 0)) (1:Int) (6:Int)))))) :: .a (.b (false)) :: .a (.w 0) :: .a (.w 0) :: .a (.p 0 (1) 22) :: .a (.i .i8 (num a0 1)) :: .a (.i .i64 (i64.wrap (num a0 1))) :: .a (.b ((Zaa (i64.wrap (num a0 1)) (1:Int) (6:Int)))) :: .a (.b ((!((Zaa (i64.wrap (num a0 1)) (1:Int) (6:Int)))))) :: .a (.b ((!((Zaa (i64.wrap (num a0 1)) (1:Int) (6:Int)))))) :: .a (.b (false)) :: .a (.w 0) :: .a (.w 0) :: .a (.p 0 (2) 23) :: .a (.i .u64 (num a0 2)) :: .a (.w 0) :: .a (.i .u64 (gridI (num a0 0) (num a0 1) 36)) :: .a (.i .u64 (IntKind.u64.wrap (BitVec.ofInt IntKind.u64.bits (num a0 2) &&& ~~~(BitVec.ofInt IntKind.u64.bits (gridI (num a0 0) (num a0 1) 36))).toNat)) :: .a (.b (((IntKind.u64.wrap (BitVec.ofInt IntKind.u64.bits (num a0 2) &&& ~~~(BitVec.ofInt IntKind.u64.bits (gridI (num a0 0) (num a0 1) 36))).toNat) != (0:Int)))) :: .a (.b (((IntKind.u64.wrap (BitVec.ofInt IntKind.u64.bits (num a0 2) &&& ~~~(BitVec.ofInt IntKind.u64.bits (gridI (num a0 0) (num a0 1) 36))).toNat) != (0:Int)))) :: .a (.i .i64 (y0_3)) :: .a (.b (decide (y0_3<(2:Int))))::xs 33 ([]),[.row a0 35,.no,.no,.no,.no,.no,.no,.no,.no,.no,.no,.no,.no,.no,.no,.no,.no,.no,.no,.no,.no,.no,.no,.no,.no,.no,.no],[]⟩:St)
def Zhg:Bool×Int→LS
 | (y1_2,y1_4)=>([.a (.b (y1_2)),.a (.i .i64 (y1_4))],[])
def Zo1:(Stp (Bool×Int) (Bool×Int))→Exit×LS
 | .more t=>(.ret,Zhg t)
 | .done t=>((.exit 2),Zhg t)
def Zcg (P : Program) (a0 : Array Value) (y0_2 : Bool) (y0_3 : Int) : Bool × Int → Option (Stp (Bool × Int) (Stp (Bool × Int) (Bool × Int)))
  | (y1_2, y1_4) => bif decide (y1_4 < (36 : Int)) then (bif (decide (0 ≤ y0_3) && decide (y0_3 < 2)) then (bif (decide (0 ≤ y1_4) && decide (y1_4 < 36)) then (bif (Zbp y1_4 a0) then (bif (Zah y1_4 a0) then (bif (!((sumW (a0.extract ((3 + ((y0_3).toNat * 180)) + ((y1_4).toNat * 5)) (((3 + ((y0_3).toNat * 180)) + ((y1_4).toNat * 5)) + 5)) 5 == (12 : Int)))) then (some (.done (.more (false, y1_4))))
              else (bif (Zbp y1_4 a0) then (bif (!((Zah y1_4 a0))) then (bif (!(sameB (a0.extract ((3 + ((y0_3).toNat * 180)) + ((y1_4).toNat * 5)) (((3 + ((y0_3).toNat * 180)) + ((y1_4).toNat * 5)) + 5)) (#[.int .u8 (0 : Int), .int .u8 (0 : Int), .int .u8 (0 : Int), .int .u8 (0 : Int), .int .u8 (0 : Int)] : Array Value))) then (some (.done (.more (false, y1_4))))
                    else (some (.more (y1_2, (i64.wrap (y1_4 + (1 : Int)))))))
                  else (some (.more (y1_2, (i64.wrap (y1_4 + (1 : Int)))))))
                else (none)))
            else (bif (Zbp y1_4 a0) then (bif (!((Zah y1_4 a0))) then (bif (!(sameB (a0.extract ((3 + ((y0_3).toNat * 180)) + ((y1_4).toNat * 5)) (((3 + ((y0_3).toNat * 180)) + ((y1_4).toNat * 5)) + 5)) (#[.int .u8 (0 : Int), .int .u8 (0 : Int), .int .u8 (0 : Int), .int .u8 (0 : Int), .int .u8 (0 : Int)] : Array Value))) then (some (.done (.more (false, y1_4))))
                  else (some (.more (y1_2, (i64.wrap (y1_4 + (1 : Int)))))))
                else (some (.more (y1_2, (i64.wrap (y1_4 + (1 : Int)))))))
              else (none)))
          else (none))
        else (none))
      else (none))
    else (some (.done (.done (y1_2, y1_4))))
theorem Yfh (N:Nat) (a0:Array Value) (y0_2:Bool) (y0_3:Int):∀ t:Bool×Int,stepV prog Zbr N (cAt (codeOf Tryd.f70) [1,1,0,1,0,0,1,0,0,1,0,0]) (pAt (mkPlan (codeOf Tryd.f70) [([2,3],[]),([2,4],[])]).1 [1,1,0,1,0,1,0,1,0]) [2,4] [] (Zfw a0 y0_2 y0_3) (Zhg t)=mapS Zhg Zo1 (Zcg prog a0 y0_2 y0_3 t):=by
  rintro ⟨y1_2,y1_4⟩
  refine Eq.trans (b:=(bif decide (y1_4<(36:Int)) then (bif (decide (0≤y0_3)&&decide (y0_3<2)) then (bif (decide (0≤y1_4)&&decide (y1_4<36)) then (bif (Zbp y1_4 a0) then (bif (Zah y1_4 a0) then (bif (!((sumW (a0.extract ((3+((y0_3).toNat*180))+((y1_4).toNat*5)) (((3+((y0_3).toNat*180))+((y1_4).toNat*5))+5)) 5==(12:Int)))) then (some (.done (.ret,([.a (.b (false)),.a (.i .i64 (y1_4))],[]))))
              else (bif (Zbp y1_4 a0) then (bif (!((Zah y1_4 a0))) then (bif (!(sameB (a0.extract ((3+((y0_3).toNat*180))+((y1_4).toNat*5)) (((3+((y0_3).toNat*180))+((y1_4).toNat*5))+5)) (#[.int .u8 (0:Int),.int .u8 (0:Int),.int .u8 (0:Int),.int .u8 (0:Int),.int .u8 (0:Int)]:Array Value))) then (some (.done (.ret,([.a (.b (false)),.a (.i .i64 (y1_4))],[]))))
                    else (some (.more ([.a (.b (y1_2)),.a (.i .i64 (i64.wrap (y1_4+(1:Int))))],[]))))
                  else (some (.more ([.a (.b (y1_2)),.a (.i .i64 (i64.wrap (y1_4+(1:Int))))],[]))))
                else (none)))
            else (bif (Zbp y1_4 a0) then (bif (!((Zah y1_4 a0))) then (bif (!(sameB (a0.extract ((3+((y0_3).toNat*180))+((y1_4).toNat*5)) (((3+((y0_3).toNat*180))+((y1_4).toNat*5))+5)) (#[.int .u8 (0:Int),.int .u8 (0:Int),.int .u8 (0:Int),.int .u8 (0:Int),.int .u8 (0:Int)]:Array Value))) then (some (.done (.ret,([.a (.b (false)),.a (.i .i64 (y1_4))],[]))))
                  else (some (.more ([.a (.b (y1_2)),.a (.i .i64 (i64.wrap (y1_4+(1:Int))))],[]))))
                else (some (.more ([.a (.b (y1_2)),.a (.i .i64 (i64.wrap (y1_4+(1:Int))))],[]))))
              else (none)))
          else (none))
        else (none))
      else (none))
    else (some (.done ((.exit 2),([.a (.b (y1_2)),.a (.i .i64 (y1_4))],[])))))) (by kernel_rfl) ?_
  simp only [Zcg,Zav,Zas,Zat,Zau,Zhg,Zo1]
def Zfy (a0:Array Value):St:=(⟨.a (.w 0) :: .a (.u) :: .a (.b (false)) :: .a (.i .i64 (0:Int)) :: .a (.u) :: .a (.u) :: .a (.w 0) :: .a (.w 0) :: .a (.p 0 (0) 22) :: .a (.i .i8 (num a0 0)) :: .a (.i .i64 (i64.wrap (num a0 0))) :: .a (.b ((Zaa (i64.wrap (num a0 0)) (1:Int) (6:Int)))) :: .a (.b ((!((Zaa (i64.wrap (num a0 0)) (1:Int) (6:Int)))))) :: .a (.b (false)) :: .a (.w 0) :: .a (.w 0) :: .a (.p 0 (1) 22) :: .a (.i .i8 (num a0 1)) :: .a (.i .i64 (i64.wrap (num a0 1))) :: .a (.b ((Zaa (i64.wrap (num a0 1)) (1:Int) (6:Int)))) :: .a (.b ((!((Zaa (i64.wrap (num a0 1)) (1:Int) (6:Int)))))) :: .a (.b ((!((Zaa (i64.wrap (num a0 1)) (1:Int) (6:Int)))))) :: .a (.b (false)) :: .a (.w 0) :: .a (.w 0) :: .a (.p 0 (2) 23) :: .a (.i .u64 (num a0 2)) :: .a (.w 0) :: .a (.i .u64 (gridI (num a0 0) (num a0 1) 36)) :: .a (.i .u64 (IntKind.u64.wrap (BitVec.ofInt IntKind.u64.bits (num a0 2) &&& ~~~(BitVec.ofInt IntKind.u64.bits (gridI (num a0 0) (num a0 1) 36))).toNat)) :: .a (.b (((IntKind.u64.wrap (BitVec.ofInt IntKind.u64.bits (num a0 2) &&& ~~~(BitVec.ofInt IntKind.u64.bits (gridI (num a0 0) (num a0 1) 36))).toNat) != (0:Int)))) :: .a (.b (((IntKind.u64.wrap (BitVec.ofInt IntKind.u64.bits (num a0 2) &&& ~~~(BitVec.ofInt IntKind.u64.bits (gridI (num a0 0) (num a0 1) 36))).toNat) != (0:Int))))::us 35 ([]),[.row a0 35,.no,.no,.no,.no,.no,.no,.no,.no,.no,.no,.no,.no,.no,.no,.no,.no,.no,.no,.no,.no,.no,.no,.no,.no,.no,.no],[]⟩:St)
def Zbx:Bool×Int→LS
 | (y0_2,y0_3)=>([.a (.b (y0_2)),.a (.i .i64 (y0_3))],[])
def Zc6:(Stp (Bool×Int) (Bool×Int))→Exit×LS
 | .more t=>(.ret,Zbx t)
 | .done t=>((.exit 0),Zbx t)
def Zfk (P:Program) (N:Nat) (a0:Array Value) (y0_2:Bool) (y0_3:Int) (z1_2:Bool) (z1_4:Int):Option (Stp (Bool×Int) (Stp (Bool×Int) (Bool×Int))):=some (.done (.more (z1_2,y0_3)))
theorem Zuq (N:Nat) (a0:Array Value) (y0_2:Bool) (y0_3:Int) (z1_2:Bool) (z1_4:Int):(kBlock 2 (kBlock 1 (kSeq (veC prog Zbr N (cAt (codeOf Tryd.f70) [1,1,0,1,0,0,1,1]) (pAt (mkPlan (codeOf Tryd.f70) [([2,3],[]),([2,4],[])]).1 [1,1,0,1,0,1,1]) (Stp LS (Exit×LS))) (kBody 27 [2,3] [])))) .ret (left (writes (cAt (codeOf Tryd.f70) [1,1,0,1,0,0,1,0,0,1,0,0])) [2,4] [] (Zfw a0 y0_2 y0_3) ([.a (.b (z1_2)),.a (.i .i64 (z1_4))],[]))=mapS Zbx Zc6 (Zfk prog N a0 y0_2 y0_3 z1_2 z1_4):=by
 refine Eq.trans (b:=(some (.done (.ret,([.a (.b (z1_2)),.a (.i .i64 (y0_3))],[]))))) (by kernel_rfl) ?_
 simp only [Zfk,Zav,Zas,Zat,Zau,Zbx,Zc6]
def Zfh (P:Program) (N:Nat) (a0:Array Value) (y0_2:Bool) (y0_3:Int) (z1_2:Bool) (z1_4:Int):Option (Stp (Bool×Int) (Stp (Bool×Int) (Bool×Int))):=some (.more (z1_2,(i64.wrap (y0_3+(1:Int)))))
theorem Zvq (N:Nat) (a0:Array Value) (y0_2:Bool) (y0_3:Int) (z1_2:Bool) (z1_4:Int):(kBlock 2 (kBlock 1 (kSeq (veC prog Zbr N (cAt (codeOf Tryd.f70) [1,1,0,1,0,0,1,1]) (pAt (mkPlan (codeOf Tryd.f70) [([2,3],[]),([2,4],[])]).1 [1,1,0,1,0,1,1]) (Stp LS (Exit×LS))) (kBody 27 [2,3] [])))) (.exit 2) (left (writes (cAt (codeOf Tryd.f70) [1,1,0,1,0,0,1,0,0,1,0,0])) [2,4] [] (Zfw a0 y0_2 y0_3) ([.a (.b (z1_2)),.a (.i .i64 (z1_4))],[]))=mapS Zbx Zc6 (Zfh prog N a0 y0_2 y0_3 z1_2 z1_4):=by
 refine Eq.trans (b:=(some (.more ([.a (.b (z1_2)),.a (.i .i64 (i64.wrap (y0_3+(1:Int))))],[])))) (by kernel_rfl) ?_
 simp only [Zfh,Zav,Zas,Zat,Zau,Zbx,Zc6]
theorem Yet (N:Nat) (a0:Array Value) (y0_2:Bool) (y0_3:Int):bindX (iterO (stepV prog Zbr N (cAt (codeOf Tryd.f70) [1,1,0,1,0,0,1,0,0,1,0,0]) (pAt (mkPlan (codeOf Tryd.f70) [([2,3],[]),([2,4],[])]).1 [1,1,0,1,0,1,0,1,0]) [2,4] [] (Zfw a0 y0_2 y0_3)) N ([.a (.b (y0_2)),.a (.i .i64 (0:Int))],[])) (fun e s=>(kBlock 2 (kBlock 1 (kSeq (veC prog Zbr N (cAt (codeOf Tryd.f70) [1,1,0,1,0,0,1,1]) (pAt (mkPlan (codeOf Tryd.f70) [([2,3],[]),([2,4],[])]).1 [1,1,0,1,0,1,1]) (Stp LS (Exit×LS))) (kBody 27 [2,3] [])))) e (left (writes (cAt (codeOf Tryd.f70) [1,1,0,1,0,0,1,0,0,1,0,0])) [2,4] [] (Zfw a0 y0_2 y0_3) s))=mapS Zbx Zc6 (nodeX (iterO (Zcg prog a0 y0_2 y0_3) N (y0_2,(0:Int))) (st2 (fun x=>Zfk prog N a0 y0_2 y0_3 x.1 x.2) (fun x=>Zfh prog N a0 y0_2 y0_3 x.1 x.2))):=by
 refine (Za9 Zhg Zo1 _ _ (Yfh N a0 y0_2 y0_3) N (y0_2,(0:Int)) _ (fun x=>mapS Zbx Zc6 ((st2 (fun x=>Zfk prog N a0 y0_2 y0_3 x.1 x.2) (fun x=>Zfh prog N a0 y0_2 y0_3 x.1 x.2)) x)) ?_).trans (Yer Zbx Zc6 _ _).symm
 intro x
 cases x with
 | more x=>exact Zuq N a0 y0_2 y0_3 x.1 x.2
 | done x=>exact Zvq N a0 y0_2 y0_3 x.1 x.2
def Zds (P:Program) (N:Nat) (a0:Array Value):Bool×Int→Option (Stp (Bool×Int) (Stp (Bool×Int) (Bool×Int)))
 | (y0_2,y0_3)=>bif decide (y0_3<(2:Int)) then (nodeX (iterO (Zcg P a0 y0_2 y0_3) N (y0_2,(0:Int))) (st2 (fun x=>Zfk P N a0 y0_2 y0_3 x.1 x.2) (fun x=>Zfh P N a0 y0_2 y0_3 x.1 x.2)))
  else (some (.done (.done (y0_2,y0_3))))
theorem Ye5 (N:Nat) (a0:Array Value):∀ t:Bool×Int,stepV prog Zbr N (cAt (codeOf Tryd.f70) [1,1,0,1,0,0]) (pAt (mkPlan (codeOf Tryd.f70) [([2,3],[]),([2,4],[])]).1 [1,1,0,1,0]) [2,3] [] (Zfy a0) (Zbx t)=mapS Zbx Zc6 (Zds prog N a0 t):=by
 rintro ⟨y0_2,y0_3⟩
 refine Eq.trans (b:=(bif decide (y0_3<(2:Int)) then (bindX (iterO (stepV prog Zbr N (cAt (codeOf Tryd.f70) [1,1,0,1,0,0,1,0,0,1,0,0]) (pAt (mkPlan (codeOf Tryd.f70) [([2,3],[]),([2,4],[])]).1 [1,1,0,1,0,1,0,1,0]) [2,4] [] (Zfw a0 y0_2 y0_3)) N ([.a (.b (y0_2)),.a (.i .i64 (0:Int))],[])) (fun e s=>(kBlock 2 (kBlock 1 (kSeq (veC prog Zbr N (cAt (codeOf Tryd.f70) [1,1,0,1,0,0,1,1]) (pAt (mkPlan (codeOf Tryd.f70) [([2,3],[]),([2,4],[])]).1 [1,1,0,1,0,1,1]) (Stp LS (Exit×LS))) (kBody 27 [2,3] [])))) e (left (writes (cAt (codeOf Tryd.f70) [1,1,0,1,0,0,1,0,0,1,0,0])) [2,4] [] (Zfw a0 y0_2 y0_3) s)))
  else (some (.done ((.exit 0),([.a (.b (y0_2)),.a (.i .i64 (y0_3))],[])))))) (by kernel_rfl) ?_
 simp only [Yet N a0 y0_2 y0_3,Zds,Zav,Zas,Zat,Zau,Zbx,Zc6]
def Zmq (P:Program) (N:Nat) (a0:Array Value) (z0_2:Bool) (z0_3:Int):Option (SV×Eff×Bool):=some (.a (.b (z0_2)),.none,true)
theorem Zvc (N:Nat) (a0:Array Value) (z0_2:Bool) (z0_3:Int):(kBlock 0 (kSeq (veC prog Zbr N (cAt (codeOf Tryd.f70) [1,1,1]) (pAt (mkPlan (codeOf Tryd.f70) [([2,3],[]),([2,4],[])]).1 [1,1,1]) (SV×Eff×Bool)) (finK prog [.row a0 35] [.tmp 2]))) .ret (left (writes (cAt (codeOf Tryd.f70) [1,1,0,1,0,0])) [2,3] [] (Zfy a0) ([.a (.b (z0_2)),.a (.i .i64 (z0_3))],[]))=Zmq prog N a0 z0_2 z0_3:=by
 refine Eq.trans (b:=(some (.a (.b (z0_2)),.none,true))) (by kernel_rfl) ?_
 rfl
def Zmm (P:Program) (N:Nat) (a0:Array Value) (z0_2:Bool) (z0_3:Int):Option (SV×Eff×Bool):=some (.a (.b (true)),.none,true)
theorem Zud (N:Nat) (a0:Array Value) (z0_2:Bool) (z0_3:Int):(kBlock 0 (kSeq (veC prog Zbr N (cAt (codeOf Tryd.f70) [1,1,1]) (pAt (mkPlan (codeOf Tryd.f70) [([2,3],[]),([2,4],[])]).1 [1,1,1]) (SV×Eff×Bool)) (finK prog [.row a0 35] [.tmp 2]))) (.exit 0) (left (writes (cAt (codeOf Tryd.f70) [1,1,0,1,0,0])) [2,3] [] (Zfy a0) ([.a (.b (z0_2)),.a (.i .i64 (z0_3))],[]))=Zmm prog N a0 z0_2 z0_3:=by
 refine Eq.trans (b:=(some (.a (.b (true)),.none,true))) (by kernel_rfl) ?_
 rfl
theorem Ye6 (N:Nat) (a0:Array Value):bindX (iterO (stepV prog Zbr N (cAt (codeOf Tryd.f70) [1,1,0,1,0,0]) (pAt (mkPlan (codeOf Tryd.f70) [([2,3],[]),([2,4],[])]).1 [1,1,0,1,0]) [2,3] [] (Zfy a0)) N ([.a (.b (false)),.a (.i .i64 (0:Int))],[])) (fun e s=>(kBlock 0 (kSeq (veC prog Zbr N (cAt (codeOf Tryd.f70) [1,1,1]) (pAt (mkPlan (codeOf Tryd.f70) [([2,3],[]),([2,4],[])]).1 [1,1,1]) (SV×Eff×Bool)) (finK prog [.row a0 35] [.tmp 2]))) e (left (writes (cAt (codeOf Tryd.f70) [1,1,0,1,0,0])) [2,3] [] (Zfy a0) s))=nodeX (iterO (Zds prog N a0) N (false,(0:Int))) (st2 (fun x=>Zmq prog N a0 x.1 x.2) (fun x=>Zmm prog N a0 x.1 x.2)):=by
 refine Za9 Zbx Zc6 _ _ (Ye5 N a0) N (false,(0:Int)) _ _ ?_
 intro x
 cases x with
 | more x=>exact Zvc N a0 x.1 x.2
 | done x=>exact Zud N a0 x.1 x.2
theorem Yc6 (N:Nat) (a0:Array Value):ansV prog Zbr N Tryd.f70 [([2,3],[]),([2,4],[])] [.w 0] [.row a0 35]=(bif (!((Zaa (i64.wrap (num a0 0)) (1:Int) (6:Int)))) then (some (.a (.b (false)),.none,true))
  else (bif (!((Zaa (i64.wrap (num a0 1)) (1:Int) (6:Int)))) then (some (.a (.b (false)),.none,true))
   else (bif ((IntKind.u64.wrap (BitVec.ofInt IntKind.u64.bits (num a0 2) &&& ~~~(BitVec.ofInt IntKind.u64.bits (gridI (num a0 0) (num a0 1) 36))).toNat) != (0:Int)) then (some (.a (.b (false)),.none,true))
    else (nodeX (iterO (Zds prog N a0) N (false,(0:Int))) (st2 (fun x=>Zmq prog N a0 x.1 x.2) (fun x=>Zmm prog N a0 x.1 x.2)))))):=by
 refine Eq.trans (b:=(bif (!((Zaa (i64.wrap (num a0 0)) (1:Int) (6:Int)))) then (some (.a (.b (false)),.none,true))
  else (bif (!((Zaa (i64.wrap (num a0 1)) (1:Int) (6:Int)))) then (some (.a (.b (false)),.none,true))
   else (bif ((IntKind.u64.wrap (BitVec.ofInt IntKind.u64.bits (num a0 2) &&& ~~~(BitVec.ofInt IntKind.u64.bits (gridI (num a0 0) (num a0 1) 36))).toNat) != (0:Int)) then (some (.a (.b (false)),.none,true))
    else (bindX (iterO (stepV prog Zbr N (cAt (codeOf Tryd.f70) [1,1,0,1,0,0]) (pAt (mkPlan (codeOf Tryd.f70) [([2,3],[]),([2,4],[])]).1 [1,1,0,1,0]) [2,3] [] (Zfy a0)) N ([.a (.b (false)),.a (.i .i64 (0:Int))],[])) (fun e s=>(kBlock 0 (kSeq (veC prog Zbr N (cAt (codeOf Tryd.f70) [1,1,1]) (pAt (mkPlan (codeOf Tryd.f70) [([2,3],[]),([2,4],[])]).1 [1,1,1]) (SV×Eff×Bool)) (finK prog [.row a0 35] [.tmp 2]))) e (left (writes (cAt (codeOf Tryd.f70) [1,1,0,1,0,0])) [2,3] [] (Zfy a0) s))))))) (by kernel_rfl) ?_
 simp only [Ye6 N a0]
theorem Yjh {S:Array Value} (h:WT prog 35 S) {t:Nat} (ht:t<2) (b:Bool):iterO (Zcg prog S b (t:Int)) 1000 (b,(0:Int))=some (match (List.range 36).find? (fun k=> !(fitS S t k)) with | some k=>.more (false,(k:Int)) | none=>.done (b,((36:Nat):Int))):=by
 have htt:decide (0≤(t:Int))=true:=decide_eq_true (by omega)
 have ht2:decide ((t:Int)<2)=true:=decide_eq_true (by omega)
 exact Zwp (g:=Zcg prog S b (t:Int)) (fun k=>(b,(k:Int))) (fun k=> !(fitS S t k)) 36 (N:=1000) (by omega) (xd:=.done (b,((36:Nat):Int))) (fun k=>.more (false,(k:Int))) (fun k hk hp=>by
  have h1:decide ((k:Int)<36)=true:=decide_eq_true (by omega)
  have h0:decide (0≤(k:Int))=true:=decide_eq_true (by omega)
  have h3:i64.wrap ((k:Int)+1)=((k+1:Nat):Int):=by rw [IntWalk.i64_in _ (by omega)];omega
  obtain ⟨w1,w2⟩:=Yav h hk
  rw [Bool.not_eq_false'] at hp
  unfold fitS chR at hp
  rw [← w2] at hp
  cases hw:Zah (k:Int) S with
  | false=>
   rw [hw] at hp
   simp only [cond_false] at hp
   simp only [Zcg,h1,h0,h3,htt,ht2,w1,hw,Bool.and_self,Bool.not_false,cond_true,cond_false,Int.toNat_natCast,hp,Bool.not_true]
  | true=>
   rw [hw] at hp
   simp only [cond_true] at hp
   simp only [Zcg,h1,h0,h3,htt,ht2,w1,hw,Bool.and_self,Bool.not_true,cond_true,cond_false,Int.toNat_natCast,hp]) (fun k hk hp=>by
  have h1:decide ((k:Int)<36)=true:=decide_eq_true (by omega)
  have h0:decide (0≤(k:Int))=true:=decide_eq_true (by omega)
  obtain ⟨w1,w2⟩:=Yav h hk
  rw [Bool.not_eq_true'] at hp
  unfold fitS chR at hp
  rw [← w2] at hp
  cases hw:Zah (k:Int) S with
  | false=>
   rw [hw] at hp
   simp only [cond_false] at hp
   simp only [Zcg,h1,h0,htt,ht2,w1,hw,Bool.and_self,Bool.not_false,cond_true,cond_false,Int.toNat_natCast,hp]
  | true=>
   rw [hw] at hp
   simp only [cond_true] at hp
   simp only [Zcg,h1,h0,htt,ht2,w1,hw,Bool.and_self,Bool.not_true,Bool.not_false,cond_true,cond_false,Int.toNat_natCast,hp]) (by
  have h1:decide (((36:Nat):Int)<36)=false:=by decide
  simp only [Zcg,h1,cond_false])
theorem Ya3 (a0:Array Value) (h_a0:WT prog 35 a0) (hg:(true)=true):ansV prog Zbr 1000 Tryd.f70 [([2,3],[]),([2,4],[])] [.w 0] [.row a0 35]=some (.a (.b ((okS a0))),.none,true):=by
 refine (Yc6 1000 a0).trans ?_
 obtain ⟨s0,b0,b1⟩:=h_a0.int (o:=0) (k:=.i8) (by kernel_rfl)
 obtain ⟨s1,b2,b3⟩:=h_a0.int (o:=1) (k:=.i8) (by kernel_rfl)
 have e1:IntKind.i8.min = -128:=rfl
 have e2:IntKind.i8.max=127:=rfl
 have h:=Zwp (g:=Zds prog 1000 a0) (fun t=>(false,(t:Int))) (fun t=>((List.range 36).find? (fun k=> !(fitS a0 t k))).isSome) 2 (N:=1000) (by omega) (xd:=.done (false,((2:Nat):Int))) (fun t=>.more (false,(t:Int))) (fun t ht hp=>by
  have h1:decide ((t:Int)<2)=true:=decide_eq_true (by omega)
  have h3:i64.wrap ((t:Int)+1)=((t+1:Nat):Int):=by rw [IntWalk.i64_in _ (by omega)];omega
  have hn:(List.range 36).find? (fun k=> !(fitS a0 t k))=none:=by simpa using hp
  have hi:=Yjh h_a0 ht false
  rw [hn] at hi
  simp only [Zds,h1,cond_true,hi,nodeX,st2,Zfh,h3]) (fun t ht hp=>by
  have h1:decide ((t:Int)<2)=true:=decide_eq_true (by omega)
  obtain ⟨k,hn⟩:=Option.isSome_iff_exists.1 hp
  have hi:=Yjh h_a0 ht false
  rw [hn] at hi
  simp only [Zds,h1,cond_true,hi,nodeX,st2,Zfk]) (by
  have h1:decide (((2:Nat):Int)<2)=false:=by decide
  simp only [Zds,h1,cond_false])
 have h':iterO (Zds prog 1000 a0) 1000 (false,(0:Int))=some (match (List.range 2).find? (fun t=>((List.range 36).find? (fun k=> !(fitS a0 t k))).isSome) with | some t=>.more (false,(t:Int)) | none=>.done (false,((2:Nat):Int))):=h
 have i0:Zaa (i64.wrap (num a0 0)) 1 6=(decide (1≤num a0 0)&&decide (num a0 0≤6)):=by
  rw [IntWalk.i64_in _ (by omega)];unfold Zaa
  cases h1:decide (num a0 0 ≥ 1)<;>simp_all
 have i1:Zaa (i64.wrap (num a0 1)) 1 6=(decide (1≤num a0 1)&&decide (num a0 1≤6)):=by
  rw [IntWalk.i64_in _ (by omega)];unfold Zaa
  cases h1:decide (num a0 1 ≥ 1)<;>simp_all
 unfold okS okD
 rw [i0,i1,h',all_two,← Yez,← Yez,show IntKind.u64.wrap (BitVec.ofInt IntKind.u64.bits (num a0 2) &&& ~~~(BitVec.ofInt IntKind.u64.bits (gridI (num a0 0) (num a0 1) 36))).toNat=andNotI (num a0 2) (gridI (num a0 0) (num a0 1) 36) from rfl,show (List.range 2)=[0,1] from rfl]
 cases decide (1≤num a0 0)&&decide (num a0 0≤6)
 ·rfl
 cases decide (1≤num a0 1)&&decide (num a0 1≤6)
 ·rfl
 cases hb:(andNotI (num a0 2) (gridI (num a0 0) (num a0 1) 36)==0) with
 | false=>rw [show (andNotI (num a0 2) (gridI (num a0 0) (num a0 1) 36) != 0)=true by simp [bne,hb]];rfl
 | true=>
  rw [show (andNotI (num a0 2) (gridI (num a0 0) (num a0 1) 36) != 0)=false by simp [bne,hb]]
  simp only [List.find?]
  generalize (List.range 36).find? (fun k=> !(fitS a0 0 k))=f0
  generalize (List.range 36).find? (fun k=> !(fitS a0 1 k))=f1
  cases f0<;>cases f1<;>rfl
def Zih:Con:=fun args h=>match args,h with
 | [.w 0],[.row a0 35]=>some (.a (.b ((okS a0))),.none,true)
 | _,_=>none
theorem Zky:EntX prog 70:=Zai (fn:=Tryd.f70) (by kernel_rfl) (by kernel_rfl) (by kernel_rfl)
theorem Zou:ConOkX mn prog 70 Zih:=(Zaj (N:=1000) (by kernel_rfl) (mkΓ_consX (Zad Zhl) Zep (mkΓ_consX (Zad Zz7) Zs8 (mkΓ_consX (Zad Zs1) Zn3 (mkΓ_consX (Zad Zus) Zq7 mkΓ_nilX)))) (fn:=Tryd.f70) (by kernel_rfl) (by kernel_rfl) [([2,3],[]),([2,4],[])]).of (by
 intro ρ h w args vals r e hA hH hr
 unfold Zih at hr
 split at hr
 ·rename_i a0
  obtain ⟨rfl,hg⟩:=Prod.mk.inj (Option.some.inj hr)
  obtain ⟨rfl,hg2⟩:=Prod.mk.inj hg
  exact Ya3 a0 (hH.wt 0 rfl) hg2
 ·cases hr)
theorem Zrq {S:Array Value} (h:okS S=true):1≤num S 0∧num S 0≤6∧1≤num S 1∧num S 1≤6:=by
 unfold okS okD at h
 simp only [Bool.and_eq_true,decide_eq_true_eq] at h
 exact ⟨h.1.1.1,h.1.1.2,h.1.2.1,h.1.2.2⟩
theorem Yfk {S:Array Value} (h:okS S=true):(decide (0≤num S 0)&&decide (num S 0≤6)&&(decide (0≤num S 1)&&decide (num S 1≤6)))=true:=by
 obtain ⟨h1,h2,h3,h4⟩:=Zrq h
 rw [decide_eq_true (show 0≤num S 0 by omega),decide_eq_true h2,decide_eq_true (show 0≤num S 1 by omega),decide_eq_true h4];rfl
theorem okS_fit {S:Array Value} (h:okS S=true) {t k:Nat} (ht:t<2) (hk:k<36):fitS S t k=true:=by
 unfold okS at h
 simp only [Bool.and_eq_true] at h
 have:=List.all_eq_true.1 h.2.2 k (List.mem_range.2 hk)
 rw [Bool.and_eq_true] at this
 match t,ht with
 | 0,_=>exact this.1
 | 1,_=>exact this.2
theorem okS_land {S:Array Value} (h:okS S=true) {k:Nat} (hk:k<64) (hb:bitI (num S 2) k=true):k<36∧inC (num S 0) (num S 1) k=true:=by
 unfold okS at h
 simp only [Bool.and_eq_true] at h
 have:=Yir.1 h.2.1 k hk hb
 rw [Yjg _ _ 36 (Nat.le_refl _)] at this
 simpa using this
theorem Yg4 {S:Array Value} (h:WT prog 35 S):S.size=363:=by rw [h.layLen,Yi0];simp
theorem num_sub {S:Array Value} {o n j:Nat} (hj:j<n):num (S.extract o (o+n)) j=num S (o+j):=by
 unfold num
 rw [Array.getElem?_extract]
 by_cases h:o+j<S.size
 ·rw [if_pos (by omega)]
 ·rw [if_neg (by omega),Array.getElem?_eq_none (by omega)]
theorem sea_u8 {S:Array Value} (h:WT prog 35 S) {i:Nat} (hi:i<360):S[3+i]? = some (.int .u8 (num S (3+i)))∧0≤num S (3+i)∧num S (3+i)≤255:=h.int (k:=.u8) (by rw [Yi0,show 3+i=i+3 by omega];show (List.replicate 360 4)[i]? = some 4;rw [List.getElem?_replicate,if_pos hi])
end
end Go.Proofs.YtdofpgniogochaaDoor
