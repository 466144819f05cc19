/- What a valid sea is, in company. -/
import Derived.Test.YtflnjkpejbohjaaDoorProg
import Derived.Test.YtflnjkpejbohjaaDoorCxB
namespace Go.Proofs.YtflnjkpejbohjaaDoor
open Go.ChangeShapes Go.WideShapes Go.ChangeAt Go.RowKit Ve Vc
open Tryd (prog)
open IntKind (i64)
set_option linter.unusedVariables false
set_option linter.unusedSimpArgs false
set_option maxRecDepth 100000
noncomputable section
variable {mn:Md}
def sumW (a:Array Value):Nat→Int
 | 0=>0
 | k+1=>i64.wrap (sumW a k+i64.wrap (num a (k*1)))
theorem tide_eq (t:Int):Zdv t=Zaa t 0 1:=by
 unfold Zdv Zaa
 by_cases h0:t=0
 ·subst h0;rfl
 ·by_cases h1:t=1
  ·subst h1;rfl
  ·rw [show (t==0)=false from beq_eq_false_iff_ne.2 h0,show (t==1)=false from beq_eq_false_iff_ne.2 h1]
   by_cases h2:t ≥ 0
   ·rw [decide_eq_true h2,decide_eq_false (show ¬ t≤1 by omega)];rfl
   ·rw [decide_eq_false h2];rfl
def Zc7 (a0:Array Value):St:=(⟨.a (.g a0 38) :: .a (.w 0) :: .a (.b (false)) :: .a (.i .i64 (0:Int)) :: .a (.u) :: .a (.u) :: .a (.g a0 38) :: .a (.i .i64 (0:Int))::us 9 ([]),[.row a0 38,.no],[]⟩:St)
def Zd5:Int×Int→LS
 | (y0_3,y0_7)=>([.a (.i .i64 (y0_3)),.a (.i .i64 (y0_7))],[])
def Zht:Int×Int→Exit×LS
 | t=>((.exit 0),Zd5 t)
def Zbx (P:Program) (a0:Array Value):Int×Int→Option (Stp (Int×Int) (Int×Int))
 | (y0_3,y0_7)=>bif decide (y0_7<(5:Int)) then (bif (decide (0≤y0_7)&&decide (y0_7<5)) then (some (.more ((i64.wrap (y0_3+(i64.wrap (num a0 ((y0_7).toNat*1))))),(i64.wrap (y0_7+(1:Int))))))
   else (none))
  else (some (.done (y0_3,y0_7)))
theorem Zss (N:Nat) (a0:Array Value):∀ t:Int×Int,stepV prog (mkΓ []) N (cAt (codeOf Tryd.f105) [1,1,0,1,0,0]) (pAt (mkPlan (codeOf Tryd.f105) [([3,7],[])]).1 [1,1,0,1,0]) [3,7] [] (Zc7 a0) (Zd5 t)=mapS Zd5 Zht (Zbx prog a0 t):=by
 rintro ⟨y0_3,y0_7⟩
 refine Eq.trans (b:=(bif decide (y0_7<(5:Int)) then (bif (decide (0≤y0_7)&&decide (y0_7<5)) then (some (.more ([.a (.i .i64 (i64.wrap (y0_3+(i64.wrap (num a0 ((y0_7).toNat*1)))))),.a (.i .i64 (i64.wrap (y0_7+(1:Int))))],[])))
   else (none))
  else (some (.done ((.exit 0),([.a (.i .i64 (y0_3)),.a (.i .i64 (y0_7))],[])))))) (by kernel_rfl) ?_
 simp only [Zbx,Za0,Zay,Za1,Zaz,Zd5,Zht]
def Zgi (P:Program) (N:Nat) (a0:Array Value) (z0_3:Int) (z0_7:Int):Option (SV×Eff×Bool):=some (.a (.b ((z0_3==(12:Int)))),.none,true)
theorem Zm2 (N:Nat) (a0:Array Value) (z0_3:Int) (z0_7:Int):(kBlock 0 (kSeq (veC prog (mkΓ []) N (cAt (codeOf Tryd.f105) [1,1,1]) (pAt (mkPlan (codeOf Tryd.f105) [([3,7],[])]).1 [1,1,1]) (SV×Eff×Bool)) (finK prog [] [.tmp 2]))) (.exit 0) (left (writes (cAt (codeOf Tryd.f105) [1,1,0,1,0,0])) [3,7] [] (Zc7 a0) ([.a (.i .i64 (z0_3)),.a (.i .i64 (z0_7))],[]))=Zgi prog N a0 z0_3 z0_7:=by
 refine Eq.trans (b:=(some (.a (.b ((z0_3==(12:Int)))),.none,true))) (by kernel_rfl) ?_
 rfl
theorem Zsm (N:Nat) (a0:Array Value):bindX (iterO (stepV prog (mkΓ []) N (cAt (codeOf Tryd.f105) [1,1,0,1,0,0]) (pAt (mkPlan (codeOf Tryd.f105) [([3,7],[])]).1 [1,1,0,1,0]) [3,7] [] (Zc7 a0)) N ([.a (.i .i64 (0:Int)),.a (.i .i64 (0:Int))],[])) (fun e s=>(kBlock 0 (kSeq (veC prog (mkΓ []) N (cAt (codeOf Tryd.f105) [1,1,1]) (pAt (mkPlan (codeOf Tryd.f105) [([3,7],[])]).1 [1,1,1]) (SV×Eff×Bool)) (finK prog [] [.tmp 2]))) e (left (writes (cAt (codeOf Tryd.f105) [1,1,0,1,0,0])) [3,7] [] (Zc7 a0) s))=nodeX (iterO (Zbx prog a0) N ((0:Int),(0:Int))) (fun x=>Zgi prog N a0 x.1 x.2):=by
 refine Zbg Zd5 Zht _ _ (Zss N a0) N ((0:Int),(0:Int)) _ _ ?_
 intro x;exact Zm2 N a0 x.1 x.2
theorem Zqj (N:Nat) (a0:Array Value):ansV prog (mkΓ []) N Tryd.f105 [([3,7],[])] [.g a0 38] []=(nodeX (iterO (Zbx prog a0) N ((0:Int),(0:Int))) (fun x=>Zgi prog N a0 x.1 x.2)):=by
 refine Eq.trans (b:=(bindX (iterO (stepV prog (mkΓ []) N (cAt (codeOf Tryd.f105) [1,1,0,1,0,0]) (pAt (mkPlan (codeOf Tryd.f105) [([3,7],[])]).1 [1,1,0,1,0]) [3,7] [] (Zc7 a0)) N ([.a (.i .i64 (0:Int)),.a (.i .i64 (0:Int))],[])) (fun e s=>(kBlock 0 (kSeq (veC prog (mkΓ []) N (cAt (codeOf Tryd.f105) [1,1,1]) (pAt (mkPlan (codeOf Tryd.f105) [([3,7],[])]).1 [1,1,1]) (SV×Eff×Bool)) (finK prog [] [.tmp 2]))) e (left (writes (cAt (codeOf Tryd.f105) [1,1,0,1,0,0])) [3,7] [] (Zc7 a0) s)))) (by kernel_rfl) ?_
 simp only [Zsm N a0]
theorem Zpe (a0:Array Value) (h_a0:WT prog 38 a0) (hg:(true)=true):ansV prog (mkΓ []) 1000 Tryd.f105 [([3,7],[])] [.g a0 38] []=some (.a (.b ((sumW a0 5==(12:Int)))),.none,true):=by
 have h:=Zfd (g:=Zbx prog a0) (fun k=>(sumW a0 k,(k:Int))) (m:=5) (x:=(sumW a0 5,((5:Nat):Int))) (N:=1000) (fun k hk=>by
  have h1:decide ((k:Int)<5)=true:=decide_eq_true (by omega)
  have h0:decide (0≤(k:Int))=true:=decide_eq_true (by omega)
  have h3:i64.wrap ((k:Int)+1)=((k+1:Nat):Int):=by rw [IntWalk.i64_in _ (by omega)];omega
  have h4:((k:Int)).toNat=k:=Int.toNat_natCast k
  simp only [Zbx,h1,h0,Bool.and_self,h4,cond_true,h3,sumW]) (by
  have h1:decide (((5:Nat):Int)<5)=false:=by decide
  simp only [Zbx,h1,cond_false]) (by omega)
 refine (Zqj 1000 a0).trans ?_
 have h':iterO (Zbx prog a0) 1000 ((0:Int),(0:Int))=some (sumW a0 5,((5:Nat):Int)):=h
 rw [h']
 rfl
def Zg1:Con:=fun args h=>match args,h with
 | [.g a0 38],[]=>some (.a (.b ((sumW a0 5==(12:Int)))),.none,true)
 | _,_=>none
theorem Zox:EntX prog 105:=Zag (fn:=Tryd.f105) (by kernel_rfl) (by kernel_rfl) (by kernel_rfl)
theorem Zr8:ConOkX mn prog 105 Zg1:=(Zah (N:=1000) (by kernel_rfl) mkΓ_nilX (fn:=Tryd.f105) (by kernel_rfl) (by kernel_rfl) [([3,7],[])]).of (by
 intro ρ h w args vals r e hA hH hr
 unfold Zg1 at hr
 split at hr
 ·rename_i a0
  obtain ⟨rfl,hg⟩:=Prod.mk.inj (Option.some.inj hr)
  obtain ⟨rfl,hg2⟩:=Prod.mk.inj hg
  exact Zpe a0 (hA.wt 0 rfl) hg2
 ·cases hr)
def Zd2 (a0:Array Value):St:=(⟨.a (.g a0 38) :: .a (.w 0) :: .a (.b (false)) :: .a (.i .i64 (0:Int)) :: .a (.i .i64 (0:Int))::us 12 ([]),[.row a0 38,.no],[]⟩:St)
def Zey:Int×Int→LS
 | (y0_3,y0_4)=>([.a (.i .i64 (y0_3)),.a (.i .i64 (y0_4))],[])
def Zjc:Int×Int→Exit×LS
 | t=>((.exit 0),Zey t)
def Zce (P:Program) (a0:Array Value):Int×Int→Option (Stp (Int×Int) (Int×Int))
 | (y0_3,y0_4)=>bif decide (y0_4<(5:Int)) then (bif (decide (0≤y0_4)&&decide (y0_4<5)) then (some (.more ((i64.wrap (y0_3+(i64.wrap (num a0 ((y0_4).toNat*1))))),(i64.wrap (y0_4+(1:Int))))))
   else (none))
  else (some (.done (y0_3,y0_4)))
theorem Zuk (N:Nat) (a0:Array Value):∀ t:Int×Int,stepV prog (mkΓ []) N (cAt (codeOf Tryd.f68) [1,1,0,1,0,0]) (pAt (mkPlan (codeOf Tryd.f68) [([3,4],[])]).1 [1,1,0,1,0]) [3,4] [] (Zd2 a0) (Zey t)=mapS Zey Zjc (Zce prog a0 t):=by
 rintro ⟨y0_3,y0_4⟩
 refine Eq.trans (b:=(bif decide (y0_4<(5:Int)) then (bif (decide (0≤y0_4)&&decide (y0_4<5)) then (some (.more ([.a (.i .i64 (i64.wrap (y0_3+(i64.wrap (num a0 ((y0_4).toNat*1)))))),.a (.i .i64 (i64.wrap (y0_4+(1:Int))))],[])))
   else (none))
  else (some (.done ((.exit 0),([.a (.i .i64 (y0_3)),.a (.i .i64 (y0_4))],[])))))) (by kernel_rfl) ?_
 simp only [Zce,Za0,Zay,Za1,Zaz,Zey,Zjc]
def Zhk (P:Program) (N:Nat) (a0:Array Value) (z0_3:Int) (z0_4:Int):Option (SV×Eff×Bool):=some (.a (.b ((z0_3==(12:Int)))),.none,true)
theorem Zoo (N:Nat) (a0:Array Value) (z0_3:Int) (z0_4:Int):(kBlock 0 (kSeq (veC prog (mkΓ []) N (cAt (codeOf Tryd.f68) [1,1,1]) (pAt (mkPlan (codeOf Tryd.f68) [([3,4],[])]).1 [1,1,1]) (SV×Eff×Bool)) (finK prog [] [.tmp 2]))) (.exit 0) (left (writes (cAt (codeOf Tryd.f68) [1,1,0,1,0,0])) [3,4] [] (Zd2 a0) ([.a (.i .i64 (z0_3)),.a (.i .i64 (z0_4))],[]))=Zhk prog N a0 z0_3 z0_4:=by
 refine Eq.trans (b:=(some (.a (.b ((z0_3==(12:Int)))),.none,true))) (by kernel_rfl) ?_
 rfl
theorem Zun (N:Nat) (a0:Array Value):bindX (iterO (stepV prog (mkΓ []) N (cAt (codeOf Tryd.f68) [1,1,0,1,0,0]) (pAt (mkPlan (codeOf Tryd.f68) [([3,4],[])]).1 [1,1,0,1,0]) [3,4] [] (Zd2 a0)) N ([.a (.i .i64 (0:Int)),.a (.i .i64 (0:Int))],[])) (fun e s=>(kBlock 0 (kSeq (veC prog (mkΓ []) N (cAt (codeOf Tryd.f68) [1,1,1]) (pAt (mkPlan (codeOf Tryd.f68) [([3,4],[])]).1 [1,1,1]) (SV×Eff×Bool)) (finK prog [] [.tmp 2]))) e (left (writes (cAt (codeOf Tryd.f68) [1,1,0,1,0,0])) [3,4] [] (Zd2 a0) s))=nodeX (iterO (Zce prog a0) N ((0:Int),(0:Int))) (fun x=>Zhk prog N a0 x.1 x.2):=by
 refine Zbg Zey Zjc _ _ (Zuk N a0) N ((0:Int),(0:Int)) _ _ ?_
 intro x;exact Zoo N a0 x.1 x.2
theorem Ztv (N:Nat) (a0:Array Value):ansV prog (mkΓ []) N Tryd.f68 [([3,4],[])] [.g a0 38] []=(nodeX (iterO (Zce prog a0) N ((0:Int),(0:Int))) (fun x=>Zhk prog N a0 x.1 x.2)):=by
 refine Eq.trans (b:=(bindX (iterO (stepV prog (mkΓ []) N (cAt (codeOf Tryd.f68) [1,1,0,1,0,0]) (pAt (mkPlan (codeOf Tryd.f68) [([3,4],[])]).1 [1,1,0,1,0]) [3,4] [] (Zd2 a0)) N ([.a (.i .i64 (0:Int)),.a (.i .i64 (0:Int))],[])) (fun e s=>(kBlock 0 (kSeq (veC prog (mkΓ []) N (cAt (codeOf Tryd.f68) [1,1,1]) (pAt (mkPlan (codeOf Tryd.f68) [([3,4],[])]).1 [1,1,1]) (SV×Eff×Bool)) (finK prog [] [.tmp 2]))) e (left (writes (cAt (codeOf Tryd.f68) [1,1,0,1,0,0])) [3,4] [] (Zd2 a0) s)))) (by kernel_rfl) ?_
 simp only [Zun N a0]
theorem Zse (a0:Array Value) (h_a0:WT prog 38 a0) (hg:(true)=true):ansV prog (mkΓ []) 1000 Tryd.f68 [([3,4],[])] [.g a0 38] []=some (.a (.b ((sumW a0 5==(12:Int)))),.none,true):=by
 have h:=Zfd (g:=Zce prog a0) (fun k=>(sumW a0 k,(k:Int))) (m:=5) (x:=(sumW a0 5,((5:Nat):Int))) (N:=1000) (fun k hk=>by
  have h1:decide ((k:Int)<5)=true:=decide_eq_true (by omega)
  have h0:decide (0≤(k:Int))=true:=decide_eq_true (by omega)
  have h3:i64.wrap ((k:Int)+1)=((k+1:Nat):Int):=by rw [IntWalk.i64_in _ (by omega)];omega
  have h4:((k:Int)).toNat=k:=Int.toNat_natCast k
  simp only [Zce,h1,h0,Bool.and_self,h4,cond_true,h3,sumW]) (by
  have h1:decide (((5:Nat):Int)<5)=false:=by decide
  simp only [Zce,h1,cond_false]) (by omega)
 refine (Ztv 1000 a0).trans ?_
 have h':iterO (Zce prog a0) 1000 ((0:Int),(0:Int))=some (sumW a0 5,((5:Nat):Int)):=h
 rw [h']
 rfl
def Zid:Con:=fun args h=>match args,h with
 | [.g a0 38],[]=>some (.a (.b ((sumW a0 5==(12:Int)))),.none,true)
 | _,_=>none
theorem Zqo:EntX prog 68:=Zag (fn:=Tryd.f68) (by kernel_rfl) (by kernel_rfl) (by kernel_rfl)
theorem Zwz:ConOkX mn prog 68 Zid:=(Zah (N:=1000) (by kernel_rfl) mkΓ_nilX (fn:=Tryd.f68) (by kernel_rfl) (by kernel_rfl) [([3,4],[])]).of (by
 intro ρ h w args vals r e hA hH hr
 unfold Zid at hr
 split at hr
 ·rename_i a0
  obtain ⟨rfl,hg⟩:=Prod.mk.inj (Option.some.inj hr)
  obtain ⟨rfl,hg2⟩:=Prod.mk.inj hg
  exact Zse a0 (hA.wt 0 rfl) hg2
 ·cases hr)
def Znm:Cons:=(mkΓ [(60,con Zh5),(61,con Zew),(105,con Zg1)])
theorem Zts (N:Nat) (a0:Array Value) (a1:Int) (a2:Array Value):ansV prog Znm N Tryd.f96 [] [.g a0 42,.i .i64 (a1),.g a2 38] []=(bif (Zai a0 a1) then (bif decide (0≤a1) then (bif (Zac a0 a1) then (some (.a (.b ((sumW a2 5==(12:Int)))),.none,true))
    else (some (.a (.b ((sameB a2 (#[.int .u8 (0:Int),.int .u8 (0:Int),.int .u8 (0:Int),.int .u8 (0:Int),.int .u8 (0:Int)]:Array Value)))),.none,true)))
   else (none))
  else (some (.a (.b ((sameB a2 (#[.int .u8 (0:Int),.int .u8 (0:Int),.int .u8 (0:Int),.int .u8 (0:Int),.int .u8 (0:Int)]:Array Value)))),.none,true))):=by kernel_rfl
def Zb1 (a0:Array Value) (a1:Int) (a2:Array Value):Bool:=(bif (Zai a0 a1) then (bif (Zac a0 a1) then (sumW a2 5==(12:Int)) else (sameB a2 (#[.int .u8 (0:Int),.int .u8 (0:Int),.int .u8 (0:Int),.int .u8 (0:Int),.int .u8 (0:Int)]:Array Value))) else (sameB a2 (#[.int .u8 (0:Int),.int .u8 (0:Int),.int .u8 (0:Int),.int .u8 (0:Int),.int .u8 (0:Int)]:Array Value)))
theorem Zsy (a0:Array Value) (a1:Int) (a2:Array Value) (h_a0:WT prog 42 a0) (h_a1:i64.min≤a1∧a1≤i64.max) (h_a2:WT prog 38 a2) (hg:((bif (Zai a0 a1) then decide (0≤a1) else true))=true):ansV prog Znm 1000 Tryd.f96 [] [.g a0 42,.i .i64 (a1),.g a2 38] []=some (.a (.b ((Zb1 a0 a1 a2))),.none,true):=by
 refine (Zts 1000 a0 a1 a2).trans ?_
 unfold Zb1
 revert hg
 generalize ((Zai a0 a1))=b2
 intro hg
 cases b2
 ·skip
  first | (simp only [cond_true,cond_false,Bool.and_true,Bool.true_and,Bool.and_false,Bool.false_and];done) | rfl | exact (nomatch (hg:false=true))
 ·skip
  revert hg
  generalize (decide (0≤a1))=b4
  intro hg
  cases b4
  ·skip
   first | exact (nomatch (hg:false=true)) | (simp only [cond_true,cond_false,Bool.and_true,Bool.true_and,Bool.and_false,Bool.false_and];done) | rfl
  ·skip
   revert hg
   generalize ((Zac a0 a1))=b6
   intro hg
   cases b6
   ·skip
    first | (simp only [cond_true,cond_false,Bool.and_true,Bool.true_and,Bool.and_false,Bool.false_and];done) | rfl | exact (nomatch (hg:false=true))
   ·skip
    first | (simp only [cond_true,cond_false,Bool.and_true,Bool.true_and,Bool.and_false,Bool.false_and];done) | rfl | exact (nomatch (hg:false=true))
def Zib:Con:=fun args h=>match args,h with
 | [.g a0 42,.i .i64 a1,.g a2 38],[]=>some (.a (.b ((Zb1 a0 a1 a2))),.none,(bif (Zai a0 a1) then decide (0≤a1) else true))
 | _,_=>none
theorem Zqc:EntX prog 96:=Zag (fn:=Tryd.f96) (by kernel_rfl) (by kernel_rfl) (by kernel_rfl)
theorem Zvu:ConOkX mn prog 96 Zib:=(Zah (N:=1000) (by kernel_rfl) (mkΓ_consX (Zad Zqn) Zmo (mkΓ_consX (Zad Zi4) Zgp (mkΓ_consX (Zad Zr8) Zox mkΓ_nilX))) (fn:=Tryd.f96) (by kernel_rfl) (by kernel_rfl) []).of (by
 intro ρ h w args vals r e hA hH hr
 unfold Zib at hr
 split at hr
 ·rename_i a0 a1 a2
  obtain ⟨rfl,hg⟩:=Prod.mk.inj (Option.some.inj hr)
  obtain ⟨rfl,hg2⟩:=Prod.mk.inj hg
  exact Zsy a0 a1 a2 (hA.wt 0 rfl) (hA.rng 1 rfl) (hA.wt 2 rfl) hg2
 ·cases hr)
def chR (S:Array Value) (t k:Nat):Array Value:=S.extract (3+t*180+k*5) (3+t*180+k*5+5)
def fitS (S:Array Value) (t k:Nat):Bool:=bif inC (num S 0) (num S 1) k && !(bitI (num S 2) k) then (sumW (chR S t k) 5==(12:Int)) else sameB (chR S t k) (#[.int .u8 (0:Int),.int .u8 (0:Int),.int .u8 (0:Int),.int .u8 (0:Int),.int .u8 (0:Int)]:Array Value)
def okD (S:Array Value):Bool:=decide (1≤num S 0)&&decide (num S 0≤6)&&(decide (1≤num S 1)&&decide (num S 1≤6))
def okS (S:Array Value):Bool:=okD S&&((andNotI (num S 2) (gridI (num S 0) (num S 1) 36)==0)&&(List.range 36).all fun k=>fitS S 0 k&&fitS S 1 k)
theorem Ye6 (n:Nat) (p:Nat→Bool):((List.range n).find? (fun k=> !(p k))).isNone=(List.range n).all p:=by
 rw [Bool.eq_iff_iff,Option.isNone_iff_eq_none,List.find?_eq_none,List.all_eq_true]
 simp
theorem all_two (n:Nat) (p q:Nat→Bool):(List.range n).all (fun k=>p k&&q k)=((List.range n).all p&&(List.range n).all q):=by
 rw [Bool.eq_iff_iff,Bool.and_eq_true,List.all_eq_true,List.all_eq_true,List.all_eq_true]
 simp only [Bool.and_eq_true]
 exact ⟨fun h=>⟨fun x hx=>(h x hx).1,fun x hx=>(h x hx).2⟩,fun h x hx=>⟨h.1 x hx,h.2 x hx⟩⟩
theorem Ylf {S:Array Value} (h:WT prog 42 S) {k:Nat} (hk:k<36):Zai S (k:Int)=inC (num S 0) (num S 1) k:=by rw [Yma,Yjn h hk]
theorem Zz6 {S:Array Value} (h:WT prog 42 S) {k:Nat} (hk:k<36) (t:Nat):Zb1 S (k:Int) (chR S t k)=fitS S t k:=by
 unfold Zb1 fitS
 rw [Ylf h hk]
 unfold Zac
 rw [Zyi hk]
 cases inC (num S 0) (num S 1) k<;>cases bitI (num S 2) k<;>rfl
theorem Ygy {S:Array Value} (h:WT prog 42 S) {k:Nat} (hk:k<36):Za4 (k:Int) S=true∧Zaf (k:Int) S=(inC (num S 0) (num S 1) k && !(bitI (num S 2) k)):=by
 have hu:decide (0≤IntKind.u64.wrap (k:Int))=true:=decide_eq_true (Zhw .u64 _).1
 unfold Za4 Zaf
 rw [Yjn h hk,Yl6 h hk]
 constructor
 ·cases inC (num S 0) (num S 1) k<;>simp [hu]
 ·cases inC (num S 0) (num S 1) k<;>simp
def Zcz:Cons:=(mkΓ [(84,con Zfo),(96,con Zib)])
def Zd3 (a0:Array Value):St:=(⟨.a (.g a0 42) :: .a (.w 0) :: .a (.b (false)) :: .a (.u) :: .a (.p 0 (0) 22) :: .a (.i .i8 (num a0 0)) :: .a (.b (decide ((num a0 0)<(1:Int)))) :: .a (.b (false)) :: .a (.p 0 (0) 22) :: .a (.i .i8 (num a0 0)) :: .a (.b (decide ((num a0 0) > (6:Int)))) :: .a (.b (decide ((num a0 0) > (6:Int)))) :: .a (.b (false)) :: .a (.p 0 (1) 22) :: .a (.i .i8 (num a0 1)) :: .a (.b (decide ((num a0 1)<(1:Int)))) :: .a (.b (decide ((num a0 1)<(1:Int)))) :: .a (.b (false)) :: .a (.p 0 (1) 22) :: .a (.i .i8 (num a0 1)) :: .a (.b (decide ((num a0 1) > (6:Int)))) :: .a (.b (decide ((num a0 1) > (6:Int)))) :: .a (.p 0 (2) 23) :: .a (.i .u64 (num a0 2)) :: .a (.g a0 42) :: .a (.i .u64 (gridI (num a0 0) (num a0 1) 36)) :: .a (.i .u64 (IntKind.u64.wrap (BitVec.ofInt IntKind.u64.bits (num a0 2) &&& ~~~(BitVec.ofInt IntKind.u64.bits (gridI (num a0 0) (num a0 1) 36))).toNat)) :: .a (.b (((IntKind.u64.wrap (BitVec.ofInt IntKind.u64.bits (num a0 2) &&& ~~~(BitVec.ofInt IntKind.u64.bits (gridI (num a0 0) (num a0 1) 36))).toNat) != (0:Int)))) :: .a (.i .i64 (0:Int))::us 23 ([]),[.row a0 42,.no,.no,.no,.no,.no,.no,.no],[]⟩:St)
def Zer:Bool×Int→LS
 | (y0_2,y0_28)=>([.a (.b (y0_2)),.a (.i .i64 (y0_28))],[])
def Zkk:(Stp (Bool×Int) (Bool×Int))→Exit×LS
 | .more t=>(.ret,Zer t)
 | .done t=>((.exit 0),Zer t)
def Zb6 (P:Program) (a0:Array Value):Bool×Int→Option (Stp (Bool×Int) (Stp (Bool×Int) (Bool×Int)))
  | (y0_2,y0_28)=>bif decide (y0_28<(36:Int)) then (bif (decide (0≤y0_28)&&decide (y0_28<36)) then (bif (bif (Zai a0 y0_28) then decide (0≤y0_28) else true) then (bif (!((Zb1 a0 y0_28 (a0.extract (3+((y0_28).toNat*5)) ((3+((y0_28).toNat*5))+5))))) then (some (.done (.more (false,y0_28))))
          else (bif (decide (0≤y0_28)&&decide (y0_28<36)) then (bif (bif (Zai a0 y0_28) then decide (0≤y0_28) else true) then (bif (!((Zb1 a0 y0_28 (a0.extract (183+((y0_28).toNat*5)) ((183+((y0_28).toNat*5))+5))))) then (some (.done (.more (false,y0_28))))
                else (some (.more (y0_2,(i64.wrap (y0_28+(1:Int)))))))
              else (none))
            else (none)))
        else (none))
      else (none))
    else (some (.done (.done (y0_2,y0_28))))
theorem Zzl (N:Nat) (a0:Array Value):∀ t:Bool×Int,stepV prog Zcz N (cAt (codeOf Tryd.f72) [1,1,1,0,1,0,0]) (pAt (mkPlan (codeOf Tryd.f72) [([2,28],[])]).1 [1,1,1,0,1,0]) [2,28] [] (Zd3 a0) (Zer t)=mapS Zer Zkk (Zb6 prog a0 t):=by
  rintro ⟨y0_2,y0_28⟩
  refine Eq.trans (b:=(bif decide (y0_28<(36:Int)) then (bif (decide (0≤y0_28)&&decide (y0_28<36)) then (bif (bif (Zai a0 y0_28) then decide (0≤y0_28) else true) then (bif (!((Zb1 a0 y0_28 (a0.extract (3+((y0_28).toNat*5)) ((3+((y0_28).toNat*5))+5))))) then (some (.done (.ret,([.a (.b (false)),.a (.i .i64 (y0_28))],[]))))
          else (bif (decide (0≤y0_28)&&decide (y0_28<36)) then (bif (bif (Zai a0 y0_28) then decide (0≤y0_28) else true) then (bif (!((Zb1 a0 y0_28 (a0.extract (183+((y0_28).toNat*5)) ((183+((y0_28).toNat*5))+5))))) then (some (.done (.ret,([.a (.b (false)),.a (.i .i64 (y0_28))],[]))))
                else (some (.more ([.a (.b (y0_2)),.a (.i .i64 (i64.wrap (y0_28+(1:Int))))],[]))))
              else (none))
            else (none)))
        else (none))
      else (none))
    else (some (.done ((.exit 0),([.a (.b (y0_2)),.a (.i .i64 (y0_28))],[])))))) (by kernel_rfl) ?_
  simp only [Zb6,Za0,Zay,Za1,Zaz,Zer,Zkk]
def Zi0 (P:Program) (N:Nat) (a0:Array Value) (z0_2:Bool) (z0_28:Int):Option (SV×Eff×Bool):=some (.a (.b (z0_2)),.none,true)
theorem Zqv (N:Nat) (a0:Array Value) (z0_2:Bool) (z0_28:Int):(kBlock 0 (kSeq (veC prog Zcz N (cAt (codeOf Tryd.f72) [1,1,1,1]) (pAt (mkPlan (codeOf Tryd.f72) [([2,28],[])]).1 [1,1,1,1]) (SV×Eff×Bool)) (finK prog [] [.tmp 2]))) .ret (left (writes (cAt (codeOf Tryd.f72) [1,1,1,0,1,0,0])) [2,28] [] (Zd3 a0) ([.a (.b (z0_2)),.a (.i .i64 (z0_28))],[]))=Zi0 prog N a0 z0_2 z0_28:=by
 refine Eq.trans (b:=(some (.a (.b (z0_2)),.none,true))) (by kernel_rfl) ?_
 rfl
def Zjf (P:Program) (N:Nat) (a0:Array Value) (z0_2:Bool) (z0_28:Int):Option (SV×Eff×Bool):=some (.a (.b (true)),.none,true)
theorem Zrj (N:Nat) (a0:Array Value) (z0_2:Bool) (z0_28:Int):(kBlock 0 (kSeq (veC prog Zcz N (cAt (codeOf Tryd.f72) [1,1,1,1]) (pAt (mkPlan (codeOf Tryd.f72) [([2,28],[])]).1 [1,1,1,1]) (SV×Eff×Bool)) (finK prog [] [.tmp 2]))) (.exit 0) (left (writes (cAt (codeOf Tryd.f72) [1,1,1,0,1,0,0])) [2,28] [] (Zd3 a0) ([.a (.b (z0_2)),.a (.i .i64 (z0_28))],[]))=Zjf prog N a0 z0_2 z0_28:=by
 refine Eq.trans (b:=(some (.a (.b (true)),.none,true))) (by kernel_rfl) ?_
 rfl
theorem Zzy (N:Nat) (a0:Array Value):bindX (iterO (stepV prog Zcz N (cAt (codeOf Tryd.f72) [1,1,1,0,1,0,0]) (pAt (mkPlan (codeOf Tryd.f72) [([2,28],[])]).1 [1,1,1,0,1,0]) [2,28] [] (Zd3 a0)) N ([.a (.b (false)),.a (.i .i64 (0:Int))],[])) (fun e s=>(kBlock 0 (kSeq (veC prog Zcz N (cAt (codeOf Tryd.f72) [1,1,1,1]) (pAt (mkPlan (codeOf Tryd.f72) [([2,28],[])]).1 [1,1,1,1]) (SV×Eff×Bool)) (finK prog [] [.tmp 2]))) e (left (writes (cAt (codeOf Tryd.f72) [1,1,1,0,1,0,0])) [2,28] [] (Zd3 a0) s))=nodeX (iterO (Zb6 prog a0) N (false,(0:Int))) (st2 (fun x=>Zi0 prog N a0 x.1 x.2) (fun x=>Zjf prog N a0 x.1 x.2)):=by
 refine Zbg Zer Zkk _ _ (Zzl N a0) N (false,(0:Int)) _ _ ?_
 intro x
 cases x with
 | more x=>exact Zqv N a0 x.1 x.2
 | done x=>exact Zrj N a0 x.1 x.2
theorem Zxp (N:Nat) (a0:Array Value):ansV prog Zcz N Tryd.f72 [([2,28],[])] [.g a0 42] []=(bif decide ((num a0 0)<(1:Int)) then (some (.a (.b (false)),.none,true))
    else (bif decide ((num a0 0) > (6:Int)) then (some (.a (.b (false)),.none,true))
      else (bif decide ((num a0 1)<(1:Int)) then (some (.a (.b (false)),.none,true))
        else (bif decide ((num a0 1) > (6:Int)) then (some (.a (.b (false)),.none,true))
          else (bif (decide (0≤num a0 0)&&decide (num a0 0≤6)&&(decide (0≤num a0 1)&&decide (num a0 1≤6))) then (bif ((IntKind.u64.wrap (BitVec.ofInt IntKind.u64.bits (num a0 2) &&& ~~~(BitVec.ofInt IntKind.u64.bits (gridI (num a0 0) (num a0 1) 36))).toNat) != (0:Int)) then (some (.a (.b (false)),.none,true))
              else (nodeX (iterO (Zb6 prog a0) N (false,(0:Int))) (st2 (fun x=>Zi0 prog N a0 x.1 x.2) (fun x=>Zjf prog N a0 x.1 x.2))))
            else (none)))))):=by
  refine Eq.trans (b:=(bif decide ((num a0 0)<(1:Int)) then (some (.a (.b (false)),.none,true))
    else (bif decide ((num a0 0) > (6:Int)) then (some (.a (.b (false)),.none,true))
      else (bif decide ((num a0 1)<(1:Int)) then (some (.a (.b (false)),.none,true))
        else (bif decide ((num a0 1) > (6:Int)) then (some (.a (.b (false)),.none,true))
          else (bif (decide (0≤num a0 0)&&decide (num a0 0≤6)&&(decide (0≤num a0 1)&&decide (num a0 1≤6))) then (bif ((IntKind.u64.wrap (BitVec.ofInt IntKind.u64.bits (num a0 2) &&& ~~~(BitVec.ofInt IntKind.u64.bits (gridI (num a0 0) (num a0 1) 36))).toNat) != (0:Int)) then (some (.a (.b (false)),.none,true))
              else (bindX (iterO (stepV prog Zcz N (cAt (codeOf Tryd.f72) [1,1,1,0,1,0,0]) (pAt (mkPlan (codeOf Tryd.f72) [([2,28],[])]).1 [1,1,1,0,1,0]) [2,28] [] (Zd3 a0)) N ([.a (.b (false)),.a (.i .i64 (0:Int))],[])) (fun e s=>(kBlock 0 (kSeq (veC prog Zcz N (cAt (codeOf Tryd.f72) [1,1,1,1]) (pAt (mkPlan (codeOf Tryd.f72) [([2,28],[])]).1 [1,1,1,1]) (SV×Eff×Bool)) (finK prog [] [.tmp 2]))) e (left (writes (cAt (codeOf Tryd.f72) [1,1,1,0,1,0,0])) [2,28] [] (Zd3 a0) s))))
            else (none))))))) (by kernel_rfl) ?_
  simp only [Zzy N a0]
theorem Zu7 (a0:Array Value) (h_a0:WT prog 42 a0) (hg:(true)=true):ansV prog Zcz 1000 Tryd.f72 [([2,28],[])] [.g a0 42] []=some (.a (.b ((okS a0))),.none,true):=by
 refine (Zxp 1000 a0).trans ?_
 have h:=Ybn (g:=Zb6 prog a0) (fun k=>(false,(k:Int))) (fun k=> !(fitS a0 0 k&&fitS a0 1 k)) 36 (N:=1000) (by omega) (xd:=.done (false,((36:Nat):Int))) (fun k=>.more (false,(k:Int))) (fun k hk hp=>by
  have h1:decide ((k:Int)<36)=true:=decide_eq_true (by omega)
  have h0:decide (0≤(k:Int))=true:=decide_eq_true (by omega)
  have h3:i64.wrap ((k:Int)+1)=((k+1:Nat):Int):=by rw [IntWalk.i64_in _ (by omega)];omega
  have f0:=Zz6 h_a0 hk 0
  have f1:=Zz6 h_a0 hk 1
  unfold chR at f0 f1
  rw [show 3+0*180+k*5=3+k*5 by omega] at f0
  rw [show 3+1*180+k*5=183+k*5 by omega] at f1
  have hg:(bif Zai a0 (k:Int) then true else true)=true:=by cases Zai a0 (k:Int)<;>rfl
  simp only [Bool.not_eq_false',Bool.and_eq_true] at hp
  simp only [Zb6,h1,h0,h3,Bool.and_self,cond_true,Int.toNat_natCast,hg,f0,f1,hp.1,hp.2,Bool.not_true,cond_false]) (fun k hk hp=>by
  have h1:decide ((k:Int)<36)=true:=decide_eq_true (by omega)
  have h0:decide (0≤(k:Int))=true:=decide_eq_true (by omega)
  have f0:=Zz6 h_a0 hk 0
  have f1:=Zz6 h_a0 hk 1
  unfold chR at f0 f1
  rw [show 3+0*180+k*5=3+k*5 by omega] at f0
  rw [show 3+1*180+k*5=183+k*5 by omega] at f1
  have hg:(bif Zai a0 (k:Int) then true else true)=true:=by cases Zai a0 (k:Int)<;>rfl
  cases e0:fitS a0 0 k with
  | false=>simp only [Zb6,h1,h0,Bool.and_self,cond_true,Int.toNat_natCast,hg,f0,e0,Bool.not_false]
  | true=>
   rw [e0] at hp
   have e1:fitS a0 1 k=false:=by simpa using hp
   simp only [Zb6,h1,h0,Bool.and_self,cond_true,Int.toNat_natCast,hg,f0,f1,e0,e1,Bool.not_false,Bool.not_true,cond_false]) (by
  have h1:decide (((36:Nat):Int)<36)=false:=by decide
  simp only [Zb6,h1,cond_false])
 have h':iterO (Zb6 prog a0) 1000 (false,(0:Int))=some (match (List.range 36).find? (fun k=> !(fitS a0 0 k&&fitS a0 1 k)) with | some k=>.more (false,(k:Int)) | none=>.done (false,((36:Nat):Int))):=h
 have hf:=Ye6 36 (fun k=>fitS a0 0 k&&fitS a0 1 k)
 unfold okS okD
 by_cases d1:1≤num a0 0
 ·rw [decide_eq_true d1,decide_eq_false (show ¬ num a0 0<1 by omega)]
  by_cases d2:num a0 0≤6
  ·rw [decide_eq_true d2,decide_eq_false (show ¬ num a0 0 > 6 by omega)]
   by_cases d3:1≤num a0 1
   ·rw [decide_eq_true d3,decide_eq_false (show ¬ num a0 1<1 by omega)]
    by_cases d4:num a0 1≤6
    ·rw [decide_eq_true d4,decide_eq_false (show ¬ num a0 1 > 6 by omega),decide_eq_true (show 0≤num a0 0 by omega),decide_eq_true (show 0≤num a0 1 by omega)]
     simp only [Bool.and_self,cond_true,cond_false,Bool.true_and,h']
     rw [show IntKind.u64.wrap (BitVec.ofInt IntKind.u64.bits (num a0 2) &&& ~~~(BitVec.ofInt IntKind.u64.bits (gridI (num a0 0) (num a0 1) 36))).toNat=andNotI (num a0 2) (gridI (num a0 0) (num a0 1) 36) from rfl]
     cases hb:(andNotI (num a0 2) (gridI (num a0 0) (num a0 1) 36)==0) with
     | false=>rw [show (andNotI (num a0 2) (gridI (num a0 0) (num a0 1) 36) != 0)=true by simp [bne,hb]];rfl
     | true=>
      rw [show (andNotI (num a0 2) (gridI (num a0 0) (num a0 1) 36) != 0)=false by simp [bne,hb],← hf]
      cases (List.range 36).find? (fun k=> !(fitS a0 0 k&&fitS a0 1 k))<;>rfl
    ·rw [decide_eq_false d4,decide_eq_true (show num a0 1 > 6 by omega)];rfl
   ·rw [decide_eq_false d3,decide_eq_true (show num a0 1<1 by omega)];rfl
  ·rw [decide_eq_false d2,decide_eq_true (show num a0 0 > 6 by omega)];rfl
 ·rw [decide_eq_false d1,decide_eq_true (show num a0 0<1 by omega)];rfl
def Zj3:Con:=fun args h=>match args,h with
 | [.g a0 42],[]=>some (.a (.b ((okS a0))),.none,true)
 | _,_=>none
theorem Zt9:EntX prog 72:=Zag (fn:=Tryd.f72) (by kernel_rfl) (by kernel_rfl) (by kernel_rfl)
theorem Zzx:ConOkX mn prog 72 Zj3:=(Zah (N:=1000) (by kernel_rfl) (mkΓ_consX (Zad Zo7) Zlq (mkΓ_consX (Zad Zvu) Zqc mkΓ_nilX)) (fn:=Tryd.f72) (by kernel_rfl) (by kernel_rfl) [([2,28],[])]).of (by
 intro ρ h w args vals r e hA hH hr
 unfold Zj3 at hr
 split at hr
 ·rename_i a0
  obtain ⟨rfl,hg⟩:=Prod.mk.inj (Option.some.inj hr)
  obtain ⟨rfl,hg2⟩:=Prod.mk.inj hg
  exact Zu7 a0 (hA.wt 0 rfl) hg2
 ·cases hr)
def Zbv:Cons:=(mkΓ [(42,con Zhh),(66,con Zcw),(67,con Zg5),(68,con Zid)])
def Zf4 (a0:Array Value) (y0_2:Bool) (y0_3:Int):St:=(⟨.a (.w 0) :: .a (.u) :: .a (.b (y0_2)) :: .a (.i .i64 (y0_3)) :: .a (.i .i64 (0:Int)) :: .a (.x) :: .a (.w 0) :: .a (.w 0) :: .a (.p 0 (0) 22) :: .a (.i .i8 (num a0 0)) :: .a (.i .i64 (i64.wrap (num a0 0))) :: .a (.b ((Zaa (i64.wrap (num a0 0)) (1:Int) (6:Int)))) :: .a (.b ((!((Zaa (i64.wrap (num a0 0)) (1:Int) (6:Int)))))) :: .a (.b (false)) :: .a (.w 0) :: .a (.w 0) :: .a (.p 0 (1) 22) :: .a (.i .i8 (num a0 1)) :: .a (.i .i64 (i64.wrap (num a0 1))) :: .a (.b ((Zaa (i64.wrap (num a0 1)) (1:Int) (6:Int)))) :: .a (.b ((!((Zaa (i64.wrap (num a0 1)) (1:Int) (6:Int)))))) :: .a (.b ((!((Zaa (i64.wrap (num a0 1)) (1:Int) (6:Int)))))) :: .a (.b (false)) :: .a (.w 0) :: .a (.w 0) :: .a (.p 0 (2) 23) :: .a (.i .u64 (num a0 2)) :: .a (.w 0) :: .a (.i .u64 (gridI (num a0 0) (num a0 1) 36)) :: .a (.i .u64 (IntKind.u64.wrap (BitVec.ofInt IntKind.u64.bits (num a0 2) &&& ~~~(BitVec.ofInt IntKind.u64.bits (gridI (num a0 0) (num a0 1) 36))).toNat)) :: .a (.b (((IntKind.u64.wrap (BitVec.ofInt IntKind.u64.bits (num a0 2) &&& ~~~(BitVec.ofInt IntKind.u64.bits (gridI (num a0 0) (num a0 1) 36))).toNat) != (0:Int)))) :: .a (.b (((IntKind.u64.wrap (BitVec.ofInt IntKind.u64.bits (num a0 2) &&& ~~~(BitVec.ofInt IntKind.u64.bits (gridI (num a0 0) (num a0 1) 36))).toNat) != (0:Int)))) :: .a (.i .i64 (y0_3)) :: .a (.b (decide (y0_3<(2:Int))))::xs 33 ([]),[.row a0 42,.no,.no,.no,.no,.no,.no,.no,.no,.no,.no,.no,.no,.no,.no,.no,.no,.no,.no,.no,.no,.no,.no,.no,.no,.no,.no],[]⟩:St)
def Zhb:Bool×Int→LS
 | (y1_2,y1_4)=>([.a (.b (y1_2)),.a (.i .i64 (y1_4))],[])
def Zoj:(Stp (Bool×Int) (Bool×Int))→Exit×LS
 | .more t=>(.ret,Zhb t)
 | .done t=>((.exit 2),Zhb t)
def Zc3 (P : Program) (a0 : Array Value) (y0_2 : Bool) (y0_3 : Int) : Bool × Int → Option (Stp (Bool × Int) (Stp (Bool × Int) (Bool × Int)))
  | (y1_2, y1_4) => bif decide (y1_4 < (36 : Int)) then (bif (decide (0 ≤ y0_3) && decide (y0_3 < 2)) then (bif (decide (0 ≤ y1_4) && decide (y1_4 < 36)) then (bif (Za4 y1_4 a0) then (bif (Zaf y1_4 a0) then (bif (!((sumW (a0.extract ((3 + ((y0_3).toNat * 180)) + ((y1_4).toNat * 5)) (((3 + ((y0_3).toNat * 180)) + ((y1_4).toNat * 5)) + 5)) 5 == (12 : Int)))) then (some (.done (.more (false, y1_4))))
              else (bif (Za4 y1_4 a0) then (bif (!((Zaf y1_4 a0))) then (bif (!(sameB (a0.extract ((3 + ((y0_3).toNat * 180)) + ((y1_4).toNat * 5)) (((3 + ((y0_3).toNat * 180)) + ((y1_4).toNat * 5)) + 5)) (#[.int .u8 (0 : Int), .int .u8 (0 : Int), .int .u8 (0 : Int), .int .u8 (0 : Int), .int .u8 (0 : Int)] : Array Value))) then (some (.done (.more (false, y1_4))))
                    else (some (.more (y1_2, (i64.wrap (y1_4 + (1 : Int)))))))
                  else (some (.more (y1_2, (i64.wrap (y1_4 + (1 : Int)))))))
                else (none)))
            else (bif (Za4 y1_4 a0) then (bif (!((Zaf y1_4 a0))) then (bif (!(sameB (a0.extract ((3 + ((y0_3).toNat * 180)) + ((y1_4).toNat * 5)) (((3 + ((y0_3).toNat * 180)) + ((y1_4).toNat * 5)) + 5)) (#[.int .u8 (0 : Int), .int .u8 (0 : Int), .int .u8 (0 : Int), .int .u8 (0 : Int), .int .u8 (0 : Int)] : Array Value))) then (some (.done (.more (false, y1_4))))
                  else (some (.more (y1_2, (i64.wrap (y1_4 + (1 : Int)))))))
                else (some (.more (y1_2, (i64.wrap (y1_4 + (1 : Int)))))))
              else (none)))
          else (none))
        else (none))
      else (none))
    else (some (.done (.done (y1_2, y1_4))))
theorem Yei (N:Nat) (a0:Array Value) (y0_2:Bool) (y0_3:Int):∀ t:Bool×Int,stepV prog Zbv N (cAt (codeOf Tryd.f40) [1,1,0,1,0,0,1,0,0,1,0,0]) (pAt (mkPlan (codeOf Tryd.f40) [([2,3],[]),([2,4],[])]).1 [1,1,0,1,0,1,0,1,0]) [2,4] [] (Zf4 a0 y0_2 y0_3) (Zhb t)=mapS Zhb Zoj (Zc3 prog a0 y0_2 y0_3 t):=by
  rintro ⟨y1_2,y1_4⟩
  refine Eq.trans (b:=(bif decide (y1_4<(36:Int)) then (bif (decide (0≤y0_3)&&decide (y0_3<2)) then (bif (decide (0≤y1_4)&&decide (y1_4<36)) then (bif (Za4 y1_4 a0) then (bif (Zaf y1_4 a0) then (bif (!((sumW (a0.extract ((3+((y0_3).toNat*180))+((y1_4).toNat*5)) (((3+((y0_3).toNat*180))+((y1_4).toNat*5))+5)) 5==(12:Int)))) then (some (.done (.ret,([.a (.b (false)),.a (.i .i64 (y1_4))],[]))))
              else (bif (Za4 y1_4 a0) then (bif (!((Zaf y1_4 a0))) then (bif (!(sameB (a0.extract ((3+((y0_3).toNat*180))+((y1_4).toNat*5)) (((3+((y0_3).toNat*180))+((y1_4).toNat*5))+5)) (#[.int .u8 (0:Int),.int .u8 (0:Int),.int .u8 (0:Int),.int .u8 (0:Int),.int .u8 (0:Int)]:Array Value))) then (some (.done (.ret,([.a (.b (false)),.a (.i .i64 (y1_4))],[]))))
                    else (some (.more ([.a (.b (y1_2)),.a (.i .i64 (i64.wrap (y1_4+(1:Int))))],[]))))
                  else (some (.more ([.a (.b (y1_2)),.a (.i .i64 (i64.wrap (y1_4+(1:Int))))],[]))))
                else (none)))
            else (bif (Za4 y1_4 a0) then (bif (!((Zaf y1_4 a0))) then (bif (!(sameB (a0.extract ((3+((y0_3).toNat*180))+((y1_4).toNat*5)) (((3+((y0_3).toNat*180))+((y1_4).toNat*5))+5)) (#[.int .u8 (0:Int),.int .u8 (0:Int),.int .u8 (0:Int),.int .u8 (0:Int),.int .u8 (0:Int)]:Array Value))) then (some (.done (.ret,([.a (.b (false)),.a (.i .i64 (y1_4))],[]))))
                  else (some (.more ([.a (.b (y1_2)),.a (.i .i64 (i64.wrap (y1_4+(1:Int))))],[]))))
                else (some (.more ([.a (.b (y1_2)),.a (.i .i64 (i64.wrap (y1_4+(1:Int))))],[]))))
              else (none)))
          else (none))
        else (none))
      else (none))
    else (some (.done ((.exit 2),([.a (.b (y1_2)),.a (.i .i64 (y1_4))],[])))))) (by kernel_rfl) ?_
  simp only [Zc3,Za0,Zay,Za1,Zaz,Zhb,Zoj]
def Zfy (a0:Array Value):St:=(⟨.a (.w 0) :: .a (.u) :: .a (.b (false)) :: .a (.i .i64 (0:Int)) :: .a (.u) :: .a (.u) :: .a (.w 0) :: .a (.w 0) :: .a (.p 0 (0) 22) :: .a (.i .i8 (num a0 0)) :: .a (.i .i64 (i64.wrap (num a0 0))) :: .a (.b ((Zaa (i64.wrap (num a0 0)) (1:Int) (6:Int)))) :: .a (.b ((!((Zaa (i64.wrap (num a0 0)) (1:Int) (6:Int)))))) :: .a (.b (false)) :: .a (.w 0) :: .a (.w 0) :: .a (.p 0 (1) 22) :: .a (.i .i8 (num a0 1)) :: .a (.i .i64 (i64.wrap (num a0 1))) :: .a (.b ((Zaa (i64.wrap (num a0 1)) (1:Int) (6:Int)))) :: .a (.b ((!((Zaa (i64.wrap (num a0 1)) (1:Int) (6:Int)))))) :: .a (.b ((!((Zaa (i64.wrap (num a0 1)) (1:Int) (6:Int)))))) :: .a (.b (false)) :: .a (.w 0) :: .a (.w 0) :: .a (.p 0 (2) 23) :: .a (.i .u64 (num a0 2)) :: .a (.w 0) :: .a (.i .u64 (gridI (num a0 0) (num a0 1) 36)) :: .a (.i .u64 (IntKind.u64.wrap (BitVec.ofInt IntKind.u64.bits (num a0 2) &&& ~~~(BitVec.ofInt IntKind.u64.bits (gridI (num a0 0) (num a0 1) 36))).toNat)) :: .a (.b (((IntKind.u64.wrap (BitVec.ofInt IntKind.u64.bits (num a0 2) &&& ~~~(BitVec.ofInt IntKind.u64.bits (gridI (num a0 0) (num a0 1) 36))).toNat) != (0:Int)))) :: .a (.b (((IntKind.u64.wrap (BitVec.ofInt IntKind.u64.bits (num a0 2) &&& ~~~(BitVec.ofInt IntKind.u64.bits (gridI (num a0 0) (num a0 1) 36))).toNat) != (0:Int))))::us 35 ([]),[.row a0 42,.no,.no,.no,.no,.no,.no,.no,.no,.no,.no,.no,.no,.no,.no,.no,.no,.no,.no,.no,.no,.no,.no,.no,.no,.no,.no],[]⟩:St)
def Zb9:Bool×Int→LS
 | (y0_2,y0_3)=>([.a (.b (y0_2)),.a (.i .i64 (y0_3))],[])
def Zdq:(Stp (Bool×Int) (Bool×Int))→Exit×LS
 | .more t=>(.ret,Zb9 t)
 | .done t=>((.exit 0),Zb9 t)
def Zfn (P:Program) (N:Nat) (a0:Array Value) (y0_2:Bool) (y0_3:Int) (z1_2:Bool) (z1_4:Int):Option (Stp (Bool×Int) (Stp (Bool×Int) (Bool×Int))):=some (.done (.more (z1_2,y0_3)))
theorem Zui (N:Nat) (a0:Array Value) (y0_2:Bool) (y0_3:Int) (z1_2:Bool) (z1_4:Int):(kBlock 2 (kBlock 1 (kSeq (veC prog Zbv N (cAt (codeOf Tryd.f40) [1,1,0,1,0,0,1,1]) (pAt (mkPlan (codeOf Tryd.f40) [([2,3],[]),([2,4],[])]).1 [1,1,0,1,0,1,1]) (Stp LS (Exit×LS))) (kBody 27 [2,3] [])))) .ret (left (writes (cAt (codeOf Tryd.f40) [1,1,0,1,0,0,1,0,0,1,0,0])) [2,4] [] (Zf4 a0 y0_2 y0_3) ([.a (.b (z1_2)),.a (.i .i64 (z1_4))],[]))=mapS Zb9 Zdq (Zfn prog N a0 y0_2 y0_3 z1_2 z1_4):=by
 refine Eq.trans (b:=(some (.done (.ret,([.a (.b (z1_2)),.a (.i .i64 (y0_3))],[]))))) (by kernel_rfl) ?_
 simp only [Zfn,Za0,Zay,Za1,Zaz,Zb9,Zdq]
def Zfl (P:Program) (N:Nat) (a0:Array Value) (y0_2:Bool) (y0_3:Int) (z1_2:Bool) (z1_4:Int):Option (Stp (Bool×Int) (Stp (Bool×Int) (Bool×Int))):=some (.more (z1_2,(i64.wrap (y0_3+(1:Int)))))
theorem Zu5 (N:Nat) (a0:Array Value) (y0_2:Bool) (y0_3:Int) (z1_2:Bool) (z1_4:Int):(kBlock 2 (kBlock 1 (kSeq (veC prog Zbv N (cAt (codeOf Tryd.f40) [1,1,0,1,0,0,1,1]) (pAt (mkPlan (codeOf Tryd.f40) [([2,3],[]),([2,4],[])]).1 [1,1,0,1,0,1,1]) (Stp LS (Exit×LS))) (kBody 27 [2,3] [])))) (.exit 2) (left (writes (cAt (codeOf Tryd.f40) [1,1,0,1,0,0,1,0,0,1,0,0])) [2,4] [] (Zf4 a0 y0_2 y0_3) ([.a (.b (z1_2)),.a (.i .i64 (z1_4))],[]))=mapS Zb9 Zdq (Zfl prog N a0 y0_2 y0_3 z1_2 z1_4):=by
 refine Eq.trans (b:=(some (.more ([.a (.b (z1_2)),.a (.i .i64 (i64.wrap (y0_3+(1:Int))))],[])))) (by kernel_rfl) ?_
 simp only [Zfl,Za0,Zay,Za1,Zaz,Zb9,Zdq]
theorem Yek (N:Nat) (a0:Array Value) (y0_2:Bool) (y0_3:Int):bindX (iterO (stepV prog Zbv N (cAt (codeOf Tryd.f40) [1,1,0,1,0,0,1,0,0,1,0,0]) (pAt (mkPlan (codeOf Tryd.f40) [([2,3],[]),([2,4],[])]).1 [1,1,0,1,0,1,0,1,0]) [2,4] [] (Zf4 a0 y0_2 y0_3)) N ([.a (.b (y0_2)),.a (.i .i64 (0:Int))],[])) (fun e s=>(kBlock 2 (kBlock 1 (kSeq (veC prog Zbv N (cAt (codeOf Tryd.f40) [1,1,0,1,0,0,1,1]) (pAt (mkPlan (codeOf Tryd.f40) [([2,3],[]),([2,4],[])]).1 [1,1,0,1,0,1,1]) (Stp LS (Exit×LS))) (kBody 27 [2,3] [])))) e (left (writes (cAt (codeOf Tryd.f40) [1,1,0,1,0,0,1,0,0,1,0,0])) [2,4] [] (Zf4 a0 y0_2 y0_3) s))=mapS Zb9 Zdq (nodeX (iterO (Zc3 prog a0 y0_2 y0_3) N (y0_2,(0:Int))) (st2 (fun x=>Zfn prog N a0 y0_2 y0_3 x.1 x.2) (fun x=>Zfl prog N a0 y0_2 y0_3 x.1 x.2))):=by
 refine (Zbg Zhb Zoj _ _ (Yei N a0 y0_2 y0_3) N (y0_2,(0:Int)) _ (fun x=>mapS Zb9 Zdq ((st2 (fun x=>Zfn prog N a0 y0_2 y0_3 x.1 x.2) (fun x=>Zfl prog N a0 y0_2 y0_3 x.1 x.2)) x)) ?_).trans (Zx6 Zb9 Zdq _ _).symm
 intro x
 cases x with
 | more x=>exact Zui N a0 y0_2 y0_3 x.1 x.2
 | done x=>exact Zu5 N a0 y0_2 y0_3 x.1 x.2
def Zd7 (P:Program) (N:Nat) (a0:Array Value):Bool×Int→Option (Stp (Bool×Int) (Stp (Bool×Int) (Bool×Int)))
 | (y0_2,y0_3)=>bif decide (y0_3<(2:Int)) then (nodeX (iterO (Zc3 P a0 y0_2 y0_3) N (y0_2,(0:Int))) (st2 (fun x=>Zfn P N a0 y0_2 y0_3 x.1 x.2) (fun x=>Zfl P N a0 y0_2 y0_3 x.1 x.2)))
  else (some (.done (.done (y0_2,y0_3))))
theorem Yef (N:Nat) (a0:Array Value):∀ t:Bool×Int,stepV prog Zbv N (cAt (codeOf Tryd.f40) [1,1,0,1,0,0]) (pAt (mkPlan (codeOf Tryd.f40) [([2,3],[]),([2,4],[])]).1 [1,1,0,1,0]) [2,3] [] (Zfy a0) (Zb9 t)=mapS Zb9 Zdq (Zd7 prog N a0 t):=by
 rintro ⟨y0_2,y0_3⟩
 refine Eq.trans (b:=(bif decide (y0_3<(2:Int)) then (bindX (iterO (stepV prog Zbv N (cAt (codeOf Tryd.f40) [1,1,0,1,0,0,1,0,0,1,0,0]) (pAt (mkPlan (codeOf Tryd.f40) [([2,3],[]),([2,4],[])]).1 [1,1,0,1,0,1,0,1,0]) [2,4] [] (Zf4 a0 y0_2 y0_3)) N ([.a (.b (y0_2)),.a (.i .i64 (0:Int))],[])) (fun e s=>(kBlock 2 (kBlock 1 (kSeq (veC prog Zbv N (cAt (codeOf Tryd.f40) [1,1,0,1,0,0,1,1]) (pAt (mkPlan (codeOf Tryd.f40) [([2,3],[]),([2,4],[])]).1 [1,1,0,1,0,1,1]) (Stp LS (Exit×LS))) (kBody 27 [2,3] [])))) e (left (writes (cAt (codeOf Tryd.f40) [1,1,0,1,0,0,1,0,0,1,0,0])) [2,4] [] (Zf4 a0 y0_2 y0_3) s)))
  else (some (.done ((.exit 0),([.a (.b (y0_2)),.a (.i .i64 (y0_3))],[])))))) (by kernel_rfl) ?_
 simp only [Yek N a0 y0_2 y0_3,Zd7,Za0,Zay,Za1,Zaz,Zb9,Zdq]
def Zl4 (P:Program) (N:Nat) (a0:Array Value) (z0_2:Bool) (z0_3:Int):Option (SV×Eff×Bool):=some (.a (.b (z0_2)),.none,true)
theorem Zur (N:Nat) (a0:Array Value) (z0_2:Bool) (z0_3:Int):(kBlock 0 (kSeq (veC prog Zbv N (cAt (codeOf Tryd.f40) [1,1,1]) (pAt (mkPlan (codeOf Tryd.f40) [([2,3],[]),([2,4],[])]).1 [1,1,1]) (SV×Eff×Bool)) (finK prog [.row a0 42] [.tmp 2]))) .ret (left (writes (cAt (codeOf Tryd.f40) [1,1,0,1,0,0])) [2,3] [] (Zfy a0) ([.a (.b (z0_2)),.a (.i .i64 (z0_3))],[]))=Zl4 prog N a0 z0_2 z0_3:=by
 refine Eq.trans (b:=(some (.a (.b (z0_2)),.none,true))) (by kernel_rfl) ?_
 rfl
def Zl2 (P:Program) (N:Nat) (a0:Array Value) (z0_2:Bool) (z0_3:Int):Option (SV×Eff×Bool):=some (.a (.b (true)),.none,true)
theorem Zvf (N:Nat) (a0:Array Value) (z0_2:Bool) (z0_3:Int):(kBlock 0 (kSeq (veC prog Zbv N (cAt (codeOf Tryd.f40) [1,1,1]) (pAt (mkPlan (codeOf Tryd.f40) [([2,3],[]),([2,4],[])]).1 [1,1,1]) (SV×Eff×Bool)) (finK prog [.row a0 42] [.tmp 2]))) (.exit 0) (left (writes (cAt (codeOf Tryd.f40) [1,1,0,1,0,0])) [2,3] [] (Zfy a0) ([.a (.b (z0_2)),.a (.i .i64 (z0_3))],[]))=Zl2 prog N a0 z0_2 z0_3:=by
 refine Eq.trans (b:=(some (.a (.b (true)),.none,true))) (by kernel_rfl) ?_
 rfl
theorem Ye5 (N:Nat) (a0:Array Value):bindX (iterO (stepV prog Zbv N (cAt (codeOf Tryd.f40) [1,1,0,1,0,0]) (pAt (mkPlan (codeOf Tryd.f40) [([2,3],[]),([2,4],[])]).1 [1,1,0,1,0]) [2,3] [] (Zfy a0)) N ([.a (.b (false)),.a (.i .i64 (0:Int))],[])) (fun e s=>(kBlock 0 (kSeq (veC prog Zbv N (cAt (codeOf Tryd.f40) [1,1,1]) (pAt (mkPlan (codeOf Tryd.f40) [([2,3],[]),([2,4],[])]).1 [1,1,1]) (SV×Eff×Bool)) (finK prog [.row a0 42] [.tmp 2]))) e (left (writes (cAt (codeOf Tryd.f40) [1,1,0,1,0,0])) [2,3] [] (Zfy a0) s))=nodeX (iterO (Zd7 prog N a0) N (false,(0:Int))) (st2 (fun x=>Zl4 prog N a0 x.1 x.2) (fun x=>Zl2 prog N a0 x.1 x.2)):=by
 refine Zbg Zb9 Zdq _ _ (Yef N a0) N (false,(0:Int)) _ _ ?_
 intro x
 cases x with
 | more x=>exact Zur N a0 x.1 x.2
 | done x=>exact Zvf N a0 x.1 x.2
theorem Ycs (N:Nat) (a0:Array Value):ansV prog Zbv N Tryd.f40 [([2,3],[]),([2,4],[])] [.w 0] [.row a0 42]=(bif (!((Zaa (i64.wrap (num a0 0)) (1:Int) (6:Int)))) then (some (.a (.b (false)),.none,true))
  else (bif (!((Zaa (i64.wrap (num a0 1)) (1:Int) (6:Int)))) then (some (.a (.b (false)),.none,true))
   else (bif ((IntKind.u64.wrap (BitVec.ofInt IntKind.u64.bits (num a0 2) &&& ~~~(BitVec.ofInt IntKind.u64.bits (gridI (num a0 0) (num a0 1) 36))).toNat) != (0:Int)) then (some (.a (.b (false)),.none,true))
    else (nodeX (iterO (Zd7 prog N a0) N (false,(0:Int))) (st2 (fun x=>Zl4 prog N a0 x.1 x.2) (fun x=>Zl2 prog N a0 x.1 x.2)))))):=by
 refine Eq.trans (b:=(bif (!((Zaa (i64.wrap (num a0 0)) (1:Int) (6:Int)))) then (some (.a (.b (false)),.none,true))
  else (bif (!((Zaa (i64.wrap (num a0 1)) (1:Int) (6:Int)))) then (some (.a (.b (false)),.none,true))
   else (bif ((IntKind.u64.wrap (BitVec.ofInt IntKind.u64.bits (num a0 2) &&& ~~~(BitVec.ofInt IntKind.u64.bits (gridI (num a0 0) (num a0 1) 36))).toNat) != (0:Int)) then (some (.a (.b (false)),.none,true))
    else (bindX (iterO (stepV prog Zbv N (cAt (codeOf Tryd.f40) [1,1,0,1,0,0]) (pAt (mkPlan (codeOf Tryd.f40) [([2,3],[]),([2,4],[])]).1 [1,1,0,1,0]) [2,3] [] (Zfy a0)) N ([.a (.b (false)),.a (.i .i64 (0:Int))],[])) (fun e s=>(kBlock 0 (kSeq (veC prog Zbv N (cAt (codeOf Tryd.f40) [1,1,1]) (pAt (mkPlan (codeOf Tryd.f40) [([2,3],[]),([2,4],[])]).1 [1,1,1]) (SV×Eff×Bool)) (finK prog [.row a0 42] [.tmp 2]))) e (left (writes (cAt (codeOf Tryd.f40) [1,1,0,1,0,0])) [2,3] [] (Zfy a0) s))))))) (by kernel_rfl) ?_
 simp only [Ye5 N a0]
theorem Yir {S:Array Value} (h:WT prog 42 S) {t:Nat} (ht:t<2) (b:Bool):iterO (Zc3 prog S b (t:Int)) 1000 (b,(0:Int))=some (match (List.range 36).find? (fun k=> !(fitS S t k)) with | some k=>.more (false,(k:Int)) | none=>.done (b,((36:Nat):Int))):=by
 have htt:decide (0≤(t:Int))=true:=decide_eq_true (by omega)
 have ht2:decide ((t:Int)<2)=true:=decide_eq_true (by omega)
 exact Ybn (g:=Zc3 prog S b (t:Int)) (fun k=>(b,(k:Int))) (fun k=> !(fitS S t k)) 36 (N:=1000) (by omega) (xd:=.done (b,((36:Nat):Int))) (fun k=>.more (false,(k:Int))) (fun k hk hp=>by
  have h1:decide ((k:Int)<36)=true:=decide_eq_true (by omega)
  have h0:decide (0≤(k:Int))=true:=decide_eq_true (by omega)
  have h3:i64.wrap ((k:Int)+1)=((k+1:Nat):Int):=by rw [IntWalk.i64_in _ (by omega)];omega
  obtain ⟨w1,w2⟩:=Ygy h hk
  rw [Bool.not_eq_false'] at hp
  unfold fitS chR at hp
  rw [← w2] at hp
  cases hw:Zaf (k:Int) S with
  | false=>
   rw [hw] at hp
   simp only [cond_false] at hp
   simp only [Zc3,h1,h0,h3,htt,ht2,w1,hw,Bool.and_self,Bool.not_false,cond_true,cond_false,Int.toNat_natCast,hp,Bool.not_true]
  | true=>
   rw [hw] at hp
   simp only [cond_true] at hp
   simp only [Zc3,h1,h0,h3,htt,ht2,w1,hw,Bool.and_self,Bool.not_true,cond_true,cond_false,Int.toNat_natCast,hp]) (fun k hk hp=>by
  have h1:decide ((k:Int)<36)=true:=decide_eq_true (by omega)
  have h0:decide (0≤(k:Int))=true:=decide_eq_true (by omega)
  obtain ⟨w1,w2⟩:=Ygy h hk
  rw [Bool.not_eq_true'] at hp
  unfold fitS chR at hp
  rw [← w2] at hp
  cases hw:Zaf (k:Int) S with
  | false=>
   rw [hw] at hp
   simp only [cond_false] at hp
   simp only [Zc3,h1,h0,htt,ht2,w1,hw,Bool.and_self,Bool.not_false,cond_true,cond_false,Int.toNat_natCast,hp]
  | true=>
   rw [hw] at hp
   simp only [cond_true] at hp
   simp only [Zc3,h1,h0,htt,ht2,w1,hw,Bool.and_self,Bool.not_true,Bool.not_false,cond_true,cond_false,Int.toNat_natCast,hp]) (by
  have h1:decide (((36:Nat):Int)<36)=false:=by decide
  simp only [Zc3,h1,cond_false])
theorem Yav (a0:Array Value) (h_a0:WT prog 42 a0) (hg:(true)=true):ansV prog Zbv 1000 Tryd.f40 [([2,3],[]),([2,4],[])] [.w 0] [.row a0 42]=some (.a (.b ((okS a0))),.none,true):=by
 refine (Ycs 1000 a0).trans ?_
 obtain ⟨s0,b0,b1⟩:=h_a0.int (o:=0) (k:=.i8) (by kernel_rfl)
 obtain ⟨s1,b2,b3⟩:=h_a0.int (o:=1) (k:=.i8) (by kernel_rfl)
 have e1:IntKind.i8.min = -128:=rfl
 have e2:IntKind.i8.max=127:=rfl
 have h:=Ybn (g:=Zd7 prog 1000 a0) (fun t=>(false,(t:Int))) (fun t=>((List.range 36).find? (fun k=> !(fitS a0 t k))).isSome) 2 (N:=1000) (by omega) (xd:=.done (false,((2:Nat):Int))) (fun t=>.more (false,(t:Int))) (fun t ht hp=>by
  have h1:decide ((t:Int)<2)=true:=decide_eq_true (by omega)
  have h3:i64.wrap ((t:Int)+1)=((t+1:Nat):Int):=by rw [IntWalk.i64_in _ (by omega)];omega
  have hn:(List.range 36).find? (fun k=> !(fitS a0 t k))=none:=by simpa using hp
  have hi:=Yir h_a0 ht false
  rw [hn] at hi
  simp only [Zd7,h1,cond_true,hi,nodeX,st2,Zfl,h3]) (fun t ht hp=>by
  have h1:decide ((t:Int)<2)=true:=decide_eq_true (by omega)
  obtain ⟨k,hn⟩:=Option.isSome_iff_exists.1 hp
  have hi:=Yir h_a0 ht false
  rw [hn] at hi
  simp only [Zd7,h1,cond_true,hi,nodeX,st2,Zfn]) (by
  have h1:decide (((2:Nat):Int)<2)=false:=by decide
  simp only [Zd7,h1,cond_false])
 have h':iterO (Zd7 prog 1000 a0) 1000 (false,(0:Int))=some (match (List.range 2).find? (fun t=>((List.range 36).find? (fun k=> !(fitS a0 t k))).isSome) with | some t=>.more (false,(t:Int)) | none=>.done (false,((2:Nat):Int))):=h
 have i0:Zaa (i64.wrap (num a0 0)) 1 6=(decide (1≤num a0 0)&&decide (num a0 0≤6)):=by
  rw [IntWalk.i64_in _ (by omega)];unfold Zaa
  cases h1:decide (num a0 0 ≥ 1)<;>simp_all
 have i1:Zaa (i64.wrap (num a0 1)) 1 6=(decide (1≤num a0 1)&&decide (num a0 1≤6)):=by
  rw [IntWalk.i64_in _ (by omega)];unfold Zaa
  cases h1:decide (num a0 1 ≥ 1)<;>simp_all
 unfold okS okD
 rw [i0,i1,h',all_two,← Ye6,← Ye6,show IntKind.u64.wrap (BitVec.ofInt IntKind.u64.bits (num a0 2) &&& ~~~(BitVec.ofInt IntKind.u64.bits (gridI (num a0 0) (num a0 1) 36))).toNat=andNotI (num a0 2) (gridI (num a0 0) (num a0 1) 36) from rfl,show (List.range 2)=[0,1] from rfl]
 cases decide (1≤num a0 0)&&decide (num a0 0≤6)
 ·rfl
 cases decide (1≤num a0 1)&&decide (num a0 1≤6)
 ·rfl
 cases hb:(andNotI (num a0 2) (gridI (num a0 0) (num a0 1) 36)==0) with
 | false=>rw [show (andNotI (num a0 2) (gridI (num a0 0) (num a0 1) 36) != 0)=true by simp [bne,hb]];rfl
 | true=>
  rw [show (andNotI (num a0 2) (gridI (num a0 0) (num a0 1) 36) != 0)=false by simp [bne,hb]]
  simp only [List.find?]
  generalize (List.range 36).find? (fun k=> !(fitS a0 0 k))=f0
  generalize (List.range 36).find? (fun k=> !(fitS a0 1 k))=f1
  cases f0<;>cases f1<;>rfl
def Zmz:Con:=fun args h=>match args,h with
 | [.w 0],[.row a0 42]=>some (.a (.b ((okS a0))),.none,true)
 | _,_=>none
theorem Zy9:EntX prog 40:=Zag (fn:=Tryd.f40) (by kernel_rfl) (by kernel_rfl) (by kernel_rfl)
theorem Yex:ConOkX mn prog 40 Zmz:=(Zah (N:=1000) (by kernel_rfl) (mkΓ_consX (Zad Zo5) Zl9 (mkΓ_consX (Zad Zjn) Zgb (mkΓ_consX (Zad Zm9) Zjv (mkΓ_consX (Zad Zwz) Zqo mkΓ_nilX)))) (fn:=Tryd.f40) (by kernel_rfl) (by kernel_rfl) [([2,3],[]),([2,4],[])]).of (by
 intro ρ h w args vals r e hA hH hr
 unfold Zmz at hr
 split at hr
 ·rename_i a0
  obtain ⟨rfl,hg⟩:=Prod.mk.inj (Option.some.inj hr)
  obtain ⟨rfl,hg2⟩:=Prod.mk.inj hg
  exact Yav a0 (hH.wt 0 rfl) hg2
 ·cases hr)
theorem Zrx {S:Array Value} (h:okS S=true):1≤num S 0∧num S 0≤6∧1≤num S 1∧num S 1≤6:=by
 unfold okS okD at h
 simp only [Bool.and_eq_true,decide_eq_true_eq] at h
 exact ⟨h.1.1.1,h.1.1.2,h.1.2.1,h.1.2.2⟩
theorem okS_iter {S:Array Value} (h:okS S=true):(decide (0≤num S 0)&&decide (num S 0≤6)&&(decide (0≤num S 1)&&decide (num S 1≤6)))=true:=by
 obtain ⟨h1,h2,h3,h4⟩:=Zrx h
 rw [decide_eq_true (show 0≤num S 0 by omega),decide_eq_true h2,decide_eq_true (show 0≤num S 1 by omega),decide_eq_true h4];rfl
theorem okS_land {S:Array Value} (h:okS S=true) {k:Nat} (hk:k<64) (hb:bitI (num S 2) k=true):k<36∧inC (num S 0) (num S 1) k=true:=by
 unfold okS at h
 simp only [Bool.and_eq_true] at h
 have:=Yh3.1 h.2.1 k hk hb
 rw [Yio _ _ 36 (Nat.le_refl _)] at this
 simpa using this
theorem Yfn {S:Array Value} (h:WT prog 42 S):S.size=363:=by rw [h.layLen,Yk1];simp
end
end Go.Proofs.YtflnjkpejbohjaaDoor
