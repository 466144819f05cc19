/- What a valid sea is, in company. -/
import Derived.Test.YtflnjkpejbohjaaGreatDoorProg
import Derived.Test.YtflnjkpejbohjaaGreatDoorCxB
namespace Go.Proofs.YtflnjkpejbohjaaGreatDoor
open Go.ChangeShapes Go.WideShapes Go.ChangeAt Go.RowKit Ve Vc
open Tryz renaming prog → PZ
open IntKind (i64)
set_option linter.unusedVariables false
set_option linter.unusedSimpArgs false
set_option maxRecDepth 100000
noncomputable section
variable {mn:Md}
def sumW (a:Array Value):Nat→Int
 | 0=>0
 | k+1=>i64.wrap (sumW a k+i64.wrap (num a (k*1)))
theorem tide_eq (t:Int):Zdr t=Zaa t 0 1:=by
 unfold Zdr Zaa
 by_cases h0:t=0
 ·subst h0;rfl
 ·by_cases h1:t=1
  ·subst h1;rfl
  ·rw [show (t==0)=false from beq_eq_false_iff_ne.2 h0,show (t==1)=false from beq_eq_false_iff_ne.2 h1]
   by_cases h2:t ≥ 0
   ·rw [decide_eq_true h2,decide_eq_false (show ¬ t≤1 by omega)];rfl
   ·rw [decide_eq_false h2];rfl
def Zc3 (a0:Array Value):St:=(⟨.a (.g a0 37) :: .a (.w 0) :: .a (.b (false)) :: .a (.i .i64 (0:Int)) :: .a (.u) :: .a (.u) :: .a (.g a0 37) :: .a (.i .i64 (0:Int))::us 9 ([]),[.row a0 37,.no],[]⟩:St)
def Zd4:Int×Int→LS
 | (y0_3,y0_7)=>([.a (.i .i64 (y0_3)),.a (.i .i64 (y0_7))],[])
def Zhk:Int×Int→Exit×LS
 | t=>((.exit 0),Zd4 t)
def Zbt (P:Program) (a0:Array Value):Int×Int→Option (Stp (Int×Int) (Int×Int))
 | (y0_3,y0_7)=>bif decide (y0_7<(5:Int)) then (bif (decide (0≤y0_7)&&decide (y0_7<5)) then (some (.more ((i64.wrap (y0_3+(i64.wrap (num a0 ((y0_7).toNat*1))))),(i64.wrap (y0_7+(1:Int))))))
   else (none))
  else (some (.done (y0_3,y0_7)))
theorem Zsf (N:Nat) (a0:Array Value):∀ t:Int×Int,Uah PZ (mkΓ []) N (cAt (codeOf Tryz.f98) [1,1,0,1,0,0]) (pAt (Uaa (codeOf Tryz.f98) [([3,7],[])]).1 [1,1,0,1,0]) [3,7] [] (Zc3 a0) (Zd4 t)=mapS Zd4 Zhk (Zbt PZ a0 t):=by
 rintro ⟨y0_3,y0_7⟩
 refine Eq.trans (b:=(bif decide (y0_7<(5:Int)) then (bif (decide (0≤y0_7)&&decide (y0_7<5)) then (some (.more ([.a (.i .i64 (i64.wrap (y0_3+(i64.wrap (num a0 ((y0_7).toNat*1)))))),.a (.i .i64 (i64.wrap (y0_7+(1:Int))))],[])))
   else (none))
  else (some (.done ((.exit 0),([.a (.i .i64 (y0_3)),.a (.i .i64 (y0_7))],[])))))) (by kernel_rfl) ?_
 simp only [Zbt,Zax,Za0,Zay,Zaz,Zd4,Zhk]
def Zge (P:Program) (N:Nat) (a0:Array Value) (z0_3:Int) (z0_7:Int):Option (SV×Eff×Bool):=some (.a (.b ((z0_3==(12:Int)))),.none,true)
theorem Zmz (N:Nat) (a0:Array Value) (z0_3:Int) (z0_7:Int):(Uac 0 (kSeq (veC PZ (mkΓ []) N (cAt (codeOf Tryz.f98) [1,1,1]) (pAt (Uaa (codeOf Tryz.f98) [([3,7],[])]).1 [1,1,1]) (SV×Eff×Bool)) (finK PZ [] [.tmp 2]))) (.exit 0) (left (writes (cAt (codeOf Tryz.f98) [1,1,0,1,0,0])) [3,7] [] (Zc3 a0) ([.a (.i .i64 (z0_3)),.a (.i .i64 (z0_7))],[]))=Zge PZ N a0 z0_3 z0_7:=by
 refine Eq.trans (b:=(some (.a (.b ((z0_3==(12:Int)))),.none,true))) (by kernel_rfl) ?_
 rfl
theorem Zru (N:Nat) (a0:Array Value):Uaj (Uab (Uah PZ (mkΓ []) N (cAt (codeOf Tryz.f98) [1,1,0,1,0,0]) (pAt (Uaa (codeOf Tryz.f98) [([3,7],[])]).1 [1,1,0,1,0]) [3,7] [] (Zc3 a0)) N ([.a (.i .i64 (0:Int)),.a (.i .i64 (0:Int))],[])) (fun e s=>(Uac 0 (kSeq (veC PZ (mkΓ []) N (cAt (codeOf Tryz.f98) [1,1,1]) (pAt (Uaa (codeOf Tryz.f98) [([3,7],[])]).1 [1,1,1]) (SV×Eff×Bool)) (finK PZ [] [.tmp 2]))) e (left (writes (cAt (codeOf Tryz.f98) [1,1,0,1,0,0])) [3,7] [] (Zc3 a0) s))=Uak (Uab (Zbt PZ a0) N ((0:Int),(0:Int))) (fun x=>Zge PZ N a0 x.1 x.2):=by
 refine Zbk Zd4 Zhk _ _ (Zsf N a0) N ((0:Int),(0:Int)) _ _ ?_
 intro x;exact Zmz N a0 x.1 x.2
theorem Zpj (N:Nat) (a0:Array Value):ansV PZ (mkΓ []) N Tryz.f98 [([3,7],[])] [.g a0 37] []=(Uak (Uab (Zbt PZ a0) N ((0:Int),(0:Int))) (fun x=>Zge PZ N a0 x.1 x.2)):=by
 refine Eq.trans (b:=(Uaj (Uab (Uah PZ (mkΓ []) N (cAt (codeOf Tryz.f98) [1,1,0,1,0,0]) (pAt (Uaa (codeOf Tryz.f98) [([3,7],[])]).1 [1,1,0,1,0]) [3,7] [] (Zc3 a0)) N ([.a (.i .i64 (0:Int)),.a (.i .i64 (0:Int))],[])) (fun e s=>(Uac 0 (kSeq (veC PZ (mkΓ []) N (cAt (codeOf Tryz.f98) [1,1,1]) (pAt (Uaa (codeOf Tryz.f98) [([3,7],[])]).1 [1,1,1]) (SV×Eff×Bool)) (finK PZ [] [.tmp 2]))) e (left (writes (cAt (codeOf Tryz.f98) [1,1,0,1,0,0])) [3,7] [] (Zc3 a0) s)))) (by kernel_rfl) ?_
 simp only [Zru N a0]
theorem Zo4 (a0:Array Value) (h_a0:WT PZ 37 a0) (hg:(true)=true):ansV PZ (mkΓ []) 1000 Tryz.f98 [([3,7],[])] [.g a0 37] []=some (.a (.b ((sumW a0 5==(12:Int)))),.none,true):=by
 have h:=Ze3 (g:=Zbt PZ a0) (fun k=>(sumW a0 k,(k:Int))) (m:=5) (x:=(sumW a0 5,((5:Nat):Int))) (N:=1000) (fun k hk=>by
  have h1:decide ((k:Int)<5)=true:=decide_eq_true (by omega)
  have h0:decide (0≤(k:Int))=true:=decide_eq_true (by omega)
  have h3:i64.wrap ((k:Int)+1)=((k+1:Nat):Int):=by rw [IntWalk.i64_in _ (by omega)];omega
  have h4:((k:Int)).toNat=k:=Int.toNat_natCast k
  simp only [Zbt,h1,h0,Bool.and_self,h4,cond_true,h3,sumW]) (by
  have h1:decide (((5:Nat):Int)<5)=false:=by decide
  simp only [Zbt,h1,cond_false]) (by omega)
 refine (Zpj 1000 a0).trans ?_
 have h':Uab (Zbt PZ a0) 1000 ((0:Int),(0:Int))=some (sumW a0 5,((5:Nat):Int)):=h
 rw [h']
 rfl
def Zg1:Con:=fun args h=>match args,h with
 | [.g a0 37],[]=>some (.a (.b ((sumW a0 5==(12:Int)))),.none,true)
 | _,_=>none
theorem Zno:EntX PZ 98:=Zaf (fn:=Tryz.f98) (by kernel_rfl) (by kernel_rfl) (by kernel_rfl)
theorem Zrq:Uad mn PZ 98 Zg1:=(Zah (N:=1000) (by kernel_rfl) mkΓ_nilX (fn:=Tryz.f98) (by kernel_rfl) (by kernel_rfl) [([3,7],[])]).of (by
 intro ρ h w args vals r e hA hH hr
 unfold Zg1 at hr
 split at hr
 ·rename_i a0
  obtain ⟨rfl,hg⟩:=Prod.mk.inj (Option.some.inj hr)
  obtain ⟨rfl,hg2⟩:=Prod.mk.inj hg
  exact Zo4 a0 (hA.wt 0 rfl) hg2
 ·cases hr)
def Zdv (a0:Array Value):St:=(⟨.a (.g a0 37) :: .a (.w 0) :: .a (.b (false)) :: .a (.i .i64 (0:Int)) :: .a (.i .i64 (0:Int))::us 12 ([]),[.row a0 37,.no],[]⟩:St)
def Ze4:Int×Int→LS
 | (y0_3,y0_4)=>([.a (.i .i64 (y0_3)),.a (.i .i64 (y0_4))],[])
def Zir:Int×Int→Exit×LS
 | t=>((.exit 0),Ze4 t)
def Zcc (P:Program) (a0:Array Value):Int×Int→Option (Stp (Int×Int) (Int×Int))
 | (y0_3,y0_4)=>bif decide (y0_4<(5:Int)) then (bif (decide (0≤y0_4)&&decide (y0_4<5)) then (some (.more ((i64.wrap (y0_3+(i64.wrap (num a0 ((y0_4).toNat*1))))),(i64.wrap (y0_4+(1:Int))))))
   else (none))
  else (some (.done (y0_3,y0_4)))
theorem Zus (N:Nat) (a0:Array Value):∀ t:Int×Int,Uah PZ (mkΓ []) N (cAt (codeOf Tryz.f60) [1,1,0,1,0,0]) (pAt (Uaa (codeOf Tryz.f60) [([3,4],[])]).1 [1,1,0,1,0]) [3,4] [] (Zdv a0) (Ze4 t)=mapS Ze4 Zir (Zcc PZ a0 t):=by
 rintro ⟨y0_3,y0_4⟩
 refine Eq.trans (b:=(bif decide (y0_4<(5:Int)) then (bif (decide (0≤y0_4)&&decide (y0_4<5)) then (some (.more ([.a (.i .i64 (i64.wrap (y0_3+(i64.wrap (num a0 ((y0_4).toNat*1)))))),.a (.i .i64 (i64.wrap (y0_4+(1:Int))))],[])))
   else (none))
  else (some (.done ((.exit 0),([.a (.i .i64 (y0_3)),.a (.i .i64 (y0_4))],[])))))) (by kernel_rfl) ?_
 simp only [Zcc,Zax,Za0,Zay,Zaz,Ze4,Zir]
def Zhq (P:Program) (N:Nat) (a0:Array Value) (z0_3:Int) (z0_4:Int):Option (SV×Eff×Bool):=some (.a (.b ((z0_3==(12:Int)))),.none,true)
theorem Zoe (N:Nat) (a0:Array Value) (z0_3:Int) (z0_4:Int):(Uac 0 (kSeq (veC PZ (mkΓ []) N (cAt (codeOf Tryz.f60) [1,1,1]) (pAt (Uaa (codeOf Tryz.f60) [([3,4],[])]).1 [1,1,1]) (SV×Eff×Bool)) (finK PZ [] [.tmp 2]))) (.exit 0) (left (writes (cAt (codeOf Tryz.f60) [1,1,0,1,0,0])) [3,4] [] (Zdv a0) ([.a (.i .i64 (z0_3)),.a (.i .i64 (z0_4))],[]))=Zhq PZ N a0 z0_3 z0_4:=by
 refine Eq.trans (b:=(some (.a (.b ((z0_3==(12:Int)))),.none,true))) (by kernel_rfl) ?_
 rfl
theorem Zuf (N:Nat) (a0:Array Value):Uaj (Uab (Uah PZ (mkΓ []) N (cAt (codeOf Tryz.f60) [1,1,0,1,0,0]) (pAt (Uaa (codeOf Tryz.f60) [([3,4],[])]).1 [1,1,0,1,0]) [3,4] [] (Zdv a0)) N ([.a (.i .i64 (0:Int)),.a (.i .i64 (0:Int))],[])) (fun e s=>(Uac 0 (kSeq (veC PZ (mkΓ []) N (cAt (codeOf Tryz.f60) [1,1,1]) (pAt (Uaa (codeOf Tryz.f60) [([3,4],[])]).1 [1,1,1]) (SV×Eff×Bool)) (finK PZ [] [.tmp 2]))) e (left (writes (cAt (codeOf Tryz.f60) [1,1,0,1,0,0])) [3,4] [] (Zdv a0) s))=Uak (Uab (Zcc PZ a0) N ((0:Int),(0:Int))) (fun x=>Zhq PZ N a0 x.1 x.2):=by
 refine Zbk Ze4 Zir _ _ (Zus N a0) N ((0:Int),(0:Int)) _ _ ?_
 intro x;exact Zoe N a0 x.1 x.2
theorem Zsr (N:Nat) (a0:Array Value):ansV PZ (mkΓ []) N Tryz.f60 [([3,4],[])] [.g a0 37] []=(Uak (Uab (Zcc PZ a0) N ((0:Int),(0:Int))) (fun x=>Zhq PZ N a0 x.1 x.2)):=by
 refine Eq.trans (b:=(Uaj (Uab (Uah PZ (mkΓ []) N (cAt (codeOf Tryz.f60) [1,1,0,1,0,0]) (pAt (Uaa (codeOf Tryz.f60) [([3,4],[])]).1 [1,1,0,1,0]) [3,4] [] (Zdv a0)) N ([.a (.i .i64 (0:Int)),.a (.i .i64 (0:Int))],[])) (fun e s=>(Uac 0 (kSeq (veC PZ (mkΓ []) N (cAt (codeOf Tryz.f60) [1,1,1]) (pAt (Uaa (codeOf Tryz.f60) [([3,4],[])]).1 [1,1,1]) (SV×Eff×Bool)) (finK PZ [] [.tmp 2]))) e (left (writes (cAt (codeOf Tryz.f60) [1,1,0,1,0,0])) [3,4] [] (Zdv a0) s)))) (by kernel_rfl) ?_
 simp only [Zuf N a0]
theorem Zsc (a0:Array Value) (h_a0:WT PZ 37 a0) (hg:(true)=true):ansV PZ (mkΓ []) 1000 Tryz.f60 [([3,4],[])] [.g a0 37] []=some (.a (.b ((sumW a0 5==(12:Int)))),.none,true):=by
 have h:=Ze3 (g:=Zcc PZ a0) (fun k=>(sumW a0 k,(k:Int))) (m:=5) (x:=(sumW a0 5,((5:Nat):Int))) (N:=1000) (fun k hk=>by
  have h1:decide ((k:Int)<5)=true:=decide_eq_true (by omega)
  have h0:decide (0≤(k:Int))=true:=decide_eq_true (by omega)
  have h3:i64.wrap ((k:Int)+1)=((k+1:Nat):Int):=by rw [IntWalk.i64_in _ (by omega)];omega
  have h4:((k:Int)).toNat=k:=Int.toNat_natCast k
  simp only [Zcc,h1,h0,Bool.and_self,h4,cond_true,h3,sumW]) (by
  have h1:decide (((5:Nat):Int)<5)=false:=by decide
  simp only [Zcc,h1,cond_false]) (by omega)
 refine (Zsr 1000 a0).trans ?_
 have h':Uab (Zcc PZ a0) 1000 ((0:Int),(0:Int))=some (sumW a0 5,((5:Nat):Int)):=h
 rw [h']
 rfl
def Zie:Con:=fun args h=>match args,h with
 | [.g a0 37],[]=>some (.a (.b ((sumW a0 5==(12:Int)))),.none,true)
 | _,_=>none
theorem Zph:EntX PZ 60:=Zaf (fn:=Tryz.f60) (by kernel_rfl) (by kernel_rfl) (by kernel_rfl)
theorem Zto:Uad mn PZ 60 Zie:=(Zah (N:=1000) (by kernel_rfl) mkΓ_nilX (fn:=Tryz.f60) (by kernel_rfl) (by kernel_rfl) [([3,4],[])]).of (by
 intro ρ h w args vals r e hA hH hr
 unfold Zie at hr
 split at hr
 ·rename_i a0
  obtain ⟨rfl,hg⟩:=Prod.mk.inj (Option.some.inj hr)
  obtain ⟨rfl,hg2⟩:=Prod.mk.inj hg
  exact Zsc a0 (hA.wt 0 rfl) hg2
 ·cases hr)
def Zne:Cons:=(mkΓ [(90,con Zh5),(91,con Zeu),(98,con Zg1)])
theorem Ztl (N:Nat) (a0:Array Value) (a1:Int) (a2:Array Value):ansV PZ Zne N Tryz.f88 [] [.g a0 41,.i .i64 (a1),.g a2 37] []=(bif (Zaj a0 a1) then (bif decide (0≤a1) then (bif (Zab a0 a1) then (some (.a (.b ((sumW a2 5==(12:Int)))),.none,true))
    else (some (.a (.b ((Uay a2 (#[.int .u8 (0:Int),.int .u8 (0:Int),.int .u8 (0:Int),.int .u8 (0:Int),.int .u8 (0:Int)]:Array Value)))),.none,true)))
   else (none))
  else (some (.a (.b ((Uay a2 (#[.int .u8 (0:Int),.int .u8 (0:Int),.int .u8 (0:Int),.int .u8 (0:Int),.int .u8 (0:Int)]:Array Value)))),.none,true))):=by kernel_rfl
def Zbx (a0:Array Value) (a1:Int) (a2:Array Value):Bool:=(bif (Zaj a0 a1) then (bif (Zab a0 a1) then (sumW a2 5==(12:Int)) else (Uay a2 (#[.int .u8 (0:Int),.int .u8 (0:Int),.int .u8 (0:Int),.int .u8 (0:Int),.int .u8 (0:Int)]:Array Value))) else (Uay a2 (#[.int .u8 (0:Int),.int .u8 (0:Int),.int .u8 (0:Int),.int .u8 (0:Int),.int .u8 (0:Int)]:Array Value)))
theorem Zrn (a0:Array Value) (a1:Int) (a2:Array Value) (h_a0:WT PZ 41 a0) (h_a1:i64.min≤a1∧a1≤i64.max) (h_a2:WT PZ 37 a2) (hg:((bif (Zaj a0 a1) then decide (0≤a1) else true))=true):ansV PZ Zne 1000 Tryz.f88 [] [.g a0 41,.i .i64 (a1),.g a2 37] []=some (.a (.b ((Zbx a0 a1 a2))),.none,true):=by
 refine (Ztl 1000 a0 a1 a2).trans ?_
 unfold Zbx
 revert hg
 generalize ((Zaj a0 a1))=b2
 intro hg
 cases b2
 ·skip
  first | (simp only [cond_true,cond_false,Bool.and_true,Bool.true_and,Bool.and_false,Bool.false_and];done) | rfl | exact (nomatch (hg:false=true))
 ·skip
  revert hg
  generalize (decide (0≤a1))=b4
  intro hg
  cases b4
  ·skip
   first | exact (nomatch (hg:false=true)) | (simp only [cond_true,cond_false,Bool.and_true,Bool.true_and,Bool.and_false,Bool.false_and];done) | rfl
  ·skip
   revert hg
   generalize ((Zab a0 a1))=b6
   intro hg
   cases b6
   ·skip
    first | (simp only [cond_true,cond_false,Bool.and_true,Bool.true_and,Bool.and_false,Bool.false_and];done) | rfl | exact (nomatch (hg:false=true))
   ·skip
    first | (simp only [cond_true,cond_false,Bool.and_true,Bool.true_and,Bool.and_false,Bool.false_and];done) | rfl | exact (nomatch (hg:false=true))
def Zic:Con:=fun args h=>match args,h with
 | [.g a0 41,.i .i64 a1,.g a2 37],[]=>some (.a (.b ((Zbx a0 a1 a2))),.none,(bif (Zaj a0 a1) then decide (0≤a1) else true))
 | _,_=>none
theorem Zqq:EntX PZ 88:=Zaf (fn:=Tryz.f88) (by kernel_rfl) (by kernel_rfl) (by kernel_rfl)
theorem Ztr:Uad mn PZ 88 Zic:=(Zah (N:=1000) (by kernel_rfl) (mkΓ_consX (Zad Zp3) Zmi (mkΓ_consX (Zad Zis) Zgl (mkΓ_consX (Zad Zrq) Zno mkΓ_nilX))) (fn:=Tryz.f88) (by kernel_rfl) (by kernel_rfl) []).of (by
 intro ρ h w args vals r e hA hH hr
 unfold Zic at hr
 split at hr
 ·rename_i a0 a1 a2
  obtain ⟨rfl,hg⟩:=Prod.mk.inj (Option.some.inj hr)
  obtain ⟨rfl,hg2⟩:=Prod.mk.inj hg
  exact Zrn a0 a1 a2 (hA.wt 0 rfl) (hA.rng 1 rfl) (hA.wt 2 rfl) hg2
 ·cases hr)
def chR (S:Array Value) (t k:Nat):Array Value:=S.extract (3+t*180+k*5) (3+t*180+k*5+5)
def fitS (S:Array Value) (t k:Nat):Bool:=bif inC (num S 0) (num S 1) k && !(bitI (num S 2) k) then (sumW (chR S t k) 5==(12:Int)) else Uay (chR S t k) (#[.int .u8 (0:Int),.int .u8 (0:Int),.int .u8 (0:Int),.int .u8 (0:Int),.int .u8 (0:Int)]:Array Value)
def okD (S:Array Value):Bool:=decide (1≤num S 0)&&decide (num S 0≤6)&&(decide (1≤num S 1)&&decide (num S 1≤6))
def okS (S:Array Value):Bool:=okD S&&((Uba (num S 2) (Uat (num S 0) (num S 1) 36)==0)&&(List.range 36).all fun k=>fitS S 0 k&&fitS S 1 k)
theorem Yeg (n:Nat) (p:Nat→Bool):((List.range n).find? (fun k=> !(p k))).isNone=(List.range n).all p:=by
 rw [Bool.eq_iff_iff,Option.isNone_iff_eq_none,List.find?_eq_none,List.all_eq_true]
 simp
theorem all_two (n:Nat) (p q:Nat→Bool):(List.range n).all (fun k=>p k&&q k)=((List.range n).all p&&(List.range n).all q):=by
 rw [Bool.eq_iff_iff,Bool.and_eq_true,List.all_eq_true,List.all_eq_true,List.all_eq_true]
 simp only [Bool.and_eq_true]
 exact ⟨fun h=>⟨fun x hx=>(h x hx).1,fun x hx=>(h x hx).2⟩,fun h x hx=>⟨h.1 x hx,h.2 x hx⟩⟩
theorem Ymt {S:Array Value} (h:WT PZ 41 S) {k:Nat} (hk:k<36):Zaj S (k:Int)=inC (num S 0) (num S 1) k:=by rw [Ymh,Yj3 h hk]
theorem Zzp {S:Array Value} (h:WT PZ 41 S) {k:Nat} (hk:k<36) (t:Nat):Zbx S (k:Int) (chR S t k)=fitS S t k:=by
 unfold Zbx fitS
 rw [Ymt h hk]
 unfold Zab
 rw [Zxr hk]
 cases inC (num S 0) (num S 1) k<;>cases bitI (num S 2) k<;>rfl
theorem Ydk {S:Array Value} (h:WT PZ 41 S) {k:Nat} (hk:k<36):Za2 (k:Int) S=true∧Zae (k:Int) S=(inC (num S 0) (num S 1) k && !(bitI (num S 2) k)):=by
 have hu:decide (0≤IntKind.u64.wrap (k:Int))=true:=decide_eq_true (Zhm .u64 _).1
 unfold Za2 Zae
 rw [Yj3 h hk,Ymj h hk]
 constructor
 ·cases inC (num S 0) (num S 1) k<;>simp [hu]
 ·cases inC (num S 0) (num S 1) k<;>simp
def Zcy:Cons:=(mkΓ [(67,con Zfm),(88,con Zic)])
def Zdz (a0:Array Value):St:=(⟨.a (.g a0 41) :: .a (.w 0) :: .a (.b (false)) :: .a (.u) :: .a (.p 0 (0) 22) :: .a (.i .i8 (num a0 0)) :: .a (.b (decide ((num a0 0)<(1:Int)))) :: .a (.b (false)) :: .a (.p 0 (0) 22) :: .a (.i .i8 (num a0 0)) :: .a (.b (decide ((num a0 0) > (6:Int)))) :: .a (.b (decide ((num a0 0) > (6:Int)))) :: .a (.b (false)) :: .a (.p 0 (1) 22) :: .a (.i .i8 (num a0 1)) :: .a (.b (decide ((num a0 1)<(1:Int)))) :: .a (.b (decide ((num a0 1)<(1:Int)))) :: .a (.b (false)) :: .a (.p 0 (1) 22) :: .a (.i .i8 (num a0 1)) :: .a (.b (decide ((num a0 1) > (6:Int)))) :: .a (.b (decide ((num a0 1) > (6:Int)))) :: .a (.p 0 (2) 23) :: .a (.i .u64 (num a0 2)) :: .a (.g a0 41) :: .a (.i .u64 (Uat (num a0 0) (num a0 1) 36)) :: .a (.i .u64 (IntKind.u64.wrap (BitVec.ofInt IntKind.u64.bits (num a0 2) &&& ~~~(BitVec.ofInt IntKind.u64.bits (Uat (num a0 0) (num a0 1) 36))).toNat)) :: .a (.b (((IntKind.u64.wrap (BitVec.ofInt IntKind.u64.bits (num a0 2) &&& ~~~(BitVec.ofInt IntKind.u64.bits (Uat (num a0 0) (num a0 1) 36))).toNat) != (0:Int)))) :: .a (.i .i64 (0:Int))::us 23 ([]),[.row a0 41,.no,.no,.no,.no,.no,.no,.no],[]⟩:St)
def Zes:Bool×Int→LS
 | (y0_2,y0_28)=>([.a (.b (y0_2)),.a (.i .i64 (y0_28))],[])
def Zkl:(Stp (Bool×Int) (Bool×Int))→Exit×LS
 | .more t=>(.ret,Zes t)
 | .done t=>((.exit 0),Zes t)
def Zb4 (P:Program) (a0:Array Value):Bool×Int→Option (Stp (Bool×Int) (Stp (Bool×Int) (Bool×Int)))
  | (y0_2,y0_28)=>bif decide (y0_28<(36:Int)) then (bif (decide (0≤y0_28)&&decide (y0_28<36)) then (bif (bif (Zaj a0 y0_28) then decide (0≤y0_28) else true) then (bif (!((Zbx a0 y0_28 (a0.extract (3+((y0_28).toNat*5)) ((3+((y0_28).toNat*5))+5))))) then (some (.done (.more (false,y0_28))))
          else (bif (decide (0≤y0_28)&&decide (y0_28<36)) then (bif (bif (Zaj a0 y0_28) then decide (0≤y0_28) else true) then (bif (!((Zbx a0 y0_28 (a0.extract (183+((y0_28).toNat*5)) ((183+((y0_28).toNat*5))+5))))) then (some (.done (.more (false,y0_28))))
                else (some (.more (y0_2,(i64.wrap (y0_28+(1:Int)))))))
              else (none))
            else (none)))
        else (none))
      else (none))
    else (some (.done (.done (y0_2,y0_28))))
theorem Zyk (N:Nat) (a0:Array Value):∀ t:Bool×Int,Uah PZ Zcy N (cAt (codeOf Tryz.f77) [1,1,1,0,1,0,0]) (pAt (Uaa (codeOf Tryz.f77) [([2,28],[])]).1 [1,1,1,0,1,0]) [2,28] [] (Zdz a0) (Zes t)=mapS Zes Zkl (Zb4 PZ a0 t):=by
  rintro ⟨y0_2,y0_28⟩
  refine Eq.trans (b:=(bif decide (y0_28<(36:Int)) then (bif (decide (0≤y0_28)&&decide (y0_28<36)) then (bif (bif (Zaj a0 y0_28) then decide (0≤y0_28) else true) then (bif (!((Zbx a0 y0_28 (a0.extract (3+((y0_28).toNat*5)) ((3+((y0_28).toNat*5))+5))))) then (some (.done (.ret,([.a (.b (false)),.a (.i .i64 (y0_28))],[]))))
          else (bif (decide (0≤y0_28)&&decide (y0_28<36)) then (bif (bif (Zaj a0 y0_28) then decide (0≤y0_28) else true) then (bif (!((Zbx a0 y0_28 (a0.extract (183+((y0_28).toNat*5)) ((183+((y0_28).toNat*5))+5))))) then (some (.done (.ret,([.a (.b (false)),.a (.i .i64 (y0_28))],[]))))
                else (some (.more ([.a (.b (y0_2)),.a (.i .i64 (i64.wrap (y0_28+(1:Int))))],[]))))
              else (none))
            else (none)))
        else (none))
      else (none))
    else (some (.done ((.exit 0),([.a (.b (y0_2)),.a (.i .i64 (y0_28))],[])))))) (by kernel_rfl) ?_
  simp only [Zb4,Zax,Za0,Zay,Zaz,Zes,Zkl]
def Zjb (P:Program) (N:Nat) (a0:Array Value) (z0_2:Bool) (z0_28:Int):Option (SV×Eff×Bool):=some (.a (.b (z0_2)),.none,true)
theorem Zqh (N:Nat) (a0:Array Value) (z0_2:Bool) (z0_28:Int):(Uac 0 (kSeq (veC PZ Zcy N (cAt (codeOf Tryz.f77) [1,1,1,1]) (pAt (Uaa (codeOf Tryz.f77) [([2,28],[])]).1 [1,1,1,1]) (SV×Eff×Bool)) (finK PZ [] [.tmp 2]))) .ret (left (writes (cAt (codeOf Tryz.f77) [1,1,1,0,1,0,0])) [2,28] [] (Zdz a0) ([.a (.b (z0_2)),.a (.i .i64 (z0_28))],[]))=Zjb PZ N a0 z0_2 z0_28:=by
 refine Eq.trans (b:=(some (.a (.b (z0_2)),.none,true))) (by kernel_rfl) ?_
 rfl
def Zi8 (P:Program) (N:Nat) (a0:Array Value) (z0_2:Bool) (z0_28:Int):Option (SV×Eff×Bool):=some (.a (.b (true)),.none,true)
theorem Zqe (N:Nat) (a0:Array Value) (z0_2:Bool) (z0_28:Int):(Uac 0 (kSeq (veC PZ Zcy N (cAt (codeOf Tryz.f77) [1,1,1,1]) (pAt (Uaa (codeOf Tryz.f77) [([2,28],[])]).1 [1,1,1,1]) (SV×Eff×Bool)) (finK PZ [] [.tmp 2]))) (.exit 0) (left (writes (cAt (codeOf Tryz.f77) [1,1,1,0,1,0,0])) [2,28] [] (Zdz a0) ([.a (.b (z0_2)),.a (.i .i64 (z0_28))],[]))=Zi8 PZ N a0 z0_2 z0_28:=by
 refine Eq.trans (b:=(some (.a (.b (true)),.none,true))) (by kernel_rfl) ?_
 rfl
theorem Zze (N:Nat) (a0:Array Value):Uaj (Uab (Uah PZ Zcy N (cAt (codeOf Tryz.f77) [1,1,1,0,1,0,0]) (pAt (Uaa (codeOf Tryz.f77) [([2,28],[])]).1 [1,1,1,0,1,0]) [2,28] [] (Zdz a0)) N ([.a (.b (false)),.a (.i .i64 (0:Int))],[])) (fun e s=>(Uac 0 (kSeq (veC PZ Zcy N (cAt (codeOf Tryz.f77) [1,1,1,1]) (pAt (Uaa (codeOf Tryz.f77) [([2,28],[])]).1 [1,1,1,1]) (SV×Eff×Bool)) (finK PZ [] [.tmp 2]))) e (left (writes (cAt (codeOf Tryz.f77) [1,1,1,0,1,0,0])) [2,28] [] (Zdz a0) s))=Uak (Uab (Zb4 PZ a0) N (false,(0:Int))) (st2 (fun x=>Zjb PZ N a0 x.1 x.2) (fun x=>Zi8 PZ N a0 x.1 x.2)):=by
 refine Zbk Zes Zkl _ _ (Zyk N a0) N (false,(0:Int)) _ _ ?_
 intro x
 cases x with
 | more x=>exact Zqh N a0 x.1 x.2
 | done x=>exact Zqe N a0 x.1 x.2
theorem Zxl (N:Nat) (a0:Array Value):ansV PZ Zcy N Tryz.f77 [([2,28],[])] [.g a0 41] []=(bif decide ((num a0 0)<(1:Int)) then (some (.a (.b (false)),.none,true))
    else (bif decide ((num a0 0) > (6:Int)) then (some (.a (.b (false)),.none,true))
      else (bif decide ((num a0 1)<(1:Int)) then (some (.a (.b (false)),.none,true))
        else (bif decide ((num a0 1) > (6:Int)) then (some (.a (.b (false)),.none,true))
          else (bif (decide (0≤num a0 0)&&decide (num a0 0≤6)&&(decide (0≤num a0 1)&&decide (num a0 1≤6))) then (bif ((IntKind.u64.wrap (BitVec.ofInt IntKind.u64.bits (num a0 2) &&& ~~~(BitVec.ofInt IntKind.u64.bits (Uat (num a0 0) (num a0 1) 36))).toNat) != (0:Int)) then (some (.a (.b (false)),.none,true))
              else (Uak (Uab (Zb4 PZ a0) N (false,(0:Int))) (st2 (fun x=>Zjb PZ N a0 x.1 x.2) (fun x=>Zi8 PZ N a0 x.1 x.2))))
            else (none)))))):=by
  refine Eq.trans (b:=(bif decide ((num a0 0)<(1:Int)) then (some (.a (.b (false)),.none,true))
    else (bif decide ((num a0 0) > (6:Int)) then (some (.a (.b (false)),.none,true))
      else (bif decide ((num a0 1)<(1:Int)) then (some (.a (.b (false)),.none,true))
        else (bif decide ((num a0 1) > (6:Int)) then (some (.a (.b (false)),.none,true))
          else (bif (decide (0≤num a0 0)&&decide (num a0 0≤6)&&(decide (0≤num a0 1)&&decide (num a0 1≤6))) then (bif ((IntKind.u64.wrap (BitVec.ofInt IntKind.u64.bits (num a0 2) &&& ~~~(BitVec.ofInt IntKind.u64.bits (Uat (num a0 0) (num a0 1) 36))).toNat) != (0:Int)) then (some (.a (.b (false)),.none,true))
              else (Uaj (Uab (Uah PZ Zcy N (cAt (codeOf Tryz.f77) [1,1,1,0,1,0,0]) (pAt (Uaa (codeOf Tryz.f77) [([2,28],[])]).1 [1,1,1,0,1,0]) [2,28] [] (Zdz a0)) N ([.a (.b (false)),.a (.i .i64 (0:Int))],[])) (fun e s=>(Uac 0 (kSeq (veC PZ Zcy N (cAt (codeOf Tryz.f77) [1,1,1,1]) (pAt (Uaa (codeOf Tryz.f77) [([2,28],[])]).1 [1,1,1,1]) (SV×Eff×Bool)) (finK PZ [] [.tmp 2]))) e (left (writes (cAt (codeOf Tryz.f77) [1,1,1,0,1,0,0])) [2,28] [] (Zdz a0) s))))
            else (none))))))) (by kernel_rfl) ?_
  simp only [Zze N a0]
theorem Zum (a0:Array Value) (h_a0:WT PZ 41 a0) (hg:(true)=true):ansV PZ Zcy 1000 Tryz.f77 [([2,28],[])] [.g a0 41] []=some (.a (.b ((okS a0))),.none,true):=by
 refine (Zxl 1000 a0).trans ?_
 have h:=Ya2 (g:=Zb4 PZ a0) (fun k=>(false,(k:Int))) (fun k=> !(fitS a0 0 k&&fitS a0 1 k)) 36 (N:=1000) (by omega) (xd:=.done (false,((36:Nat):Int))) (fun k=>.more (false,(k:Int))) (fun k hk hp=>by
  have h1:decide ((k:Int)<36)=true:=decide_eq_true (by omega)
  have h0:decide (0≤(k:Int))=true:=decide_eq_true (by omega)
  have h3:i64.wrap ((k:Int)+1)=((k+1:Nat):Int):=by rw [IntWalk.i64_in _ (by omega)];omega
  have f0:=Zzp h_a0 hk 0
  have f1:=Zzp h_a0 hk 1
  unfold chR at f0 f1
  rw [show 3+0*180+k*5=3+k*5 by omega] at f0
  rw [show 3+1*180+k*5=183+k*5 by omega] at f1
  have hg:(bif Zaj a0 (k:Int) then true else true)=true:=by cases Zaj a0 (k:Int)<;>rfl
  simp only [Bool.not_eq_false',Bool.and_eq_true] at hp
  simp only [Zb4,h1,h0,h3,Bool.and_self,cond_true,Int.toNat_natCast,hg,f0,f1,hp.1,hp.2,Bool.not_true,cond_false]) (fun k hk hp=>by
  have h1:decide ((k:Int)<36)=true:=decide_eq_true (by omega)
  have h0:decide (0≤(k:Int))=true:=decide_eq_true (by omega)
  have f0:=Zzp h_a0 hk 0
  have f1:=Zzp h_a0 hk 1
  unfold chR at f0 f1
  rw [show 3+0*180+k*5=3+k*5 by omega] at f0
  rw [show 3+1*180+k*5=183+k*5 by omega] at f1
  have hg:(bif Zaj a0 (k:Int) then true else true)=true:=by cases Zaj a0 (k:Int)<;>rfl
  cases e0:fitS a0 0 k with
  | false=>simp only [Zb4,h1,h0,Bool.and_self,cond_true,Int.toNat_natCast,hg,f0,e0,Bool.not_false]
  | true=>
   rw [e0] at hp
   have e1:fitS a0 1 k=false:=by simpa using hp
   simp only [Zb4,h1,h0,Bool.and_self,cond_true,Int.toNat_natCast,hg,f0,f1,e0,e1,Bool.not_false,Bool.not_true,cond_false]) (by
  have h1:decide (((36:Nat):Int)<36)=false:=by decide
  simp only [Zb4,h1,cond_false])
 have h':Uab (Zb4 PZ a0) 1000 (false,(0:Int))=some (match (List.range 36).find? (fun k=> !(fitS a0 0 k&&fitS a0 1 k)) with | some k=>.more (false,(k:Int)) | none=>.done (false,((36:Nat):Int))):=h
 have hf:=Yeg 36 (fun k=>fitS a0 0 k&&fitS a0 1 k)
 unfold okS okD
 by_cases d1:1≤num a0 0
 ·rw [decide_eq_true d1,decide_eq_false (show ¬ num a0 0<1 by omega)]
  by_cases d2:num a0 0≤6
  ·rw [decide_eq_true d2,decide_eq_false (show ¬ num a0 0 > 6 by omega)]
   by_cases d3:1≤num a0 1
   ·rw [decide_eq_true d3,decide_eq_false (show ¬ num a0 1<1 by omega)]
    by_cases d4:num a0 1≤6
    ·rw [decide_eq_true d4,decide_eq_false (show ¬ num a0 1 > 6 by omega),decide_eq_true (show 0≤num a0 0 by omega),decide_eq_true (show 0≤num a0 1 by omega)]
     simp only [Bool.and_self,cond_true,cond_false,Bool.true_and,h']
     rw [show IntKind.u64.wrap (BitVec.ofInt IntKind.u64.bits (num a0 2) &&& ~~~(BitVec.ofInt IntKind.u64.bits (Uat (num a0 0) (num a0 1) 36))).toNat=Uba (num a0 2) (Uat (num a0 0) (num a0 1) 36) from rfl]
     cases hb:(Uba (num a0 2) (Uat (num a0 0) (num a0 1) 36)==0) with
     | false=>rw [show (Uba (num a0 2) (Uat (num a0 0) (num a0 1) 36) != 0)=true by simp [bne,hb]];rfl
     | true=>
      rw [show (Uba (num a0 2) (Uat (num a0 0) (num a0 1) 36) != 0)=false by simp [bne,hb],← hf]
      cases (List.range 36).find? (fun k=> !(fitS a0 0 k&&fitS a0 1 k))<;>rfl
    ·rw [decide_eq_false d4,decide_eq_true (show num a0 1 > 6 by omega)];rfl
   ·rw [decide_eq_false d3,decide_eq_true (show num a0 1<1 by omega)];rfl
  ·rw [decide_eq_false d2,decide_eq_true (show num a0 0 > 6 by omega)];rfl
 ·rw [decide_eq_false d1,decide_eq_true (show num a0 0<1 by omega)];rfl
def Zjk:Con:=fun args h=>match args,h with
 | [.g a0 41],[]=>some (.a (.b ((okS a0))),.none,true)
 | _,_=>none
theorem Zsw:EntX PZ 77:=Zaf (fn:=Tryz.f77) (by kernel_rfl) (by kernel_rfl) (by kernel_rfl)
theorem Zzg:Uad mn PZ 77 Zjk:=(Zah (N:=1000) (by kernel_rfl) (mkΓ_consX (Zad Zop) Zll (mkΓ_consX (Zad Ztr) Zqq mkΓ_nilX)) (fn:=Tryz.f77) (by kernel_rfl) (by kernel_rfl) [([2,28],[])]).of (by
 intro ρ h w args vals r e hA hH hr
 unfold Zjk at hr
 split at hr
 ·rename_i a0
  obtain ⟨rfl,hg⟩:=Prod.mk.inj (Option.some.inj hr)
  obtain ⟨rfl,hg2⟩:=Prod.mk.inj hg
  exact Zum a0 (hA.wt 0 rfl) hg2
 ·cases hr)
def Zbv:Cons:=(mkΓ [(40,con Zhd),(58,con Zcq),(59,con Zgu),(60,con Zie)])
def Zfu (a0:Array Value) (y0_2:Bool) (y0_3:Int):St:=(⟨.a (.w 0) :: .a (.u) :: .a (.b (y0_2)) :: .a (.i .i64 (y0_3)) :: .a (.i .i64 (0:Int)) :: .a (.x) :: .a (.w 0) :: .a (.w 0) :: .a (.p 0 (0) 22) :: .a (.i .i8 (num a0 0)) :: .a (.i .i64 (i64.wrap (num a0 0))) :: .a (.b ((Zaa (i64.wrap (num a0 0)) (1:Int) (6:Int)))) :: .a (.b ((!((Zaa (i64.wrap (num a0 0)) (1:Int) (6:Int)))))) :: .a (.b (false)) :: .a (.w 0) :: .a (.w 0) :: .a (.p 0 (1) 22) :: .a (.i .i8 (num a0 1)) :: .a (.i .i64 (i64.wrap (num a0 1))) :: .a (.b ((Zaa (i64.wrap (num a0 1)) (1:Int) (6:Int)))) :: .a (.b ((!((Zaa (i64.wrap (num a0 1)) (1:Int) (6:Int)))))) :: .a (.b ((!((Zaa (i64.wrap (num a0 1)) (1:Int) (6:Int)))))) :: .a (.b (false)) :: .a (.w 0) :: .a (.w 0) :: .a (.p 0 (2) 23) :: .a (.i .u64 (num a0 2)) :: .a (.w 0) :: .a (.i .u64 (Uat (num a0 0) (num a0 1) 36)) :: .a (.i .u64 (IntKind.u64.wrap (BitVec.ofInt IntKind.u64.bits (num a0 2) &&& ~~~(BitVec.ofInt IntKind.u64.bits (Uat (num a0 0) (num a0 1) 36))).toNat)) :: .a (.b (((IntKind.u64.wrap (BitVec.ofInt IntKind.u64.bits (num a0 2) &&& ~~~(BitVec.ofInt IntKind.u64.bits (Uat (num a0 0) (num a0 1) 36))).toNat) != (0:Int)))) :: .a (.b (((IntKind.u64.wrap (BitVec.ofInt IntKind.u64.bits (num a0 2) &&& ~~~(BitVec.ofInt IntKind.u64.bits (Uat (num a0 0) (num a0 1) 36))).toNat) != (0:Int)))) :: .a (.i .i64 (y0_3)) :: .a (.b (decide (y0_3<(2:Int))))::xs 33 ([]),[.row a0 41,.no,.no,.no,.no,.no,.no,.no,.no,.no,.no,.no,.no,.no,.no,.no,.no,.no,.no,.no,.no,.no,.no,.no,.no,.no,.no],[]⟩:St)
def Zg5:Bool×Int→LS
 | (y1_2,y1_4)=>([.a (.b (y1_2)),.a (.i .i64 (y1_4))],[])
def Zn1:(Stp (Bool×Int) (Bool×Int))→Exit×LS
 | .more t=>(.ret,Zg5 t)
 | .done t=>((.exit 2),Zg5 t)
def Zcx (P : Program) (a0 : Array Value) (y0_2 : Bool) (y0_3 : Int) : Bool × Int → Option (Stp (Bool × Int) (Stp (Bool × Int) (Bool × Int)))
  | (y1_2, y1_4) => bif decide (y1_4 < (36 : Int)) then (bif (decide (0 ≤ y0_3) && decide (y0_3 < 2)) then (bif (decide (0 ≤ y1_4) && decide (y1_4 < 36)) then (bif (Za2 y1_4 a0) then (bif (Zae y1_4 a0) then (bif (!((sumW (a0.extract ((3 + ((y0_3).toNat * 180)) + ((y1_4).toNat * 5)) (((3 + ((y0_3).toNat * 180)) + ((y1_4).toNat * 5)) + 5)) 5 == (12 : Int)))) then (some (.done (.more (false, y1_4))))
              else (bif (Za2 y1_4 a0) then (bif (!((Zae y1_4 a0))) then (bif (!(Uay (a0.extract ((3 + ((y0_3).toNat * 180)) + ((y1_4).toNat * 5)) (((3 + ((y0_3).toNat * 180)) + ((y1_4).toNat * 5)) + 5)) (#[.int .u8 (0 : Int), .int .u8 (0 : Int), .int .u8 (0 : Int), .int .u8 (0 : Int), .int .u8 (0 : Int)] : Array Value))) then (some (.done (.more (false, y1_4))))
                    else (some (.more (y1_2, (i64.wrap (y1_4 + (1 : Int)))))))
                  else (some (.more (y1_2, (i64.wrap (y1_4 + (1 : Int)))))))
                else (none)))
            else (bif (Za2 y1_4 a0) then (bif (!((Zae y1_4 a0))) then (bif (!(Uay (a0.extract ((3 + ((y0_3).toNat * 180)) + ((y1_4).toNat * 5)) (((3 + ((y0_3).toNat * 180)) + ((y1_4).toNat * 5)) + 5)) (#[.int .u8 (0 : Int), .int .u8 (0 : Int), .int .u8 (0 : Int), .int .u8 (0 : Int), .int .u8 (0 : Int)] : Array Value))) then (some (.done (.more (false, y1_4))))
                  else (some (.more (y1_2, (i64.wrap (y1_4 + (1 : Int)))))))
                else (some (.more (y1_2, (i64.wrap (y1_4 + (1 : Int)))))))
              else (none)))
          else (none))
        else (none))
      else (none))
    else (some (.done (.done (y1_2, y1_4))))
theorem Ye8 (N:Nat) (a0:Array Value) (y0_2:Bool) (y0_3:Int):∀ t:Bool×Int,Uah PZ Zbv N (cAt (codeOf Tryz.f38) [1,1,0,1,0,0,1,0,0,1,0,0]) (pAt (Uaa (codeOf Tryz.f38) [([2,3],[]),([2,4],[])]).1 [1,1,0,1,0,1,0,1,0]) [2,4] [] (Zfu a0 y0_2 y0_3) (Zg5 t)=mapS Zg5 Zn1 (Zcx PZ a0 y0_2 y0_3 t):=by
  rintro ⟨y1_2,y1_4⟩
  refine Eq.trans (b:=(bif decide (y1_4<(36:Int)) then (bif (decide (0≤y0_3)&&decide (y0_3<2)) then (bif (decide (0≤y1_4)&&decide (y1_4<36)) then (bif (Za2 y1_4 a0) then (bif (Zae y1_4 a0) then (bif (!((sumW (a0.extract ((3+((y0_3).toNat*180))+((y1_4).toNat*5)) (((3+((y0_3).toNat*180))+((y1_4).toNat*5))+5)) 5==(12:Int)))) then (some (.done (.ret,([.a (.b (false)),.a (.i .i64 (y1_4))],[]))))
              else (bif (Za2 y1_4 a0) then (bif (!((Zae y1_4 a0))) then (bif (!(Uay (a0.extract ((3+((y0_3).toNat*180))+((y1_4).toNat*5)) (((3+((y0_3).toNat*180))+((y1_4).toNat*5))+5)) (#[.int .u8 (0:Int),.int .u8 (0:Int),.int .u8 (0:Int),.int .u8 (0:Int),.int .u8 (0:Int)]:Array Value))) then (some (.done (.ret,([.a (.b (false)),.a (.i .i64 (y1_4))],[]))))
                    else (some (.more ([.a (.b (y1_2)),.a (.i .i64 (i64.wrap (y1_4+(1:Int))))],[]))))
                  else (some (.more ([.a (.b (y1_2)),.a (.i .i64 (i64.wrap (y1_4+(1:Int))))],[]))))
                else (none)))
            else (bif (Za2 y1_4 a0) then (bif (!((Zae y1_4 a0))) then (bif (!(Uay (a0.extract ((3+((y0_3).toNat*180))+((y1_4).toNat*5)) (((3+((y0_3).toNat*180))+((y1_4).toNat*5))+5)) (#[.int .u8 (0:Int),.int .u8 (0:Int),.int .u8 (0:Int),.int .u8 (0:Int),.int .u8 (0:Int)]:Array Value))) then (some (.done (.ret,([.a (.b (false)),.a (.i .i64 (y1_4))],[]))))
                  else (some (.more ([.a (.b (y1_2)),.a (.i .i64 (i64.wrap (y1_4+(1:Int))))],[]))))
                else (some (.more ([.a (.b (y1_2)),.a (.i .i64 (i64.wrap (y1_4+(1:Int))))],[]))))
              else (none)))
          else (none))
        else (none))
      else (none))
    else (some (.done ((.exit 2),([.a (.b (y1_2)),.a (.i .i64 (y1_4))],[])))))) (by kernel_rfl) ?_
  simp only [Zcx,Zax,Za0,Zay,Zaz,Zg5,Zn1]
def Zf1 (a0:Array Value):St:=(⟨.a (.w 0) :: .a (.u) :: .a (.b (false)) :: .a (.i .i64 (0:Int)) :: .a (.u) :: .a (.u) :: .a (.w 0) :: .a (.w 0) :: .a (.p 0 (0) 22) :: .a (.i .i8 (num a0 0)) :: .a (.i .i64 (i64.wrap (num a0 0))) :: .a (.b ((Zaa (i64.wrap (num a0 0)) (1:Int) (6:Int)))) :: .a (.b ((!((Zaa (i64.wrap (num a0 0)) (1:Int) (6:Int)))))) :: .a (.b (false)) :: .a (.w 0) :: .a (.w 0) :: .a (.p 0 (1) 22) :: .a (.i .i8 (num a0 1)) :: .a (.i .i64 (i64.wrap (num a0 1))) :: .a (.b ((Zaa (i64.wrap (num a0 1)) (1:Int) (6:Int)))) :: .a (.b ((!((Zaa (i64.wrap (num a0 1)) (1:Int) (6:Int)))))) :: .a (.b ((!((Zaa (i64.wrap (num a0 1)) (1:Int) (6:Int)))))) :: .a (.b (false)) :: .a (.w 0) :: .a (.w 0) :: .a (.p 0 (2) 23) :: .a (.i .u64 (num a0 2)) :: .a (.w 0) :: .a (.i .u64 (Uat (num a0 0) (num a0 1) 36)) :: .a (.i .u64 (IntKind.u64.wrap (BitVec.ofInt IntKind.u64.bits (num a0 2) &&& ~~~(BitVec.ofInt IntKind.u64.bits (Uat (num a0 0) (num a0 1) 36))).toNat)) :: .a (.b (((IntKind.u64.wrap (BitVec.ofInt IntKind.u64.bits (num a0 2) &&& ~~~(BitVec.ofInt IntKind.u64.bits (Uat (num a0 0) (num a0 1) 36))).toNat) != (0:Int)))) :: .a (.b (((IntKind.u64.wrap (BitVec.ofInt IntKind.u64.bits (num a0 2) &&& ~~~(BitVec.ofInt IntKind.u64.bits (Uat (num a0 0) (num a0 1) 36))).toNat) != (0:Int))))::us 35 ([]),[.row a0 41,.no,.no,.no,.no,.no,.no,.no,.no,.no,.no,.no,.no,.no,.no,.no,.no,.no,.no,.no,.no,.no,.no,.no,.no,.no,.no],[]⟩:St)
def Zcj:Bool×Int→LS
 | (y0_2,y0_3)=>([.a (.b (y0_2)),.a (.i .i64 (y0_3))],[])
def Zd9:(Stp (Bool×Int) (Bool×Int))→Exit×LS
 | .more t=>(.ret,Zcj t)
 | .done t=>((.exit 0),Zcj t)
def Zg3 (P:Program) (N:Nat) (a0:Array Value) (y0_2:Bool) (y0_3:Int) (z1_2:Bool) (z1_4:Int):Option (Stp (Bool×Int) (Stp (Bool×Int) (Bool×Int))):=some (.done (.more (z1_2,y0_3)))
theorem Zu6 (N:Nat) (a0:Array Value) (y0_2:Bool) (y0_3:Int) (z1_2:Bool) (z1_4:Int):(Uac 2 (Uac 1 (kSeq (veC PZ Zbv N (cAt (codeOf Tryz.f38) [1,1,0,1,0,0,1,1]) (pAt (Uaa (codeOf Tryz.f38) [([2,3],[]),([2,4],[])]).1 [1,1,0,1,0,1,1]) (Stp LS (Exit×LS))) (Ubz 27 [2,3] [])))) .ret (left (writes (cAt (codeOf Tryz.f38) [1,1,0,1,0,0,1,0,0,1,0,0])) [2,4] [] (Zfu a0 y0_2 y0_3) ([.a (.b (z1_2)),.a (.i .i64 (z1_4))],[]))=mapS Zcj Zd9 (Zg3 PZ N a0 y0_2 y0_3 z1_2 z1_4):=by
 refine Eq.trans (b:=(some (.done (.ret,([.a (.b (z1_2)),.a (.i .i64 (y0_3))],[]))))) (by kernel_rfl) ?_
 simp only [Zg3,Zax,Za0,Zay,Zaz,Zcj,Zd9]
def Zgr (P:Program) (N:Nat) (a0:Array Value) (y0_2:Bool) (y0_3:Int) (z1_2:Bool) (z1_4:Int):Option (Stp (Bool×Int) (Stp (Bool×Int) (Bool×Int))):=some (.more (z1_2,(i64.wrap (y0_3+(1:Int)))))
theorem Zuq (N:Nat) (a0:Array Value) (y0_2:Bool) (y0_3:Int) (z1_2:Bool) (z1_4:Int):(Uac 2 (Uac 1 (kSeq (veC PZ Zbv N (cAt (codeOf Tryz.f38) [1,1,0,1,0,0,1,1]) (pAt (Uaa (codeOf Tryz.f38) [([2,3],[]),([2,4],[])]).1 [1,1,0,1,0,1,1]) (Stp LS (Exit×LS))) (Ubz 27 [2,3] [])))) (.exit 2) (left (writes (cAt (codeOf Tryz.f38) [1,1,0,1,0,0,1,0,0,1,0,0])) [2,4] [] (Zfu a0 y0_2 y0_3) ([.a (.b (z1_2)),.a (.i .i64 (z1_4))],[]))=mapS Zcj Zd9 (Zgr PZ N a0 y0_2 y0_3 z1_2 z1_4):=by
 refine Eq.trans (b:=(some (.more ([.a (.b (z1_2)),.a (.i .i64 (i64.wrap (y0_3+(1:Int))))],[])))) (by kernel_rfl) ?_
 simp only [Zgr,Zax,Za0,Zay,Zaz,Zcj,Zd9]
theorem Yep (N:Nat) (a0:Array Value) (y0_2:Bool) (y0_3:Int):Uaj (Uab (Uah PZ Zbv N (cAt (codeOf Tryz.f38) [1,1,0,1,0,0,1,0,0,1,0,0]) (pAt (Uaa (codeOf Tryz.f38) [([2,3],[]),([2,4],[])]).1 [1,1,0,1,0,1,0,1,0]) [2,4] [] (Zfu a0 y0_2 y0_3)) N ([.a (.b (y0_2)),.a (.i .i64 (0:Int))],[])) (fun e s=>(Uac 2 (Uac 1 (kSeq (veC PZ Zbv N (cAt (codeOf Tryz.f38) [1,1,0,1,0,0,1,1]) (pAt (Uaa (codeOf Tryz.f38) [([2,3],[]),([2,4],[])]).1 [1,1,0,1,0,1,1]) (Stp LS (Exit×LS))) (Ubz 27 [2,3] [])))) e (left (writes (cAt (codeOf Tryz.f38) [1,1,0,1,0,0,1,0,0,1,0,0])) [2,4] [] (Zfu a0 y0_2 y0_3) s))=mapS Zcj Zd9 (Uak (Uab (Zcx PZ a0 y0_2 y0_3) N (y0_2,(0:Int))) (st2 (fun x=>Zg3 PZ N a0 y0_2 y0_3 x.1 x.2) (fun x=>Zgr PZ N a0 y0_2 y0_3 x.1 x.2))):=by
 have h:=Zbk (α:=Stp LS (Exit×LS)) Zg5 Zn1 _ _ (Ye8 N a0 y0_2 y0_3) N (y0_2,(0:Int))
 rw [Zwb Zcj Zd9]
 refine h _ _ ?_
 intro x
 cases x with
 | more x=>exact Zu6 N a0 y0_2 y0_3 x.1 x.2
 | done x=>exact Zuq N a0 y0_2 y0_3 x.1 x.2
def Zeb (P:Program) (N:Nat) (a0:Array Value):Bool×Int→Option (Stp (Bool×Int) (Stp (Bool×Int) (Bool×Int)))
 | (y0_2,y0_3)=>bif decide (y0_3<(2:Int)) then (Uak (Uab (Zcx P a0 y0_2 y0_3) N (y0_2,(0:Int))) (st2 (fun x=>Zg3 P N a0 y0_2 y0_3 x.1 x.2) (fun x=>Zgr P N a0 y0_2 y0_3 x.1 x.2)))
  else (some (.done (.done (y0_2,y0_3))))
theorem Yev (N:Nat) (a0:Array Value):∀ t:Bool×Int,Uah PZ Zbv N (cAt (codeOf Tryz.f38) [1,1,0,1,0,0]) (pAt (Uaa (codeOf Tryz.f38) [([2,3],[]),([2,4],[])]).1 [1,1,0,1,0]) [2,3] [] (Zf1 a0) (Zcj t)=mapS Zcj Zd9 (Zeb PZ N a0 t):=by
 rintro ⟨y0_2,y0_3⟩
 refine Eq.trans (b:=(bif decide (y0_3<(2:Int)) then (Uaj (Uab (Uah PZ Zbv N (cAt (codeOf Tryz.f38) [1,1,0,1,0,0,1,0,0,1,0,0]) (pAt (Uaa (codeOf Tryz.f38) [([2,3],[]),([2,4],[])]).1 [1,1,0,1,0,1,0,1,0]) [2,4] [] (Zfu a0 y0_2 y0_3)) N ([.a (.b (y0_2)),.a (.i .i64 (0:Int))],[])) (fun e s=>(Uac 2 (Uac 1 (kSeq (veC PZ Zbv N (cAt (codeOf Tryz.f38) [1,1,0,1,0,0,1,1]) (pAt (Uaa (codeOf Tryz.f38) [([2,3],[]),([2,4],[])]).1 [1,1,0,1,0,1,1]) (Stp LS (Exit×LS))) (Ubz 27 [2,3] [])))) e (left (writes (cAt (codeOf Tryz.f38) [1,1,0,1,0,0,1,0,0,1,0,0])) [2,4] [] (Zfu a0 y0_2 y0_3) s)))
  else (some (.done ((.exit 0),([.a (.b (y0_2)),.a (.i .i64 (y0_3))],[])))))) (by kernel_rfl) ?_
 simp only [Yep N a0 y0_2 y0_3,Zeb,Zax,Za0,Zay,Zaz,Zcj,Zd9]
def Zl4 (P:Program) (N:Nat) (a0:Array Value) (z0_2:Bool) (z0_3:Int):Option (SV×Eff×Bool):=some (.a (.b (z0_2)),.none,true)
theorem Zul (N:Nat) (a0:Array Value) (z0_2:Bool) (z0_3:Int):(Uac 0 (kSeq (veC PZ Zbv N (cAt (codeOf Tryz.f38) [1,1,1]) (pAt (Uaa (codeOf Tryz.f38) [([2,3],[]),([2,4],[])]).1 [1,1,1]) (SV×Eff×Bool)) (finK PZ [.row a0 41] [.tmp 2]))) .ret (left (writes (cAt (codeOf Tryz.f38) [1,1,0,1,0,0])) [2,3] [] (Zf1 a0) ([.a (.b (z0_2)),.a (.i .i64 (z0_3))],[]))=Zl4 PZ N a0 z0_2 z0_3:=by
 refine Eq.trans (b:=(some (.a (.b (z0_2)),.none,true))) (by kernel_rfl) ?_
 rfl
def Zl3 (P:Program) (N:Nat) (a0:Array Value) (z0_2:Bool) (z0_3:Int):Option (SV×Eff×Bool):=some (.a (.b (true)),.none,true)
theorem Zv0 (N:Nat) (a0:Array Value) (z0_2:Bool) (z0_3:Int):(Uac 0 (kSeq (veC PZ Zbv N (cAt (codeOf Tryz.f38) [1,1,1]) (pAt (Uaa (codeOf Tryz.f38) [([2,3],[]),([2,4],[])]).1 [1,1,1]) (SV×Eff×Bool)) (finK PZ [.row a0 41] [.tmp 2]))) (.exit 0) (left (writes (cAt (codeOf Tryz.f38) [1,1,0,1,0,0])) [2,3] [] (Zf1 a0) ([.a (.b (z0_2)),.a (.i .i64 (z0_3))],[]))=Zl3 PZ N a0 z0_2 z0_3:=by
 refine Eq.trans (b:=(some (.a (.b (true)),.none,true))) (by kernel_rfl) ?_
 rfl
theorem Ye5 (N:Nat) (a0:Array Value):Uaj (Uab (Uah PZ Zbv N (cAt (codeOf Tryz.f38) [1,1,0,1,0,0]) (pAt (Uaa (codeOf Tryz.f38) [([2,3],[]),([2,4],[])]).1 [1,1,0,1,0]) [2,3] [] (Zf1 a0)) N ([.a (.b (false)),.a (.i .i64 (0:Int))],[])) (fun e s=>(Uac 0 (kSeq (veC PZ Zbv N (cAt (codeOf Tryz.f38) [1,1,1]) (pAt (Uaa (codeOf Tryz.f38) [([2,3],[]),([2,4],[])]).1 [1,1,1]) (SV×Eff×Bool)) (finK PZ [.row a0 41] [.tmp 2]))) e (left (writes (cAt (codeOf Tryz.f38) [1,1,0,1,0,0])) [2,3] [] (Zf1 a0) s))=Uak (Uab (Zeb PZ N a0) N (false,(0:Int))) (st2 (fun x=>Zl4 PZ N a0 x.1 x.2) (fun x=>Zl3 PZ N a0 x.1 x.2)):=by
 refine Zbk Zcj Zd9 _ _ (Yev N a0) N (false,(0:Int)) _ _ ?_
 intro x
 cases x with
 | more x=>exact Zul N a0 x.1 x.2
 | done x=>exact Zv0 N a0 x.1 x.2
theorem Ycn (N:Nat) (a0:Array Value):ansV PZ Zbv N Tryz.f38 [([2,3],[]),([2,4],[])] [.w 0] [.row a0 41]=(bif (!((Zaa (i64.wrap (num a0 0)) (1:Int) (6:Int)))) then (some (.a (.b (false)),.none,true))
  else (bif (!((Zaa (i64.wrap (num a0 1)) (1:Int) (6:Int)))) then (some (.a (.b (false)),.none,true))
   else (bif ((IntKind.u64.wrap (BitVec.ofInt IntKind.u64.bits (num a0 2) &&& ~~~(BitVec.ofInt IntKind.u64.bits (Uat (num a0 0) (num a0 1) 36))).toNat) != (0:Int)) then (some (.a (.b (false)),.none,true))
    else (Uak (Uab (Zeb PZ N a0) N (false,(0:Int))) (st2 (fun x=>Zl4 PZ N a0 x.1 x.2) (fun x=>Zl3 PZ N a0 x.1 x.2)))))):=by
 refine Eq.trans (b:=(bif (!((Zaa (i64.wrap (num a0 0)) (1:Int) (6:Int)))) then (some (.a (.b (false)),.none,true))
  else (bif (!((Zaa (i64.wrap (num a0 1)) (1:Int) (6:Int)))) then (some (.a (.b (false)),.none,true))
   else (bif ((IntKind.u64.wrap (BitVec.ofInt IntKind.u64.bits (num a0 2) &&& ~~~(BitVec.ofInt IntKind.u64.bits (Uat (num a0 0) (num a0 1) 36))).toNat) != (0:Int)) then (some (.a (.b (false)),.none,true))
    else (Uaj (Uab (Uah PZ Zbv N (cAt (codeOf Tryz.f38) [1,1,0,1,0,0]) (pAt (Uaa (codeOf Tryz.f38) [([2,3],[]),([2,4],[])]).1 [1,1,0,1,0]) [2,3] [] (Zf1 a0)) N ([.a (.b (false)),.a (.i .i64 (0:Int))],[])) (fun e s=>(Uac 0 (kSeq (veC PZ Zbv N (cAt (codeOf Tryz.f38) [1,1,1]) (pAt (Uaa (codeOf Tryz.f38) [([2,3],[]),([2,4],[])]).1 [1,1,1]) (SV×Eff×Bool)) (finK PZ [.row a0 41] [.tmp 2]))) e (left (writes (cAt (codeOf Tryz.f38) [1,1,0,1,0,0])) [2,3] [] (Zf1 a0) s))))))) (by kernel_rfl) ?_
 simp only [Ye5 N a0]
theorem Yis {S:Array Value} (h:WT PZ 41 S) {t:Nat} (ht:t<2) (b:Bool):Uab (Zcx PZ S b (t:Int)) 1000 (b,(0:Int))=some (match (List.range 36).find? (fun k=> !(fitS S t k)) with | some k=>.more (false,(k:Int)) | none=>.done (b,((36:Nat):Int))):=by
 have htt:decide (0≤(t:Int))=true:=decide_eq_true (by omega)
 have ht2:decide ((t:Int)<2)=true:=decide_eq_true (by omega)
 exact Ya2 (g:=Zcx PZ S b (t:Int)) (fun k=>(b,(k:Int))) (fun k=> !(fitS S t k)) 36 (N:=1000) (by omega) (xd:=.done (b,((36:Nat):Int))) (fun k=>.more (false,(k:Int))) (fun k hk hp=>by
  have h1:decide ((k:Int)<36)=true:=decide_eq_true (by omega)
  have h0:decide (0≤(k:Int))=true:=decide_eq_true (by omega)
  have h3:i64.wrap ((k:Int)+1)=((k+1:Nat):Int):=by rw [IntWalk.i64_in _ (by omega)];omega
  obtain ⟨w1,w2⟩:=Ydk h hk
  rw [Bool.not_eq_false'] at hp
  unfold fitS chR at hp
  rw [← w2] at hp
  cases hw:Zae (k:Int) S with
  | false=>
   rw [hw] at hp
   simp only [cond_false] at hp
   simp only [Zcx,h1,h0,h3,htt,ht2,w1,hw,Bool.and_self,Bool.not_false,cond_true,cond_false,Int.toNat_natCast,hp,Bool.not_true]
  | true=>
   rw [hw] at hp
   simp only [cond_true] at hp
   simp only [Zcx,h1,h0,h3,htt,ht2,w1,hw,Bool.and_self,Bool.not_true,cond_true,cond_false,Int.toNat_natCast,hp]) (fun k hk hp=>by
  have h1:decide ((k:Int)<36)=true:=decide_eq_true (by omega)
  have h0:decide (0≤(k:Int))=true:=decide_eq_true (by omega)
  obtain ⟨w1,w2⟩:=Ydk h hk
  rw [Bool.not_eq_true'] at hp
  unfold fitS chR at hp
  rw [← w2] at hp
  cases hw:Zae (k:Int) S with
  | false=>
   rw [hw] at hp
   simp only [cond_false] at hp
   simp only [Zcx,h1,h0,htt,ht2,w1,hw,Bool.and_self,Bool.not_false,cond_true,cond_false,Int.toNat_natCast,hp]
  | true=>
   rw [hw] at hp
   simp only [cond_true] at hp
   simp only [Zcx,h1,h0,htt,ht2,w1,hw,Bool.and_self,Bool.not_true,Bool.not_false,cond_true,cond_false,Int.toNat_natCast,hp]) (by
  have h1:decide (((36:Nat):Int)<36)=false:=by decide
  simp only [Zcx,h1,cond_false])
theorem Ya5 (a0:Array Value) (h_a0:WT PZ 41 a0) (hg:(true)=true):ansV PZ Zbv 1000 Tryz.f38 [([2,3],[]),([2,4],[])] [.w 0] [.row a0 41]=some (.a (.b ((okS a0))),.none,true):=by
 refine (Ycn 1000 a0).trans ?_
 obtain ⟨s0,b0,b1⟩:=h_a0.int (o:=0) (k:=.i8) (by kernel_rfl)
 obtain ⟨s1,b2,b3⟩:=h_a0.int (o:=1) (k:=.i8) (by kernel_rfl)
 have e1:IntKind.i8.min = -128:=rfl
 have e2:IntKind.i8.max=127:=rfl
 have h:=Ya2 (g:=Zeb PZ 1000 a0) (fun t=>(false,(t:Int))) (fun t=>((List.range 36).find? (fun k=> !(fitS a0 t k))).isSome) 2 (N:=1000) (by omega) (xd:=.done (false,((2:Nat):Int))) (fun t=>.more (false,(t:Int))) (fun t ht hp=>by
  have h1:decide ((t:Int)<2)=true:=decide_eq_true (by omega)
  have h3:i64.wrap ((t:Int)+1)=((t+1:Nat):Int):=by rw [IntWalk.i64_in _ (by omega)];omega
  have hn:(List.range 36).find? (fun k=> !(fitS a0 t k))=none:=by simpa using hp
  have hi:=Yis h_a0 ht false
  rw [hn] at hi
  simp only [Zeb,h1,cond_true,hi,Uak,st2,Zgr,h3]) (fun t ht hp=>by
  have h1:decide ((t:Int)<2)=true:=decide_eq_true (by omega)
  obtain ⟨k,hn⟩:=Option.isSome_iff_exists.1 hp
  have hi:=Yis h_a0 ht false
  rw [hn] at hi
  simp only [Zeb,h1,cond_true,hi,Uak,st2,Zg3]) (by
  have h1:decide (((2:Nat):Int)<2)=false:=by decide
  simp only [Zeb,h1,cond_false])
 have h':Uab (Zeb PZ 1000 a0) 1000 (false,(0:Int))=some (match (List.range 2).find? (fun t=>((List.range 36).find? (fun k=> !(fitS a0 t k))).isSome) with | some t=>.more (false,(t:Int)) | none=>.done (false,((2:Nat):Int))):=h
 have i0:Zaa (i64.wrap (num a0 0)) 1 6=(decide (1≤num a0 0)&&decide (num a0 0≤6)):=by
  rw [IntWalk.i64_in _ (by omega)];unfold Zaa
  cases h1:decide (num a0 0 ≥ 1)<;>simp_all
 have i1:Zaa (i64.wrap (num a0 1)) 1 6=(decide (1≤num a0 1)&&decide (num a0 1≤6)):=by
  rw [IntWalk.i64_in _ (by omega)];unfold Zaa
  cases h1:decide (num a0 1 ≥ 1)<;>simp_all
 unfold okS okD
 rw [i0,i1,h',all_two,← Yeg,← Yeg,show IntKind.u64.wrap (BitVec.ofInt IntKind.u64.bits (num a0 2) &&& ~~~(BitVec.ofInt IntKind.u64.bits (Uat (num a0 0) (num a0 1) 36))).toNat=Uba (num a0 2) (Uat (num a0 0) (num a0 1) 36) from rfl,show (List.range 2)=[0,1] from rfl]
 cases decide (1≤num a0 0)&&decide (num a0 0≤6)
 ·rfl
 cases decide (1≤num a0 1)&&decide (num a0 1≤6)
 ·rfl
 cases hb:(Uba (num a0 2) (Uat (num a0 0) (num a0 1) 36)==0) with
 | false=>rw [show (Uba (num a0 2) (Uat (num a0 0) (num a0 1) 36) != 0)=true by simp [bne,hb]];rfl
 | true=>
  rw [show (Uba (num a0 2) (Uat (num a0 0) (num a0 1) 36) != 0)=false by simp [bne,hb]]
  simp only [List.find?]
  generalize (List.range 36).find? (fun k=> !(fitS a0 0 k))=f0
  generalize (List.range 36).find? (fun k=> !(fitS a0 1 k))=f1
  cases f0<;>cases f1<;>rfl
def Zmn:Con:=fun args h=>match args,h with
 | [.w 0],[.row a0 41]=>some (.a (.b ((okS a0))),.none,true)
 | _,_=>none
theorem Zkc:EntX PZ 38:=Zaf (fn:=Tryz.f38) (by kernel_rfl) (by kernel_rfl) (by kernel_rfl)
theorem Znz:Uad mn PZ 38 Zmn:=(Zah (N:=1000) (by kernel_rfl) (mkΓ_consX (Zad Zh0) Zfx (mkΓ_consX (Zad Zi7) Zf7 (mkΓ_consX (Zad Zmw) Zjp (mkΓ_consX (Zad Zto) Zph mkΓ_nilX)))) (fn:=Tryz.f38) (by kernel_rfl) (by kernel_rfl) [([2,3],[]),([2,4],[])]).of (by
 intro ρ h w args vals r e hA hH hr
 unfold Zmn at hr
 split at hr
 ·rename_i a0
  obtain ⟨rfl,hg⟩:=Prod.mk.inj (Option.some.inj hr)
  obtain ⟨rfl,hg2⟩:=Prod.mk.inj hg
  exact Ya5 a0 (hH.wt 0 rfl) hg2
 ·cases hr)
theorem Zog {S:Array Value} (h:okS S=true):1≤num S 0∧num S 0≤6∧1≤num S 1∧num S 1≤6:=by
 unfold okS okD at h
 simp only [Bool.and_eq_true,decide_eq_true_eq] at h
 exact ⟨h.1.1.1,h.1.1.2,h.1.2.1,h.1.2.2⟩
theorem okS_iter {S:Array Value} (h:okS S=true):(decide (0≤num S 0)&&decide (num S 0≤6)&&(decide (0≤num S 1)&&decide (num S 1≤6)))=true:=by
 obtain ⟨h1,h2,h3,h4⟩:=Zog h
 rw [decide_eq_true (show 0≤num S 0 by omega),decide_eq_true h2,decide_eq_true (show 0≤num S 1 by omega),decide_eq_true h4];rfl
theorem okS_fit {S:Array Value} (h:okS S=true) {t k:Nat} (ht:t<2) (hk:k<36):fitS S t k=true:=by
 unfold okS at h
 simp only [Bool.and_eq_true] at h
 have:=List.all_eq_true.1 h.2.2 k (List.mem_range.2 hk)
 rw [Bool.and_eq_true] at this
 match t,ht with
 | 0,_=>exact this.1
 | 1,_=>exact this.2
theorem okS_land {S:Array Value} (h:okS S=true) {k:Nat} (hk:k<64) (hb:bitI (num S 2) k=true):k<36∧inC (num S 0) (num S 1) k=true:=by
 unfold okS at h
 simp only [Bool.and_eq_true] at h
 have:=Zz6.1 h.2.1 k hk hb
 rw [Yeb _ _ 36 (Nat.le_refl _)] at this
 simpa using this
theorem Ygp {S:Array Value} (h:WT PZ 41 S):S.size=363:=by rw [h.layLen,Yh2];simp
theorem num_sub {S:Array Value} {o n j:Nat} (hj:j<n):num (S.extract o (o+n)) j=num S (o+j):=by
 unfold num
 rw [Array.getElem?_extract]
 by_cases h:o+j<S.size
 ·rw [if_pos (by omega)]
 ·rw [if_neg (by omega),Array.getElem?_eq_none (by omega)]
theorem sea_u8 {S:Array Value} (h:WT PZ 41 S) {i:Nat} (hi:i<360):S[3+i]? = some (.int .u8 (num S (3+i)))∧0≤num S (3+i)∧num S (3+i)≤255:=h.int (k:=.u8) (by rw [Yh2,show 3+i=i+3 by omega];show (List.replicate 360 4)[i]? = some 4;rw [List.getElem?_replicate,if_pos hi])
end
end Go.Proofs.YtflnjkpejbohjaaGreatDoor
