/- What a valid sea is, in company. -/
import Derived.Test.YtohnggmlmglhmaaGreatDoorProg
import Derived.Test.YtohnggmlmglhmaaGreatDoorCxB
namespace Go.Proofs.YtohnggmlmglhmaaGreatDoor
open Go.ChangeShapes Go.WideShapes Go.ChangeAt Go.RowKit Ve Vc
open Tryz renaming prog → PZ
open IntKind (i64)
set_option linter.unusedVariables false
set_option linter.unusedSimpArgs false
set_option maxRecDepth 100000
noncomputable section
variable {mn:Md}
def sumW (a:Array Value):Nat→Int
 | 0=>0
 | k+1=>i64.wrap (sumW a k+i64.wrap (num a (k*1)))
theorem tide_eq (t:Int):Zd8 t=Zaa t 0 1:=by
 unfold Zd8 Zaa
 by_cases h0:t=0
 ·subst h0;rfl
 ·by_cases h1:t=1
  ·subst h1;rfl
  ·rw [show (t==0)=false from beq_eq_false_iff_ne.2 h0,show (t==1)=false from beq_eq_false_iff_ne.2 h1]
   by_cases h2:t ≥ 0
   ·rw [Q3 h2,Q4 (show ¬ t≤1 by omega)];rfl
   ·rw [Q4 h2];rfl
def Zdg (a0:Array Value):St:=(⟨.a (.g a0 37) :: .a (.w 0) :: .a (.b (false)) :: .a (.i .i64 (0:Int)) :: .a (.u) :: .a (.u) :: .a (.g a0 37) :: .a (.i .i64 (0:Int))::us 9 ([]),[.row a0 37,.no],[]⟩:St)
def Zep:Int×Int→LS
 | (y0_3,y0_7)=>([.a (.i .i64 (y0_3)),.a (.i .i64 (y0_7))],[])
def Zig:Int×Int→Exit×LS
 | t=>((.exit 0),Zep t)
def Zby (P:Program) (a0:Array Value):Int×Int→Option (Stp (Int×Int) (Int×Int))
 | (y0_3,y0_7)=>bif decide (y0_7<(5:Int)) then (bif (decide (0≤y0_7)&&decide (y0_7<5)) then (some (.more ((i64.wrap (y0_3+(i64.wrap (num a0 ((y0_7).toNat*1))))),(i64.wrap (y0_7+(1:Int))))))
   else (none))
  else (some (.done (y0_3,y0_7)))
theorem Zts (N:Nat) (a0:Array Value):∀ t:Int×Int,Uai PZ (mkΓ []) N (cAt (codeOf Tryz.f118) [1,1,0,1,0,0]) (pAt (Uaa (codeOf Tryz.f118) [([3,7],[])]).1 [1,1,0,1,0]) [3,7] [] (Zdg a0) (Zep t)=mapS Zep Zig (Zby PZ a0 t):=by
 rintro ⟨y0_3,y0_7⟩
 refine Eq.trans (b:=(bif decide (y0_7<(5:Int)) then (bif (decide (0≤y0_7)&&decide (y0_7<5)) then (some (.more ([.a (.i .i64 (i64.wrap (y0_3+(i64.wrap (num a0 ((y0_7).toNat*1)))))),.a (.i .i64 (i64.wrap (y0_7+(1:Int))))],[])))
   else (none))
  else (some (.done ((.exit 0),([.a (.i .i64 (y0_3)),.a (.i .i64 (y0_7))],[])))))) (by kernel_rfl) ?_
 simp only [Zby,Za3,Za4,Za5,Za2,Zep,Zig]
def Zg2 (P:Program) (N:Nat) (a0:Array Value) (z0_3:Int) (z0_7:Int):Option (SV×Eff×Bool):=some (.a (.b ((z0_3==(12:Int)))),.none,true)
theorem Znw (N:Nat) (a0:Array Value) (z0_3:Int) (z0_7:Int):(Uab 0 (kSeq (veC PZ (mkΓ []) N (cAt (codeOf Tryz.f118) [1,1,1]) (pAt (Uaa (codeOf Tryz.f118) [([3,7],[])]).1 [1,1,1]) (SV×Eff×Bool)) (finK PZ [] [.tmp 2]))) (.exit 0) (left (writes (cAt (codeOf Tryz.f118) [1,1,0,1,0,0])) [3,7] [] (Zdg a0) ([.a (.i .i64 (z0_3)),.a (.i .i64 (z0_7))],[]))=Zg2 PZ N a0 z0_3 z0_7:=by
 refine Eq.trans (b:=(some (.a (.b ((z0_3==(12:Int)))),.none,true))) (by kernel_rfl) ?_
 rfl
theorem Ztv (N:Nat) (a0:Array Value):Uag (Uac (Uai PZ (mkΓ []) N (cAt (codeOf Tryz.f118) [1,1,0,1,0,0]) (pAt (Uaa (codeOf Tryz.f118) [([3,7],[])]).1 [1,1,0,1,0]) [3,7] [] (Zdg a0)) N ([.a (.i .i64 (0:Int)),.a (.i .i64 (0:Int))],[])) (fun e s=>(Uab 0 (kSeq (veC PZ (mkΓ []) N (cAt (codeOf Tryz.f118) [1,1,1]) (pAt (Uaa (codeOf Tryz.f118) [([3,7],[])]).1 [1,1,1]) (SV×Eff×Bool)) (finK PZ [] [.tmp 2]))) e (left (writes (cAt (codeOf Tryz.f118) [1,1,0,1,0,0])) [3,7] [] (Zdg a0) s))=Ual (Uac (Zby PZ a0) N ((0:Int),(0:Int))) (fun x=>Zg2 PZ N a0 x.1 x.2):=by
 refine Zbg Zep Zig _ _ (Zts N a0) N ((0:Int),(0:Int)) _ _ ?_
 intro x;exact Znw N a0 x.1 x.2
theorem Zr7 (N:Nat) (a0:Array Value):ansV PZ (mkΓ []) N Tryz.f118 [([3,7],[])] [.g a0 37] []=(Ual (Uac (Zby PZ a0) N ((0:Int),(0:Int))) (fun x=>Zg2 PZ N a0 x.1 x.2)):=by
 refine Eq.trans (b:=(Uag (Uac (Uai PZ (mkΓ []) N (cAt (codeOf Tryz.f118) [1,1,0,1,0,0]) (pAt (Uaa (codeOf Tryz.f118) [([3,7],[])]).1 [1,1,0,1,0]) [3,7] [] (Zdg a0)) N ([.a (.i .i64 (0:Int)),.a (.i .i64 (0:Int))],[])) (fun e s=>(Uab 0 (kSeq (veC PZ (mkΓ []) N (cAt (codeOf Tryz.f118) [1,1,1]) (pAt (Uaa (codeOf Tryz.f118) [([3,7],[])]).1 [1,1,1]) (SV×Eff×Bool)) (finK PZ [] [.tmp 2]))) e (left (writes (cAt (codeOf Tryz.f118) [1,1,0,1,0,0])) [3,7] [] (Zdg a0) s)))) (by kernel_rfl) ?_
 simp only [Ztv N a0]
theorem Zqs (a0:Array Value) (h_a0:WT PZ 37 a0) (hg:(true)=true):ansV PZ (mkΓ []) 1000 Tryz.f118 [([3,7],[])] [.g a0 37] []=some (.a (.b ((sumW a0 5==(12:Int)))),.none,true):=by
 have h:=Zdr (g:=Zby PZ a0) (fun k=>(sumW a0 k,(k:Int))) (m:=5) (x:=(sumW a0 5,((5:Nat):Int))) (N:=1000) (fun k hk=>by
  have h1:decide ((k:Int)<5)=true:=Q3 (by omega)
  have h0:decide (0≤(k:Int))=true:=Q3 (by omega)
  have h3:i64.wrap ((k:Int)+1)=((k+1:Nat):Int):=by rw [IntWalk.i64_in _ (by omega)];omega
  have h4:((k:Int)).toNat=k:=Q9 k
  simp only [Zby,h1,h0,Bool.and_self,h4,Q1,h3,sumW]) (by
  have h1:decide (((5:Nat):Int)<5)=false:=by decide
  simp only [Zby,h1,Q2]) (by omega)
 refine (Zr7 1000 a0).trans ?_
 have h':Uac (Zby PZ a0) 1000 ((0:Int),(0:Int))=some (sumW a0 5,((5:Nat):Int)):=h
 rw [h']
 rfl
def Zhm:Con:=fun args h=>match args,h with
 | [.g a0 37],[]=>some (.a (.b ((sumW a0 5==(12:Int)))),.none,true)
 | _,_=>none
theorem Zp2:EntX PZ 118:=Zag (fn:=Tryz.f118) (by kernel_rfl) (by kernel_rfl) (by kernel_rfl)
theorem Ztx:Uad mn PZ 118 Zhm:=(Zai (N:=1000) (by kernel_rfl) mkΓ_nilX (fn:=Tryz.f118) (by kernel_rfl) (by kernel_rfl) [([3,7],[])]).of (by
 intro ρ h w args vals r e hA hH hr
 unfold Zhm at hr
 split at hr
 ·rename_i a0
  obtain ⟨rfl,rfl,hg2⟩:=BQi hr
  exact Zqs a0 (hA.wt 0 rfl) hg2
 ·cases hr)
def Zef (a0:Array Value):St:=(⟨.a (.g a0 37) :: .a (.w 0) :: .a (.b (false)) :: .a (.i .i64 (0:Int)) :: .a (.i .i64 (0:Int))::us 12 ([]),[.row a0 37,.no],[]⟩:St)
def Zfj:Int×Int→LS
 | (y0_3,y0_4)=>([.a (.i .i64 (y0_3)),.a (.i .i64 (y0_4))],[])
def Zj7:Int×Int→Exit×LS
 | t=>((.exit 0),Zfj t)
def Zcn (P:Program) (a0:Array Value):Int×Int→Option (Stp (Int×Int) (Int×Int))
 | (y0_3,y0_4)=>bif decide (y0_4<(5:Int)) then (bif (decide (0≤y0_4)&&decide (y0_4<5)) then (some (.more ((i64.wrap (y0_3+(i64.wrap (num a0 ((y0_4).toNat*1))))),(i64.wrap (y0_4+(1:Int))))))
   else (none))
  else (some (.done (y0_3,y0_4)))
theorem Zv1 (N:Nat) (a0:Array Value):∀ t:Int×Int,Uai PZ (mkΓ []) N (cAt (codeOf Tryz.f81) [1,1,0,1,0,0]) (pAt (Uaa (codeOf Tryz.f81) [([3,4],[])]).1 [1,1,0,1,0]) [3,4] [] (Zef a0) (Zfj t)=mapS Zfj Zj7 (Zcn PZ a0 t):=by
 rintro ⟨y0_3,y0_4⟩
 refine Eq.trans (b:=(bif decide (y0_4<(5:Int)) then (bif (decide (0≤y0_4)&&decide (y0_4<5)) then (some (.more ([.a (.i .i64 (i64.wrap (y0_3+(i64.wrap (num a0 ((y0_4).toNat*1)))))),.a (.i .i64 (i64.wrap (y0_4+(1:Int))))],[])))
   else (none))
  else (some (.done ((.exit 0),([.a (.i .i64 (y0_3)),.a (.i .i64 (y0_4))],[])))))) (by kernel_rfl) ?_
 simp only [Zcn,Za3,Za4,Za5,Za2,Zfj,Zj7]
def Zic (P:Program) (N:Nat) (a0:Array Value) (z0_3:Int) (z0_4:Int):Option (SV×Eff×Bool):=some (.a (.b ((z0_3==(12:Int)))),.none,true)
theorem Zp3 (N:Nat) (a0:Array Value) (z0_3:Int) (z0_4:Int):(Uab 0 (kSeq (veC PZ (mkΓ []) N (cAt (codeOf Tryz.f81) [1,1,1]) (pAt (Uaa (codeOf Tryz.f81) [([3,4],[])]).1 [1,1,1]) (SV×Eff×Bool)) (finK PZ [] [.tmp 2]))) (.exit 0) (left (writes (cAt (codeOf Tryz.f81) [1,1,0,1,0,0])) [3,4] [] (Zef a0) ([.a (.i .i64 (z0_3)),.a (.i .i64 (z0_4))],[]))=Zic PZ N a0 z0_3 z0_4:=by
 refine Eq.trans (b:=(some (.a (.b ((z0_3==(12:Int)))),.none,true))) (by kernel_rfl) ?_
 rfl
theorem Zxc (N:Nat) (a0:Array Value):Uag (Uac (Uai PZ (mkΓ []) N (cAt (codeOf Tryz.f81) [1,1,0,1,0,0]) (pAt (Uaa (codeOf Tryz.f81) [([3,4],[])]).1 [1,1,0,1,0]) [3,4] [] (Zef a0)) N ([.a (.i .i64 (0:Int)),.a (.i .i64 (0:Int))],[])) (fun e s=>(Uab 0 (kSeq (veC PZ (mkΓ []) N (cAt (codeOf Tryz.f81) [1,1,1]) (pAt (Uaa (codeOf Tryz.f81) [([3,4],[])]).1 [1,1,1]) (SV×Eff×Bool)) (finK PZ [] [.tmp 2]))) e (left (writes (cAt (codeOf Tryz.f81) [1,1,0,1,0,0])) [3,4] [] (Zef a0) s))=Ual (Uac (Zcn PZ a0) N ((0:Int),(0:Int))) (fun x=>Zic PZ N a0 x.1 x.2):=by
 refine Zbg Zfj Zj7 _ _ (Zv1 N a0) N ((0:Int),(0:Int)) _ _ ?_
 intro x;exact Zp3 N a0 x.1 x.2
theorem Zu2 (N:Nat) (a0:Array Value):ansV PZ (mkΓ []) N Tryz.f81 [([3,4],[])] [.g a0 37] []=(Ual (Uac (Zcn PZ a0) N ((0:Int),(0:Int))) (fun x=>Zic PZ N a0 x.1 x.2)):=by
 refine Eq.trans (b:=(Uag (Uac (Uai PZ (mkΓ []) N (cAt (codeOf Tryz.f81) [1,1,0,1,0,0]) (pAt (Uaa (codeOf Tryz.f81) [([3,4],[])]).1 [1,1,0,1,0]) [3,4] [] (Zef a0)) N ([.a (.i .i64 (0:Int)),.a (.i .i64 (0:Int))],[])) (fun e s=>(Uab 0 (kSeq (veC PZ (mkΓ []) N (cAt (codeOf Tryz.f81) [1,1,1]) (pAt (Uaa (codeOf Tryz.f81) [([3,4],[])]).1 [1,1,1]) (SV×Eff×Bool)) (finK PZ [] [.tmp 2]))) e (left (writes (cAt (codeOf Tryz.f81) [1,1,0,1,0,0])) [3,4] [] (Zef a0) s)))) (by kernel_rfl) ?_
 simp only [Zxc N a0]
theorem Ztt (a0:Array Value) (h_a0:WT PZ 37 a0) (hg:(true)=true):ansV PZ (mkΓ []) 1000 Tryz.f81 [([3,4],[])] [.g a0 37] []=some (.a (.b ((sumW a0 5==(12:Int)))),.none,true):=by
 have h:=Zdr (g:=Zcn PZ a0) (fun k=>(sumW a0 k,(k:Int))) (m:=5) (x:=(sumW a0 5,((5:Nat):Int))) (N:=1000) (fun k hk=>by
  have h1:decide ((k:Int)<5)=true:=Q3 (by omega)
  have h0:decide (0≤(k:Int))=true:=Q3 (by omega)
  have h3:i64.wrap ((k:Int)+1)=((k+1:Nat):Int):=by rw [IntWalk.i64_in _ (by omega)];omega
  have h4:((k:Int)).toNat=k:=Q9 k
  simp only [Zcn,h1,h0,Bool.and_self,h4,Q1,h3,sumW]) (by
  have h1:decide (((5:Nat):Int)<5)=false:=by decide
  simp only [Zcn,h1,Q2]) (by omega)
 refine (Zu2 1000 a0).trans ?_
 have h':Uac (Zcn PZ a0) 1000 ((0:Int),(0:Int))=some (sumW a0 5,((5:Nat):Int)):=h
 rw [h']
 rfl
def Zi9:Con:=fun args h=>match args,h with
 | [.g a0 37],[]=>some (.a (.b ((sumW a0 5==(12:Int)))),.none,true)
 | _,_=>none
theorem Zse:EntX PZ 81:=Zag (fn:=Tryz.f81) (by kernel_rfl) (by kernel_rfl) (by kernel_rfl)
theorem Zw8:Uad mn PZ 81 Zi9:=(Zai (N:=1000) (by kernel_rfl) mkΓ_nilX (fn:=Tryz.f81) (by kernel_rfl) (by kernel_rfl) [([3,4],[])]).of (by
 intro ρ h w args vals r e hA hH hr
 unfold Zi9 at hr
 split at hr
 ·rename_i a0
  obtain ⟨rfl,rfl,hg2⟩:=BQi hr
  exact Ztt a0 (hA.wt 0 rfl) hg2
 ·cases hr)
def Zok:Cons:=(mkΓ [(33,con Ziu),(117,con Zir),(118,con Zhm)])
theorem Zvs (N:Nat) (a0:Array Value) (a1:Int) (a2:Array Value):ansV PZ Zok N Tryz.f96 [] [.g a0 41,.i .i64 (a1),.g a2 37] []=(bif (Zan a0 a1) then (bif decide (0≤a1) then (bif (Zb7 a0 a1) then (some (.a (.b ((sumW a2 5==(12:Int)))),.none,true))
    else (some (.a (.b ((Ubb a2 (#[.int .u8 (0:Int),.int .u8 (0:Int),.int .u8 (0:Int),.int .u8 (0:Int),.int .u8 (0:Int)]:Array Value)))),.none,true)))
   else (none))
  else (some (.a (.b ((Ubb a2 (#[.int .u8 (0:Int),.int .u8 (0:Int),.int .u8 (0:Int),.int .u8 (0:Int),.int .u8 (0:Int)]:Array Value)))),.none,true))):=by kernel_rfl
def Zb3 (a0:Array Value) (a1:Int) (a2:Array Value):Bool:=(bif (Zan a0 a1) then (bif (Zb7 a0 a1) then (sumW a2 5==(12:Int)) else (Ubb a2 (#[.int .u8 (0:Int),.int .u8 (0:Int),.int .u8 (0:Int),.int .u8 (0:Int),.int .u8 (0:Int)]:Array Value))) else (Ubb a2 (#[.int .u8 (0:Int),.int .u8 (0:Int),.int .u8 (0:Int),.int .u8 (0:Int),.int .u8 (0:Int)]:Array Value)))
theorem Zt3 (a0:Array Value) (a1:Int) (a2:Array Value) (h_a0:WT PZ 41 a0) (h_a1:i64.min≤a1∧a1≤i64.max) (h_a2:WT PZ 37 a2) (hg:((bif (Zan a0 a1) then decide (0≤a1) else true))=true):ansV PZ Zok 1000 Tryz.f96 [] [.g a0 41,.i .i64 (a1),.g a2 37] []=some (.a (.b ((Zb3 a0 a1 a2))),.none,true):=by
 refine (Zvs 1000 a0 a1 a2).trans ?_
 unfold Zb3
 revert hg
 generalize ((Zan a0 a1))=b2
 intro hg
 cases b2
 ·skip
  first | (simp only [Q1,Q2,BQ6];done) | rfl | exact (nomatch (hg:false=true))
 ·skip
  revert hg
  generalize (decide (0≤a1))=b4
  intro hg
  cases b4
  ·skip
   first | exact (nomatch (hg:false=true)) | (simp only [Q1,Q2,BQ6];done) | rfl
  ·skip
   revert hg
   generalize ((Zb7 a0 a1))=b6
   intro hg
   cases b6
   ·skip
    first | (simp only [Q1,Q2,BQ6];done) | rfl | exact (nomatch (hg:false=true))
   ·skip
    first | (simp only [Q1,Q2,BQ6];done) | rfl | exact (nomatch (hg:false=true))
def Zjb:Con:=fun args h=>match args,h with
 | [.g a0 41,.i .i64 a1,.g a2 37],[]=>some (.a (.b ((Zb3 a0 a1 a2))),.none,(bif (Zan a0 a1) then decide (0≤a1) else true))
 | _,_=>none
theorem Zrt:EntX PZ 96:=Zag (fn:=Tryz.f96) (by kernel_rfl) (by kernel_rfl) (by kernel_rfl)
theorem Zxo:Uad mn PZ 96 Zjb:=(Zai (N:=1000) (by kernel_rfl) (mkΓ_consX (Zad Zsl) Znk (mkΓ_consX (Zad Zrg) Zno (mkΓ_consX (Zad Ztx) Zp2 mkΓ_nilX))) (fn:=Tryz.f96) (by kernel_rfl) (by kernel_rfl) []).of (by
 intro ρ h w args vals r e hA hH hr
 unfold Zjb at hr
 split at hr
 ·rename_i a0 a1 a2
  obtain ⟨rfl,rfl,hg2⟩:=BQi hr
  exact Zt3 a0 a1 a2 (hA.wt 0 rfl) (hA.rng 1 rfl) (hA.wt 2 rfl) hg2
 ·cases hr)
def chR (S:Array Value) (t k:Nat):Array Value:=S.extract (3+t*180+k*5) (3+t*180+k*5+5)
def fitS (S:Array Value) (t k:Nat):Bool:=bif inC (num S 0) (num S 1) k && !(bitI (num S 2) k) then (sumW (chR S t k) 5==(12:Int)) else Ubb (chR S t k) (#[.int .u8 (0:Int),.int .u8 (0:Int),.int .u8 (0:Int),.int .u8 (0:Int),.int .u8 (0:Int)]:Array Value)
def okD (S:Array Value):Bool:=decide (1≤num S 0)&&decide (num S 0≤6)&&(decide (1≤num S 1)&&decide (num S 1≤6))
def okS (S:Array Value):Bool:=okD S&&((Ua8 (num S 2) (Uau (num S 0) (num S 1) 36)==0)&&(List.range 36).all fun k=>fitS S 0 k&&fitS S 1 k)
theorem Ygn (n:Nat) (p:Nat→Bool):((List.range n).find? (fun k=> !(p k))).isNone=(List.range n).all p:=by
 rw [Bool.eq_iff_iff,Option.isNone_iff_eq_none,List.find?_eq_none,List.all_eq_true]
 simp
theorem all_two (n:Nat) (p q:Nat→Bool):(List.range n).all (fun k=>p k&&q k)=((List.range n).all p&&(List.range n).all q):=by
 rw [Bool.eq_iff_iff,Q7,List.all_eq_true,List.all_eq_true,List.all_eq_true]
 simp only [Q7]
 exact ⟨fun h=>⟨fun x hx=>(h x hx).1,fun x hx=>(h x hx).2⟩,fun h x hx=>⟨h.1 x hx,h.2 x hx⟩⟩
theorem Yn9 {S:Array Value} (h:WT PZ 41 S) {k:Nat} (hk:k<36):Zan S (k:Int)=inC (num S 0) (num S 1) k:=by rw [Ynt,Yh6 h hk]
theorem Yby {S:Array Value} (h:WT PZ 41 S) {k:Nat} (hk:k<36) (t:Nat):Zb3 S (k:Int) (chR S t k)=fitS S t k:=by
 unfold Zb3 fitS
 rw [Yn9 h hk]
 unfold Zb7
 rw [Yff hk]
 cases inC (num S 0) (num S 1) k<;>cases bitI (num S 2) k<;>rfl
theorem Ydg {S:Array Value} (h:WT PZ 41 S) {k:Nat} (hk:k<36):Zay (k:Int) S=true∧Zac (k:Int) S=(inC (num S 0) (num S 1) k && !(bitI (num S 2) k)):=by
 have hu:decide (0≤IntKind.u64.wrap (k:Int))=true:=Q3 (Zh7 .u64 _).1
 unfold Zay Zac
 rw [Yh6 h hk,Yk5 h hk]
 constructor
 ·cases inC (num S 0) (num S 1) k<;>simp [hu]
 ·cases inC (num S 0) (num S 1) k<;>simp
def Zc8:Cons:=(mkΓ [(67,con Zdy),(96,con Zjb)])
def Zek (a0:Array Value):St:=(⟨.a (.g a0 41) :: .a (.w 0) :: .a (.b (false)) :: .a (.u) :: .a (.p 0 (0) 22) :: .a (.i .i8 (num a0 0)) :: .a (.b (decide ((num a0 0)<(1:Int)))) :: .a (.b (false)) :: .a (.p 0 (0) 22) :: .a (.i .i8 (num a0 0)) :: .a (.b (decide ((num a0 0) > (6:Int)))) :: .a (.b (decide ((num a0 0) > (6:Int)))) :: .a (.b (false)) :: .a (.p 0 (1) 22) :: .a (.i .i8 (num a0 1)) :: .a (.b (decide ((num a0 1)<(1:Int)))) :: .a (.b (decide ((num a0 1)<(1:Int)))) :: .a (.b (false)) :: .a (.p 0 (1) 22) :: .a (.i .i8 (num a0 1)) :: .a (.b (decide ((num a0 1) > (6:Int)))) :: .a (.b (decide ((num a0 1) > (6:Int)))) :: .a (.p 0 (2) 23) :: .a (.i .u64 (num a0 2)) :: .a (.g a0 41) :: .a (.i .u64 (Uau (num a0 0) (num a0 1) 36)) :: .a (.i .u64 (IntKind.u64.wrap (BitVec.ofInt IntKind.u64.bits (num a0 2) &&& ~~~(BitVec.ofInt IntKind.u64.bits (Uau (num a0 0) (num a0 1) 36))).toNat)) :: .a (.b (((IntKind.u64.wrap (BitVec.ofInt IntKind.u64.bits (num a0 2) &&& ~~~(BitVec.ofInt IntKind.u64.bits (Uau (num a0 0) (num a0 1) 36))).toNat) != (0:Int)))) :: .a (.i .i64 (0:Int))::us 23 ([]),[.row a0 41,.no,.no,.no,.no,.no,.no,.no],[]⟩:St)
def Ze5:Bool×Int→LS
 | (y0_2,y0_28)=>([.a (.b (y0_2)),.a (.i .i64 (y0_28))],[])
def Zlm:(Stp (Bool×Int) (Bool×Int))→Exit×LS
 | .more t=>(.ret,Ze5 t)
 | .done t=>((.exit 0),Ze5 t)
def Zce (P:Program) (a0:Array Value):Bool×Int→Option (Stp (Bool×Int) (Stp (Bool×Int) (Bool×Int)))
  | (y0_2,y0_28)=>bif decide (y0_28<(36:Int)) then (bif (decide (0≤y0_28)&&decide (y0_28<36)) then (bif (bif (Zan a0 y0_28) then decide (0≤y0_28) else true) then (bif (!((Zb3 a0 y0_28 (a0.extract (3+((y0_28).toNat*5)) ((3+((y0_28).toNat*5))+5))))) then (some (.done (.more (false,y0_28))))
          else (bif (decide (0≤y0_28)&&decide (y0_28<36)) then (bif (bif (Zan a0 y0_28) then decide (0≤y0_28) else true) then (bif (!((Zb3 a0 y0_28 (a0.extract (183+((y0_28).toNat*5)) ((183+((y0_28).toNat*5))+5))))) then (some (.done (.more (false,y0_28))))
                else (some (.more (y0_2,(i64.wrap (y0_28+(1:Int)))))))
              else (none))
            else (none)))
        else (none))
      else (none))
    else (some (.done (.done (y0_2,y0_28))))
theorem Ya0 (N:Nat) (a0:Array Value):∀ t:Bool×Int,Uai PZ Zc8 N (cAt (codeOf Tryz.f70) [1,1,1,0,1,0,0]) (pAt (Uaa (codeOf Tryz.f70) [([2,28],[])]).1 [1,1,1,0,1,0]) [2,28] [] (Zek a0) (Ze5 t)=mapS Ze5 Zlm (Zce PZ a0 t):=by
  rintro ⟨y0_2,y0_28⟩
  refine Eq.trans (b:=(bif decide (y0_28<(36:Int)) then (bif (decide (0≤y0_28)&&decide (y0_28<36)) then (bif (bif (Zan a0 y0_28) then decide (0≤y0_28) else true) then (bif (!((Zb3 a0 y0_28 (a0.extract (3+((y0_28).toNat*5)) ((3+((y0_28).toNat*5))+5))))) then (some (.done (.ret,([.a (.b (false)),.a (.i .i64 (y0_28))],[]))))
          else (bif (decide (0≤y0_28)&&decide (y0_28<36)) then (bif (bif (Zan a0 y0_28) then decide (0≤y0_28) else true) then (bif (!((Zb3 a0 y0_28 (a0.extract (183+((y0_28).toNat*5)) ((183+((y0_28).toNat*5))+5))))) then (some (.done (.ret,([.a (.b (false)),.a (.i .i64 (y0_28))],[]))))
                else (some (.more ([.a (.b (y0_2)),.a (.i .i64 (i64.wrap (y0_28+(1:Int))))],[]))))
              else (none))
            else (none)))
        else (none))
      else (none))
    else (some (.done ((.exit 0),([.a (.b (y0_2)),.a (.i .i64 (y0_28))],[])))))) (by kernel_rfl) ?_
  simp only [Zce,Za3,Za4,Za5,Za2,Ze5,Zlm]
def Zj9 (P:Program) (N:Nat) (a0:Array Value) (z0_2:Bool) (z0_28:Int):Option (SV×Eff×Bool):=some (.a (.b (z0_2)),.none,true)
theorem Zra (N:Nat) (a0:Array Value) (z0_2:Bool) (z0_28:Int):(Uab 0 (kSeq (veC PZ Zc8 N (cAt (codeOf Tryz.f70) [1,1,1,1]) (pAt (Uaa (codeOf Tryz.f70) [([2,28],[])]).1 [1,1,1,1]) (SV×Eff×Bool)) (finK PZ [] [.tmp 2]))) .ret (left (writes (cAt (codeOf Tryz.f70) [1,1,1,0,1,0,0])) [2,28] [] (Zek a0) ([.a (.b (z0_2)),.a (.i .i64 (z0_28))],[]))=Zj9 PZ N a0 z0_2 z0_28:=by
 refine Eq.trans (b:=(some (.a (.b (z0_2)),.none,true))) (by kernel_rfl) ?_
 rfl
def Zkb (P:Program) (N:Nat) (a0:Array Value) (z0_2:Bool) (z0_28:Int):Option (SV×Eff×Bool):=some (.a (.b (true)),.none,true)
theorem Zq8 (N:Nat) (a0:Array Value) (z0_2:Bool) (z0_28:Int):(Uab 0 (kSeq (veC PZ Zc8 N (cAt (codeOf Tryz.f70) [1,1,1,1]) (pAt (Uaa (codeOf Tryz.f70) [([2,28],[])]).1 [1,1,1,1]) (SV×Eff×Bool)) (finK PZ [] [.tmp 2]))) (.exit 0) (left (writes (cAt (codeOf Tryz.f70) [1,1,1,0,1,0,0])) [2,28] [] (Zek a0) ([.a (.b (z0_2)),.a (.i .i64 (z0_28))],[]))=Zkb PZ N a0 z0_2 z0_28:=by
 refine Eq.trans (b:=(some (.a (.b (true)),.none,true))) (by kernel_rfl) ?_
 rfl
theorem Yav (N:Nat) (a0:Array Value):Uag (Uac (Uai PZ Zc8 N (cAt (codeOf Tryz.f70) [1,1,1,0,1,0,0]) (pAt (Uaa (codeOf Tryz.f70) [([2,28],[])]).1 [1,1,1,0,1,0]) [2,28] [] (Zek a0)) N ([.a (.b (false)),.a (.i .i64 (0:Int))],[])) (fun e s=>(Uab 0 (kSeq (veC PZ Zc8 N (cAt (codeOf Tryz.f70) [1,1,1,1]) (pAt (Uaa (codeOf Tryz.f70) [([2,28],[])]).1 [1,1,1,1]) (SV×Eff×Bool)) (finK PZ [] [.tmp 2]))) e (left (writes (cAt (codeOf Tryz.f70) [1,1,1,0,1,0,0])) [2,28] [] (Zek a0) s))=Ual (Uac (Zce PZ a0) N (false,(0:Int))) (st2 (fun x=>Zj9 PZ N a0 x.1 x.2) (fun x=>Zkb PZ N a0 x.1 x.2)):=by
 refine Zbg Ze5 Zlm _ _ (Ya0 N a0) N (false,(0:Int)) _ _ ?_
 intro x
 cases x with
 | more x=>exact Zra N a0 x.1 x.2
 | done x=>exact Zq8 N a0 x.1 x.2
theorem Zzr (N:Nat) (a0:Array Value):ansV PZ Zc8 N Tryz.f70 [([2,28],[])] [.g a0 41] []=(bif decide ((num a0 0)<(1:Int)) then (some (.a (.b (false)),.none,true))
    else (bif decide ((num a0 0) > (6:Int)) then (some (.a (.b (false)),.none,true))
      else (bif decide ((num a0 1)<(1:Int)) then (some (.a (.b (false)),.none,true))
        else (bif decide ((num a0 1) > (6:Int)) then (some (.a (.b (false)),.none,true))
          else (bif (decide (0≤num a0 0)&&decide (num a0 0≤6)&&(decide (0≤num a0 1)&&decide (num a0 1≤6))) then (bif ((IntKind.u64.wrap (BitVec.ofInt IntKind.u64.bits (num a0 2) &&& ~~~(BitVec.ofInt IntKind.u64.bits (Uau (num a0 0) (num a0 1) 36))).toNat) != (0:Int)) then (some (.a (.b (false)),.none,true))
              else (Ual (Uac (Zce PZ a0) N (false,(0:Int))) (st2 (fun x=>Zj9 PZ N a0 x.1 x.2) (fun x=>Zkb PZ N a0 x.1 x.2))))
            else (none)))))):=by
  refine Eq.trans (b:=(bif decide ((num a0 0)<(1:Int)) then (some (.a (.b (false)),.none,true))
    else (bif decide ((num a0 0) > (6:Int)) then (some (.a (.b (false)),.none,true))
      else (bif decide ((num a0 1)<(1:Int)) then (some (.a (.b (false)),.none,true))
        else (bif decide ((num a0 1) > (6:Int)) then (some (.a (.b (false)),.none,true))
          else (bif (decide (0≤num a0 0)&&decide (num a0 0≤6)&&(decide (0≤num a0 1)&&decide (num a0 1≤6))) then (bif ((IntKind.u64.wrap (BitVec.ofInt IntKind.u64.bits (num a0 2) &&& ~~~(BitVec.ofInt IntKind.u64.bits (Uau (num a0 0) (num a0 1) 36))).toNat) != (0:Int)) then (some (.a (.b (false)),.none,true))
              else (Uag (Uac (Uai PZ Zc8 N (cAt (codeOf Tryz.f70) [1,1,1,0,1,0,0]) (pAt (Uaa (codeOf Tryz.f70) [([2,28],[])]).1 [1,1,1,0,1,0]) [2,28] [] (Zek a0)) N ([.a (.b (false)),.a (.i .i64 (0:Int))],[])) (fun e s=>(Uab 0 (kSeq (veC PZ Zc8 N (cAt (codeOf Tryz.f70) [1,1,1,1]) (pAt (Uaa (codeOf Tryz.f70) [([2,28],[])]).1 [1,1,1,1]) (SV×Eff×Bool)) (finK PZ [] [.tmp 2]))) e (left (writes (cAt (codeOf Tryz.f70) [1,1,1,0,1,0,0])) [2,28] [] (Zek a0) s))))
            else (none))))))) (by kernel_rfl) ?_
  simp only [Yav N a0]
theorem Zw7 (a0:Array Value) (h_a0:WT PZ 41 a0) (hg:(true)=true):ansV PZ Zc8 1000 Tryz.f70 [([2,28],[])] [.g a0 41] []=some (.a (.b ((okS a0))),.none,true):=by
 refine (Zzr 1000 a0).trans ?_
 have h:=Ycl (g:=Zce PZ a0) (fun k=>(false,(k:Int))) (fun k=> !(fitS a0 0 k&&fitS a0 1 k)) 36 (N:=1000) (by omega) (xd:=.done (false,((36:Nat):Int))) (fun k=>.more (false,(k:Int))) (fun k hk hp=>by
  have h1:decide ((k:Int)<36)=true:=Q3 (by omega)
  have h0:decide (0≤(k:Int))=true:=Q3 (by omega)
  have h3:i64.wrap ((k:Int)+1)=((k+1:Nat):Int):=by rw [IntWalk.i64_in _ (by omega)];omega
  have f0:=Yby h_a0 hk 0
  have f1:=Yby h_a0 hk 1
  unfold chR at f0 f1
  rw [show 3+0*180+k*5=3+k*5 by omega] at f0
  rw [show 3+1*180+k*5=183+k*5 by omega] at f1
  have hg:(bif Zan a0 (k:Int) then true else true)=true:=by cases Zan a0 (k:Int)<;>rfl
  simp only [Bool.not_eq_false',Q7] at hp
  simp only [Zce,h1,h0,h3,Bool.and_self,Q1,Q9,hg,f0,f1,hp.1,hp.2,Bool.not_true,Q2]) (fun k hk hp=>by
  have h1:decide ((k:Int)<36)=true:=Q3 (by omega)
  have h0:decide (0≤(k:Int))=true:=Q3 (by omega)
  have f0:=Yby h_a0 hk 0
  have f1:=Yby h_a0 hk 1
  unfold chR at f0 f1
  rw [show 3+0*180+k*5=3+k*5 by omega] at f0
  rw [show 3+1*180+k*5=183+k*5 by omega] at f1
  have hg:(bif Zan a0 (k:Int) then true else true)=true:=by cases Zan a0 (k:Int)<;>rfl
  cases e0:fitS a0 0 k with
  | false=>simp only [Zce,h1,h0,Bool.and_self,Q1,Q9,hg,f0,e0,Bool.not_false]
  | true=>
   rw [e0] at hp
   have e1:fitS a0 1 k=false:=by simpa using hp
   simp only [Zce,h1,h0,Bool.and_self,Q1,Q9,hg,f0,f1,e0,e1,Bool.not_false,Bool.not_true,Q2]) (by
  have h1:decide (((36:Nat):Int)<36)=false:=by decide
  simp only [Zce,h1,Q2])
 have h':Uac (Zce PZ a0) 1000 (false,(0:Int))=some (match (List.range 36).find? (fun k=> !(fitS a0 0 k&&fitS a0 1 k)) with | some k=>.more (false,(k:Int)) | none=>.done (false,((36:Nat):Int))):=h
 have hf:=Ygn 36 (fun k=>fitS a0 0 k&&fitS a0 1 k)
 unfold okS okD
 by_cases d1:1≤num a0 0
 ·rw [Q3 d1,Q4 (show ¬ num a0 0<1 by omega)]
  by_cases d2:num a0 0≤6
  ·rw [Q3 d2,Q4 (show ¬ num a0 0 > 6 by omega)]
   by_cases d3:1≤num a0 1
   ·rw [Q3 d3,Q4 (show ¬ num a0 1<1 by omega)]
    by_cases d4:num a0 1≤6
    ·rw [Q3 d4,Q4 (show ¬ num a0 1 > 6 by omega),Q3 (show 0≤num a0 0 by omega),Q3 (show 0≤num a0 1 by omega)]
     simp only [Bool.and_self,Q1,Q2,Bool.true_and,h']
     rw [show IntKind.u64.wrap (BitVec.ofInt IntKind.u64.bits (num a0 2) &&& ~~~(BitVec.ofInt IntKind.u64.bits (Uau (num a0 0) (num a0 1) 36))).toNat=Ua8 (num a0 2) (Uau (num a0 0) (num a0 1) 36) from rfl]
     cases hb:(Ua8 (num a0 2) (Uau (num a0 0) (num a0 1) 36)==0) with
     | false=>rw [show (Ua8 (num a0 2) (Uau (num a0 0) (num a0 1) 36) != 0)=true by simp [bne,hb]];rfl
     | true=>
      rw [show (Ua8 (num a0 2) (Uau (num a0 0) (num a0 1) 36) != 0)=false by simp [bne,hb],← hf]
      cases (List.range 36).find? (fun k=> !(fitS a0 0 k&&fitS a0 1 k))<;>rfl
    ·rw [Q4 d4,Q3 (show num a0 1 > 6 by omega)];rfl
   ·rw [Q4 d3,Q3 (show num a0 1<1 by omega)];rfl
  ·rw [Q4 d2,Q3 (show num a0 0 > 6 by omega)];rfl
 ·rw [Q4 d1,Q3 (show num a0 0<1 by omega)];rfl
def Zkj:Con:=fun args h=>match args,h with
 | [.g a0 41],[]=>some (.a (.b ((okS a0))),.none,true)
 | _,_=>none
theorem Zux:EntX PZ 70:=Zag (fn:=Tryz.f70) (by kernel_rfl) (by kernel_rfl) (by kernel_rfl)
theorem Ybc:Uad mn PZ 70 Zkj:=(Zai (N:=1000) (by kernel_rfl) (mkΓ_consX (Zad Zla) Zi7 (mkΓ_consX (Zad Zxo) Zrt mkΓ_nilX)) (fn:=Tryz.f70) (by kernel_rfl) (by kernel_rfl) [([2,28],[])]).of (by
 intro ρ h w args vals r e hA hH hr
 unfold Zkj at hr
 split at hr
 ·rename_i a0
  obtain ⟨rfl,rfl,hg2⟩:=BQi hr
  exact Zw7 a0 (hA.wt 0 rfl) hg2
 ·cases hr)
def Zb1:Cons:=(mkΓ [(38,con Zf3),(47,con Zc7),(55,con Zho),(81,con Zi9)])
def Zf8 (a0:Array Value) (y0_2:Bool) (y0_3:Int):St:=(⟨.a (.w 0) :: .a (.u) :: .a (.b (y0_2)) :: .a (.i .i64 (y0_3)) :: .a (.i .i64 (0:Int)) :: .a (.x) :: .a (.w 0) :: .a (.w 0) :: .a (.p 0 (0) 22) :: .a (.i .i8 (num a0 0)) :: .a (.i .i64 (i64.wrap (num a0 0))) :: .a (.b ((Zaa (i64.wrap (num a0 0)) (1:Int) (6:Int)))) :: .a (.b ((!((Zaa (i64.wrap (num a0 0)) (1:Int) (6:Int)))))) :: .a (.b (false)) :: .a (.w 0) :: .a (.w 0) :: .a (.p 0 (1) 22) :: .a (.i .i8 (num a0 1)) :: .a (.i .i64 (i64.wrap (num a0 1))) :: .a (.b ((Zaa (i64.wrap (num a0 1)) (1:Int) (6:Int)))) :: .a (.b ((!((Zaa (i64.wrap (num a0 1)) (1:Int) (6:Int)))))) :: .a (.b ((!((Zaa (i64.wrap (num a0 1)) (1:Int) (6:Int)))))) :: .a (.b (false)) :: .a (.w 0) :: .a (.w 0) :: .a (.p 0 (2) 23) :: .a (.i .u64 (num a0 2)) :: .a (.w 0) :: .a (.i .u64 (Uau (num a0 0) (num a0 1) 36)) :: .a (.i .u64 (IntKind.u64.wrap (BitVec.ofInt IntKind.u64.bits (num a0 2) &&& ~~~(BitVec.ofInt IntKind.u64.bits (Uau (num a0 0) (num a0 1) 36))).toNat)) :: .a (.b (((IntKind.u64.wrap (BitVec.ofInt IntKind.u64.bits (num a0 2) &&& ~~~(BitVec.ofInt IntKind.u64.bits (Uau (num a0 0) (num a0 1) 36))).toNat) != (0:Int)))) :: .a (.b (((IntKind.u64.wrap (BitVec.ofInt IntKind.u64.bits (num a0 2) &&& ~~~(BitVec.ofInt IntKind.u64.bits (Uau (num a0 0) (num a0 1) 36))).toNat) != (0:Int)))) :: .a (.i .i64 (y0_3)) :: .a (.b (decide (y0_3<(2:Int))))::xs 33 ([]),[.row a0 41,.no,.no,.no,.no,.no,.no,.no,.no,.no,.no,.no,.no,.no,.no,.no,.no,.no,.no,.no,.no,.no,.no,.no,.no,.no,.no],[]⟩:St)
def Zh1:Bool×Int→LS
 | (y1_2,y1_4)=>([.a (.b (y1_2)),.a (.i .i64 (y1_4))],[])
def Zpx:(Stp (Bool×Int) (Bool×Int))→Exit×LS
 | .more t=>(.ret,Zh1 t)
 | .done t=>((.exit 2),Zh1 t)
def Zdb (P : Program) (a0 : Array Value) (y0_2 : Bool) (y0_3 : Int) : Bool × Int → Option (Stp (Bool × Int) (Stp (Bool × Int) (Bool × Int)))
  | (y1_2, y1_4) => bif decide (y1_4 < (36 : Int)) then (bif (decide (0 ≤ y0_3) && decide (y0_3 < 2)) then (bif (decide (0 ≤ y1_4) && decide (y1_4 < 36)) then (bif (Zay y1_4 a0) then (bif (Zac y1_4 a0) then (bif (!((sumW (a0.extract ((3 + ((y0_3).toNat * 180)) + ((y1_4).toNat * 5)) (((3 + ((y0_3).toNat * 180)) + ((y1_4).toNat * 5)) + 5)) 5 == (12 : Int)))) then (some (.done (.more (false, y1_4))))
              else (bif (Zay y1_4 a0) then (bif (!((Zac y1_4 a0))) then (bif (!(Ubb (a0.extract ((3 + ((y0_3).toNat * 180)) + ((y1_4).toNat * 5)) (((3 + ((y0_3).toNat * 180)) + ((y1_4).toNat * 5)) + 5)) (#[.int .u8 (0 : Int), .int .u8 (0 : Int), .int .u8 (0 : Int), .int .u8 (0 : Int), .int .u8 (0 : Int)] : Array Value))) then (some (.done (.more (false, y1_4))))
                    else (some (.more (y1_2, (i64.wrap (y1_4 + (1 : Int)))))))
                  else (some (.more (y1_2, (i64.wrap (y1_4 + (1 : Int)))))))
                else (none)))
            else (bif (Zay y1_4 a0) then (bif (!((Zac y1_4 a0))) then (bif (!(Ubb (a0.extract ((3 + ((y0_3).toNat * 180)) + ((y1_4).toNat * 5)) (((3 + ((y0_3).toNat * 180)) + ((y1_4).toNat * 5)) + 5)) (#[.int .u8 (0 : Int), .int .u8 (0 : Int), .int .u8 (0 : Int), .int .u8 (0 : Int), .int .u8 (0 : Int)] : Array Value))) then (some (.done (.more (false, y1_4))))
                  else (some (.more (y1_2, (i64.wrap (y1_4 + (1 : Int)))))))
                else (some (.more (y1_2, (i64.wrap (y1_4 + (1 : Int)))))))
              else (none)))
          else (none))
        else (none))
      else (none))
    else (some (.done (.done (y1_2, y1_4))))
theorem Ygk (N:Nat) (a0:Array Value) (y0_2:Bool) (y0_3:Int):∀ t:Bool×Int,Uai PZ Zb1 N (cAt (codeOf Tryz.f53) [1,1,0,1,0,0,1,0,0,1,0,0]) (pAt (Uaa (codeOf Tryz.f53) [([2,3],[]),([2,4],[])]).1 [1,1,0,1,0,1,0,1,0]) [2,4] [] (Zf8 a0 y0_2 y0_3) (Zh1 t)=mapS Zh1 Zpx (Zdb PZ a0 y0_2 y0_3 t):=by
  rintro ⟨y1_2,y1_4⟩
  refine Eq.trans (b:=(bif decide (y1_4<(36:Int)) then (bif (decide (0≤y0_3)&&decide (y0_3<2)) then (bif (decide (0≤y1_4)&&decide (y1_4<36)) then (bif (Zay y1_4 a0) then (bif (Zac y1_4 a0) then (bif (!((sumW (a0.extract ((3+((y0_3).toNat*180))+((y1_4).toNat*5)) (((3+((y0_3).toNat*180))+((y1_4).toNat*5))+5)) 5==(12:Int)))) then (some (.done (.ret,([.a (.b (false)),.a (.i .i64 (y1_4))],[]))))
              else (bif (Zay y1_4 a0) then (bif (!((Zac y1_4 a0))) then (bif (!(Ubb (a0.extract ((3+((y0_3).toNat*180))+((y1_4).toNat*5)) (((3+((y0_3).toNat*180))+((y1_4).toNat*5))+5)) (#[.int .u8 (0:Int),.int .u8 (0:Int),.int .u8 (0:Int),.int .u8 (0:Int),.int .u8 (0:Int)]:Array Value))) then (some (.done (.ret,([.a (.b (false)),.a (.i .i64 (y1_4))],[]))))
                    else (some (.more ([.a (.b (y1_2)),.a (.i .i64 (i64.wrap (y1_4+(1:Int))))],[]))))
                  else (some (.more ([.a (.b (y1_2)),.a (.i .i64 (i64.wrap (y1_4+(1:Int))))],[]))))
                else (none)))
            else (bif (Zay y1_4 a0) then (bif (!((Zac y1_4 a0))) then (bif (!(Ubb (a0.extract ((3+((y0_3).toNat*180))+((y1_4).toNat*5)) (((3+((y0_3).toNat*180))+((y1_4).toNat*5))+5)) (#[.int .u8 (0:Int),.int .u8 (0:Int),.int .u8 (0:Int),.int .u8 (0:Int),.int .u8 (0:Int)]:Array Value))) then (some (.done (.ret,([.a (.b (false)),.a (.i .i64 (y1_4))],[]))))
                  else (some (.more ([.a (.b (y1_2)),.a (.i .i64 (i64.wrap (y1_4+(1:Int))))],[]))))
                else (some (.more ([.a (.b (y1_2)),.a (.i .i64 (i64.wrap (y1_4+(1:Int))))],[]))))
              else (none)))
          else (none))
        else (none))
      else (none))
    else (some (.done ((.exit 2),([.a (.b (y1_2)),.a (.i .i64 (y1_4))],[])))))) (by kernel_rfl) ?_
  simp only [Zdb,Za3,Za4,Za5,Za2,Zh1,Zpx]
def Zga (a0:Array Value):St:=(⟨.a (.w 0) :: .a (.u) :: .a (.b (false)) :: .a (.i .i64 (0:Int)) :: .a (.u) :: .a (.u) :: .a (.w 0) :: .a (.w 0) :: .a (.p 0 (0) 22) :: .a (.i .i8 (num a0 0)) :: .a (.i .i64 (i64.wrap (num a0 0))) :: .a (.b ((Zaa (i64.wrap (num a0 0)) (1:Int) (6:Int)))) :: .a (.b ((!((Zaa (i64.wrap (num a0 0)) (1:Int) (6:Int)))))) :: .a (.b (false)) :: .a (.w 0) :: .a (.w 0) :: .a (.p 0 (1) 22) :: .a (.i .i8 (num a0 1)) :: .a (.i .i64 (i64.wrap (num a0 1))) :: .a (.b ((Zaa (i64.wrap (num a0 1)) (1:Int) (6:Int)))) :: .a (.b ((!((Zaa (i64.wrap (num a0 1)) (1:Int) (6:Int)))))) :: .a (.b ((!((Zaa (i64.wrap (num a0 1)) (1:Int) (6:Int)))))) :: .a (.b (false)) :: .a (.w 0) :: .a (.w 0) :: .a (.p 0 (2) 23) :: .a (.i .u64 (num a0 2)) :: .a (.w 0) :: .a (.i .u64 (Uau (num a0 0) (num a0 1) 36)) :: .a (.i .u64 (IntKind.u64.wrap (BitVec.ofInt IntKind.u64.bits (num a0 2) &&& ~~~(BitVec.ofInt IntKind.u64.bits (Uau (num a0 0) (num a0 1) 36))).toNat)) :: .a (.b (((IntKind.u64.wrap (BitVec.ofInt IntKind.u64.bits (num a0 2) &&& ~~~(BitVec.ofInt IntKind.u64.bits (Uau (num a0 0) (num a0 1) 36))).toNat) != (0:Int)))) :: .a (.b (((IntKind.u64.wrap (BitVec.ofInt IntKind.u64.bits (num a0 2) &&& ~~~(BitVec.ofInt IntKind.u64.bits (Uau (num a0 0) (num a0 1) 36))).toNat) != (0:Int))))::us 35 ([]),[.row a0 41,.no,.no,.no,.no,.no,.no,.no,.no,.no,.no,.no,.no,.no,.no,.no,.no,.no,.no,.no,.no,.no,.no,.no,.no,.no,.no],[]⟩:St)
def Zcy:Bool×Int→LS
 | (y0_2,y0_3)=>([.a (.b (y0_2)),.a (.i .i64 (y0_3))],[])
def Zeq:(Stp (Bool×Int) (Bool×Int))→Exit×LS
 | .more t=>(.ret,Zcy t)
 | .done t=>((.exit 0),Zcy t)
def Zhk (P:Program) (N:Nat) (a0:Array Value) (y0_2:Bool) (y0_3:Int) (z1_2:Bool) (z1_4:Int):Option (Stp (Bool×Int) (Stp (Bool×Int) (Bool×Int))):=some (.done (.more (z1_2,y0_3)))
theorem Zxj (N:Nat) (a0:Array Value) (y0_2:Bool) (y0_3:Int) (z1_2:Bool) (z1_4:Int):(Uab 2 (Uab 1 (kSeq (veC PZ Zb1 N (cAt (codeOf Tryz.f53) [1,1,0,1,0,0,1,1]) (pAt (Uaa (codeOf Tryz.f53) [([2,3],[]),([2,4],[])]).1 [1,1,0,1,0,1,1]) (Stp LS (Exit×LS))) (Ucg 27 [2,3] [])))) .ret (left (writes (cAt (codeOf Tryz.f53) [1,1,0,1,0,0,1,0,0,1,0,0])) [2,4] [] (Zf8 a0 y0_2 y0_3) ([.a (.b (z1_2)),.a (.i .i64 (z1_4))],[]))=mapS Zcy Zeq (Zhk PZ N a0 y0_2 y0_3 z1_2 z1_4):=by
 refine Eq.trans (b:=(some (.done (.ret,([.a (.b (z1_2)),.a (.i .i64 (y0_3))],[]))))) (by kernel_rfl) ?_
 simp only [Zhk,Za3,Za4,Za5,Za2,Zcy,Zeq]
def Zhe (P:Program) (N:Nat) (a0:Array Value) (y0_2:Bool) (y0_3:Int) (z1_2:Bool) (z1_4:Int):Option (Stp (Bool×Int) (Stp (Bool×Int) (Bool×Int))):=some (.more (z1_2,(i64.wrap (y0_3+(1:Int)))))
theorem Zxf (N:Nat) (a0:Array Value) (y0_2:Bool) (y0_3:Int) (z1_2:Bool) (z1_4:Int):(Uab 2 (Uab 1 (kSeq (veC PZ Zb1 N (cAt (codeOf Tryz.f53) [1,1,0,1,0,0,1,1]) (pAt (Uaa (codeOf Tryz.f53) [([2,3],[]),([2,4],[])]).1 [1,1,0,1,0,1,1]) (Stp LS (Exit×LS))) (Ucg 27 [2,3] [])))) (.exit 2) (left (writes (cAt (codeOf Tryz.f53) [1,1,0,1,0,0,1,0,0,1,0,0])) [2,4] [] (Zf8 a0 y0_2 y0_3) ([.a (.b (z1_2)),.a (.i .i64 (z1_4))],[]))=mapS Zcy Zeq (Zhe PZ N a0 y0_2 y0_3 z1_2 z1_4):=by
 refine Eq.trans (b:=(some (.more ([.a (.b (z1_2)),.a (.i .i64 (i64.wrap (y0_3+(1:Int))))],[])))) (by kernel_rfl) ?_
 simp only [Zhe,Za3,Za4,Za5,Za2,Zcy,Zeq]
theorem Yg3 (N:Nat) (a0:Array Value) (y0_2:Bool) (y0_3:Int):Uag (Uac (Uai PZ Zb1 N (cAt (codeOf Tryz.f53) [1,1,0,1,0,0,1,0,0,1,0,0]) (pAt (Uaa (codeOf Tryz.f53) [([2,3],[]),([2,4],[])]).1 [1,1,0,1,0,1,0,1,0]) [2,4] [] (Zf8 a0 y0_2 y0_3)) N ([.a (.b (y0_2)),.a (.i .i64 (0:Int))],[])) (fun e s=>(Uab 2 (Uab 1 (kSeq (veC PZ Zb1 N (cAt (codeOf Tryz.f53) [1,1,0,1,0,0,1,1]) (pAt (Uaa (codeOf Tryz.f53) [([2,3],[]),([2,4],[])]).1 [1,1,0,1,0,1,1]) (Stp LS (Exit×LS))) (Ucg 27 [2,3] [])))) e (left (writes (cAt (codeOf Tryz.f53) [1,1,0,1,0,0,1,0,0,1,0,0])) [2,4] [] (Zf8 a0 y0_2 y0_3) s))=mapS Zcy Zeq (Ual (Uac (Zdb PZ a0 y0_2 y0_3) N (y0_2,(0:Int))) (st2 (fun x=>Zhk PZ N a0 y0_2 y0_3 x.1 x.2) (fun x=>Zhe PZ N a0 y0_2 y0_3 x.1 x.2))):=by
 have h:=Zbg (α:=Stp LS (Exit×LS)) Zh1 Zpx _ _ (Ygk N a0 y0_2 y0_3) N (y0_2,(0:Int))
 rw [Zzz Zcy Zeq]
 refine h _ _ ?_
 intro x
 cases x with
 | more x=>exact Zxj N a0 y0_2 y0_3 x.1 x.2
 | done x=>exact Zxf N a0 y0_2 y0_3 x.1 x.2
def Zer (P:Program) (N:Nat) (a0:Array Value):Bool×Int→Option (Stp (Bool×Int) (Stp (Bool×Int) (Bool×Int)))
 | (y0_2,y0_3)=>bif decide (y0_3<(2:Int)) then (Ual (Uac (Zdb P a0 y0_2 y0_3) N (y0_2,(0:Int))) (st2 (fun x=>Zhk P N a0 y0_2 y0_3 x.1 x.2) (fun x=>Zhe P N a0 y0_2 y0_3 x.1 x.2)))
  else (some (.done (.done (y0_2,y0_3))))
theorem Yhu (N:Nat) (a0:Array Value):∀ t:Bool×Int,Uai PZ Zb1 N (cAt (codeOf Tryz.f53) [1,1,0,1,0,0]) (pAt (Uaa (codeOf Tryz.f53) [([2,3],[]),([2,4],[])]).1 [1,1,0,1,0]) [2,3] [] (Zga a0) (Zcy t)=mapS Zcy Zeq (Zer PZ N a0 t):=by
 rintro ⟨y0_2,y0_3⟩
 refine Eq.trans (b:=(bif decide (y0_3<(2:Int)) then (Uag (Uac (Uai PZ Zb1 N (cAt (codeOf Tryz.f53) [1,1,0,1,0,0,1,0,0,1,0,0]) (pAt (Uaa (codeOf Tryz.f53) [([2,3],[]),([2,4],[])]).1 [1,1,0,1,0,1,0,1,0]) [2,4] [] (Zf8 a0 y0_2 y0_3)) N ([.a (.b (y0_2)),.a (.i .i64 (0:Int))],[])) (fun e s=>(Uab 2 (Uab 1 (kSeq (veC PZ Zb1 N (cAt (codeOf Tryz.f53) [1,1,0,1,0,0,1,1]) (pAt (Uaa (codeOf Tryz.f53) [([2,3],[]),([2,4],[])]).1 [1,1,0,1,0,1,1]) (Stp LS (Exit×LS))) (Ucg 27 [2,3] [])))) e (left (writes (cAt (codeOf Tryz.f53) [1,1,0,1,0,0,1,0,0,1,0,0])) [2,4] [] (Zf8 a0 y0_2 y0_3) s)))
  else (some (.done ((.exit 0),([.a (.b (y0_2)),.a (.i .i64 (y0_3))],[])))))) (by kernel_rfl) ?_
 simp only [Yg3 N a0 y0_2 y0_3,Zer,Za3,Za4,Za5,Za2,Zcy,Zeq]
def Zm6 (P:Program) (N:Nat) (a0:Array Value) (z0_2:Bool) (z0_3:Int):Option (SV×Eff×Bool):=some (.a (.b (z0_2)),.none,true)
theorem Zx9 (N:Nat) (a0:Array Value) (z0_2:Bool) (z0_3:Int):(Uab 0 (kSeq (veC PZ Zb1 N (cAt (codeOf Tryz.f53) [1,1,1]) (pAt (Uaa (codeOf Tryz.f53) [([2,3],[]),([2,4],[])]).1 [1,1,1]) (SV×Eff×Bool)) (finK PZ [.row a0 41] [.tmp 2]))) .ret (left (writes (cAt (codeOf Tryz.f53) [1,1,0,1,0,0])) [2,3] [] (Zga a0) ([.a (.b (z0_2)),.a (.i .i64 (z0_3))],[]))=Zm6 PZ N a0 z0_2 z0_3:=by
 refine Eq.trans (b:=(some (.a (.b (z0_2)),.none,true))) (by kernel_rfl) ?_
 rfl
def Zmp (P:Program) (N:Nat) (a0:Array Value) (z0_2:Bool) (z0_3:Int):Option (SV×Eff×Bool):=some (.a (.b (true)),.none,true)
theorem Zxq (N:Nat) (a0:Array Value) (z0_2:Bool) (z0_3:Int):(Uab 0 (kSeq (veC PZ Zb1 N (cAt (codeOf Tryz.f53) [1,1,1]) (pAt (Uaa (codeOf Tryz.f53) [([2,3],[]),([2,4],[])]).1 [1,1,1]) (SV×Eff×Bool)) (finK PZ [.row a0 41] [.tmp 2]))) (.exit 0) (left (writes (cAt (codeOf Tryz.f53) [1,1,0,1,0,0])) [2,3] [] (Zga a0) ([.a (.b (z0_2)),.a (.i .i64 (z0_3))],[]))=Zmp PZ N a0 z0_2 z0_3:=by
 refine Eq.trans (b:=(some (.a (.b (true)),.none,true))) (by kernel_rfl) ?_
 rfl
theorem Ygj (N:Nat) (a0:Array Value):Uag (Uac (Uai PZ Zb1 N (cAt (codeOf Tryz.f53) [1,1,0,1,0,0]) (pAt (Uaa (codeOf Tryz.f53) [([2,3],[]),([2,4],[])]).1 [1,1,0,1,0]) [2,3] [] (Zga a0)) N ([.a (.b (false)),.a (.i .i64 (0:Int))],[])) (fun e s=>(Uab 0 (kSeq (veC PZ Zb1 N (cAt (codeOf Tryz.f53) [1,1,1]) (pAt (Uaa (codeOf Tryz.f53) [([2,3],[]),([2,4],[])]).1 [1,1,1]) (SV×Eff×Bool)) (finK PZ [.row a0 41] [.tmp 2]))) e (left (writes (cAt (codeOf Tryz.f53) [1,1,0,1,0,0])) [2,3] [] (Zga a0) s))=Ual (Uac (Zer PZ N a0) N (false,(0:Int))) (st2 (fun x=>Zm6 PZ N a0 x.1 x.2) (fun x=>Zmp PZ N a0 x.1 x.2)):=by
 refine Zbg Zcy Zeq _ _ (Yhu N a0) N (false,(0:Int)) _ _ ?_
 intro x
 cases x with
 | more x=>exact Zx9 N a0 x.1 x.2
 | done x=>exact Zxq N a0 x.1 x.2
theorem Yey (N:Nat) (a0:Array Value):ansV PZ Zb1 N Tryz.f53 [([2,3],[]),([2,4],[])] [.w 0] [.row a0 41]=(bif (!((Zaa (i64.wrap (num a0 0)) (1:Int) (6:Int)))) then (some (.a (.b (false)),.none,true))
  else (bif (!((Zaa (i64.wrap (num a0 1)) (1:Int) (6:Int)))) then (some (.a (.b (false)),.none,true))
   else (bif ((IntKind.u64.wrap (BitVec.ofInt IntKind.u64.bits (num a0 2) &&& ~~~(BitVec.ofInt IntKind.u64.bits (Uau (num a0 0) (num a0 1) 36))).toNat) != (0:Int)) then (some (.a (.b (false)),.none,true))
    else (Ual (Uac (Zer PZ N a0) N (false,(0:Int))) (st2 (fun x=>Zm6 PZ N a0 x.1 x.2) (fun x=>Zmp PZ N a0 x.1 x.2)))))):=by
 refine Eq.trans (b:=(bif (!((Zaa (i64.wrap (num a0 0)) (1:Int) (6:Int)))) then (some (.a (.b (false)),.none,true))
  else (bif (!((Zaa (i64.wrap (num a0 1)) (1:Int) (6:Int)))) then (some (.a (.b (false)),.none,true))
   else (bif ((IntKind.u64.wrap (BitVec.ofInt IntKind.u64.bits (num a0 2) &&& ~~~(BitVec.ofInt IntKind.u64.bits (Uau (num a0 0) (num a0 1) 36))).toNat) != (0:Int)) then (some (.a (.b (false)),.none,true))
    else (Uag (Uac (Uai PZ Zb1 N (cAt (codeOf Tryz.f53) [1,1,0,1,0,0]) (pAt (Uaa (codeOf Tryz.f53) [([2,3],[]),([2,4],[])]).1 [1,1,0,1,0]) [2,3] [] (Zga a0)) N ([.a (.b (false)),.a (.i .i64 (0:Int))],[])) (fun e s=>(Uab 0 (kSeq (veC PZ Zb1 N (cAt (codeOf Tryz.f53) [1,1,1]) (pAt (Uaa (codeOf Tryz.f53) [([2,3],[]),([2,4],[])]).1 [1,1,1]) (SV×Eff×Bool)) (finK PZ [.row a0 41] [.tmp 2]))) e (left (writes (cAt (codeOf Tryz.f53) [1,1,0,1,0,0])) [2,3] [] (Zga a0) s))))))) (by kernel_rfl) ?_
 simp only [Ygj N a0]
theorem Yme {S:Array Value} (h:WT PZ 41 S) {t:Nat} (ht:t<2) (b:Bool):Uac (Zdb PZ S b (t:Int)) 1000 (b,(0:Int))=some (match (List.range 36).find? (fun k=> !(fitS S t k)) with | some k=>.more (false,(k:Int)) | none=>.done (b,((36:Nat):Int))):=by
 have htt:decide (0≤(t:Int))=true:=Q3 (by omega)
 have ht2:decide ((t:Int)<2)=true:=Q3 (by omega)
 exact Ycl (g:=Zdb PZ S b (t:Int)) (fun k=>(b,(k:Int))) (fun k=> !(fitS S t k)) 36 (N:=1000) (by omega) (xd:=.done (b,((36:Nat):Int))) (fun k=>.more (false,(k:Int))) (fun k hk hp=>by
  have h1:decide ((k:Int)<36)=true:=Q3 (by omega)
  have h0:decide (0≤(k:Int))=true:=Q3 (by omega)
  have h3:i64.wrap ((k:Int)+1)=((k+1:Nat):Int):=by rw [IntWalk.i64_in _ (by omega)];omega
  obtain ⟨w1,w2⟩:=Ydg h hk
  rw [Bool.not_eq_false'] at hp
  unfold fitS chR at hp
  rw [← w2] at hp
  cases hw:Zac (k:Int) S with
  | false=>
   rw [hw] at hp
   simp only [Q2] at hp
   simp only [Zdb,h1,h0,h3,htt,ht2,w1,hw,Bool.and_self,Bool.not_false,Q1,Q2,Q9,hp,Bool.not_true]
  | true=>
   rw [hw] at hp
   simp only [Q1] at hp
   simp only [Zdb,h1,h0,h3,htt,ht2,w1,hw,Bool.and_self,Bool.not_true,Q1,Q2,Q9,hp]) (fun k hk hp=>by
  have h1:decide ((k:Int)<36)=true:=Q3 (by omega)
  have h0:decide (0≤(k:Int))=true:=Q3 (by omega)
  obtain ⟨w1,w2⟩:=Ydg h hk
  rw [Bool.not_eq_true'] at hp
  unfold fitS chR at hp
  rw [← w2] at hp
  cases hw:Zac (k:Int) S with
  | false=>
   rw [hw] at hp
   simp only [Q2] at hp
   simp only [Zdb,h1,h0,htt,ht2,w1,hw,Bool.and_self,Bool.not_false,Q1,Q2,Q9,hp]
  | true=>
   rw [hw] at hp
   simp only [Q1] at hp
   simp only [Zdb,h1,h0,htt,ht2,w1,hw,Bool.and_self,Bool.not_true,Bool.not_false,Q1,Q2,Q9,hp]) (by
  have h1:decide (((36:Nat):Int)<36)=false:=by decide
  simp only [Zdb,h1,Q2])
theorem Yc1 (a0:Array Value) (h_a0:WT PZ 41 a0) (hg:(true)=true):ansV PZ Zb1 1000 Tryz.f53 [([2,3],[]),([2,4],[])] [.w 0] [.row a0 41]=some (.a (.b ((okS a0))),.none,true):=by
 refine (Yey 1000 a0).trans ?_
 obtain ⟨s0,b0,b1⟩:=h_a0.int (o:=0) (k:=.i8) (by kernel_rfl)
 obtain ⟨s1,b2,b3⟩:=h_a0.int (o:=1) (k:=.i8) (by kernel_rfl)
 have e1:IntKind.i8.min = -128:=rfl
 have e2:IntKind.i8.max=127:=rfl
 have h:=Ycl (g:=Zer PZ 1000 a0) (fun t=>(false,(t:Int))) (fun t=>((List.range 36).find? (fun k=> !(fitS a0 t k))).isSome) 2 (N:=1000) (by omega) (xd:=.done (false,((2:Nat):Int))) (fun t=>.more (false,(t:Int))) (fun t ht hp=>by
  have h1:decide ((t:Int)<2)=true:=Q3 (by omega)
  have h3:i64.wrap ((t:Int)+1)=((t+1:Nat):Int):=by rw [IntWalk.i64_in _ (by omega)];omega
  have hn:(List.range 36).find? (fun k=> !(fitS a0 t k))=none:=by simpa using hp
  have hi:=Yme h_a0 ht false
  rw [hn] at hi
  simp only [Zer,h1,Q1,hi,Ual,st2,Zhe,h3]) (fun t ht hp=>by
  have h1:decide ((t:Int)<2)=true:=Q3 (by omega)
  obtain ⟨k,hn⟩:=Option.isSome_iff_exists.1 hp
  have hi:=Yme h_a0 ht false
  rw [hn] at hi
  simp only [Zer,h1,Q1,hi,Ual,st2,Zhk]) (by
  have h1:decide (((2:Nat):Int)<2)=false:=by decide
  simp only [Zer,h1,Q2])
 have h':Uac (Zer PZ 1000 a0) 1000 (false,(0:Int))=some (match (List.range 2).find? (fun t=>((List.range 36).find? (fun k=> !(fitS a0 t k))).isSome) with | some t=>.more (false,(t:Int)) | none=>.done (false,((2:Nat):Int))):=h
 have i0:Zaa (i64.wrap (num a0 0)) 1 6=(decide (1≤num a0 0)&&decide (num a0 0≤6)):=by
  rw [IntWalk.i64_in _ (by omega)];unfold Zaa
  cases h1:decide (num a0 0 ≥ 1)<;>simp_all
 have i1:Zaa (i64.wrap (num a0 1)) 1 6=(decide (1≤num a0 1)&&decide (num a0 1≤6)):=by
  rw [IntWalk.i64_in _ (by omega)];unfold Zaa
  cases h1:decide (num a0 1 ≥ 1)<;>simp_all
 unfold okS okD
 rw [i0,i1,h',all_two,← Ygn,← Ygn,show IntKind.u64.wrap (BitVec.ofInt IntKind.u64.bits (num a0 2) &&& ~~~(BitVec.ofInt IntKind.u64.bits (Uau (num a0 0) (num a0 1) 36))).toNat=Ua8 (num a0 2) (Uau (num a0 0) (num a0 1) 36) from rfl,show (List.range 2)=[0,1] from rfl]
 cases decide (1≤num a0 0)&&decide (num a0 0≤6)
 ·rfl
 cases decide (1≤num a0 1)&&decide (num a0 1≤6)
 ·rfl
 cases hb:(Ua8 (num a0 2) (Uau (num a0 0) (num a0 1) 36)==0) with
 | false=>rw [show (Ua8 (num a0 2) (Uau (num a0 0) (num a0 1) 36) != 0)=true by simp [bne,hb]];rfl
 | true=>
  rw [show (Ua8 (num a0 2) (Uau (num a0 0) (num a0 1) 36) != 0)=false by simp [bne,hb]]
  simp only [List.find?]
  generalize (List.range 36).find? (fun k=> !(fitS a0 0 k))=f0
  generalize (List.range 36).find? (fun k=> !(fitS a0 1 k))=f1
  cases f0<;>cases f1<;>rfl
def Zn9:Con:=fun args h=>match args,h with
 | [.w 0],[.row a0 41]=>some (.a (.b ((okS a0))),.none,true)
 | _,_=>none
theorem Yba:EntX PZ 53:=Zag (fn:=Tryz.f53) (by kernel_rfl) (by kernel_rfl) (by kernel_rfl)
theorem Yh0:Uad mn PZ 53 Zn9:=(Zai (N:=1000) (by kernel_rfl) (mkΓ_consX (Zad Zk3) Zhv (mkΓ_consX (Zad Zjn) Zgp (mkΓ_consX (Zad Zp7) Zm5 (mkΓ_consX (Zad Zw8) Zse mkΓ_nilX)))) (fn:=Tryz.f53) (by kernel_rfl) (by kernel_rfl) [([2,3],[]),([2,4],[])]).of (by
 intro ρ h w args vals r e hA hH hr
 unfold Zn9 at hr
 split at hr
 ·rename_i a0
  obtain ⟨rfl,rfl,hg2⟩:=BQi hr
  exact Yc1 a0 (hH.wt 0 rfl) hg2
 ·cases hr)
theorem Zs0 {S:Array Value} (h:okS S=true):1≤num S 0∧num S 0≤6∧1≤num S 1∧num S 1≤6:=by
 unfold okS okD at h
 simp only [Q7,decide_eq_true_eq] at h
 exact ⟨h.1.1.1,h.1.1.2,h.1.2.1,h.1.2.2⟩
theorem Ybz {S:Array Value} (h:okS S=true):(decide (0≤num S 0)&&decide (num S 0≤6)&&(decide (0≤num S 1)&&decide (num S 1≤6)))=true:=by
 obtain ⟨h1,h2,h3,h4⟩:=Zs0 h
 rw [Q3 (show 0≤num S 0 by omega),Q3 h2,Q3 (show 0≤num S 1 by omega),Q3 h4];rfl
theorem okS_fit {S:Array Value} (h:okS S=true) {t k:Nat} (ht:t<2) (hk:k<36):fitS S t k=true:=by
 unfold okS at h
 simp only [Q7] at h
 have:=List.all_eq_true.1 h.2.2 k (List.mem_range.2 hk)
 rw [Q7] at this
 match t,ht with
 | 0,_=>exact this.1
 | 1,_=>exact this.2
theorem Yo8 {S:Array Value} (h:WT PZ 41 S):S.size=363:=by rw [h.layLen,Ygt];simp
theorem num_sub {S:Array Value} {o n j:Nat} (hj:j<n):num (S.extract o (o+n)) j=num S (o+j):=by
 unfold num
 rw [Array.getElem?_extract]
 by_cases h:o+j<S.size
 ·rw [if_pos (by omega)]
 ·rw [if_neg (by omega),Array.getElem?_eq_none (by omega)]
theorem sea_u8 {S:Array Value} (h:WT PZ 41 S) {i:Nat} (hi:i<360):S[3+i]? = some (.int .u8 (num S (3+i)))∧0≤num S (3+i)∧num S (3+i)≤255:=h.int (k:=.u8) (by rw [Ygt,show 3+i=i+3 by omega];show (List.replicate 360 4)[i]? = some 4;rw [List.getElem?_replicate,if_pos hi])
end
end Go.Proofs.YtohnggmlmglhmaaGreatDoor
