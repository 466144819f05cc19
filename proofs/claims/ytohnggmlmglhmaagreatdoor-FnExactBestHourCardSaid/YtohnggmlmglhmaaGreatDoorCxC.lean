/- What a valid sea is, in company. -/
import Derived.Test.YtohnggmlmglhmaaGreatDoorProg
import Derived.Test.YtohnggmlmglhmaaGreatDoorCxB
namespace Go.Proofs.YtohnggmlmglhmaaGreatDoor
open Go.ChangeShapes Go.WideShapes Go.ChangeAt Go.RowKit Ve Vc
open Tryz renaming prog → PZ
open IntKind (i64)
set_option linter.unusedVariables false
set_option linter.unusedSimpArgs false
set_option maxRecDepth 100000
noncomputable section
variable {mn:Md}
def sumW (a:Array Value):Nat→Int
 | 0=>0
 | k+1=>i64.wrap (sumW a k+i64.wrap (num a (k*1)))
theorem tide_eq (t:Int):Zd2 t=Zaa t 0 1:=by
 unfold Zd2 Zaa
 by_cases h0:t=0
 ·subst h0;rfl
 ·by_cases h1:t=1
  ·subst h1;rfl
  ·rw [show (t==0)=false from beq_eq_false_iff_ne.2 h0,show (t==1)=false from beq_eq_false_iff_ne.2 h1]
   by_cases h2:t ≥ 0
   ·rw [Q3 h2,Q4 (show ¬ t≤1 by omega)];rfl
   ·rw [Q4 h2];rfl
def Zdf (a0:Array Value):St:=(⟨.a (.g a0 37) :: .a (.w 0) :: .a (.b (false)) :: .a (.i .i64 (0:Int)) :: .a (.u) :: .a (.u) :: .a (.g a0 37) :: .a (.i .i64 (0:Int))::us 9 ([]),[.row a0 37,.no],[]⟩:St)
def Zej:Int×Int→LS
 | (y0_3,y0_7)=>([.a (.i .i64 (y0_3)),.a (.i .i64 (y0_7))],[])
def Zh2:Int×Int→Exit×LS
 | t=>((.exit 0),Zej t)
def Zb0 (P:Program) (a0:Array Value):Int×Int→Option (Stp (Int×Int) (Int×Int))
 | (y0_3,y0_7)=>bif decide (y0_7<(5:Int)) then (bif (decide (0≤y0_7)&&decide (y0_7<5)) then (some (.more ((i64.wrap (y0_3+(i64.wrap (num a0 ((y0_7).toNat*1))))),(i64.wrap (y0_7+(1:Int))))))
   else (none))
  else (some (.done (y0_3,y0_7)))
theorem Zs8 (N:Nat) (a0:Array Value):∀ t:Int×Int,Uai PZ (mkΓ []) N (cAt (codeOf Tryz.f118) [1,1,0,1,0,0]) (pAt (Uaa (codeOf Tryz.f118) [([3,7],[])]).1 [1,1,0,1,0]) [3,7] [] (Zdf a0) (Zej t)=mapS Zej Zh2 (Zb0 PZ a0 t):=by
 rintro ⟨y0_3,y0_7⟩
 refine Eq.trans (b:=(bif decide (y0_7<(5:Int)) then (bif (decide (0≤y0_7)&&decide (y0_7<5)) then (some (.more ([.a (.i .i64 (i64.wrap (y0_3+(i64.wrap (num a0 ((y0_7).toNat*1)))))),.a (.i .i64 (i64.wrap (y0_7+(1:Int))))],[])))
   else (none))
  else (some (.done ((.exit 0),([.a (.i .i64 (y0_3)),.a (.i .i64 (y0_7))],[])))))) (by kernel_rfl) ?_
 simp only [Zb0,Za5,Za4,Za3,Za6,Zej,Zh2]
def Zgu (P:Program) (N:Nat) (a0:Array Value) (z0_3:Int) (z0_7:Int):Option (SV×Eff×Bool):=some (.a (.b ((z0_3==(12:Int)))),.none,true)
theorem Zn6 (N:Nat) (a0:Array Value) (z0_3:Int) (z0_7:Int):(Uab 0 (kSeq (veC PZ (mkΓ []) N (cAt (codeOf Tryz.f118) [1,1,1]) (pAt (Uaa (codeOf Tryz.f118) [([3,7],[])]).1 [1,1,1]) (SV×Eff×Bool)) (finK PZ [] [.tmp 2]))) (.exit 0) (left (writes (cAt (codeOf Tryz.f118) [1,1,0,1,0,0])) [3,7] [] (Zdf a0) ([.a (.i .i64 (z0_3)),.a (.i .i64 (z0_7))],[]))=Zgu PZ N a0 z0_3 z0_7:=by
 refine Eq.trans (b:=(some (.a (.b ((z0_3==(12:Int)))),.none,true))) (by kernel_rfl) ?_
 rfl
theorem Ztq (N:Nat) (a0:Array Value):Uah (Uac (Uai PZ (mkΓ []) N (cAt (codeOf Tryz.f118) [1,1,0,1,0,0]) (pAt (Uaa (codeOf Tryz.f118) [([3,7],[])]).1 [1,1,0,1,0]) [3,7] [] (Zdf a0)) N ([.a (.i .i64 (0:Int)),.a (.i .i64 (0:Int))],[])) (fun e s=>(Uab 0 (kSeq (veC PZ (mkΓ []) N (cAt (codeOf Tryz.f118) [1,1,1]) (pAt (Uaa (codeOf Tryz.f118) [([3,7],[])]).1 [1,1,1]) (SV×Eff×Bool)) (finK PZ [] [.tmp 2]))) e (left (writes (cAt (codeOf Tryz.f118) [1,1,0,1,0,0])) [3,7] [] (Zdf a0) s))=Uam (Uac (Zb0 PZ a0) N ((0:Int),(0:Int))) (fun x=>Zgu PZ N a0 x.1 x.2):=by
 refine Zbn Zej Zh2 _ _ (Zs8 N a0) N ((0:Int),(0:Int)) _ _ ?_
 intro x;exact Zn6 N a0 x.1 x.2
theorem Zsa (N:Nat) (a0:Array Value):ansV PZ (mkΓ []) N Tryz.f118 [([3,7],[])] [.g a0 37] []=(Uam (Uac (Zb0 PZ a0) N ((0:Int),(0:Int))) (fun x=>Zgu PZ N a0 x.1 x.2)):=by
 refine Eq.trans (b:=(Uah (Uac (Uai PZ (mkΓ []) N (cAt (codeOf Tryz.f118) [1,1,0,1,0,0]) (pAt (Uaa (codeOf Tryz.f118) [([3,7],[])]).1 [1,1,0,1,0]) [3,7] [] (Zdf a0)) N ([.a (.i .i64 (0:Int)),.a (.i .i64 (0:Int))],[])) (fun e s=>(Uab 0 (kSeq (veC PZ (mkΓ []) N (cAt (codeOf Tryz.f118) [1,1,1]) (pAt (Uaa (codeOf Tryz.f118) [([3,7],[])]).1 [1,1,1]) (SV×Eff×Bool)) (finK PZ [] [.tmp 2]))) e (left (writes (cAt (codeOf Tryz.f118) [1,1,0,1,0,0])) [3,7] [] (Zdf a0) s)))) (by kernel_rfl) ?_
 simp only [Ztq N a0]
theorem Zqv (a0:Array Value) (h_a0:WT PZ 37 a0) (hg:(true)=true):ansV PZ (mkΓ []) 1000 Tryz.f118 [([3,7],[])] [.g a0 37] []=some (.a (.b ((sumW a0 5==(12:Int)))),.none,true):=by
 have h:=Zdz (g:=Zb0 PZ a0) (fun k=>(sumW a0 k,(k:Int))) (m:=5) (x:=(sumW a0 5,((5:Nat):Int))) (N:=1000) (fun k hk=>by
  have h1:decide ((k:Int)<5)=true:=Q3 (by omega)
  have h0:decide (0≤(k:Int))=true:=Q3 (by omega)
  have h3:i64.wrap ((k:Int)+1)=((k+1:Nat):Int):=by rw [IntWalk.i64_in _ (by omega)];omega
  have h4:((k:Int)).toNat=k:=Q9 k
  simp only [Zb0,h1,h0,Bool.and_self,h4,Q1,h3,sumW]) (by
  have h1:decide (((5:Nat):Int)<5)=false:=by decide
  simp only [Zb0,h1,Q2]) (by omega)
 refine (Zsa 1000 a0).trans ?_
 have h':Uac (Zb0 PZ a0) 1000 ((0:Int),(0:Int))=some (sumW a0 5,((5:Nat):Int)):=h
 rw [h']
 rfl
def Zhh:Con:=fun args h=>match args,h with
 | [.g a0 37],[]=>some (.a (.b ((sumW a0 5==(12:Int)))),.none,true)
 | _,_=>none
theorem Zpu:EntX PZ 118:=Zag (fn:=Tryz.f118) (by kernel_rfl) (by kernel_rfl) (by kernel_rfl)
theorem Ztj:Uad mn PZ 118 Zhh:=(Zai (N:=1000) (by kernel_rfl) mkΓ_nilX (fn:=Tryz.f118) (by kernel_rfl) (by kernel_rfl) [([3,7],[])]).of (by
 intro ρ h w args vals r e hA hH hr
 unfold Zhh at hr
 split at hr
 ·rename_i a0
  obtain ⟨rfl,rfl,hg2⟩:=BQi hr
  exact Zqv a0 (hA.wt 0 rfl) hg2
 ·cases hr)
def Zed (a0:Array Value):St:=(⟨.a (.g a0 37) :: .a (.w 0) :: .a (.b (false)) :: .a (.i .i64 (0:Int)) :: .a (.i .i64 (0:Int))::us 12 ([]),[.row a0 37,.no],[]⟩:St)
def Ze7:Int×Int→LS
 | (y0_3,y0_4)=>([.a (.i .i64 (y0_3)),.a (.i .i64 (y0_4))],[])
def Zjm:Int×Int→Exit×LS
 | t=>((.exit 0),Ze7 t)
def Zcp (P:Program) (a0:Array Value):Int×Int→Option (Stp (Int×Int) (Int×Int))
 | (y0_3,y0_4)=>bif decide (y0_4<(5:Int)) then (bif (decide (0≤y0_4)&&decide (y0_4<5)) then (some (.more ((i64.wrap (y0_3+(i64.wrap (num a0 ((y0_4).toNat*1))))),(i64.wrap (y0_4+(1:Int))))))
   else (none))
  else (some (.done (y0_3,y0_4)))
theorem Zvw (N:Nat) (a0:Array Value):∀ t:Int×Int,Uai PZ (mkΓ []) N (cAt (codeOf Tryz.f81) [1,1,0,1,0,0]) (pAt (Uaa (codeOf Tryz.f81) [([3,4],[])]).1 [1,1,0,1,0]) [3,4] [] (Zed a0) (Ze7 t)=mapS Ze7 Zjm (Zcp PZ a0 t):=by
 rintro ⟨y0_3,y0_4⟩
 refine Eq.trans (b:=(bif decide (y0_4<(5:Int)) then (bif (decide (0≤y0_4)&&decide (y0_4<5)) then (some (.more ([.a (.i .i64 (i64.wrap (y0_3+(i64.wrap (num a0 ((y0_4).toNat*1)))))),.a (.i .i64 (i64.wrap (y0_4+(1:Int))))],[])))
   else (none))
  else (some (.done ((.exit 0),([.a (.i .i64 (y0_3)),.a (.i .i64 (y0_4))],[])))))) (by kernel_rfl) ?_
 simp only [Zcp,Za5,Za4,Za3,Za6,Ze7,Zjm]
def Zic (P:Program) (N:Nat) (a0:Array Value) (z0_3:Int) (z0_4:Int):Option (SV×Eff×Bool):=some (.a (.b ((z0_3==(12:Int)))),.none,true)
theorem Zo6 (N:Nat) (a0:Array Value) (z0_3:Int) (z0_4:Int):(Uab 0 (kSeq (veC PZ (mkΓ []) N (cAt (codeOf Tryz.f81) [1,1,1]) (pAt (Uaa (codeOf Tryz.f81) [([3,4],[])]).1 [1,1,1]) (SV×Eff×Bool)) (finK PZ [] [.tmp 2]))) (.exit 0) (left (writes (cAt (codeOf Tryz.f81) [1,1,0,1,0,0])) [3,4] [] (Zed a0) ([.a (.i .i64 (z0_3)),.a (.i .i64 (z0_4))],[]))=Zic PZ N a0 z0_3 z0_4:=by
 refine Eq.trans (b:=(some (.a (.b ((z0_3==(12:Int)))),.none,true))) (by kernel_rfl) ?_
 rfl
theorem Zwq (N:Nat) (a0:Array Value):Uah (Uac (Uai PZ (mkΓ []) N (cAt (codeOf Tryz.f81) [1,1,0,1,0,0]) (pAt (Uaa (codeOf Tryz.f81) [([3,4],[])]).1 [1,1,0,1,0]) [3,4] [] (Zed a0)) N ([.a (.i .i64 (0:Int)),.a (.i .i64 (0:Int))],[])) (fun e s=>(Uab 0 (kSeq (veC PZ (mkΓ []) N (cAt (codeOf Tryz.f81) [1,1,1]) (pAt (Uaa (codeOf Tryz.f81) [([3,4],[])]).1 [1,1,1]) (SV×Eff×Bool)) (finK PZ [] [.tmp 2]))) e (left (writes (cAt (codeOf Tryz.f81) [1,1,0,1,0,0])) [3,4] [] (Zed a0) s))=Uam (Uac (Zcp PZ a0) N ((0:Int),(0:Int))) (fun x=>Zic PZ N a0 x.1 x.2):=by
 refine Zbn Ze7 Zjm _ _ (Zvw N a0) N ((0:Int),(0:Int)) _ _ ?_
 intro x;exact Zo6 N a0 x.1 x.2
theorem Zvb (N:Nat) (a0:Array Value):ansV PZ (mkΓ []) N Tryz.f81 [([3,4],[])] [.g a0 37] []=(Uam (Uac (Zcp PZ a0) N ((0:Int),(0:Int))) (fun x=>Zic PZ N a0 x.1 x.2)):=by
 refine Eq.trans (b:=(Uah (Uac (Uai PZ (mkΓ []) N (cAt (codeOf Tryz.f81) [1,1,0,1,0,0]) (pAt (Uaa (codeOf Tryz.f81) [([3,4],[])]).1 [1,1,0,1,0]) [3,4] [] (Zed a0)) N ([.a (.i .i64 (0:Int)),.a (.i .i64 (0:Int))],[])) (fun e s=>(Uab 0 (kSeq (veC PZ (mkΓ []) N (cAt (codeOf Tryz.f81) [1,1,1]) (pAt (Uaa (codeOf Tryz.f81) [([3,4],[])]).1 [1,1,1]) (SV×Eff×Bool)) (finK PZ [] [.tmp 2]))) e (left (writes (cAt (codeOf Tryz.f81) [1,1,0,1,0,0])) [3,4] [] (Zed a0) s)))) (by kernel_rfl) ?_
 simp only [Zwq N a0]
theorem Ztb (a0:Array Value) (h_a0:WT PZ 37 a0) (hg:(true)=true):ansV PZ (mkΓ []) 1000 Tryz.f81 [([3,4],[])] [.g a0 37] []=some (.a (.b ((sumW a0 5==(12:Int)))),.none,true):=by
 have h:=Zdz (g:=Zcp PZ a0) (fun k=>(sumW a0 k,(k:Int))) (m:=5) (x:=(sumW a0 5,((5:Nat):Int))) (N:=1000) (fun k hk=>by
  have h1:decide ((k:Int)<5)=true:=Q3 (by omega)
  have h0:decide (0≤(k:Int))=true:=Q3 (by omega)
  have h3:i64.wrap ((k:Int)+1)=((k+1:Nat):Int):=by rw [IntWalk.i64_in _ (by omega)];omega
  have h4:((k:Int)).toNat=k:=Q9 k
  simp only [Zcp,h1,h0,Bool.and_self,h4,Q1,h3,sumW]) (by
  have h1:decide (((5:Nat):Int)<5)=false:=by decide
  simp only [Zcp,h1,Q2]) (by omega)
 refine (Zvb 1000 a0).trans ?_
 have h':Uac (Zcp PZ a0) 1000 ((0:Int),(0:Int))=some (sumW a0 5,((5:Nat):Int)):=h
 rw [h']
 rfl
def Ziv:Con:=fun args h=>match args,h with
 | [.g a0 37],[]=>some (.a (.b ((sumW a0 5==(12:Int)))),.none,true)
 | _,_=>none
theorem Zq7:EntX PZ 81:=Zag (fn:=Tryz.f81) (by kernel_rfl) (by kernel_rfl) (by kernel_rfl)
theorem Zxg:Uad mn PZ 81 Ziv:=(Zai (N:=1000) (by kernel_rfl) mkΓ_nilX (fn:=Tryz.f81) (by kernel_rfl) (by kernel_rfl) [([3,4],[])]).of (by
 intro ρ h w args vals r e hA hH hr
 unfold Ziv at hr
 split at hr
 ·rename_i a0
  obtain ⟨rfl,rfl,hg2⟩:=BQi hr
  exact Ztb a0 (hA.wt 0 rfl) hg2
 ·cases hr)
def Zor:Cons:=(mkΓ [(33,con Ze3),(117,con Zip),(118,con Zhh)])
theorem Zu1 (N:Nat) (a0:Array Value) (a1:Int) (a2:Array Value):ansV PZ Zor N Tryz.f96 [] [.g a0 41,.i .i64 (a1),.g a2 37] []=(bif (Zal a0 a1) then (bif decide (0≤a1) then (bif (Zb9 a0 a1) then (some (.a (.b ((sumW a2 5==(12:Int)))),.none,true))
    else (some (.a (.b ((Ubb a2 (#[.int .u8 (0:Int),.int .u8 (0:Int),.int .u8 (0:Int),.int .u8 (0:Int),.int .u8 (0:Int)]:Array Value)))),.none,true)))
   else (none))
  else (some (.a (.b ((Ubb a2 (#[.int .u8 (0:Int),.int .u8 (0:Int),.int .u8 (0:Int),.int .u8 (0:Int),.int .u8 (0:Int)]:Array Value)))),.none,true))):=by kernel_rfl
def Zb5 (a0:Array Value) (a1:Int) (a2:Array Value):Bool:=(bif (Zal a0 a1) then (bif (Zb9 a0 a1) then (sumW a2 5==(12:Int)) else (Ubb a2 (#[.int .u8 (0:Int),.int .u8 (0:Int),.int .u8 (0:Int),.int .u8 (0:Int),.int .u8 (0:Int)]:Array Value))) else (Ubb a2 (#[.int .u8 (0:Int),.int .u8 (0:Int),.int .u8 (0:Int),.int .u8 (0:Int),.int .u8 (0:Int)]:Array Value)))
theorem Zta (a0:Array Value) (a1:Int) (a2:Array Value) (h_a0:WT PZ 41 a0) (h_a1:i64.min≤a1∧a1≤i64.max) (h_a2:WT PZ 37 a2) (hg:((bif (Zal a0 a1) then decide (0≤a1) else true))=true):ansV PZ Zor 1000 Tryz.f96 [] [.g a0 41,.i .i64 (a1),.g a2 37] []=some (.a (.b ((Zb5 a0 a1 a2))),.none,true):=by
 refine (Zu1 1000 a0 a1 a2).trans ?_
 unfold Zb5
 revert hg
 generalize ((Zal a0 a1))=b2
 intro hg
 cases b2
 ·skip
  first | (simp only [Q1,Q2,BQ6];done) | rfl | exact (nomatch (hg:false=true))
 ·skip
  revert hg
  generalize (decide (0≤a1))=b4
  intro hg
  cases b4
  ·skip
   first | exact (nomatch (hg:false=true)) | (simp only [Q1,Q2,BQ6];done) | rfl
  ·skip
   revert hg
   generalize ((Zb9 a0 a1))=b6
   intro hg
   cases b6
   ·skip
    first | (simp only [Q1,Q2,BQ6];done) | rfl | exact (nomatch (hg:false=true))
   ·skip
    first | (simp only [Q1,Q2,BQ6];done) | rfl | exact (nomatch (hg:false=true))
def Ziy:Con:=fun args h=>match args,h with
 | [.g a0 41,.i .i64 a1,.g a2 37],[]=>some (.a (.b ((Zb5 a0 a1 a2))),.none,(bif (Zal a0 a1) then decide (0≤a1) else true))
 | _,_=>none
theorem Zrd:EntX PZ 96:=Zag (fn:=Tryz.f96) (by kernel_rfl) (by kernel_rfl) (by kernel_rfl)
theorem Zvv:Uad mn PZ 96 Ziy:=(Zai (N:=1000) (by kernel_rfl) (mkΓ_consX (Zac Zji) Zg1 (mkΓ_consX (Zac Zq5) Znf (mkΓ_consX (Zac Ztj) Zpu mkΓ_nilX))) (fn:=Tryz.f96) (by kernel_rfl) (by kernel_rfl) []).of (by
 intro ρ h w args vals r e hA hH hr
 unfold Ziy at hr
 split at hr
 ·rename_i a0 a1 a2
  obtain ⟨rfl,rfl,hg2⟩:=BQi hr
  exact Zta a0 a1 a2 (hA.wt 0 rfl) (hA.rng 1 rfl) (hA.wt 2 rfl) hg2
 ·cases hr)
def chR (S:Array Value) (t k:Nat):Array Value:=S.extract (3+t*180+k*5) (3+t*180+k*5+5)
def fitS (S:Array Value) (t k:Nat):Bool:=bif inC (num S 0) (num S 1) k && !(bitI (num S 2) k) then (sumW (chR S t k) 5==(12:Int)) else Ubb (chR S t k) (#[.int .u8 (0:Int),.int .u8 (0:Int),.int .u8 (0:Int),.int .u8 (0:Int),.int .u8 (0:Int)]:Array Value)
def okD (S:Array Value):Bool:=decide (1≤num S 0)&&decide (num S 0≤6)&&(decide (1≤num S 1)&&decide (num S 1≤6))
def okS (S:Array Value):Bool:=okD S&&((Ubf (num S 2) (Uax (num S 0) (num S 1) 36)==0)&&(List.range 36).all fun k=>fitS S 0 k&&fitS S 1 k)
theorem Yga (n:Nat) (p:Nat→Bool):((List.range n).find? (fun k=> !(p k))).isNone=(List.range n).all p:=by
 rw [Bool.eq_iff_iff,Option.isNone_iff_eq_none,List.find?_eq_none,List.all_eq_true]
 simp
theorem all_two (n:Nat) (p q:Nat→Bool):(List.range n).all (fun k=>p k&&q k)=((List.range n).all p&&(List.range n).all q):=by
 rw [Bool.eq_iff_iff,Q7,List.all_eq_true,List.all_eq_true,List.all_eq_true]
 simp only [Q7]
 exact ⟨fun h=>⟨fun x hx=>(h x hx).1,fun x hx=>(h x hx).2⟩,fun h x hx=>⟨h.1 x hx,h.2 x hx⟩⟩
theorem Yng {S:Array Value} (h:WT PZ 41 S) {k:Nat} (hk:k<36):Zal S (k:Int)=inC (num S 0) (num S 1) k:=by rw [Zue,Yjf h hk]
theorem Ybo {S:Array Value} (h:WT PZ 41 S) {k:Nat} (hk:k<36) (t:Nat):Zb5 S (k:Int) (chR S t k)=fitS S t k:=by
 unfold Zb5 fitS
 rw [Yng h hk]
 unfold Zb9
 rw [Yfs hk]
 cases inC (num S 0) (num S 1) k<;>cases bitI (num S 2) k<;>rfl
theorem Yhu {S:Array Value} (h:WT PZ 41 S) {k:Nat} (hk:k<36):Za7 (k:Int) S=true∧Zad (k:Int) S=(inC (num S 0) (num S 1) k && !(bitI (num S 2) k)):=by
 have hu:decide (0≤IntKind.u64.wrap (k:Int))=true:=Q3 (Zh4 .u64 _).1
 unfold Za7 Zad
 rw [Yjf h hk,Yjz h hk]
 constructor
 ·cases inC (num S 0) (num S 1) k<;>simp [hu]
 ·cases inC (num S 0) (num S 1) k<;>simp
def Zdd:Cons:=(mkΓ [(67,con Zfv),(96,con Ziy)])
def Zeh (a0:Array Value):St:=(⟨.a (.g a0 41) :: .a (.w 0) :: .a (.b (false)) :: .a (.u) :: .a (.p 0 (0) 22) :: .a (.i .i8 (num a0 0)) :: .a (.b (decide ((num a0 0)<(1:Int)))) :: .a (.b (false)) :: .a (.p 0 (0) 22) :: .a (.i .i8 (num a0 0)) :: .a (.b (decide ((num a0 0) > (6:Int)))) :: .a (.b (decide ((num a0 0) > (6:Int)))) :: .a (.b (false)) :: .a (.p 0 (1) 22) :: .a (.i .i8 (num a0 1)) :: .a (.b (decide ((num a0 1)<(1:Int)))) :: .a (.b (decide ((num a0 1)<(1:Int)))) :: .a (.b (false)) :: .a (.p 0 (1) 22) :: .a (.i .i8 (num a0 1)) :: .a (.b (decide ((num a0 1) > (6:Int)))) :: .a (.b (decide ((num a0 1) > (6:Int)))) :: .a (.p 0 (2) 23) :: .a (.i .u64 (num a0 2)) :: .a (.g a0 41) :: .a (.i .u64 (Uax (num a0 0) (num a0 1) 36)) :: .a (.i .u64 (IntKind.u64.wrap (BitVec.ofInt IntKind.u64.bits (num a0 2) &&& ~~~(BitVec.ofInt IntKind.u64.bits (Uax (num a0 0) (num a0 1) 36))).toNat)) :: .a (.b (((IntKind.u64.wrap (BitVec.ofInt IntKind.u64.bits (num a0 2) &&& ~~~(BitVec.ofInt IntKind.u64.bits (Uax (num a0 0) (num a0 1) 36))).toNat) != (0:Int)))) :: .a (.i .i64 (0:Int))::us 23 ([]),[.row a0 41,.no,.no,.no,.no,.no,.no,.no],[]⟩:St)
def Ze0:Bool×Int→LS
 | (y0_2,y0_28)=>([.a (.b (y0_2)),.a (.i .i64 (y0_28))],[])
def Zk7:(Stp (Bool×Int) (Bool×Int))→Exit×LS
 | .more t=>(.ret,Ze0 t)
 | .done t=>((.exit 0),Ze0 t)
def Zcd (P:Program) (a0:Array Value):Bool×Int→Option (Stp (Bool×Int) (Stp (Bool×Int) (Bool×Int)))
  | (y0_2,y0_28)=>bif decide (y0_28<(36:Int)) then (bif (decide (0≤y0_28)&&decide (y0_28<36)) then (bif (bif (Zal a0 y0_28) then decide (0≤y0_28) else true) then (bif (!((Zb5 a0 y0_28 (a0.extract (3+((y0_28).toNat*5)) ((3+((y0_28).toNat*5))+5))))) then (some (.done (.more (false,y0_28))))
          else (bif (decide (0≤y0_28)&&decide (y0_28<36)) then (bif (bif (Zal a0 y0_28) then decide (0≤y0_28) else true) then (bif (!((Zb5 a0 y0_28 (a0.extract (183+((y0_28).toNat*5)) ((183+((y0_28).toNat*5))+5))))) then (some (.done (.more (false,y0_28))))
                else (some (.more (y0_2,(i64.wrap (y0_28+(1:Int)))))))
              else (none))
            else (none)))
        else (none))
      else (none))
    else (some (.done (.done (y0_2,y0_28))))
theorem Yay (N:Nat) (a0:Array Value):∀ t:Bool×Int,Uai PZ Zdd N (cAt (codeOf Tryz.f70) [1,1,1,0,1,0,0]) (pAt (Uaa (codeOf Tryz.f70) [([2,28],[])]).1 [1,1,1,0,1,0]) [2,28] [] (Zeh a0) (Ze0 t)=mapS Ze0 Zk7 (Zcd PZ a0 t):=by
  rintro ⟨y0_2,y0_28⟩
  refine Eq.trans (b:=(bif decide (y0_28<(36:Int)) then (bif (decide (0≤y0_28)&&decide (y0_28<36)) then (bif (bif (Zal a0 y0_28) then decide (0≤y0_28) else true) then (bif (!((Zb5 a0 y0_28 (a0.extract (3+((y0_28).toNat*5)) ((3+((y0_28).toNat*5))+5))))) then (some (.done (.ret,([.a (.b (false)),.a (.i .i64 (y0_28))],[]))))
          else (bif (decide (0≤y0_28)&&decide (y0_28<36)) then (bif (bif (Zal a0 y0_28) then decide (0≤y0_28) else true) then (bif (!((Zb5 a0 y0_28 (a0.extract (183+((y0_28).toNat*5)) ((183+((y0_28).toNat*5))+5))))) then (some (.done (.ret,([.a (.b (false)),.a (.i .i64 (y0_28))],[]))))
                else (some (.more ([.a (.b (y0_2)),.a (.i .i64 (i64.wrap (y0_28+(1:Int))))],[]))))
              else (none))
            else (none)))
        else (none))
      else (none))
    else (some (.done ((.exit 0),([.a (.b (y0_2)),.a (.i .i64 (y0_28))],[])))))) (by kernel_rfl) ?_
  simp only [Zcd,Za5,Za4,Za3,Za6,Ze0,Zk7]
def Zjn (P:Program) (N:Nat) (a0:Array Value) (z0_2:Bool) (z0_28:Int):Option (SV×Eff×Bool):=some (.a (.b (z0_2)),.none,true)
theorem Zsc (N:Nat) (a0:Array Value) (z0_2:Bool) (z0_28:Int):(Uab 0 (kSeq (veC PZ Zdd N (cAt (codeOf Tryz.f70) [1,1,1,1]) (pAt (Uaa (codeOf Tryz.f70) [([2,28],[])]).1 [1,1,1,1]) (SV×Eff×Bool)) (finK PZ [] [.tmp 2]))) .ret (left (writes (cAt (codeOf Tryz.f70) [1,1,1,0,1,0,0])) [2,28] [] (Zeh a0) ([.a (.b (z0_2)),.a (.i .i64 (z0_28))],[]))=Zjn PZ N a0 z0_2 z0_28:=by
 refine Eq.trans (b:=(some (.a (.b (z0_2)),.none,true))) (by kernel_rfl) ?_
 rfl
def Zj8 (P:Program) (N:Nat) (a0:Array Value) (z0_2:Bool) (z0_28:Int):Option (SV×Eff×Bool):=some (.a (.b (true)),.none,true)
theorem Zrr (N:Nat) (a0:Array Value) (z0_2:Bool) (z0_28:Int):(Uab 0 (kSeq (veC PZ Zdd N (cAt (codeOf Tryz.f70) [1,1,1,1]) (pAt (Uaa (codeOf Tryz.f70) [([2,28],[])]).1 [1,1,1,1]) (SV×Eff×Bool)) (finK PZ [] [.tmp 2]))) (.exit 0) (left (writes (cAt (codeOf Tryz.f70) [1,1,1,0,1,0,0])) [2,28] [] (Zeh a0) ([.a (.b (z0_2)),.a (.i .i64 (z0_28))],[]))=Zj8 PZ N a0 z0_2 z0_28:=by
 refine Eq.trans (b:=(some (.a (.b (true)),.none,true))) (by kernel_rfl) ?_
 rfl
theorem Ybd (N:Nat) (a0:Array Value):Uah (Uac (Uai PZ Zdd N (cAt (codeOf Tryz.f70) [1,1,1,0,1,0,0]) (pAt (Uaa (codeOf Tryz.f70) [([2,28],[])]).1 [1,1,1,0,1,0]) [2,28] [] (Zeh a0)) N ([.a (.b (false)),.a (.i .i64 (0:Int))],[])) (fun e s=>(Uab 0 (kSeq (veC PZ Zdd N (cAt (codeOf Tryz.f70) [1,1,1,1]) (pAt (Uaa (codeOf Tryz.f70) [([2,28],[])]).1 [1,1,1,1]) (SV×Eff×Bool)) (finK PZ [] [.tmp 2]))) e (left (writes (cAt (codeOf Tryz.f70) [1,1,1,0,1,0,0])) [2,28] [] (Zeh a0) s))=Uam (Uac (Zcd PZ a0) N (false,(0:Int))) (st2 (fun x=>Zjn PZ N a0 x.1 x.2) (fun x=>Zj8 PZ N a0 x.1 x.2)):=by
 refine Zbn Ze0 Zk7 _ _ (Yay N a0) N (false,(0:Int)) _ _ ?_
 intro x
 cases x with
 | more x=>exact Zsc N a0 x.1 x.2
 | done x=>exact Zrr N a0 x.1 x.2
theorem Zzb (N:Nat) (a0:Array Value):ansV PZ Zdd N Tryz.f70 [([2,28],[])] [.g a0 41] []=(bif decide ((num a0 0)<(1:Int)) then (some (.a (.b (false)),.none,true))
    else (bif decide ((num a0 0) > (6:Int)) then (some (.a (.b (false)),.none,true))
      else (bif decide ((num a0 1)<(1:Int)) then (some (.a (.b (false)),.none,true))
        else (bif decide ((num a0 1) > (6:Int)) then (some (.a (.b (false)),.none,true))
          else (bif (decide (0≤num a0 0)&&decide (num a0 0≤6)&&(decide (0≤num a0 1)&&decide (num a0 1≤6))) then (bif ((IntKind.u64.wrap (BitVec.ofInt IntKind.u64.bits (num a0 2) &&& ~~~(BitVec.ofInt IntKind.u64.bits (Uax (num a0 0) (num a0 1) 36))).toNat) != (0:Int)) then (some (.a (.b (false)),.none,true))
              else (Uam (Uac (Zcd PZ a0) N (false,(0:Int))) (st2 (fun x=>Zjn PZ N a0 x.1 x.2) (fun x=>Zj8 PZ N a0 x.1 x.2))))
            else (none)))))):=by
  refine Eq.trans (b:=(bif decide ((num a0 0)<(1:Int)) then (some (.a (.b (false)),.none,true))
    else (bif decide ((num a0 0) > (6:Int)) then (some (.a (.b (false)),.none,true))
      else (bif decide ((num a0 1)<(1:Int)) then (some (.a (.b (false)),.none,true))
        else (bif decide ((num a0 1) > (6:Int)) then (some (.a (.b (false)),.none,true))
          else (bif (decide (0≤num a0 0)&&decide (num a0 0≤6)&&(decide (0≤num a0 1)&&decide (num a0 1≤6))) then (bif ((IntKind.u64.wrap (BitVec.ofInt IntKind.u64.bits (num a0 2) &&& ~~~(BitVec.ofInt IntKind.u64.bits (Uax (num a0 0) (num a0 1) 36))).toNat) != (0:Int)) then (some (.a (.b (false)),.none,true))
              else (Uah (Uac (Uai PZ Zdd N (cAt (codeOf Tryz.f70) [1,1,1,0,1,0,0]) (pAt (Uaa (codeOf Tryz.f70) [([2,28],[])]).1 [1,1,1,0,1,0]) [2,28] [] (Zeh a0)) N ([.a (.b (false)),.a (.i .i64 (0:Int))],[])) (fun e s=>(Uab 0 (kSeq (veC PZ Zdd N (cAt (codeOf Tryz.f70) [1,1,1,1]) (pAt (Uaa (codeOf Tryz.f70) [([2,28],[])]).1 [1,1,1,1]) (SV×Eff×Bool)) (finK PZ [] [.tmp 2]))) e (left (writes (cAt (codeOf Tryz.f70) [1,1,1,0,1,0,0])) [2,28] [] (Zeh a0) s))))
            else (none))))))) (by kernel_rfl) ?_
  simp only [Ybd N a0]
theorem Zv3 (a0:Array Value) (h_a0:WT PZ 41 a0) (hg:(true)=true):ansV PZ Zdd 1000 Tryz.f70 [([2,28],[])] [.g a0 41] []=some (.a (.b ((okS a0))),.none,true):=by
 refine (Zzb 1000 a0).trans ?_
 have h:=Ycj (g:=Zcd PZ a0) (fun k=>(false,(k:Int))) (fun k=> !(fitS a0 0 k&&fitS a0 1 k)) 36 (N:=1000) (by omega) (xd:=.done (false,((36:Nat):Int))) (fun k=>.more (false,(k:Int))) (fun k hk hp=>by
  have h1:decide ((k:Int)<36)=true:=Q3 (by omega)
  have h0:decide (0≤(k:Int))=true:=Q3 (by omega)
  have h3:i64.wrap ((k:Int)+1)=((k+1:Nat):Int):=by rw [IntWalk.i64_in _ (by omega)];omega
  have f0:=Ybo h_a0 hk 0
  have f1:=Ybo h_a0 hk 1
  unfold chR at f0 f1
  rw [show 3+0*180+k*5=3+k*5 by omega] at f0
  rw [show 3+1*180+k*5=183+k*5 by omega] at f1
  have hg:(bif Zal a0 (k:Int) then true else true)=true:=by cases Zal a0 (k:Int)<;>rfl
  simp only [Bool.not_eq_false',Q7] at hp
  simp only [Zcd,h1,h0,h3,Bool.and_self,Q1,Q9,hg,f0,f1,hp.1,hp.2,Bool.not_true,Q2]) (fun k hk hp=>by
  have h1:decide ((k:Int)<36)=true:=Q3 (by omega)
  have h0:decide (0≤(k:Int))=true:=Q3 (by omega)
  have f0:=Ybo h_a0 hk 0
  have f1:=Ybo h_a0 hk 1
  unfold chR at f0 f1
  rw [show 3+0*180+k*5=3+k*5 by omega] at f0
  rw [show 3+1*180+k*5=183+k*5 by omega] at f1
  have hg:(bif Zal a0 (k:Int) then true else true)=true:=by cases Zal a0 (k:Int)<;>rfl
  cases e0:fitS a0 0 k with
  | false=>simp only [Zcd,h1,h0,Bool.and_self,Q1,Q9,hg,f0,e0,Bool.not_false]
  | true=>
   rw [e0] at hp
   have e1:fitS a0 1 k=false:=by simpa using hp
   simp only [Zcd,h1,h0,Bool.and_self,Q1,Q9,hg,f0,f1,e0,e1,Bool.not_false,Bool.not_true,Q2]) (by
  have h1:decide (((36:Nat):Int)<36)=false:=by decide
  simp only [Zcd,h1,Q2])
 have h':Uac (Zcd PZ a0) 1000 (false,(0:Int))=some (match (List.range 36).find? (fun k=> !(fitS a0 0 k&&fitS a0 1 k)) with | some k=>.more (false,(k:Int)) | none=>.done (false,((36:Nat):Int))):=h
 have hf:=Yga 36 (fun k=>fitS a0 0 k&&fitS a0 1 k)
 unfold okS okD
 by_cases d1:1≤num a0 0
 ·rw [Q3 d1,Q4 (show ¬ num a0 0<1 by omega)]
  by_cases d2:num a0 0≤6
  ·rw [Q3 d2,Q4 (show ¬ num a0 0 > 6 by omega)]
   by_cases d3:1≤num a0 1
   ·rw [Q3 d3,Q4 (show ¬ num a0 1<1 by omega)]
    by_cases d4:num a0 1≤6
    ·rw [Q3 d4,Q4 (show ¬ num a0 1 > 6 by omega),Q3 (show 0≤num a0 0 by omega),Q3 (show 0≤num a0 1 by omega)]
     simp only [Bool.and_self,Q1,Q2,Bool.true_and,h']
     rw [show IntKind.u64.wrap (BitVec.ofInt IntKind.u64.bits (num a0 2) &&& ~~~(BitVec.ofInt IntKind.u64.bits (Uax (num a0 0) (num a0 1) 36))).toNat=Ubf (num a0 2) (Uax (num a0 0) (num a0 1) 36) from rfl]
     cases hb:(Ubf (num a0 2) (Uax (num a0 0) (num a0 1) 36)==0) with
     | false=>rw [show (Ubf (num a0 2) (Uax (num a0 0) (num a0 1) 36) != 0)=true by simp [bne,hb]];rfl
     | true=>
      rw [show (Ubf (num a0 2) (Uax (num a0 0) (num a0 1) 36) != 0)=false by simp [bne,hb],← hf]
      cases (List.range 36).find? (fun k=> !(fitS a0 0 k&&fitS a0 1 k))<;>rfl
    ·rw [Q4 d4,Q3 (show num a0 1 > 6 by omega)];rfl
   ·rw [Q4 d3,Q3 (show num a0 1<1 by omega)];rfl
  ·rw [Q4 d2,Q3 (show num a0 0 > 6 by omega)];rfl
 ·rw [Q4 d1,Q3 (show num a0 0<1 by omega)];rfl
def Zkm:Con:=fun args h=>match args,h with
 | [.g a0 41],[]=>some (.a (.b ((okS a0))),.none,true)
 | _,_=>none
theorem Zuv:EntX PZ 70:=Zag (fn:=Tryz.f70) (by kernel_rfl) (by kernel_rfl) (by kernel_rfl)
theorem Ya8:Uad mn PZ 70 Zkm:=(Zai (N:=1000) (by kernel_rfl) (mkΓ_consX (Zac Zp8) Zl5 (mkΓ_consX (Zac Zvv) Zrd mkΓ_nilX)) (fn:=Tryz.f70) (by kernel_rfl) (by kernel_rfl) [([2,28],[])]).of (by
 intro ρ h w args vals r e hA hH hr
 unfold Zkm at hr
 split at hr
 ·rename_i a0
  obtain ⟨rfl,rfl,hg2⟩:=BQi hr
  exact Zv3 a0 (hA.wt 0 rfl) hg2
 ·cases hr)
def Zbz:Cons:=(mkΓ [(38,con Zg6),(47,con Zc7),(55,con Zhp),(81,con Ziv)])
def Zf8 (a0:Array Value) (y0_2:Bool) (y0_3:Int):St:=(⟨.a (.w 0) :: .a (.u) :: .a (.b (y0_2)) :: .a (.i .i64 (y0_3)) :: .a (.i .i64 (0:Int)) :: .a (.x) :: .a (.w 0) :: .a (.w 0) :: .a (.p 0 (0) 22) :: .a (.i .i8 (num a0 0)) :: .a (.i .i64 (i64.wrap (num a0 0))) :: .a (.b ((Zaa (i64.wrap (num a0 0)) (1:Int) (6:Int)))) :: .a (.b ((!((Zaa (i64.wrap (num a0 0)) (1:Int) (6:Int)))))) :: .a (.b (false)) :: .a (.w 0) :: .a (.w 0) :: .a (.p 0 (1) 22) :: .a (.i .i8 (num a0 1)) :: .a (.i .i64 (i64.wrap (num a0 1))) :: .a (.b ((Zaa (i64.wrap (num a0 1)) (1:Int) (6:Int)))) :: .a (.b ((!((Zaa (i64.wrap (num a0 1)) (1:Int) (6:Int)))))) :: .a (.b ((!((Zaa (i64.wrap (num a0 1)) (1:Int) (6:Int)))))) :: .a (.b (false)) :: .a (.w 0) :: .a (.w 0) :: .a (.p 0 (2) 23) :: .a (.i .u64 (num a0 2)) :: .a (.w 0) :: .a (.i .u64 (Uax (num a0 0) (num a0 1) 36)) :: .a (.i .u64 (IntKind.u64.wrap (BitVec.ofInt IntKind.u64.bits (num a0 2) &&& ~~~(BitVec.ofInt IntKind.u64.bits (Uax (num a0 0) (num a0 1) 36))).toNat)) :: .a (.b (((IntKind.u64.wrap (BitVec.ofInt IntKind.u64.bits (num a0 2) &&& ~~~(BitVec.ofInt IntKind.u64.bits (Uax (num a0 0) (num a0 1) 36))).toNat) != (0:Int)))) :: .a (.b (((IntKind.u64.wrap (BitVec.ofInt IntKind.u64.bits (num a0 2) &&& ~~~(BitVec.ofInt IntKind.u64.bits (Uax (num a0 0) (num a0 1) 36))).toNat) != (0:Int)))) :: .a (.i .i64 (y0_3)) :: .a (.b (decide (y0_3<(2:Int))))::xs 33 ([]),[.row a0 41,.no,.no,.no,.no,.no,.no,.no,.no,.no,.no,.no,.no,.no,.no,.no,.no,.no,.no,.no,.no,.no,.no,.no,.no,.no,.no],[]⟩:St)
def Zhw:Bool×Int→LS
 | (y1_2,y1_4)=>([.a (.b (y1_2)),.a (.i .i64 (y1_4))],[])
def Zpl:(Stp (Bool×Int) (Bool×Int))→Exit×LS
 | .more t=>(.ret,Zhw t)
 | .done t=>((.exit 2),Zhw t)
def Zc9 (P : Program) (a0 : Array Value) (y0_2 : Bool) (y0_3 : Int) : Bool × Int → Option (Stp (Bool × Int) (Stp (Bool × Int) (Bool × Int)))
  | (y1_2, y1_4) => bif decide (y1_4 < (36 : Int)) then (bif (decide (0 ≤ y0_3) && decide (y0_3 < 2)) then (bif (decide (0 ≤ y1_4) && decide (y1_4 < 36)) then (bif (Za7 y1_4 a0) then (bif (Zad y1_4 a0) then (bif (!((sumW (a0.extract ((3 + ((y0_3).toNat * 180)) + ((y1_4).toNat * 5)) (((3 + ((y0_3).toNat * 180)) + ((y1_4).toNat * 5)) + 5)) 5 == (12 : Int)))) then (some (.done (.more (false, y1_4))))
              else (bif (Za7 y1_4 a0) then (bif (!((Zad y1_4 a0))) then (bif (!(Ubb (a0.extract ((3 + ((y0_3).toNat * 180)) + ((y1_4).toNat * 5)) (((3 + ((y0_3).toNat * 180)) + ((y1_4).toNat * 5)) + 5)) (#[.int .u8 (0 : Int), .int .u8 (0 : Int), .int .u8 (0 : Int), .int .u8 (0 : Int), .int .u8 (0 : Int)] : Array Value))) then (some (.done (.more (false, y1_4))))
                    else (some (.more (y1_2, (i64.wrap (y1_4 + (1 : Int)))))))
                  else (some (.more (y1_2, (i64.wrap (y1_4 + (1 : Int)))))))
                else (none)))
            else (bif (Za7 y1_4 a0) then (bif (!((Zad y1_4 a0))) then (bif (!(Ubb (a0.extract ((3 + ((y0_3).toNat * 180)) + ((y1_4).toNat * 5)) (((3 + ((y0_3).toNat * 180)) + ((y1_4).toNat * 5)) + 5)) (#[.int .u8 (0 : Int), .int .u8 (0 : Int), .int .u8 (0 : Int), .int .u8 (0 : Int), .int .u8 (0 : Int)] : Array Value))) then (some (.done (.more (false, y1_4))))
                  else (some (.more (y1_2, (i64.wrap (y1_4 + (1 : Int)))))))
                else (some (.more (y1_2, (i64.wrap (y1_4 + (1 : Int)))))))
              else (none)))
          else (none))
        else (none))
      else (none))
    else (some (.done (.done (y1_2, y1_4))))
theorem Yf6 (N:Nat) (a0:Array Value) (y0_2:Bool) (y0_3:Int):∀ t:Bool×Int,Uai PZ Zbz N (cAt (codeOf Tryz.f53) [1,1,0,1,0,0,1,0,0,1,0,0]) (pAt (Uaa (codeOf Tryz.f53) [([2,3],[]),([2,4],[])]).1 [1,1,0,1,0,1,0,1,0]) [2,4] [] (Zf8 a0 y0_2 y0_3) (Zhw t)=mapS Zhw Zpl (Zc9 PZ a0 y0_2 y0_3 t):=by
  rintro ⟨y1_2,y1_4⟩
  refine Eq.trans (b:=(bif decide (y1_4<(36:Int)) then (bif (decide (0≤y0_3)&&decide (y0_3<2)) then (bif (decide (0≤y1_4)&&decide (y1_4<36)) then (bif (Za7 y1_4 a0) then (bif (Zad y1_4 a0) then (bif (!((sumW (a0.extract ((3+((y0_3).toNat*180))+((y1_4).toNat*5)) (((3+((y0_3).toNat*180))+((y1_4).toNat*5))+5)) 5==(12:Int)))) then (some (.done (.ret,([.a (.b (false)),.a (.i .i64 (y1_4))],[]))))
              else (bif (Za7 y1_4 a0) then (bif (!((Zad y1_4 a0))) then (bif (!(Ubb (a0.extract ((3+((y0_3).toNat*180))+((y1_4).toNat*5)) (((3+((y0_3).toNat*180))+((y1_4).toNat*5))+5)) (#[.int .u8 (0:Int),.int .u8 (0:Int),.int .u8 (0:Int),.int .u8 (0:Int),.int .u8 (0:Int)]:Array Value))) then (some (.done (.ret,([.a (.b (false)),.a (.i .i64 (y1_4))],[]))))
                    else (some (.more ([.a (.b (y1_2)),.a (.i .i64 (i64.wrap (y1_4+(1:Int))))],[]))))
                  else (some (.more ([.a (.b (y1_2)),.a (.i .i64 (i64.wrap (y1_4+(1:Int))))],[]))))
                else (none)))
            else (bif (Za7 y1_4 a0) then (bif (!((Zad y1_4 a0))) then (bif (!(Ubb (a0.extract ((3+((y0_3).toNat*180))+((y1_4).toNat*5)) (((3+((y0_3).toNat*180))+((y1_4).toNat*5))+5)) (#[.int .u8 (0:Int),.int .u8 (0:Int),.int .u8 (0:Int),.int .u8 (0:Int),.int .u8 (0:Int)]:Array Value))) then (some (.done (.ret,([.a (.b (false)),.a (.i .i64 (y1_4))],[]))))
                  else (some (.more ([.a (.b (y1_2)),.a (.i .i64 (i64.wrap (y1_4+(1:Int))))],[]))))
                else (some (.more ([.a (.b (y1_2)),.a (.i .i64 (i64.wrap (y1_4+(1:Int))))],[]))))
              else (none)))
          else (none))
        else (none))
      else (none))
    else (some (.done ((.exit 2),([.a (.b (y1_2)),.a (.i .i64 (y1_4))],[])))))) (by kernel_rfl) ?_
  simp only [Zc9,Za5,Za4,Za3,Za6,Zhw,Zpl]
def Zge (a0:Array Value):St:=(⟨.a (.w 0) :: .a (.u) :: .a (.b (false)) :: .a (.i .i64 (0:Int)) :: .a (.u) :: .a (.u) :: .a (.w 0) :: .a (.w 0) :: .a (.p 0 (0) 22) :: .a (.i .i8 (num a0 0)) :: .a (.i .i64 (i64.wrap (num a0 0))) :: .a (.b ((Zaa (i64.wrap (num a0 0)) (1:Int) (6:Int)))) :: .a (.b ((!((Zaa (i64.wrap (num a0 0)) (1:Int) (6:Int)))))) :: .a (.b (false)) :: .a (.w 0) :: .a (.w 0) :: .a (.p 0 (1) 22) :: .a (.i .i8 (num a0 1)) :: .a (.i .i64 (i64.wrap (num a0 1))) :: .a (.b ((Zaa (i64.wrap (num a0 1)) (1:Int) (6:Int)))) :: .a (.b ((!((Zaa (i64.wrap (num a0 1)) (1:Int) (6:Int)))))) :: .a (.b ((!((Zaa (i64.wrap (num a0 1)) (1:Int) (6:Int)))))) :: .a (.b (false)) :: .a (.w 0) :: .a (.w 0) :: .a (.p 0 (2) 23) :: .a (.i .u64 (num a0 2)) :: .a (.w 0) :: .a (.i .u64 (Uax (num a0 0) (num a0 1) 36)) :: .a (.i .u64 (IntKind.u64.wrap (BitVec.ofInt IntKind.u64.bits (num a0 2) &&& ~~~(BitVec.ofInt IntKind.u64.bits (Uax (num a0 0) (num a0 1) 36))).toNat)) :: .a (.b (((IntKind.u64.wrap (BitVec.ofInt IntKind.u64.bits (num a0 2) &&& ~~~(BitVec.ofInt IntKind.u64.bits (Uax (num a0 0) (num a0 1) 36))).toNat) != (0:Int)))) :: .a (.b (((IntKind.u64.wrap (BitVec.ofInt IntKind.u64.bits (num a0 2) &&& ~~~(BitVec.ofInt IntKind.u64.bits (Uax (num a0 0) (num a0 1) 36))).toNat) != (0:Int))))::us 35 ([]),[.row a0 41,.no,.no,.no,.no,.no,.no,.no,.no,.no,.no,.no,.no,.no,.no,.no,.no,.no,.no,.no,.no,.no,.no,.no,.no,.no,.no],[]⟩:St)
def Zcx:Bool×Int→LS
 | (y0_2,y0_3)=>([.a (.b (y0_2)),.a (.i .i64 (y0_3))],[])
def Zel:(Stp (Bool×Int) (Bool×Int))→Exit×LS
 | .more t=>(.ret,Zcx t)
 | .done t=>((.exit 0),Zcx t)
def Zg7 (P:Program) (N:Nat) (a0:Array Value) (y0_2:Bool) (y0_3:Int) (z1_2:Bool) (z1_4:Int):Option (Stp (Bool×Int) (Stp (Bool×Int) (Bool×Int))):=some (.done (.more (z1_2,y0_3)))
theorem Zvq (N:Nat) (a0:Array Value) (y0_2:Bool) (y0_3:Int) (z1_2:Bool) (z1_4:Int):(Uab 2 (Uab 1 (kSeq (veC PZ Zbz N (cAt (codeOf Tryz.f53) [1,1,0,1,0,0,1,1]) (pAt (Uaa (codeOf Tryz.f53) [([2,3],[]),([2,4],[])]).1 [1,1,0,1,0,1,1]) (Stp LS (Exit×LS))) (Uco 27 [2,3] [])))) .ret (left (writes (cAt (codeOf Tryz.f53) [1,1,0,1,0,0,1,0,0,1,0,0])) [2,4] [] (Zf8 a0 y0_2 y0_3) ([.a (.b (z1_2)),.a (.i .i64 (z1_4))],[]))=mapS Zcx Zel (Zg7 PZ N a0 y0_2 y0_3 z1_2 z1_4):=by
 refine Eq.trans (b:=(some (.done (.ret,([.a (.b (z1_2)),.a (.i .i64 (y0_3))],[]))))) (by kernel_rfl) ?_
 simp only [Zg7,Za5,Za4,Za3,Za6,Zcx,Zel]
def Zg8 (P:Program) (N:Nat) (a0:Array Value) (y0_2:Bool) (y0_3:Int) (z1_2:Bool) (z1_4:Int):Option (Stp (Bool×Int) (Stp (Bool×Int) (Bool×Int))):=some (.more (z1_2,(i64.wrap (y0_3+(1:Int)))))
theorem Zws (N:Nat) (a0:Array Value) (y0_2:Bool) (y0_3:Int) (z1_2:Bool) (z1_4:Int):(Uab 2 (Uab 1 (kSeq (veC PZ Zbz N (cAt (codeOf Tryz.f53) [1,1,0,1,0,0,1,1]) (pAt (Uaa (codeOf Tryz.f53) [([2,3],[]),([2,4],[])]).1 [1,1,0,1,0,1,1]) (Stp LS (Exit×LS))) (Uco 27 [2,3] [])))) (.exit 2) (left (writes (cAt (codeOf Tryz.f53) [1,1,0,1,0,0,1,0,0,1,0,0])) [2,4] [] (Zf8 a0 y0_2 y0_3) ([.a (.b (z1_2)),.a (.i .i64 (z1_4))],[]))=mapS Zcx Zel (Zg8 PZ N a0 y0_2 y0_3 z1_2 z1_4):=by
 refine Eq.trans (b:=(some (.more ([.a (.b (z1_2)),.a (.i .i64 (i64.wrap (y0_3+(1:Int))))],[])))) (by kernel_rfl) ?_
 simp only [Zg8,Za5,Za4,Za3,Za6,Zcx,Zel]
theorem Yg8 (N:Nat) (a0:Array Value) (y0_2:Bool) (y0_3:Int):Uah (Uac (Uai PZ Zbz N (cAt (codeOf Tryz.f53) [1,1,0,1,0,0,1,0,0,1,0,0]) (pAt (Uaa (codeOf Tryz.f53) [([2,3],[]),([2,4],[])]).1 [1,1,0,1,0,1,0,1,0]) [2,4] [] (Zf8 a0 y0_2 y0_3)) N ([.a (.b (y0_2)),.a (.i .i64 (0:Int))],[])) (fun e s=>(Uab 2 (Uab 1 (kSeq (veC PZ Zbz N (cAt (codeOf Tryz.f53) [1,1,0,1,0,0,1,1]) (pAt (Uaa (codeOf Tryz.f53) [([2,3],[]),([2,4],[])]).1 [1,1,0,1,0,1,1]) (Stp LS (Exit×LS))) (Uco 27 [2,3] [])))) e (left (writes (cAt (codeOf Tryz.f53) [1,1,0,1,0,0,1,0,0,1,0,0])) [2,4] [] (Zf8 a0 y0_2 y0_3) s))=mapS Zcx Zel (Uam (Uac (Zc9 PZ a0 y0_2 y0_3) N (y0_2,(0:Int))) (st2 (fun x=>Zg7 PZ N a0 y0_2 y0_3 x.1 x.2) (fun x=>Zg8 PZ N a0 y0_2 y0_3 x.1 x.2))):=by
 have h:=Zbn (α:=Stp LS (Exit×LS)) Zhw Zpl _ _ (Yf6 N a0 y0_2 y0_3) N (y0_2,(0:Int))
 rw [Zyg Zcx Zel]
 refine h _ _ ?_
 intro x
 cases x with
 | more x=>exact Zvq N a0 y0_2 y0_3 x.1 x.2
 | done x=>exact Zws N a0 y0_2 y0_3 x.1 x.2
def Zen (P:Program) (N:Nat) (a0:Array Value):Bool×Int→Option (Stp (Bool×Int) (Stp (Bool×Int) (Bool×Int)))
 | (y0_2,y0_3)=>bif decide (y0_3<(2:Int)) then (Uam (Uac (Zc9 P a0 y0_2 y0_3) N (y0_2,(0:Int))) (st2 (fun x=>Zg7 P N a0 y0_2 y0_3 x.1 x.2) (fun x=>Zg8 P N a0 y0_2 y0_3 x.1 x.2)))
  else (some (.done (.done (y0_2,y0_3))))
theorem Yhi (N:Nat) (a0:Array Value):∀ t:Bool×Int,Uai PZ Zbz N (cAt (codeOf Tryz.f53) [1,1,0,1,0,0]) (pAt (Uaa (codeOf Tryz.f53) [([2,3],[]),([2,4],[])]).1 [1,1,0,1,0]) [2,3] [] (Zge a0) (Zcx t)=mapS Zcx Zel (Zen PZ N a0 t):=by
 rintro ⟨y0_2,y0_3⟩
 refine Eq.trans (b:=(bif decide (y0_3<(2:Int)) then (Uah (Uac (Uai PZ Zbz N (cAt (codeOf Tryz.f53) [1,1,0,1,0,0,1,0,0,1,0,0]) (pAt (Uaa (codeOf Tryz.f53) [([2,3],[]),([2,4],[])]).1 [1,1,0,1,0,1,0,1,0]) [2,4] [] (Zf8 a0 y0_2 y0_3)) N ([.a (.b (y0_2)),.a (.i .i64 (0:Int))],[])) (fun e s=>(Uab 2 (Uab 1 (kSeq (veC PZ Zbz N (cAt (codeOf Tryz.f53) [1,1,0,1,0,0,1,1]) (pAt (Uaa (codeOf Tryz.f53) [([2,3],[]),([2,4],[])]).1 [1,1,0,1,0,1,1]) (Stp LS (Exit×LS))) (Uco 27 [2,3] [])))) e (left (writes (cAt (codeOf Tryz.f53) [1,1,0,1,0,0,1,0,0,1,0,0])) [2,4] [] (Zf8 a0 y0_2 y0_3) s)))
  else (some (.done ((.exit 0),([.a (.b (y0_2)),.a (.i .i64 (y0_3))],[])))))) (by kernel_rfl) ?_
 simp only [Yg8 N a0 y0_2 y0_3,Zen,Za5,Za4,Za3,Za6,Zcx,Zel]
def Zl7 (P:Program) (N:Nat) (a0:Array Value) (z0_2:Bool) (z0_3:Int):Option (SV×Eff×Bool):=some (.a (.b (z0_2)),.none,true)
theorem Zxe (N:Nat) (a0:Array Value) (z0_2:Bool) (z0_3:Int):(Uab 0 (kSeq (veC PZ Zbz N (cAt (codeOf Tryz.f53) [1,1,1]) (pAt (Uaa (codeOf Tryz.f53) [([2,3],[]),([2,4],[])]).1 [1,1,1]) (SV×Eff×Bool)) (finK PZ [.row a0 41] [.tmp 2]))) .ret (left (writes (cAt (codeOf Tryz.f53) [1,1,0,1,0,0])) [2,3] [] (Zge a0) ([.a (.b (z0_2)),.a (.i .i64 (z0_3))],[]))=Zl7 PZ N a0 z0_2 z0_3:=by
 refine Eq.trans (b:=(some (.a (.b (z0_2)),.none,true))) (by kernel_rfl) ?_
 rfl
def Zm5 (P:Program) (N:Nat) (a0:Array Value) (z0_2:Bool) (z0_3:Int):Option (SV×Eff×Bool):=some (.a (.b (true)),.none,true)
theorem Zwt (N:Nat) (a0:Array Value) (z0_2:Bool) (z0_3:Int):(Uab 0 (kSeq (veC PZ Zbz N (cAt (codeOf Tryz.f53) [1,1,1]) (pAt (Uaa (codeOf Tryz.f53) [([2,3],[]),([2,4],[])]).1 [1,1,1]) (SV×Eff×Bool)) (finK PZ [.row a0 41] [.tmp 2]))) (.exit 0) (left (writes (cAt (codeOf Tryz.f53) [1,1,0,1,0,0])) [2,3] [] (Zge a0) ([.a (.b (z0_2)),.a (.i .i64 (z0_3))],[]))=Zm5 PZ N a0 z0_2 z0_3:=by
 refine Eq.trans (b:=(some (.a (.b (true)),.none,true))) (by kernel_rfl) ?_
 rfl
theorem Yhb (N:Nat) (a0:Array Value):Uah (Uac (Uai PZ Zbz N (cAt (codeOf Tryz.f53) [1,1,0,1,0,0]) (pAt (Uaa (codeOf Tryz.f53) [([2,3],[]),([2,4],[])]).1 [1,1,0,1,0]) [2,3] [] (Zge a0)) N ([.a (.b (false)),.a (.i .i64 (0:Int))],[])) (fun e s=>(Uab 0 (kSeq (veC PZ Zbz N (cAt (codeOf Tryz.f53) [1,1,1]) (pAt (Uaa (codeOf Tryz.f53) [([2,3],[]),([2,4],[])]).1 [1,1,1]) (SV×Eff×Bool)) (finK PZ [.row a0 41] [.tmp 2]))) e (left (writes (cAt (codeOf Tryz.f53) [1,1,0,1,0,0])) [2,3] [] (Zge a0) s))=Uam (Uac (Zen PZ N a0) N (false,(0:Int))) (st2 (fun x=>Zl7 PZ N a0 x.1 x.2) (fun x=>Zm5 PZ N a0 x.1 x.2)):=by
 refine Zbn Zcx Zel _ _ (Yhi N a0) N (false,(0:Int)) _ _ ?_
 intro x
 cases x with
 | more x=>exact Zxe N a0 x.1 x.2
 | done x=>exact Zwt N a0 x.1 x.2
theorem Yen (N:Nat) (a0:Array Value):ansV PZ Zbz N Tryz.f53 [([2,3],[]),([2,4],[])] [.w 0] [.row a0 41]=(bif (!((Zaa (i64.wrap (num a0 0)) (1:Int) (6:Int)))) then (some (.a (.b (false)),.none,true))
  else (bif (!((Zaa (i64.wrap (num a0 1)) (1:Int) (6:Int)))) then (some (.a (.b (false)),.none,true))
   else (bif ((IntKind.u64.wrap (BitVec.ofInt IntKind.u64.bits (num a0 2) &&& ~~~(BitVec.ofInt IntKind.u64.bits (Uax (num a0 0) (num a0 1) 36))).toNat) != (0:Int)) then (some (.a (.b (false)),.none,true))
    else (Uam (Uac (Zen PZ N a0) N (false,(0:Int))) (st2 (fun x=>Zl7 PZ N a0 x.1 x.2) (fun x=>Zm5 PZ N a0 x.1 x.2)))))):=by
 refine Eq.trans (b:=(bif (!((Zaa (i64.wrap (num a0 0)) (1:Int) (6:Int)))) then (some (.a (.b (false)),.none,true))
  else (bif (!((Zaa (i64.wrap (num a0 1)) (1:Int) (6:Int)))) then (some (.a (.b (false)),.none,true))
   else (bif ((IntKind.u64.wrap (BitVec.ofInt IntKind.u64.bits (num a0 2) &&& ~~~(BitVec.ofInt IntKind.u64.bits (Uax (num a0 0) (num a0 1) 36))).toNat) != (0:Int)) then (some (.a (.b (false)),.none,true))
    else (Uah (Uac (Uai PZ Zbz N (cAt (codeOf Tryz.f53) [1,1,0,1,0,0]) (pAt (Uaa (codeOf Tryz.f53) [([2,3],[]),([2,4],[])]).1 [1,1,0,1,0]) [2,3] [] (Zge a0)) N ([.a (.b (false)),.a (.i .i64 (0:Int))],[])) (fun e s=>(Uab 0 (kSeq (veC PZ Zbz N (cAt (codeOf Tryz.f53) [1,1,1]) (pAt (Uaa (codeOf Tryz.f53) [([2,3],[]),([2,4],[])]).1 [1,1,1]) (SV×Eff×Bool)) (finK PZ [.row a0 41] [.tmp 2]))) e (left (writes (cAt (codeOf Tryz.f53) [1,1,0,1,0,0])) [2,3] [] (Zge a0) s))))))) (by kernel_rfl) ?_
 simp only [Yhb N a0]
theorem Yma {S:Array Value} (h:WT PZ 41 S) {t:Nat} (ht:t<2) (b:Bool):Uac (Zc9 PZ S b (t:Int)) 1000 (b,(0:Int))=some (match (List.range 36).find? (fun k=> !(fitS S t k)) with | some k=>.more (false,(k:Int)) | none=>.done (b,((36:Nat):Int))):=by
 have htt:decide (0≤(t:Int))=true:=Q3 (by omega)
 have ht2:decide ((t:Int)<2)=true:=Q3 (by omega)
 exact Ycj (g:=Zc9 PZ S b (t:Int)) (fun k=>(b,(k:Int))) (fun k=> !(fitS S t k)) 36 (N:=1000) (by omega) (xd:=.done (b,((36:Nat):Int))) (fun k=>.more (false,(k:Int))) (fun k hk hp=>by
  have h1:decide ((k:Int)<36)=true:=Q3 (by omega)
  have h0:decide (0≤(k:Int))=true:=Q3 (by omega)
  have h3:i64.wrap ((k:Int)+1)=((k+1:Nat):Int):=by rw [IntWalk.i64_in _ (by omega)];omega
  obtain ⟨w1,w2⟩:=Yhu h hk
  rw [Bool.not_eq_false'] at hp
  unfold fitS chR at hp
  rw [← w2] at hp
  cases hw:Zad (k:Int) S with
  | false=>
   rw [hw] at hp
   simp only [Q2] at hp
   simp only [Zc9,h1,h0,h3,htt,ht2,w1,hw,Bool.and_self,Bool.not_false,Q1,Q2,Q9,hp,Bool.not_true]
  | true=>
   rw [hw] at hp
   simp only [Q1] at hp
   simp only [Zc9,h1,h0,h3,htt,ht2,w1,hw,Bool.and_self,Bool.not_true,Q1,Q2,Q9,hp]) (fun k hk hp=>by
  have h1:decide ((k:Int)<36)=true:=Q3 (by omega)
  have h0:decide (0≤(k:Int))=true:=Q3 (by omega)
  obtain ⟨w1,w2⟩:=Yhu h hk
  rw [Bool.not_eq_true'] at hp
  unfold fitS chR at hp
  rw [← w2] at hp
  cases hw:Zad (k:Int) S with
  | false=>
   rw [hw] at hp
   simp only [Q2] at hp
   simp only [Zc9,h1,h0,htt,ht2,w1,hw,Bool.and_self,Bool.not_false,Q1,Q2,Q9,hp]
  | true=>
   rw [hw] at hp
   simp only [Q1] at hp
   simp only [Zc9,h1,h0,htt,ht2,w1,hw,Bool.and_self,Bool.not_true,Bool.not_false,Q1,Q2,Q9,hp]) (by
  have h1:decide (((36:Nat):Int)<36)=false:=by decide
  simp only [Zc9,h1,Q2])
theorem Ycq (a0:Array Value) (h_a0:WT PZ 41 a0) (hg:(true)=true):ansV PZ Zbz 1000 Tryz.f53 [([2,3],[]),([2,4],[])] [.w 0] [.row a0 41]=some (.a (.b ((okS a0))),.none,true):=by
 refine (Yen 1000 a0).trans ?_
 obtain ⟨s0,b0,b1⟩:=h_a0.int (o:=0) (k:=.i8) (by kernel_rfl)
 obtain ⟨s1,b2,b3⟩:=h_a0.int (o:=1) (k:=.i8) (by kernel_rfl)
 have e1:IntKind.i8.min = -128:=rfl
 have e2:IntKind.i8.max=127:=rfl
 have h:=Ycj (g:=Zen PZ 1000 a0) (fun t=>(false,(t:Int))) (fun t=>((List.range 36).find? (fun k=> !(fitS a0 t k))).isSome) 2 (N:=1000) (by omega) (xd:=.done (false,((2:Nat):Int))) (fun t=>.more (false,(t:Int))) (fun t ht hp=>by
  have h1:decide ((t:Int)<2)=true:=Q3 (by omega)
  have h3:i64.wrap ((t:Int)+1)=((t+1:Nat):Int):=by rw [IntWalk.i64_in _ (by omega)];omega
  have hn:(List.range 36).find? (fun k=> !(fitS a0 t k))=none:=by simpa using hp
  have hi:=Yma h_a0 ht false
  rw [hn] at hi
  simp only [Zen,h1,Q1,hi,Uam,st2,Zg8,h3]) (fun t ht hp=>by
  have h1:decide ((t:Int)<2)=true:=Q3 (by omega)
  obtain ⟨k,hn⟩:=Option.isSome_iff_exists.1 hp
  have hi:=Yma h_a0 ht false
  rw [hn] at hi
  simp only [Zen,h1,Q1,hi,Uam,st2,Zg7]) (by
  have h1:decide (((2:Nat):Int)<2)=false:=by decide
  simp only [Zen,h1,Q2])
 have h':Uac (Zen PZ 1000 a0) 1000 (false,(0:Int))=some (match (List.range 2).find? (fun t=>((List.range 36).find? (fun k=> !(fitS a0 t k))).isSome) with | some t=>.more (false,(t:Int)) | none=>.done (false,((2:Nat):Int))):=h
 have i0:Zaa (i64.wrap (num a0 0)) 1 6=(decide (1≤num a0 0)&&decide (num a0 0≤6)):=by
  rw [IntWalk.i64_in _ (by omega)];unfold Zaa
  cases h1:decide (num a0 0 ≥ 1)<;>simp_all
 have i1:Zaa (i64.wrap (num a0 1)) 1 6=(decide (1≤num a0 1)&&decide (num a0 1≤6)):=by
  rw [IntWalk.i64_in _ (by omega)];unfold Zaa
  cases h1:decide (num a0 1 ≥ 1)<;>simp_all
 unfold okS okD
 rw [i0,i1,h',all_two,← Yga,← Yga,show IntKind.u64.wrap (BitVec.ofInt IntKind.u64.bits (num a0 2) &&& ~~~(BitVec.ofInt IntKind.u64.bits (Uax (num a0 0) (num a0 1) 36))).toNat=Ubf (num a0 2) (Uax (num a0 0) (num a0 1) 36) from rfl,show (List.range 2)=[0,1] from rfl]
 cases decide (1≤num a0 0)&&decide (num a0 0≤6)
 ·rfl
 cases decide (1≤num a0 1)&&decide (num a0 1≤6)
 ·rfl
 cases hb:(Ubf (num a0 2) (Uax (num a0 0) (num a0 1) 36)==0) with
 | false=>rw [show (Ubf (num a0 2) (Uax (num a0 0) (num a0 1) 36) != 0)=true by simp [bne,hb]];rfl
 | true=>
  rw [show (Ubf (num a0 2) (Uax (num a0 0) (num a0 1) 36) != 0)=false by simp [bne,hb]]
  simp only [List.find?]
  generalize (List.range 36).find? (fun k=> !(fitS a0 0 k))=f0
  generalize (List.range 36).find? (fun k=> !(fitS a0 1 k))=f1
  cases f0<;>cases f1<;>rfl
def Zn2:Con:=fun args h=>match args,h with
 | [.w 0],[.row a0 41]=>some (.a (.b ((okS a0))),.none,true)
 | _,_=>none
theorem Ya6:EntX PZ 53:=Zag (fn:=Tryz.f53) (by kernel_rfl) (by kernel_rfl) (by kernel_rfl)
theorem Yg2:Uad mn PZ 53 Zn2:=(Zai (N:=1000) (by kernel_rfl) (mkΓ_consX (Zac Znn) Zki (mkΓ_consX (Zac Zj6) Zgk (mkΓ_consX (Zac Zp5) Zmu (mkΓ_consX (Zac Zxg) Zq7 mkΓ_nilX)))) (fn:=Tryz.f53) (by kernel_rfl) (by kernel_rfl) [([2,3],[]),([2,4],[])]).of (by
 intro ρ h w args vals r e hA hH hr
 unfold Zn2 at hr
 split at hr
 ·rename_i a0
  obtain ⟨rfl,rfl,hg2⟩:=BQi hr
  exact Ycq a0 (hH.wt 0 rfl) hg2
 ·cases hr)
theorem Zsx {S:Array Value} (h:okS S=true):1≤num S 0∧num S 0≤6∧1≤num S 1∧num S 1≤6:=by
 unfold okS okD at h
 simp only [Q7,decide_eq_true_eq] at h
 exact ⟨h.1.1.1,h.1.1.2,h.1.2.1,h.1.2.2⟩
theorem Ylf {S:Array Value} (h:okS S=true):(decide (0≤num S 0)&&decide (num S 0≤6)&&(decide (0≤num S 1)&&decide (num S 1≤6)))=true:=by
 obtain ⟨h1,h2,h3,h4⟩:=Zsx h
 rw [Q3 (show 0≤num S 0 by omega),Q3 h2,Q3 (show 0≤num S 1 by omega),Q3 h4];rfl
theorem okS_fit {S:Array Value} (h:okS S=true) {t k:Nat} (ht:t<2) (hk:k<36):fitS S t k=true:=by
 unfold okS at h
 simp only [Q7] at h
 have:=List.all_eq_true.1 h.2.2 k (List.mem_range.2 hk)
 rw [Q7] at this
 match t,ht with
 | 0,_=>exact this.1
 | 1,_=>exact this.2
theorem Ype {S:Array Value} (h:WT PZ 41 S):S.size=363:=by rw [h.layLen,Yf8];simp
theorem num_sub {S:Array Value} {o n j:Nat} (hj:j<n):num (S.extract o (o+n)) j=num S (o+j):=by
 unfold num
 rw [Array.getElem?_extract]
 by_cases h:o+j<S.size
 ·rw [if_pos (by omega)]
 ·rw [if_neg (by omega),Array.getElem?_eq_none (by omega)]
theorem sea_u8 {S:Array Value} (h:WT PZ 41 S) {i:Nat} (hi:i<360):S[3+i]? = some (.int .u8 (num S (3+i)))∧0≤num S (3+i)∧num S (3+i)≤255:=h.int (k:=.u8) (by rw [Yf8,show 3+i=i+3 by omega];show (List.replicate 360 4)[i]? = some 4;rw [List.getElem?_replicate,if_pos hi])
end
end Go.Proofs.YtohnggmlmglhmaaGreatDoor
