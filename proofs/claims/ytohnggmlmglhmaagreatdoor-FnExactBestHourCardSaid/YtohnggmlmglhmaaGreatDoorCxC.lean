/- What a valid sea is, in company. -/
import Derived.Test.YtohnggmlmglhmaaGreatDoorProg
import Derived.Test.YtohnggmlmglhmaaGreatDoorCxB
namespace Go.Proofs.YtohnggmlmglhmaaGreatDoor
open Go.ChangeShapes Go.WideShapes Go.ChangeAt Go.RowKit Ve Vc
open Tryz renaming prog → PZ
open IntKind (i64)
set_option linter.unusedVariables false
set_option linter.unusedSimpArgs false
set_option maxRecDepth 100000
noncomputable section
variable {mn:Md}
def sumW (a:Array Value):Nat→Int
 | 0=>0
 | k+1=>i64.wrap (sumW a k+i64.wrap (num a (k*1)))
theorem tide_eq (t:Int):Zd3 t=Zaa t 0 1:=by
 unfold Zd3 Zaa
 by_cases h0:t=0
 ·subst h0;rfl
 ·by_cases h1:t=1
  ·subst h1;rfl
  ·rw [show (t==0)=false from beq_eq_false_iff_ne.2 h0,show (t==1)=false from beq_eq_false_iff_ne.2 h1]
   by_cases h2:t ≥ 0
   ·rw [decide_eq_true h2,decide_eq_false (show ¬ t≤1 by omega)];rfl
   ·rw [decide_eq_false h2];rfl
def Zdf (a0:Array Value):St:=(⟨.a (.g a0 37) :: .a (.w 0) :: .a (.b (false)) :: .a (.i .i64 (0:Int)) :: .a (.u) :: .a (.u) :: .a (.g a0 37) :: .a (.i .i64 (0:Int))::us 9 ([]),[.row a0 37,.no],[]⟩:St)
def Zei:Int×Int→LS
 | (y0_3,y0_7)=>([.a (.i .i64 (y0_3)),.a (.i .i64 (y0_7))],[])
def Zic:Int×Int→Exit×LS
 | t=>((.exit 0),Zei t)
def Zb2 (P:Program) (a0:Array Value):Int×Int→Option (Stp (Int×Int) (Int×Int))
 | (y0_3,y0_7)=>bif decide (y0_7<(5:Int)) then (bif (decide (0≤y0_7)&&decide (y0_7<5)) then (some (.more ((i64.wrap (y0_3+(i64.wrap (num a0 ((y0_7).toNat*1))))),(i64.wrap (y0_7+(1:Int))))))
   else (none))
  else (some (.done (y0_3,y0_7)))
theorem Zs7 (N:Nat) (a0:Array Value):∀ t:Int×Int,Uai PZ (mkΓ []) N (cAt (codeOf Tryz.f118) [1,1,0,1,0,0]) (pAt (Uaa (codeOf Tryz.f118) [([3,7],[])]).1 [1,1,0,1,0]) [3,7] [] (Zdf a0) (Zei t)=mapS Zei Zic (Zb2 PZ a0 t):=by
 rintro ⟨y0_3,y0_7⟩
 refine Eq.trans (b:=(bif decide (y0_7<(5:Int)) then (bif (decide (0≤y0_7)&&decide (y0_7<5)) then (some (.more ([.a (.i .i64 (i64.wrap (y0_3+(i64.wrap (num a0 ((y0_7).toNat*1)))))),.a (.i .i64 (i64.wrap (y0_7+(1:Int))))],[])))
   else (none))
  else (some (.done ((.exit 0),([.a (.i .i64 (y0_3)),.a (.i .i64 (y0_7))],[])))))) (by kernel_rfl) ?_
 simp only [Zb2,Za3,Za4,Za6,Za5,Zei,Zic]
def Zgv (P:Program) (N:Nat) (a0:Array Value) (z0_3:Int) (z0_7:Int):Option (SV×Eff×Bool):=some (.a (.b ((z0_3==(12:Int)))),.none,true)
theorem Znp (N:Nat) (a0:Array Value) (z0_3:Int) (z0_7:Int):(Uab 0 (kSeq (veC PZ (mkΓ []) N (cAt (codeOf Tryz.f118) [1,1,1]) (pAt (Uaa (codeOf Tryz.f118) [([3,7],[])]).1 [1,1,1]) (SV×Eff×Bool)) (finK PZ [] [.tmp 2]))) (.exit 0) (left (writes (cAt (codeOf Tryz.f118) [1,1,0,1,0,0])) [3,7] [] (Zdf a0) ([.a (.i .i64 (z0_3)),.a (.i .i64 (z0_7))],[]))=Zgv PZ N a0 z0_3 z0_7:=by
 refine Eq.trans (b:=(some (.a (.b ((z0_3==(12:Int)))),.none,true))) (by kernel_rfl) ?_
 rfl
theorem Zts (N:Nat) (a0:Array Value):Uah (Uac (Uai PZ (mkΓ []) N (cAt (codeOf Tryz.f118) [1,1,0,1,0,0]) (pAt (Uaa (codeOf Tryz.f118) [([3,7],[])]).1 [1,1,0,1,0]) [3,7] [] (Zdf a0)) N ([.a (.i .i64 (0:Int)),.a (.i .i64 (0:Int))],[])) (fun e s=>(Uab 0 (kSeq (veC PZ (mkΓ []) N (cAt (codeOf Tryz.f118) [1,1,1]) (pAt (Uaa (codeOf Tryz.f118) [([3,7],[])]).1 [1,1,1]) (SV×Eff×Bool)) (finK PZ [] [.tmp 2]))) e (left (writes (cAt (codeOf Tryz.f118) [1,1,0,1,0,0])) [3,7] [] (Zdf a0) s))=Uam (Uac (Zb2 PZ a0) N ((0:Int),(0:Int))) (fun x=>Zgv PZ N a0 x.1 x.2):=by
 refine Zbm Zei Zic _ _ (Zs7 N a0) N ((0:Int),(0:Int)) _ _ ?_
 intro x;exact Znp N a0 x.1 x.2
theorem Zr2 (N:Nat) (a0:Array Value):ansV PZ (mkΓ []) N Tryz.f118 [([3,7],[])] [.g a0 37] []=(Uam (Uac (Zb2 PZ a0) N ((0:Int),(0:Int))) (fun x=>Zgv PZ N a0 x.1 x.2)):=by
 refine Eq.trans (b:=(Uah (Uac (Uai PZ (mkΓ []) N (cAt (codeOf Tryz.f118) [1,1,0,1,0,0]) (pAt (Uaa (codeOf Tryz.f118) [([3,7],[])]).1 [1,1,0,1,0]) [3,7] [] (Zdf a0)) N ([.a (.i .i64 (0:Int)),.a (.i .i64 (0:Int))],[])) (fun e s=>(Uab 0 (kSeq (veC PZ (mkΓ []) N (cAt (codeOf Tryz.f118) [1,1,1]) (pAt (Uaa (codeOf Tryz.f118) [([3,7],[])]).1 [1,1,1]) (SV×Eff×Bool)) (finK PZ [] [.tmp 2]))) e (left (writes (cAt (codeOf Tryz.f118) [1,1,0,1,0,0])) [3,7] [] (Zdf a0) s)))) (by kernel_rfl) ?_
 simp only [Zts N a0]
theorem Zql (a0:Array Value) (h_a0:WT PZ 37 a0) (hg:(true)=true):ansV PZ (mkΓ []) 1000 Tryz.f118 [([3,7],[])] [.g a0 37] []=some (.a (.b ((sumW a0 5==(12:Int)))),.none,true):=by
 have h:=Zdy (g:=Zb2 PZ a0) (fun k=>(sumW a0 k,(k:Int))) (m:=5) (x:=(sumW a0 5,((5:Nat):Int))) (N:=1000) (fun k hk=>by
  have h1:decide ((k:Int)<5)=true:=decide_eq_true (by omega)
  have h0:decide (0≤(k:Int))=true:=decide_eq_true (by omega)
  have h3:i64.wrap ((k:Int)+1)=((k+1:Nat):Int):=by rw [IntWalk.i64_in _ (by omega)];omega
  have h4:((k:Int)).toNat=k:=Int.toNat_natCast k
  simp only [Zb2,h1,h0,Bool.and_self,h4,cond_true,h3,sumW]) (by
  have h1:decide (((5:Nat):Int)<5)=false:=by decide
  simp only [Zb2,h1,cond_false]) (by omega)
 refine (Zr2 1000 a0).trans ?_
 have h':Uac (Zb2 PZ a0) 1000 ((0:Int),(0:Int))=some (sumW a0 5,((5:Nat):Int)):=h
 rw [h']
 rfl
def Zhe:Con:=fun args h=>match args,h with
 | [.g a0 37],[]=>some (.a (.b ((sumW a0 5==(12:Int)))),.none,true)
 | _,_=>none
theorem Zpf:EntX PZ 118:=Zag (fn:=Tryz.f118) (by kernel_rfl) (by kernel_rfl) (by kernel_rfl)
theorem Ztw:Uad mn PZ 118 Zhe:=(Zai (N:=1000) (by kernel_rfl) mkΓ_nilX (fn:=Tryz.f118) (by kernel_rfl) (by kernel_rfl) [([3,7],[])]).of (by
 intro ρ h w args vals r e hA hH hr
 unfold Zhe at hr
 split at hr
 ·rename_i a0
  obtain ⟨rfl,rfl,hg2⟩:=BQi hr
  exact Zql a0 (hA.wt 0 rfl) hg2
 ·cases hr)
def Zea (a0:Array Value):St:=(⟨.a (.g a0 37) :: .a (.w 0) :: .a (.b (false)) :: .a (.i .i64 (0:Int)) :: .a (.i .i64 (0:Int))::us 12 ([]),[.row a0 37,.no],[]⟩:St)
def Zfb:Int×Int→LS
 | (y0_3,y0_4)=>([.a (.i .i64 (y0_3)),.a (.i .i64 (y0_4))],[])
def Zjp:Int×Int→Exit×LS
 | t=>((.exit 0),Zfb t)
def Zcq (P:Program) (a0:Array Value):Int×Int→Option (Stp (Int×Int) (Int×Int))
 | (y0_3,y0_4)=>bif decide (y0_4<(5:Int)) then (bif (decide (0≤y0_4)&&decide (y0_4<5)) then (some (.more ((i64.wrap (y0_3+(i64.wrap (num a0 ((y0_4).toNat*1))))),(i64.wrap (y0_4+(1:Int))))))
   else (none))
  else (some (.done (y0_3,y0_4)))
theorem Zw9 (N:Nat) (a0:Array Value):∀ t:Int×Int,Uai PZ (mkΓ []) N (cAt (codeOf Tryz.f81) [1,1,0,1,0,0]) (pAt (Uaa (codeOf Tryz.f81) [([3,4],[])]).1 [1,1,0,1,0]) [3,4] [] (Zea a0) (Zfb t)=mapS Zfb Zjp (Zcq PZ a0 t):=by
 rintro ⟨y0_3,y0_4⟩
 refine Eq.trans (b:=(bif decide (y0_4<(5:Int)) then (bif (decide (0≤y0_4)&&decide (y0_4<5)) then (some (.more ([.a (.i .i64 (i64.wrap (y0_3+(i64.wrap (num a0 ((y0_4).toNat*1)))))),.a (.i .i64 (i64.wrap (y0_4+(1:Int))))],[])))
   else (none))
  else (some (.done ((.exit 0),([.a (.i .i64 (y0_3)),.a (.i .i64 (y0_4))],[])))))) (by kernel_rfl) ?_
 simp only [Zcq,Za3,Za4,Za6,Za5,Zfb,Zjp]
def Zh8 (P:Program) (N:Nat) (a0:Array Value) (z0_3:Int) (z0_4:Int):Option (SV×Eff×Bool):=some (.a (.b ((z0_3==(12:Int)))),.none,true)
theorem Zpw (N:Nat) (a0:Array Value) (z0_3:Int) (z0_4:Int):(Uab 0 (kSeq (veC PZ (mkΓ []) N (cAt (codeOf Tryz.f81) [1,1,1]) (pAt (Uaa (codeOf Tryz.f81) [([3,4],[])]).1 [1,1,1]) (SV×Eff×Bool)) (finK PZ [] [.tmp 2]))) (.exit 0) (left (writes (cAt (codeOf Tryz.f81) [1,1,0,1,0,0])) [3,4] [] (Zea a0) ([.a (.i .i64 (z0_3)),.a (.i .i64 (z0_4))],[]))=Zh8 PZ N a0 z0_3 z0_4:=by
 refine Eq.trans (b:=(some (.a (.b ((z0_3==(12:Int)))),.none,true))) (by kernel_rfl) ?_
 rfl
theorem Zxt (N:Nat) (a0:Array Value):Uah (Uac (Uai PZ (mkΓ []) N (cAt (codeOf Tryz.f81) [1,1,0,1,0,0]) (pAt (Uaa (codeOf Tryz.f81) [([3,4],[])]).1 [1,1,0,1,0]) [3,4] [] (Zea a0)) N ([.a (.i .i64 (0:Int)),.a (.i .i64 (0:Int))],[])) (fun e s=>(Uab 0 (kSeq (veC PZ (mkΓ []) N (cAt (codeOf Tryz.f81) [1,1,1]) (pAt (Uaa (codeOf Tryz.f81) [([3,4],[])]).1 [1,1,1]) (SV×Eff×Bool)) (finK PZ [] [.tmp 2]))) e (left (writes (cAt (codeOf Tryz.f81) [1,1,0,1,0,0])) [3,4] [] (Zea a0) s))=Uam (Uac (Zcq PZ a0) N ((0:Int),(0:Int))) (fun x=>Zh8 PZ N a0 x.1 x.2):=by
 refine Zbm Zfb Zjp _ _ (Zw9 N a0) N ((0:Int),(0:Int)) _ _ ?_
 intro x;exact Zpw N a0 x.1 x.2
theorem Zuo (N:Nat) (a0:Array Value):ansV PZ (mkΓ []) N Tryz.f81 [([3,4],[])] [.g a0 37] []=(Uam (Uac (Zcq PZ a0) N ((0:Int),(0:Int))) (fun x=>Zh8 PZ N a0 x.1 x.2)):=by
 refine Eq.trans (b:=(Uah (Uac (Uai PZ (mkΓ []) N (cAt (codeOf Tryz.f81) [1,1,0,1,0,0]) (pAt (Uaa (codeOf Tryz.f81) [([3,4],[])]).1 [1,1,0,1,0]) [3,4] [] (Zea a0)) N ([.a (.i .i64 (0:Int)),.a (.i .i64 (0:Int))],[])) (fun e s=>(Uab 0 (kSeq (veC PZ (mkΓ []) N (cAt (codeOf Tryz.f81) [1,1,1]) (pAt (Uaa (codeOf Tryz.f81) [([3,4],[])]).1 [1,1,1]) (SV×Eff×Bool)) (finK PZ [] [.tmp 2]))) e (left (writes (cAt (codeOf Tryz.f81) [1,1,0,1,0,0])) [3,4] [] (Zea a0) s)))) (by kernel_rfl) ?_
 simp only [Zxt N a0]
theorem Ztg (a0:Array Value) (h_a0:WT PZ 37 a0) (hg:(true)=true):ansV PZ (mkΓ []) 1000 Tryz.f81 [([3,4],[])] [.g a0 37] []=some (.a (.b ((sumW a0 5==(12:Int)))),.none,true):=by
 have h:=Zdy (g:=Zcq PZ a0) (fun k=>(sumW a0 k,(k:Int))) (m:=5) (x:=(sumW a0 5,((5:Nat):Int))) (N:=1000) (fun k hk=>by
  have h1:decide ((k:Int)<5)=true:=decide_eq_true (by omega)
  have h0:decide (0≤(k:Int))=true:=decide_eq_true (by omega)
  have h3:i64.wrap ((k:Int)+1)=((k+1:Nat):Int):=by rw [IntWalk.i64_in _ (by omega)];omega
  have h4:((k:Int)).toNat=k:=Int.toNat_natCast k
  simp only [Zcq,h1,h0,Bool.and_self,h4,cond_true,h3,sumW]) (by
  have h1:decide (((5:Nat):Int)<5)=false:=by decide
  simp only [Zcq,h1,cond_false]) (by omega)
 refine (Zuo 1000 a0).trans ?_
 have h':Uac (Zcq PZ a0) 1000 ((0:Int),(0:Int))=some (sumW a0 5,((5:Nat):Int)):=h
 rw [h']
 rfl
def Zi5:Con:=fun args h=>match args,h with
 | [.g a0 37],[]=>some (.a (.b ((sumW a0 5==(12:Int)))),.none,true)
 | _,_=>none
theorem Zrs:EntX PZ 81:=Zag (fn:=Tryz.f81) (by kernel_rfl) (by kernel_rfl) (by kernel_rfl)
theorem Zvt:Uad mn PZ 81 Zi5:=(Zai (N:=1000) (by kernel_rfl) mkΓ_nilX (fn:=Tryz.f81) (by kernel_rfl) (by kernel_rfl) [([3,4],[])]).of (by
 intro ρ h w args vals r e hA hH hr
 unfold Zi5 at hr
 split at hr
 ·rename_i a0
  obtain ⟨rfl,rfl,hg2⟩:=BQi hr
  exact Ztg a0 (hA.wt 0 rfl) hg2
 ·cases hr)
def Zob:Cons:=(mkΓ [(33,con Zez),(117,con Zip),(118,con Zhe)])
theorem Zup (N:Nat) (a0:Array Value) (a1:Int) (a2:Array Value):ansV PZ Zob N Tryz.f96 [] [.g a0 41,.i .i64 (a1),.g a2 37] []=(bif (Zal a0 a1) then (bif decide (0≤a1) then (bif (Zb9 a0 a1) then (some (.a (.b ((sumW a2 5==(12:Int)))),.none,true))
    else (some (.a (.b ((Ubb a2 (#[.int .u8 (0:Int),.int .u8 (0:Int),.int .u8 (0:Int),.int .u8 (0:Int),.int .u8 (0:Int)]:Array Value)))),.none,true)))
   else (none))
  else (some (.a (.b ((Ubb a2 (#[.int .u8 (0:Int),.int .u8 (0:Int),.int .u8 (0:Int),.int .u8 (0:Int),.int .u8 (0:Int)]:Array Value)))),.none,true))):=by kernel_rfl
def Zb5 (a0:Array Value) (a1:Int) (a2:Array Value):Bool:=(bif (Zal a0 a1) then (bif (Zb9 a0 a1) then (sumW a2 5==(12:Int)) else (Ubb a2 (#[.int .u8 (0:Int),.int .u8 (0:Int),.int .u8 (0:Int),.int .u8 (0:Int),.int .u8 (0:Int)]:Array Value))) else (Ubb a2 (#[.int .u8 (0:Int),.int .u8 (0:Int),.int .u8 (0:Int),.int .u8 (0:Int),.int .u8 (0:Int)]:Array Value)))
theorem Ztu (a0:Array Value) (a1:Int) (a2:Array Value) (h_a0:WT PZ 41 a0) (h_a1:i64.min≤a1∧a1≤i64.max) (h_a2:WT PZ 37 a2) (hg:((bif (Zal a0 a1) then decide (0≤a1) else true))=true):ansV PZ Zob 1000 Tryz.f96 [] [.g a0 41,.i .i64 (a1),.g a2 37] []=some (.a (.b ((Zb5 a0 a1 a2))),.none,true):=by
 refine (Zup 1000 a0 a1 a2).trans ?_
 unfold Zb5
 revert hg
 generalize ((Zal a0 a1))=b2
 intro hg
 cases b2
 ·skip
  first | (simp only [BQ6];done) | rfl | exact (nomatch (hg:false=true))
 ·skip
  revert hg
  generalize (decide (0≤a1))=b4
  intro hg
  cases b4
  ·skip
   first | exact (nomatch (hg:false=true)) | (simp only [BQ6];done) | rfl
  ·skip
   revert hg
   generalize ((Zb9 a0 a1))=b6
   intro hg
   cases b6
   ·skip
    first | (simp only [BQ6];done) | rfl | exact (nomatch (hg:false=true))
   ·skip
    first | (simp only [BQ6];done) | rfl | exact (nomatch (hg:false=true))
def Zi8:Con:=fun args h=>match args,h with
 | [.g a0 41,.i .i64 a1,.g a2 37],[]=>some (.a (.b ((Zb5 a0 a1 a2))),.none,(bif (Zal a0 a1) then decide (0≤a1) else true))
 | _,_=>none
theorem Zsi:EntX PZ 96:=Zag (fn:=Tryz.f96) (by kernel_rfl) (by kernel_rfl) (by kernel_rfl)
theorem Zwv:Uad mn PZ 96 Zi8:=(Zai (N:=1000) (by kernel_rfl) (mkΓ_consX (Zac Zjy) Zg2 (mkΓ_consX (Zac Zrp) Zne (mkΓ_consX (Zac Ztw) Zpf mkΓ_nilX))) (fn:=Tryz.f96) (by kernel_rfl) (by kernel_rfl) []).of (by
 intro ρ h w args vals r e hA hH hr
 unfold Zi8 at hr
 split at hr
 ·rename_i a0 a1 a2
  obtain ⟨rfl,rfl,hg2⟩:=BQi hr
  exact Ztu a0 a1 a2 (hA.wt 0 rfl) (hA.rng 1 rfl) (hA.wt 2 rfl) hg2
 ·cases hr)
def chR (S:Array Value) (t k:Nat):Array Value:=S.extract (3+t*180+k*5) (3+t*180+k*5+5)
def fitS (S:Array Value) (t k:Nat):Bool:=bif inC (num S 0) (num S 1) k && !(bitI (num S 2) k) then (sumW (chR S t k) 5==(12:Int)) else Ubb (chR S t k) (#[.int .u8 (0:Int),.int .u8 (0:Int),.int .u8 (0:Int),.int .u8 (0:Int),.int .u8 (0:Int)]:Array Value)
def okD (S:Array Value):Bool:=decide (1≤num S 0)&&decide (num S 0≤6)&&(decide (1≤num S 1)&&decide (num S 1≤6))
def okS (S:Array Value):Bool:=okD S&&((Ubd (num S 2) (Uay (num S 0) (num S 1) 36)==0)&&(List.range 36).all fun k=>fitS S 0 k&&fitS S 1 k)
theorem Yhf (n:Nat) (p:Nat→Bool):((List.range n).find? (fun k=> !(p k))).isNone=(List.range n).all p:=by
 rw [Bool.eq_iff_iff,Option.isNone_iff_eq_none,List.find?_eq_none,List.all_eq_true]
 simp
theorem all_two (n:Nat) (p q:Nat→Bool):(List.range n).all (fun k=>p k&&q k)=((List.range n).all p&&(List.range n).all q):=by
 rw [Bool.eq_iff_iff,Bool.and_eq_true,List.all_eq_true,List.all_eq_true,List.all_eq_true]
 simp only [Bool.and_eq_true]
 exact ⟨fun h=>⟨fun x hx=>(h x hx).1,fun x hx=>(h x hx).2⟩,fun h x hx=>⟨h.1 x hx,h.2 x hx⟩⟩
theorem Yn8 {S:Array Value} (h:WT PZ 41 S) {k:Nat} (hk:k<36):Zal S (k:Int)=inC (num S 0) (num S 1) k:=by rw [Zuv,Yh2 h hk]
theorem Ybs {S:Array Value} (h:WT PZ 41 S) {k:Nat} (hk:k<36) (t:Nat):Zb5 S (k:Int) (chR S t k)=fitS S t k:=by
 unfold Zb5 fitS
 rw [Yn8 h hk]
 unfold Zb9
 rw [Yf4 hk]
 cases inC (num S 0) (num S 1) k<;>cases bitI (num S 2) k<;>rfl
theorem Yi4 {S:Array Value} (h:WT PZ 41 S) {k:Nat} (hk:k<36):Za7 (k:Int) S=true∧Zad (k:Int) S=(inC (num S 0) (num S 1) k && !(bitI (num S 2) k)):=by
 have hu:decide (0≤IntKind.u64.wrap (k:Int))=true:=decide_eq_true (Zib .u64 _).1
 unfold Za7 Zad
 rw [Yh2 h hk,Yj8 h hk]
 constructor
 ·cases inC (num S 0) (num S 1) k<;>simp [hu]
 ·cases inC (num S 0) (num S 1) k<;>simp
def Zc8:Cons:=(mkΓ [(67,con Zfo),(96,con Zi8)])
def Zef (a0:Array Value):St:=(⟨.a (.g a0 41) :: .a (.w 0) :: .a (.b (false)) :: .a (.u) :: .a (.p 0 (0) 22) :: .a (.i .i8 (num a0 0)) :: .a (.b (decide ((num a0 0)<(1:Int)))) :: .a (.b (false)) :: .a (.p 0 (0) 22) :: .a (.i .i8 (num a0 0)) :: .a (.b (decide ((num a0 0) > (6:Int)))) :: .a (.b (decide ((num a0 0) > (6:Int)))) :: .a (.b (false)) :: .a (.p 0 (1) 22) :: .a (.i .i8 (num a0 1)) :: .a (.b (decide ((num a0 1)<(1:Int)))) :: .a (.b (decide ((num a0 1)<(1:Int)))) :: .a (.b (false)) :: .a (.p 0 (1) 22) :: .a (.i .i8 (num a0 1)) :: .a (.b (decide ((num a0 1) > (6:Int)))) :: .a (.b (decide ((num a0 1) > (6:Int)))) :: .a (.p 0 (2) 23) :: .a (.i .u64 (num a0 2)) :: .a (.g a0 41) :: .a (.i .u64 (Uay (num a0 0) (num a0 1) 36)) :: .a (.i .u64 (IntKind.u64.wrap (BitVec.ofInt IntKind.u64.bits (num a0 2) &&& ~~~(BitVec.ofInt IntKind.u64.bits (Uay (num a0 0) (num a0 1) 36))).toNat)) :: .a (.b (((IntKind.u64.wrap (BitVec.ofInt IntKind.u64.bits (num a0 2) &&& ~~~(BitVec.ofInt IntKind.u64.bits (Uay (num a0 0) (num a0 1) 36))).toNat) != (0:Int)))) :: .a (.i .i64 (0:Int))::us 23 ([]),[.row a0 41,.no,.no,.no,.no,.no,.no,.no],[]⟩:St)
def Ze4:Bool×Int→LS
 | (y0_2,y0_28)=>([.a (.b (y0_2)),.a (.i .i64 (y0_28))],[])
def Zlb:(Stp (Bool×Int) (Bool×Int))→Exit×LS
 | .more t=>(.ret,Ze4 t)
 | .done t=>((.exit 0),Ze4 t)
def Zcd (P:Program) (a0:Array Value):Bool×Int→Option (Stp (Bool×Int) (Stp (Bool×Int) (Bool×Int)))
  | (y0_2,y0_28)=>bif decide (y0_28<(36:Int)) then (bif (decide (0≤y0_28)&&decide (y0_28<36)) then (bif (bif (Zal a0 y0_28) then decide (0≤y0_28) else true) then (bif (!((Zb5 a0 y0_28 (a0.extract (3+((y0_28).toNat*5)) ((3+((y0_28).toNat*5))+5))))) then (some (.done (.more (false,y0_28))))
          else (bif (decide (0≤y0_28)&&decide (y0_28<36)) then (bif (bif (Zal a0 y0_28) then decide (0≤y0_28) else true) then (bif (!((Zb5 a0 y0_28 (a0.extract (183+((y0_28).toNat*5)) ((183+((y0_28).toNat*5))+5))))) then (some (.done (.more (false,y0_28))))
                else (some (.more (y0_2,(i64.wrap (y0_28+(1:Int)))))))
              else (none))
            else (none)))
        else (none))
      else (none))
    else (some (.done (.done (y0_2,y0_28))))
theorem Yab (N:Nat) (a0:Array Value):∀ t:Bool×Int,Uai PZ Zc8 N (cAt (codeOf Tryz.f70) [1,1,1,0,1,0,0]) (pAt (Uaa (codeOf Tryz.f70) [([2,28],[])]).1 [1,1,1,0,1,0]) [2,28] [] (Zef a0) (Ze4 t)=mapS Ze4 Zlb (Zcd PZ a0 t):=by
  rintro ⟨y0_2,y0_28⟩
  refine Eq.trans (b:=(bif decide (y0_28<(36:Int)) then (bif (decide (0≤y0_28)&&decide (y0_28<36)) then (bif (bif (Zal a0 y0_28) then decide (0≤y0_28) else true) then (bif (!((Zb5 a0 y0_28 (a0.extract (3+((y0_28).toNat*5)) ((3+((y0_28).toNat*5))+5))))) then (some (.done (.ret,([.a (.b (false)),.a (.i .i64 (y0_28))],[]))))
          else (bif (decide (0≤y0_28)&&decide (y0_28<36)) then (bif (bif (Zal a0 y0_28) then decide (0≤y0_28) else true) then (bif (!((Zb5 a0 y0_28 (a0.extract (183+((y0_28).toNat*5)) ((183+((y0_28).toNat*5))+5))))) then (some (.done (.ret,([.a (.b (false)),.a (.i .i64 (y0_28))],[]))))
                else (some (.more ([.a (.b (y0_2)),.a (.i .i64 (i64.wrap (y0_28+(1:Int))))],[]))))
              else (none))
            else (none)))
        else (none))
      else (none))
    else (some (.done ((.exit 0),([.a (.b (y0_2)),.a (.i .i64 (y0_28))],[])))))) (by kernel_rfl) ?_
  simp only [Zcd,Za3,Za4,Za6,Za5,Ze4,Zlb]
def Zji (P:Program) (N:Nat) (a0:Array Value) (z0_2:Bool) (z0_28:Int):Option (SV×Eff×Bool):=some (.a (.b (z0_2)),.none,true)
theorem Zrx (N:Nat) (a0:Array Value) (z0_2:Bool) (z0_28:Int):(Uab 0 (kSeq (veC PZ Zc8 N (cAt (codeOf Tryz.f70) [1,1,1,1]) (pAt (Uaa (codeOf Tryz.f70) [([2,28],[])]).1 [1,1,1,1]) (SV×Eff×Bool)) (finK PZ [] [.tmp 2]))) .ret (left (writes (cAt (codeOf Tryz.f70) [1,1,1,0,1,0,0])) [2,28] [] (Zef a0) ([.a (.b (z0_2)),.a (.i .i64 (z0_28))],[]))=Zji PZ N a0 z0_2 z0_28:=by
 refine Eq.trans (b:=(some (.a (.b (z0_2)),.none,true))) (by kernel_rfl) ?_
 rfl
def Zjw (P:Program) (N:Nat) (a0:Array Value) (z0_2:Bool) (z0_28:Int):Option (SV×Eff×Bool):=some (.a (.b (true)),.none,true)
theorem Zq8 (N:Nat) (a0:Array Value) (z0_2:Bool) (z0_28:Int):(Uab 0 (kSeq (veC PZ Zc8 N (cAt (codeOf Tryz.f70) [1,1,1,1]) (pAt (Uaa (codeOf Tryz.f70) [([2,28],[])]).1 [1,1,1,1]) (SV×Eff×Bool)) (finK PZ [] [.tmp 2]))) (.exit 0) (left (writes (cAt (codeOf Tryz.f70) [1,1,1,0,1,0,0])) [2,28] [] (Zef a0) ([.a (.b (z0_2)),.a (.i .i64 (z0_28))],[]))=Zjw PZ N a0 z0_2 z0_28:=by
 refine Eq.trans (b:=(some (.a (.b (true)),.none,true))) (by kernel_rfl) ?_
 rfl
theorem Ybg (N:Nat) (a0:Array Value):Uah (Uac (Uai PZ Zc8 N (cAt (codeOf Tryz.f70) [1,1,1,0,1,0,0]) (pAt (Uaa (codeOf Tryz.f70) [([2,28],[])]).1 [1,1,1,0,1,0]) [2,28] [] (Zef a0)) N ([.a (.b (false)),.a (.i .i64 (0:Int))],[])) (fun e s=>(Uab 0 (kSeq (veC PZ Zc8 N (cAt (codeOf Tryz.f70) [1,1,1,1]) (pAt (Uaa (codeOf Tryz.f70) [([2,28],[])]).1 [1,1,1,1]) (SV×Eff×Bool)) (finK PZ [] [.tmp 2]))) e (left (writes (cAt (codeOf Tryz.f70) [1,1,1,0,1,0,0])) [2,28] [] (Zef a0) s))=Uam (Uac (Zcd PZ a0) N (false,(0:Int))) (st2 (fun x=>Zji PZ N a0 x.1 x.2) (fun x=>Zjw PZ N a0 x.1 x.2)):=by
 refine Zbm Ze4 Zlb _ _ (Yab N a0) N (false,(0:Int)) _ _ ?_
 intro x
 cases x with
 | more x=>exact Zrx N a0 x.1 x.2
 | done x=>exact Zq8 N a0 x.1 x.2
theorem Zzv (N:Nat) (a0:Array Value):ansV PZ Zc8 N Tryz.f70 [([2,28],[])] [.g a0 41] []=(bif decide ((num a0 0)<(1:Int)) then (some (.a (.b (false)),.none,true))
    else (bif decide ((num a0 0) > (6:Int)) then (some (.a (.b (false)),.none,true))
      else (bif decide ((num a0 1)<(1:Int)) then (some (.a (.b (false)),.none,true))
        else (bif decide ((num a0 1) > (6:Int)) then (some (.a (.b (false)),.none,true))
          else (bif (decide (0≤num a0 0)&&decide (num a0 0≤6)&&(decide (0≤num a0 1)&&decide (num a0 1≤6))) then (bif ((IntKind.u64.wrap (BitVec.ofInt IntKind.u64.bits (num a0 2) &&& ~~~(BitVec.ofInt IntKind.u64.bits (Uay (num a0 0) (num a0 1) 36))).toNat) != (0:Int)) then (some (.a (.b (false)),.none,true))
              else (Uam (Uac (Zcd PZ a0) N (false,(0:Int))) (st2 (fun x=>Zji PZ N a0 x.1 x.2) (fun x=>Zjw PZ N a0 x.1 x.2))))
            else (none)))))):=by
  refine Eq.trans (b:=(bif decide ((num a0 0)<(1:Int)) then (some (.a (.b (false)),.none,true))
    else (bif decide ((num a0 0) > (6:Int)) then (some (.a (.b (false)),.none,true))
      else (bif decide ((num a0 1)<(1:Int)) then (some (.a (.b (false)),.none,true))
        else (bif decide ((num a0 1) > (6:Int)) then (some (.a (.b (false)),.none,true))
          else (bif (decide (0≤num a0 0)&&decide (num a0 0≤6)&&(decide (0≤num a0 1)&&decide (num a0 1≤6))) then (bif ((IntKind.u64.wrap (BitVec.ofInt IntKind.u64.bits (num a0 2) &&& ~~~(BitVec.ofInt IntKind.u64.bits (Uay (num a0 0) (num a0 1) 36))).toNat) != (0:Int)) then (some (.a (.b (false)),.none,true))
              else (Uah (Uac (Uai PZ Zc8 N (cAt (codeOf Tryz.f70) [1,1,1,0,1,0,0]) (pAt (Uaa (codeOf Tryz.f70) [([2,28],[])]).1 [1,1,1,0,1,0]) [2,28] [] (Zef a0)) N ([.a (.b (false)),.a (.i .i64 (0:Int))],[])) (fun e s=>(Uab 0 (kSeq (veC PZ Zc8 N (cAt (codeOf Tryz.f70) [1,1,1,1]) (pAt (Uaa (codeOf Tryz.f70) [([2,28],[])]).1 [1,1,1,1]) (SV×Eff×Bool)) (finK PZ [] [.tmp 2]))) e (left (writes (cAt (codeOf Tryz.f70) [1,1,1,0,1,0,0])) [2,28] [] (Zef a0) s))))
            else (none))))))) (by kernel_rfl) ?_
  simp only [Ybg N a0]
theorem Zv9 (a0:Array Value) (h_a0:WT PZ 41 a0) (hg:(true)=true):ansV PZ Zc8 1000 Tryz.f70 [([2,28],[])] [.g a0 41] []=some (.a (.b ((okS a0))),.none,true):=by
 refine (Zzv 1000 a0).trans ?_
 have h:=Ybz (g:=Zcd PZ a0) (fun k=>(false,(k:Int))) (fun k=> !(fitS a0 0 k&&fitS a0 1 k)) 36 (N:=1000) (by omega) (xd:=.done (false,((36:Nat):Int))) (fun k=>.more (false,(k:Int))) (fun k hk hp=>by
  have h1:decide ((k:Int)<36)=true:=decide_eq_true (by omega)
  have h0:decide (0≤(k:Int))=true:=decide_eq_true (by omega)
  have h3:i64.wrap ((k:Int)+1)=((k+1:Nat):Int):=by rw [IntWalk.i64_in _ (by omega)];omega
  have f0:=Ybs h_a0 hk 0
  have f1:=Ybs h_a0 hk 1
  unfold chR at f0 f1
  rw [show 3+0*180+k*5=3+k*5 by omega] at f0
  rw [show 3+1*180+k*5=183+k*5 by omega] at f1
  have hg:(bif Zal a0 (k:Int) then true else true)=true:=by cases Zal a0 (k:Int)<;>rfl
  simp only [Bool.not_eq_false',Bool.and_eq_true] at hp
  simp only [Zcd,h1,h0,h3,Bool.and_self,cond_true,Int.toNat_natCast,hg,f0,f1,hp.1,hp.2,Bool.not_true,cond_false]) (fun k hk hp=>by
  have h1:decide ((k:Int)<36)=true:=decide_eq_true (by omega)
  have h0:decide (0≤(k:Int))=true:=decide_eq_true (by omega)
  have f0:=Ybs h_a0 hk 0
  have f1:=Ybs h_a0 hk 1
  unfold chR at f0 f1
  rw [show 3+0*180+k*5=3+k*5 by omega] at f0
  rw [show 3+1*180+k*5=183+k*5 by omega] at f1
  have hg:(bif Zal a0 (k:Int) then true else true)=true:=by cases Zal a0 (k:Int)<;>rfl
  cases e0:fitS a0 0 k with
  | false=>simp only [Zcd,h1,h0,Bool.and_self,cond_true,Int.toNat_natCast,hg,f0,e0,Bool.not_false]
  | true=>
   rw [e0] at hp
   have e1:fitS a0 1 k=false:=by simpa using hp
   simp only [Zcd,h1,h0,Bool.and_self,cond_true,Int.toNat_natCast,hg,f0,f1,e0,e1,Bool.not_false,Bool.not_true,cond_false]) (by
  have h1:decide (((36:Nat):Int)<36)=false:=by decide
  simp only [Zcd,h1,cond_false])
 have h':Uac (Zcd PZ a0) 1000 (false,(0:Int))=some (match (List.range 36).find? (fun k=> !(fitS a0 0 k&&fitS a0 1 k)) with | some k=>.more (false,(k:Int)) | none=>.done (false,((36:Nat):Int))):=h
 have hf:=Yhf 36 (fun k=>fitS a0 0 k&&fitS a0 1 k)
 unfold okS okD
 by_cases d1:1≤num a0 0
 ·rw [decide_eq_true d1,decide_eq_false (show ¬ num a0 0<1 by omega)]
  by_cases d2:num a0 0≤6
  ·rw [decide_eq_true d2,decide_eq_false (show ¬ num a0 0 > 6 by omega)]
   by_cases d3:1≤num a0 1
   ·rw [decide_eq_true d3,decide_eq_false (show ¬ num a0 1<1 by omega)]
    by_cases d4:num a0 1≤6
    ·rw [decide_eq_true d4,decide_eq_false (show ¬ num a0 1 > 6 by omega),decide_eq_true (show 0≤num a0 0 by omega),decide_eq_true (show 0≤num a0 1 by omega)]
     simp only [Bool.and_self,cond_true,cond_false,Bool.true_and,h']
     rw [show IntKind.u64.wrap (BitVec.ofInt IntKind.u64.bits (num a0 2) &&& ~~~(BitVec.ofInt IntKind.u64.bits (Uay (num a0 0) (num a0 1) 36))).toNat=Ubd (num a0 2) (Uay (num a0 0) (num a0 1) 36) from rfl]
     cases hb:(Ubd (num a0 2) (Uay (num a0 0) (num a0 1) 36)==0) with
     | false=>rw [show (Ubd (num a0 2) (Uay (num a0 0) (num a0 1) 36) != 0)=true by simp [bne,hb]];rfl
     | true=>
      rw [show (Ubd (num a0 2) (Uay (num a0 0) (num a0 1) 36) != 0)=false by simp [bne,hb],← hf]
      cases (List.range 36).find? (fun k=> !(fitS a0 0 k&&fitS a0 1 k))<;>rfl
    ·rw [decide_eq_false d4,decide_eq_true (show num a0 1 > 6 by omega)];rfl
   ·rw [decide_eq_false d3,decide_eq_true (show num a0 1<1 by omega)];rfl
  ·rw [decide_eq_false d2,decide_eq_true (show num a0 0 > 6 by omega)];rfl
 ·rw [decide_eq_false d1,decide_eq_true (show num a0 0<1 by omega)];rfl
def Zkj:Con:=fun args h=>match args,h with
 | [.g a0 41],[]=>some (.a (.b ((okS a0))),.none,true)
 | _,_=>none
theorem Zvf:EntX PZ 70:=Zag (fn:=Tryz.f70) (by kernel_rfl) (by kernel_rfl) (by kernel_rfl)
theorem Ya2:Uad mn PZ 70 Zkj:=(Zai (N:=1000) (by kernel_rfl) (mkΓ_consX (Zac Zp3) Zm5 (mkΓ_consX (Zac Zwv) Zsi mkΓ_nilX)) (fn:=Tryz.f70) (by kernel_rfl) (by kernel_rfl) [([2,28],[])]).of (by
 intro ρ h w args vals r e hA hH hr
 unfold Zkj at hr
 split at hr
 ·rename_i a0
  obtain ⟨rfl,rfl,hg2⟩:=BQi hr
  exact Zv9 a0 (hA.wt 0 rfl) hg2
 ·cases hr)
def Zb0:Cons:=(mkΓ [(38,con Zhf),(47,con Zc7),(55,con Zho),(81,con Zi5)])
def Zf5 (a0:Array Value) (y0_2:Bool) (y0_3:Int):St:=(⟨.a (.w 0) :: .a (.u) :: .a (.b (y0_2)) :: .a (.i .i64 (y0_3)) :: .a (.i .i64 (0:Int)) :: .a (.x) :: .a (.w 0) :: .a (.w 0) :: .a (.p 0 (0) 22) :: .a (.i .i8 (num a0 0)) :: .a (.i .i64 (i64.wrap (num a0 0))) :: .a (.b ((Zaa (i64.wrap (num a0 0)) (1:Int) (6:Int)))) :: .a (.b ((!((Zaa (i64.wrap (num a0 0)) (1:Int) (6:Int)))))) :: .a (.b (false)) :: .a (.w 0) :: .a (.w 0) :: .a (.p 0 (1) 22) :: .a (.i .i8 (num a0 1)) :: .a (.i .i64 (i64.wrap (num a0 1))) :: .a (.b ((Zaa (i64.wrap (num a0 1)) (1:Int) (6:Int)))) :: .a (.b ((!((Zaa (i64.wrap (num a0 1)) (1:Int) (6:Int)))))) :: .a (.b ((!((Zaa (i64.wrap (num a0 1)) (1:Int) (6:Int)))))) :: .a (.b (false)) :: .a (.w 0) :: .a (.w 0) :: .a (.p 0 (2) 23) :: .a (.i .u64 (num a0 2)) :: .a (.w 0) :: .a (.i .u64 (Uay (num a0 0) (num a0 1) 36)) :: .a (.i .u64 (IntKind.u64.wrap (BitVec.ofInt IntKind.u64.bits (num a0 2) &&& ~~~(BitVec.ofInt IntKind.u64.bits (Uay (num a0 0) (num a0 1) 36))).toNat)) :: .a (.b (((IntKind.u64.wrap (BitVec.ofInt IntKind.u64.bits (num a0 2) &&& ~~~(BitVec.ofInt IntKind.u64.bits (Uay (num a0 0) (num a0 1) 36))).toNat) != (0:Int)))) :: .a (.b (((IntKind.u64.wrap (BitVec.ofInt IntKind.u64.bits (num a0 2) &&& ~~~(BitVec.ofInt IntKind.u64.bits (Uay (num a0 0) (num a0 1) 36))).toNat) != (0:Int)))) :: .a (.i .i64 (y0_3)) :: .a (.b (decide (y0_3<(2:Int))))::xs 33 ([]),[.row a0 41,.no,.no,.no,.no,.no,.no,.no,.no,.no,.no,.no,.no,.no,.no,.no,.no,.no,.no,.no,.no,.no,.no,.no,.no,.no,.no],[]⟩:St)
def Zht:Bool×Int→LS
 | (y1_2,y1_4)=>([.a (.b (y1_2)),.a (.i .i64 (y1_4))],[])
def Zpo:(Stp (Bool×Int) (Bool×Int))→Exit×LS
 | .more t=>(.ret,Zht t)
 | .done t=>((.exit 2),Zht t)
def Zda (P : Program) (a0 : Array Value) (y0_2 : Bool) (y0_3 : Int) : Bool × Int → Option (Stp (Bool × Int) (Stp (Bool × Int) (Bool × Int)))
  | (y1_2, y1_4) => bif decide (y1_4 < (36 : Int)) then (bif (decide (0 ≤ y0_3) && decide (y0_3 < 2)) then (bif (decide (0 ≤ y1_4) && decide (y1_4 < 36)) then (bif (Za7 y1_4 a0) then (bif (Zad y1_4 a0) then (bif (!((sumW (a0.extract ((3 + ((y0_3).toNat * 180)) + ((y1_4).toNat * 5)) (((3 + ((y0_3).toNat * 180)) + ((y1_4).toNat * 5)) + 5)) 5 == (12 : Int)))) then (some (.done (.more (false, y1_4))))
              else (bif (Za7 y1_4 a0) then (bif (!((Zad y1_4 a0))) then (bif (!(Ubb (a0.extract ((3 + ((y0_3).toNat * 180)) + ((y1_4).toNat * 5)) (((3 + ((y0_3).toNat * 180)) + ((y1_4).toNat * 5)) + 5)) (#[.int .u8 (0 : Int), .int .u8 (0 : Int), .int .u8 (0 : Int), .int .u8 (0 : Int), .int .u8 (0 : Int)] : Array Value))) then (some (.done (.more (false, y1_4))))
                    else (some (.more (y1_2, (i64.wrap (y1_4 + (1 : Int)))))))
                  else (some (.more (y1_2, (i64.wrap (y1_4 + (1 : Int)))))))
                else (none)))
            else (bif (Za7 y1_4 a0) then (bif (!((Zad y1_4 a0))) then (bif (!(Ubb (a0.extract ((3 + ((y0_3).toNat * 180)) + ((y1_4).toNat * 5)) (((3 + ((y0_3).toNat * 180)) + ((y1_4).toNat * 5)) + 5)) (#[.int .u8 (0 : Int), .int .u8 (0 : Int), .int .u8 (0 : Int), .int .u8 (0 : Int), .int .u8 (0 : Int)] : Array Value))) then (some (.done (.more (false, y1_4))))
                  else (some (.more (y1_2, (i64.wrap (y1_4 + (1 : Int)))))))
                else (some (.more (y1_2, (i64.wrap (y1_4 + (1 : Int)))))))
              else (none)))
          else (none))
        else (none))
      else (none))
    else (some (.done (.done (y1_2, y1_4))))
theorem Yg4 (N:Nat) (a0:Array Value) (y0_2:Bool) (y0_3:Int):∀ t:Bool×Int,Uai PZ Zb0 N (cAt (codeOf Tryz.f53) [1,1,0,1,0,0,1,0,0,1,0,0]) (pAt (Uaa (codeOf Tryz.f53) [([2,3],[]),([2,4],[])]).1 [1,1,0,1,0,1,0,1,0]) [2,4] [] (Zf5 a0 y0_2 y0_3) (Zht t)=mapS Zht Zpo (Zda PZ a0 y0_2 y0_3 t):=by
  rintro ⟨y1_2,y1_4⟩
  refine Eq.trans (b:=(bif decide (y1_4<(36:Int)) then (bif (decide (0≤y0_3)&&decide (y0_3<2)) then (bif (decide (0≤y1_4)&&decide (y1_4<36)) then (bif (Za7 y1_4 a0) then (bif (Zad y1_4 a0) then (bif (!((sumW (a0.extract ((3+((y0_3).toNat*180))+((y1_4).toNat*5)) (((3+((y0_3).toNat*180))+((y1_4).toNat*5))+5)) 5==(12:Int)))) then (some (.done (.ret,([.a (.b (false)),.a (.i .i64 (y1_4))],[]))))
              else (bif (Za7 y1_4 a0) then (bif (!((Zad y1_4 a0))) then (bif (!(Ubb (a0.extract ((3+((y0_3).toNat*180))+((y1_4).toNat*5)) (((3+((y0_3).toNat*180))+((y1_4).toNat*5))+5)) (#[.int .u8 (0:Int),.int .u8 (0:Int),.int .u8 (0:Int),.int .u8 (0:Int),.int .u8 (0:Int)]:Array Value))) then (some (.done (.ret,([.a (.b (false)),.a (.i .i64 (y1_4))],[]))))
                    else (some (.more ([.a (.b (y1_2)),.a (.i .i64 (i64.wrap (y1_4+(1:Int))))],[]))))
                  else (some (.more ([.a (.b (y1_2)),.a (.i .i64 (i64.wrap (y1_4+(1:Int))))],[]))))
                else (none)))
            else (bif (Za7 y1_4 a0) then (bif (!((Zad y1_4 a0))) then (bif (!(Ubb (a0.extract ((3+((y0_3).toNat*180))+((y1_4).toNat*5)) (((3+((y0_3).toNat*180))+((y1_4).toNat*5))+5)) (#[.int .u8 (0:Int),.int .u8 (0:Int),.int .u8 (0:Int),.int .u8 (0:Int),.int .u8 (0:Int)]:Array Value))) then (some (.done (.ret,([.a (.b (false)),.a (.i .i64 (y1_4))],[]))))
                  else (some (.more ([.a (.b (y1_2)),.a (.i .i64 (i64.wrap (y1_4+(1:Int))))],[]))))
                else (some (.more ([.a (.b (y1_2)),.a (.i .i64 (i64.wrap (y1_4+(1:Int))))],[]))))
              else (none)))
          else (none))
        else (none))
      else (none))
    else (some (.done ((.exit 2),([.a (.b (y1_2)),.a (.i .i64 (y1_4))],[])))))) (by kernel_rfl) ?_
  simp only [Zda,Za3,Za4,Za6,Za5,Zht,Zpo]
def Zgf (a0:Array Value):St:=(⟨.a (.w 0) :: .a (.u) :: .a (.b (false)) :: .a (.i .i64 (0:Int)) :: .a (.u) :: .a (.u) :: .a (.w 0) :: .a (.w 0) :: .a (.p 0 (0) 22) :: .a (.i .i8 (num a0 0)) :: .a (.i .i64 (i64.wrap (num a0 0))) :: .a (.b ((Zaa (i64.wrap (num a0 0)) (1:Int) (6:Int)))) :: .a (.b ((!((Zaa (i64.wrap (num a0 0)) (1:Int) (6:Int)))))) :: .a (.b (false)) :: .a (.w 0) :: .a (.w 0) :: .a (.p 0 (1) 22) :: .a (.i .i8 (num a0 1)) :: .a (.i .i64 (i64.wrap (num a0 1))) :: .a (.b ((Zaa (i64.wrap (num a0 1)) (1:Int) (6:Int)))) :: .a (.b ((!((Zaa (i64.wrap (num a0 1)) (1:Int) (6:Int)))))) :: .a (.b ((!((Zaa (i64.wrap (num a0 1)) (1:Int) (6:Int)))))) :: .a (.b (false)) :: .a (.w 0) :: .a (.w 0) :: .a (.p 0 (2) 23) :: .a (.i .u64 (num a0 2)) :: .a (.w 0) :: .a (.i .u64 (Uay (num a0 0) (num a0 1) 36)) :: .a (.i .u64 (IntKind.u64.wrap (BitVec.ofInt IntKind.u64.bits (num a0 2) &&& ~~~(BitVec.ofInt IntKind.u64.bits (Uay (num a0 0) (num a0 1) 36))).toNat)) :: .a (.b (((IntKind.u64.wrap (BitVec.ofInt IntKind.u64.bits (num a0 2) &&& ~~~(BitVec.ofInt IntKind.u64.bits (Uay (num a0 0) (num a0 1) 36))).toNat) != (0:Int)))) :: .a (.b (((IntKind.u64.wrap (BitVec.ofInt IntKind.u64.bits (num a0 2) &&& ~~~(BitVec.ofInt IntKind.u64.bits (Uay (num a0 0) (num a0 1) 36))).toNat) != (0:Int))))::us 35 ([]),[.row a0 41,.no,.no,.no,.no,.no,.no,.no,.no,.no,.no,.no,.no,.no,.no,.no,.no,.no,.no,.no,.no,.no,.no,.no,.no,.no,.no],[]⟩:St)
def Zcy:Bool×Int→LS
 | (y0_2,y0_3)=>([.a (.b (y0_2)),.a (.i .i64 (y0_3))],[])
def Zeo:(Stp (Bool×Int) (Bool×Int))→Exit×LS
 | .more t=>(.ret,Zcy t)
 | .done t=>((.exit 0),Zcy t)
def Zhb (P:Program) (N:Nat) (a0:Array Value) (y0_2:Bool) (y0_3:Int) (z1_2:Bool) (z1_4:Int):Option (Stp (Bool×Int) (Stp (Bool×Int) (Bool×Int))):=some (.done (.more (z1_2,y0_3)))
theorem Zv0 (N:Nat) (a0:Array Value) (y0_2:Bool) (y0_3:Int) (z1_2:Bool) (z1_4:Int):(Uab 2 (Uab 1 (kSeq (veC PZ Zb0 N (cAt (codeOf Tryz.f53) [1,1,0,1,0,0,1,1]) (pAt (Uaa (codeOf Tryz.f53) [([2,3],[]),([2,4],[])]).1 [1,1,0,1,0,1,1]) (Stp LS (Exit×LS))) (Ucj 27 [2,3] [])))) .ret (left (writes (cAt (codeOf Tryz.f53) [1,1,0,1,0,0,1,0,0,1,0,0])) [2,4] [] (Zf5 a0 y0_2 y0_3) ([.a (.b (z1_2)),.a (.i .i64 (z1_4))],[]))=mapS Zcy Zeo (Zhb PZ N a0 y0_2 y0_3 z1_2 z1_4):=by
 refine Eq.trans (b:=(some (.done (.ret,([.a (.b (z1_2)),.a (.i .i64 (y0_3))],[]))))) (by kernel_rfl) ?_
 simp only [Zhb,Za3,Za4,Za6,Za5,Zcy,Zeo]
def Zhc (P:Program) (N:Nat) (a0:Array Value) (y0_2:Bool) (y0_3:Int) (z1_2:Bool) (z1_4:Int):Option (Stp (Bool×Int) (Stp (Bool×Int) (Bool×Int))):=some (.more (z1_2,(i64.wrap (y0_3+(1:Int)))))
theorem Zvx (N:Nat) (a0:Array Value) (y0_2:Bool) (y0_3:Int) (z1_2:Bool) (z1_4:Int):(Uab 2 (Uab 1 (kSeq (veC PZ Zb0 N (cAt (codeOf Tryz.f53) [1,1,0,1,0,0,1,1]) (pAt (Uaa (codeOf Tryz.f53) [([2,3],[]),([2,4],[])]).1 [1,1,0,1,0,1,1]) (Stp LS (Exit×LS))) (Ucj 27 [2,3] [])))) (.exit 2) (left (writes (cAt (codeOf Tryz.f53) [1,1,0,1,0,0,1,0,0,1,0,0])) [2,4] [] (Zf5 a0 y0_2 y0_3) ([.a (.b (z1_2)),.a (.i .i64 (z1_4))],[]))=mapS Zcy Zeo (Zhc PZ N a0 y0_2 y0_3 z1_2 z1_4):=by
 refine Eq.trans (b:=(some (.more ([.a (.b (z1_2)),.a (.i .i64 (i64.wrap (y0_3+(1:Int))))],[])))) (by kernel_rfl) ?_
 simp only [Zhc,Za3,Za4,Za6,Za5,Zcy,Zeo]
theorem Ygx (N:Nat) (a0:Array Value) (y0_2:Bool) (y0_3:Int):Uah (Uac (Uai PZ Zb0 N (cAt (codeOf Tryz.f53) [1,1,0,1,0,0,1,0,0,1,0,0]) (pAt (Uaa (codeOf Tryz.f53) [([2,3],[]),([2,4],[])]).1 [1,1,0,1,0,1,0,1,0]) [2,4] [] (Zf5 a0 y0_2 y0_3)) N ([.a (.b (y0_2)),.a (.i .i64 (0:Int))],[])) (fun e s=>(Uab 2 (Uab 1 (kSeq (veC PZ Zb0 N (cAt (codeOf Tryz.f53) [1,1,0,1,0,0,1,1]) (pAt (Uaa (codeOf Tryz.f53) [([2,3],[]),([2,4],[])]).1 [1,1,0,1,0,1,1]) (Stp LS (Exit×LS))) (Ucj 27 [2,3] [])))) e (left (writes (cAt (codeOf Tryz.f53) [1,1,0,1,0,0,1,0,0,1,0,0])) [2,4] [] (Zf5 a0 y0_2 y0_3) s))=mapS Zcy Zeo (Uam (Uac (Zda PZ a0 y0_2 y0_3) N (y0_2,(0:Int))) (st2 (fun x=>Zhb PZ N a0 y0_2 y0_3 x.1 x.2) (fun x=>Zhc PZ N a0 y0_2 y0_3 x.1 x.2))):=by
 have h:=Zbm (α:=Stp LS (Exit×LS)) Zht Zpo _ _ (Yg4 N a0 y0_2 y0_3) N (y0_2,(0:Int))
 rw [Zyf Zcy Zeo]
 refine h _ _ ?_
 intro x
 cases x with
 | more x=>exact Zv0 N a0 y0_2 y0_3 x.1 x.2
 | done x=>exact Zvx N a0 y0_2 y0_3 x.1 x.2
def Zen (P:Program) (N:Nat) (a0:Array Value):Bool×Int→Option (Stp (Bool×Int) (Stp (Bool×Int) (Bool×Int)))
 | (y0_2,y0_3)=>bif decide (y0_3<(2:Int)) then (Uam (Uac (Zda P a0 y0_2 y0_3) N (y0_2,(0:Int))) (st2 (fun x=>Zhb P N a0 y0_2 y0_3 x.1 x.2) (fun x=>Zhc P N a0 y0_2 y0_3 x.1 x.2)))
  else (some (.done (.done (y0_2,y0_3))))
theorem Ygq (N:Nat) (a0:Array Value):∀ t:Bool×Int,Uai PZ Zb0 N (cAt (codeOf Tryz.f53) [1,1,0,1,0,0]) (pAt (Uaa (codeOf Tryz.f53) [([2,3],[]),([2,4],[])]).1 [1,1,0,1,0]) [2,3] [] (Zgf a0) (Zcy t)=mapS Zcy Zeo (Zen PZ N a0 t):=by
 rintro ⟨y0_2,y0_3⟩
 refine Eq.trans (b:=(bif decide (y0_3<(2:Int)) then (Uah (Uac (Uai PZ Zb0 N (cAt (codeOf Tryz.f53) [1,1,0,1,0,0,1,0,0,1,0,0]) (pAt (Uaa (codeOf Tryz.f53) [([2,3],[]),([2,4],[])]).1 [1,1,0,1,0,1,0,1,0]) [2,4] [] (Zf5 a0 y0_2 y0_3)) N ([.a (.b (y0_2)),.a (.i .i64 (0:Int))],[])) (fun e s=>(Uab 2 (Uab 1 (kSeq (veC PZ Zb0 N (cAt (codeOf Tryz.f53) [1,1,0,1,0,0,1,1]) (pAt (Uaa (codeOf Tryz.f53) [([2,3],[]),([2,4],[])]).1 [1,1,0,1,0,1,1]) (Stp LS (Exit×LS))) (Ucj 27 [2,3] [])))) e (left (writes (cAt (codeOf Tryz.f53) [1,1,0,1,0,0,1,0,0,1,0,0])) [2,4] [] (Zf5 a0 y0_2 y0_3) s)))
  else (some (.done ((.exit 0),([.a (.b (y0_2)),.a (.i .i64 (y0_3))],[])))))) (by kernel_rfl) ?_
 simp only [Ygx N a0 y0_2 y0_3,Zen,Za3,Za4,Za6,Za5,Zcy,Zeo]
def Zm6 (P:Program) (N:Nat) (a0:Array Value) (z0_2:Bool) (z0_3:Int):Option (SV×Eff×Bool):=some (.a (.b (z0_2)),.none,true)
theorem Zx0 (N:Nat) (a0:Array Value) (z0_2:Bool) (z0_3:Int):(Uab 0 (kSeq (veC PZ Zb0 N (cAt (codeOf Tryz.f53) [1,1,1]) (pAt (Uaa (codeOf Tryz.f53) [([2,3],[]),([2,4],[])]).1 [1,1,1]) (SV×Eff×Bool)) (finK PZ [.row a0 41] [.tmp 2]))) .ret (left (writes (cAt (codeOf Tryz.f53) [1,1,0,1,0,0])) [2,3] [] (Zgf a0) ([.a (.b (z0_2)),.a (.i .i64 (z0_3))],[]))=Zm6 PZ N a0 z0_2 z0_3:=by
 refine Eq.trans (b:=(some (.a (.b (z0_2)),.none,true))) (by kernel_rfl) ?_
 rfl
def Zmy (P:Program) (N:Nat) (a0:Array Value) (z0_2:Bool) (z0_3:Int):Option (SV×Eff×Bool):=some (.a (.b (true)),.none,true)
theorem Zwd (N:Nat) (a0:Array Value) (z0_2:Bool) (z0_3:Int):(Uab 0 (kSeq (veC PZ Zb0 N (cAt (codeOf Tryz.f53) [1,1,1]) (pAt (Uaa (codeOf Tryz.f53) [([2,3],[]),([2,4],[])]).1 [1,1,1]) (SV×Eff×Bool)) (finK PZ [.row a0 41] [.tmp 2]))) (.exit 0) (left (writes (cAt (codeOf Tryz.f53) [1,1,0,1,0,0])) [2,3] [] (Zgf a0) ([.a (.b (z0_2)),.a (.i .i64 (z0_3))],[]))=Zmy PZ N a0 z0_2 z0_3:=by
 refine Eq.trans (b:=(some (.a (.b (true)),.none,true))) (by kernel_rfl) ?_
 rfl
theorem Yg5 (N:Nat) (a0:Array Value):Uah (Uac (Uai PZ Zb0 N (cAt (codeOf Tryz.f53) [1,1,0,1,0,0]) (pAt (Uaa (codeOf Tryz.f53) [([2,3],[]),([2,4],[])]).1 [1,1,0,1,0]) [2,3] [] (Zgf a0)) N ([.a (.b (false)),.a (.i .i64 (0:Int))],[])) (fun e s=>(Uab 0 (kSeq (veC PZ Zb0 N (cAt (codeOf Tryz.f53) [1,1,1]) (pAt (Uaa (codeOf Tryz.f53) [([2,3],[]),([2,4],[])]).1 [1,1,1]) (SV×Eff×Bool)) (finK PZ [.row a0 41] [.tmp 2]))) e (left (writes (cAt (codeOf Tryz.f53) [1,1,0,1,0,0])) [2,3] [] (Zgf a0) s))=Uam (Uac (Zen PZ N a0) N (false,(0:Int))) (st2 (fun x=>Zm6 PZ N a0 x.1 x.2) (fun x=>Zmy PZ N a0 x.1 x.2)):=by
 refine Zbm Zcy Zeo _ _ (Ygq N a0) N (false,(0:Int)) _ _ ?_
 intro x
 cases x with
 | more x=>exact Zx0 N a0 x.1 x.2
 | done x=>exact Zwd N a0 x.1 x.2
theorem Yek (N:Nat) (a0:Array Value):ansV PZ Zb0 N Tryz.f53 [([2,3],[]),([2,4],[])] [.w 0] [.row a0 41]=(bif (!((Zaa (i64.wrap (num a0 0)) (1:Int) (6:Int)))) then (some (.a (.b (false)),.none,true))
  else (bif (!((Zaa (i64.wrap (num a0 1)) (1:Int) (6:Int)))) then (some (.a (.b (false)),.none,true))
   else (bif ((IntKind.u64.wrap (BitVec.ofInt IntKind.u64.bits (num a0 2) &&& ~~~(BitVec.ofInt IntKind.u64.bits (Uay (num a0 0) (num a0 1) 36))).toNat) != (0:Int)) then (some (.a (.b (false)),.none,true))
    else (Uam (Uac (Zen PZ N a0) N (false,(0:Int))) (st2 (fun x=>Zm6 PZ N a0 x.1 x.2) (fun x=>Zmy PZ N a0 x.1 x.2)))))):=by
 refine Eq.trans (b:=(bif (!((Zaa (i64.wrap (num a0 0)) (1:Int) (6:Int)))) then (some (.a (.b (false)),.none,true))
  else (bif (!((Zaa (i64.wrap (num a0 1)) (1:Int) (6:Int)))) then (some (.a (.b (false)),.none,true))
   else (bif ((IntKind.u64.wrap (BitVec.ofInt IntKind.u64.bits (num a0 2) &&& ~~~(BitVec.ofInt IntKind.u64.bits (Uay (num a0 0) (num a0 1) 36))).toNat) != (0:Int)) then (some (.a (.b (false)),.none,true))
    else (Uah (Uac (Uai PZ Zb0 N (cAt (codeOf Tryz.f53) [1,1,0,1,0,0]) (pAt (Uaa (codeOf Tryz.f53) [([2,3],[]),([2,4],[])]).1 [1,1,0,1,0]) [2,3] [] (Zgf a0)) N ([.a (.b (false)),.a (.i .i64 (0:Int))],[])) (fun e s=>(Uab 0 (kSeq (veC PZ Zb0 N (cAt (codeOf Tryz.f53) [1,1,1]) (pAt (Uaa (codeOf Tryz.f53) [([2,3],[]),([2,4],[])]).1 [1,1,1]) (SV×Eff×Bool)) (finK PZ [.row a0 41] [.tmp 2]))) e (left (writes (cAt (codeOf Tryz.f53) [1,1,0,1,0,0])) [2,3] [] (Zgf a0) s))))))) (by kernel_rfl) ?_
 simp only [Yg5 N a0]
theorem Yl8 {S:Array Value} (h:WT PZ 41 S) {t:Nat} (ht:t<2) (b:Bool):Uac (Zda PZ S b (t:Int)) 1000 (b,(0:Int))=some (match (List.range 36).find? (fun k=> !(fitS S t k)) with | some k=>.more (false,(k:Int)) | none=>.done (b,((36:Nat):Int))):=by
 have htt:decide (0≤(t:Int))=true:=decide_eq_true (by omega)
 have ht2:decide ((t:Int)<2)=true:=decide_eq_true (by omega)
 exact Ybz (g:=Zda PZ S b (t:Int)) (fun k=>(b,(k:Int))) (fun k=> !(fitS S t k)) 36 (N:=1000) (by omega) (xd:=.done (b,((36:Nat):Int))) (fun k=>.more (false,(k:Int))) (fun k hk hp=>by
  have h1:decide ((k:Int)<36)=true:=decide_eq_true (by omega)
  have h0:decide (0≤(k:Int))=true:=decide_eq_true (by omega)
  have h3:i64.wrap ((k:Int)+1)=((k+1:Nat):Int):=by rw [IntWalk.i64_in _ (by omega)];omega
  obtain ⟨w1,w2⟩:=Yi4 h hk
  rw [Bool.not_eq_false'] at hp
  unfold fitS chR at hp
  rw [← w2] at hp
  cases hw:Zad (k:Int) S with
  | false=>
   rw [hw] at hp
   simp only [cond_false] at hp
   simp only [Zda,h1,h0,h3,htt,ht2,w1,hw,Bool.and_self,Bool.not_false,cond_true,cond_false,Int.toNat_natCast,hp,Bool.not_true]
  | true=>
   rw [hw] at hp
   simp only [cond_true] at hp
   simp only [Zda,h1,h0,h3,htt,ht2,w1,hw,Bool.and_self,Bool.not_true,cond_true,cond_false,Int.toNat_natCast,hp]) (fun k hk hp=>by
  have h1:decide ((k:Int)<36)=true:=decide_eq_true (by omega)
  have h0:decide (0≤(k:Int))=true:=decide_eq_true (by omega)
  obtain ⟨w1,w2⟩:=Yi4 h hk
  rw [Bool.not_eq_true'] at hp
  unfold fitS chR at hp
  rw [← w2] at hp
  cases hw:Zad (k:Int) S with
  | false=>
   rw [hw] at hp
   simp only [cond_false] at hp
   simp only [Zda,h1,h0,htt,ht2,w1,hw,Bool.and_self,Bool.not_false,cond_true,cond_false,Int.toNat_natCast,hp]
  | true=>
   rw [hw] at hp
   simp only [cond_true] at hp
   simp only [Zda,h1,h0,htt,ht2,w1,hw,Bool.and_self,Bool.not_true,Bool.not_false,cond_true,cond_false,Int.toNat_natCast,hp]) (by
  have h1:decide (((36:Nat):Int)<36)=false:=by decide
  simp only [Zda,h1,cond_false])
theorem Yd0 (a0:Array Value) (h_a0:WT PZ 41 a0) (hg:(true)=true):ansV PZ Zb0 1000 Tryz.f53 [([2,3],[]),([2,4],[])] [.w 0] [.row a0 41]=some (.a (.b ((okS a0))),.none,true):=by
 refine (Yek 1000 a0).trans ?_
 obtain ⟨s0,b0,b1⟩:=h_a0.int (o:=0) (k:=.i8) (by kernel_rfl)
 obtain ⟨s1,b2,b3⟩:=h_a0.int (o:=1) (k:=.i8) (by kernel_rfl)
 have e1:IntKind.i8.min = -128:=rfl
 have e2:IntKind.i8.max=127:=rfl
 have h:=Ybz (g:=Zen PZ 1000 a0) (fun t=>(false,(t:Int))) (fun t=>((List.range 36).find? (fun k=> !(fitS a0 t k))).isSome) 2 (N:=1000) (by omega) (xd:=.done (false,((2:Nat):Int))) (fun t=>.more (false,(t:Int))) (fun t ht hp=>by
  have h1:decide ((t:Int)<2)=true:=decide_eq_true (by omega)
  have h3:i64.wrap ((t:Int)+1)=((t+1:Nat):Int):=by rw [IntWalk.i64_in _ (by omega)];omega
  have hn:(List.range 36).find? (fun k=> !(fitS a0 t k))=none:=by simpa using hp
  have hi:=Yl8 h_a0 ht false
  rw [hn] at hi
  simp only [Zen,h1,cond_true,hi,Uam,st2,Zhc,h3]) (fun t ht hp=>by
  have h1:decide ((t:Int)<2)=true:=decide_eq_true (by omega)
  obtain ⟨k,hn⟩:=Option.isSome_iff_exists.1 hp
  have hi:=Yl8 h_a0 ht false
  rw [hn] at hi
  simp only [Zen,h1,cond_true,hi,Uam,st2,Zhb]) (by
  have h1:decide (((2:Nat):Int)<2)=false:=by decide
  simp only [Zen,h1,cond_false])
 have h':Uac (Zen PZ 1000 a0) 1000 (false,(0:Int))=some (match (List.range 2).find? (fun t=>((List.range 36).find? (fun k=> !(fitS a0 t k))).isSome) with | some t=>.more (false,(t:Int)) | none=>.done (false,((2:Nat):Int))):=h
 have i0:Zaa (i64.wrap (num a0 0)) 1 6=(decide (1≤num a0 0)&&decide (num a0 0≤6)):=by
  rw [IntWalk.i64_in _ (by omega)];unfold Zaa
  cases h1:decide (num a0 0 ≥ 1)<;>simp_all
 have i1:Zaa (i64.wrap (num a0 1)) 1 6=(decide (1≤num a0 1)&&decide (num a0 1≤6)):=by
  rw [IntWalk.i64_in _ (by omega)];unfold Zaa
  cases h1:decide (num a0 1 ≥ 1)<;>simp_all
 unfold okS okD
 rw [i0,i1,h',all_two,← Yhf,← Yhf,show IntKind.u64.wrap (BitVec.ofInt IntKind.u64.bits (num a0 2) &&& ~~~(BitVec.ofInt IntKind.u64.bits (Uay (num a0 0) (num a0 1) 36))).toNat=Ubd (num a0 2) (Uay (num a0 0) (num a0 1) 36) from rfl,show (List.range 2)=[0,1] from rfl]
 cases decide (1≤num a0 0)&&decide (num a0 0≤6)
 ·rfl
 cases decide (1≤num a0 1)&&decide (num a0 1≤6)
 ·rfl
 cases hb:(Ubd (num a0 2) (Uay (num a0 0) (num a0 1) 36)==0) with
 | false=>rw [show (Ubd (num a0 2) (Uay (num a0 0) (num a0 1) 36) != 0)=true by simp [bne,hb]];rfl
 | true=>
  rw [show (Ubd (num a0 2) (Uay (num a0 0) (num a0 1) 36) != 0)=false by simp [bne,hb]]
  simp only [List.find?]
  generalize (List.range 36).find? (fun k=> !(fitS a0 0 k))=f0
  generalize (List.range 36).find? (fun k=> !(fitS a0 1 k))=f1
  cases f0<;>cases f1<;>rfl
def Znw:Con:=fun args h=>match args,h with
 | [.w 0],[.row a0 41]=>some (.a (.b ((okS a0))),.none,true)
 | _,_=>none
theorem Ya3:EntX PZ 53:=Zag (fn:=Tryz.f53) (by kernel_rfl) (by kernel_rfl) (by kernel_rfl)
theorem Yg6:Uad mn PZ 53 Znw:=(Zai (N:=1000) (by kernel_rfl) (mkΓ_consX (Zac Zn2) Zku (mkΓ_consX (Zac Zju) Zgk (mkΓ_consX (Zac Zp4) Zms (mkΓ_consX (Zac Zvt) Zrs mkΓ_nilX)))) (fn:=Tryz.f53) (by kernel_rfl) (by kernel_rfl) [([2,3],[]),([2,4],[])]).of (by
 intro ρ h w args vals r e hA hH hr
 unfold Znw at hr
 split at hr
 ·rename_i a0
  obtain ⟨rfl,rfl,hg2⟩:=BQi hr
  exact Yd0 a0 (hH.wt 0 rfl) hg2
 ·cases hr)
theorem Zsz {S:Array Value} (h:okS S=true):1≤num S 0∧num S 0≤6∧1≤num S 1∧num S 1≤6:=by
 unfold okS okD at h
 simp only [Bool.and_eq_true,decide_eq_true_eq] at h
 exact ⟨h.1.1.1,h.1.1.2,h.1.2.1,h.1.2.2⟩
theorem Ylu {S:Array Value} (h:okS S=true):(decide (0≤num S 0)&&decide (num S 0≤6)&&(decide (0≤num S 1)&&decide (num S 1≤6)))=true:=by
 obtain ⟨h1,h2,h3,h4⟩:=Zsz h
 rw [decide_eq_true (show 0≤num S 0 by omega),decide_eq_true h2,decide_eq_true (show 0≤num S 1 by omega),decide_eq_true h4];rfl
theorem okS_fit {S:Array Value} (h:okS S=true) {t k:Nat} (ht:t<2) (hk:k<36):fitS S t k=true:=by
 unfold okS at h
 simp only [Bool.and_eq_true] at h
 have:=List.all_eq_true.1 h.2.2 k (List.mem_range.2 hk)
 rw [Bool.and_eq_true] at this
 match t,ht with
 | 0,_=>exact this.1
 | 1,_=>exact this.2
theorem Yoq {S:Array Value} (h:WT PZ 41 S):S.size=363:=by rw [h.layLen,Yf6];simp
theorem num_sub {S:Array Value} {o n j:Nat} (hj:j<n):num (S.extract o (o+n)) j=num S (o+j):=by
 unfold num
 rw [Array.getElem?_extract]
 by_cases h:o+j<S.size
 ·rw [if_pos (by omega)]
 ·rw [if_neg (by omega),Array.getElem?_eq_none (by omega)]
theorem sea_u8 {S:Array Value} (h:WT PZ 41 S) {i:Nat} (hi:i<360):S[3+i]? = some (.int .u8 (num S (3+i)))∧0≤num S (3+i)∧num S (3+i)≤255:=h.int (k:=.u8) (by rw [Yf6,show 3+i=i+3 by omega];show (List.replicate 360 4)[i]? = some 4;rw [List.getElem?_replicate,if_pos hi])
end
end Go.Proofs.YtohnggmlmglhmaaGreatDoor
