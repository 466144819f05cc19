/- What a valid sea is, in company. -/
import Derived.Test.YtffagbiedigmcaaDoorProg
import Derived.Test.YtffagbiedigmcaaDoorCxB
namespace Go.Proofs.YtffagbiedigmcaaDoor
open Go.ChangeShapes Go.WideShapes Go.ChangeAt Go.RowKit Ve Vc
open Tryd (prog)
open IntKind (i64)
set_option linter.unusedVariables false
set_option linter.unusedSimpArgs false
set_option maxRecDepth 100000
noncomputable section
variable {mn:Md}
def sumW (a:Array Value):Nat→Int
 | 0=>0
 | k+1=>i64.wrap (sumW a k+i64.wrap (num a (k*1)))
theorem tide_eq (t:Int):Zch t=Zaa t 0 1:=by
 unfold Zch Zaa
 by_cases h0:t=0
 ·subst h0;rfl
 ·by_cases h1:t=1
  ·subst h1;rfl
  ·rw [show (t==0)=false from beq_eq_false_iff_ne.2 h0,show (t==1)=false from beq_eq_false_iff_ne.2 h1]
   by_cases h2:t ≥ 0
   ·rw [decide_eq_true h2,decide_eq_false (show ¬ t≤1 by omega)];rfl
   ·rw [decide_eq_false h2];rfl
def Zcq (a0:Array Value):St:=(⟨.a (.g a0 31) :: .a (.w 0) :: .a (.b (false)) :: .a (.i .i64 (0:Int)) :: .a (.u) :: .a (.u) :: .a (.g a0 31) :: .a (.i .i64 (0:Int))::us 9 ([]),[.row a0 31,.no],[]⟩:St)
def Zdg:Int×Int→LS
 | (y0_3,y0_7)=>([.a (.i .i64 (y0_3)),.a (.i .i64 (y0_7))],[])
def Zgb:Int×Int→Exit×LS
 | t=>((.exit 0),Zdg t)
def Zbm (P:Program) (a0:Array Value):Int×Int→Option (Stp (Int×Int) (Int×Int))
 | (y0_3,y0_7)=>bif decide (y0_7<(5:Int)) then (bif (decide (0≤y0_7)&&decide (y0_7<5)) then (some (.more ((i64.wrap (y0_3+(i64.wrap (num a0 ((y0_7).toNat*1))))),(i64.wrap (y0_7+(1:Int))))))
   else (none))
  else (some (.done (y0_3,y0_7)))
theorem Zou (N:Nat) (a0:Array Value):∀ t:Int×Int,stepV prog (mkΓ []) N (cAt (codeOf Tryd.f88) [1,1,0,1,0,0]) (pAt (mkPlan (codeOf Tryd.f88) [([3,7],[])]).1 [1,1,0,1,0]) [3,7] [] (Zcq a0) (Zdg t)=mapS Zdg Zgb (Zbm prog a0 t):=by
 rintro ⟨y0_3,y0_7⟩
 refine Eq.trans (b:=(bif decide (y0_7<(5:Int)) then (bif (decide (0≤y0_7)&&decide (y0_7<5)) then (some (.more ([.a (.i .i64 (i64.wrap (y0_3+(i64.wrap (num a0 ((y0_7).toNat*1)))))),.a (.i .i64 (i64.wrap (y0_7+(1:Int))))],[])))
   else (none))
  else (some (.done ((.exit 0),([.a (.i .i64 (y0_3)),.a (.i .i64 (y0_7))],[])))))) (by kernel_rfl) ?_
 simp only [Zbm,Zbe,Zbc,Zbb,Zbf,Zdg,Zgb]
def Zfh (P:Program) (N:Nat) (a0:Array Value) (z0_3:Int) (z0_7:Int):Option (SV×Eff×Bool):=some (.a (.b ((z0_3==(12:Int)))),.none,true)
theorem Zj6 (N:Nat) (a0:Array Value) (z0_3:Int) (z0_7:Int):(kBlock 0 (kSeq (veC prog (mkΓ []) N (cAt (codeOf Tryd.f88) [1,1,1]) (pAt (mkPlan (codeOf Tryd.f88) [([3,7],[])]).1 [1,1,1]) (SV×Eff×Bool)) (finK prog [] [.tmp 2]))) (.exit 0) (left (writes (cAt (codeOf Tryd.f88) [1,1,0,1,0,0])) [3,7] [] (Zcq a0) ([.a (.i .i64 (z0_3)),.a (.i .i64 (z0_7))],[]))=Zfh prog N a0 z0_3 z0_7:=by
 refine Eq.trans (b:=(some (.a (.b ((z0_3==(12:Int)))),.none,true))) (by kernel_rfl) ?_
 rfl
theorem Zoc (N:Nat) (a0:Array Value):bindX (iterO (stepV prog (mkΓ []) N (cAt (codeOf Tryd.f88) [1,1,0,1,0,0]) (pAt (mkPlan (codeOf Tryd.f88) [([3,7],[])]).1 [1,1,0,1,0]) [3,7] [] (Zcq a0)) N ([.a (.i .i64 (0:Int)),.a (.i .i64 (0:Int))],[])) (fun e s=>(kBlock 0 (kSeq (veC prog (mkΓ []) N (cAt (codeOf Tryd.f88) [1,1,1]) (pAt (mkPlan (codeOf Tryd.f88) [([3,7],[])]).1 [1,1,1]) (SV×Eff×Bool)) (finK prog [] [.tmp 2]))) e (left (writes (cAt (codeOf Tryd.f88) [1,1,0,1,0,0])) [3,7] [] (Zcq a0) s))=nodeX (iterO (Zbm prog a0) N ((0:Int),(0:Int))) (fun x=>Zfh prog N a0 x.1 x.2):=by
 refine Zcl Zdg Zgb _ _ (Zou N a0) N ((0:Int),(0:Int)) _ _ ?_
 intro x;exact Zj6 N a0 x.1 x.2
theorem Zni (N:Nat) (a0:Array Value):ansV prog (mkΓ []) N Tryd.f88 [([3,7],[])] [.g a0 31] []=(nodeX (iterO (Zbm prog a0) N ((0:Int),(0:Int))) (fun x=>Zfh prog N a0 x.1 x.2)):=by
 refine Eq.trans (b:=(bindX (iterO (stepV prog (mkΓ []) N (cAt (codeOf Tryd.f88) [1,1,0,1,0,0]) (pAt (mkPlan (codeOf Tryd.f88) [([3,7],[])]).1 [1,1,0,1,0]) [3,7] [] (Zcq a0)) N ([.a (.i .i64 (0:Int)),.a (.i .i64 (0:Int))],[])) (fun e s=>(kBlock 0 (kSeq (veC prog (mkΓ []) N (cAt (codeOf Tryd.f88) [1,1,1]) (pAt (mkPlan (codeOf Tryd.f88) [([3,7],[])]).1 [1,1,1]) (SV×Eff×Bool)) (finK prog [] [.tmp 2]))) e (left (writes (cAt (codeOf Tryd.f88) [1,1,0,1,0,0])) [3,7] [] (Zcq a0) s)))) (by kernel_rfl) ?_
 simp only [Zoc N a0]
theorem Zl8 (a0:Array Value) (h_a0:WT prog 31 a0) (hg:(true)=true):ansV prog (mkΓ []) 1000 Tryd.f88 [([3,7],[])] [.g a0 31] []=some (.a (.b ((sumW a0 5==(12:Int)))),.none,true):=by
 have h:=Zhi (g:=Zbm prog a0) (fun k=>(sumW a0 k,(k:Int))) (m:=5) (x:=(sumW a0 5,((5:Nat):Int))) (N:=1000) (fun k hk=>by
  have h1:decide ((k:Int)<5)=true:=decide_eq_true (by omega)
  have h0:decide (0≤(k:Int))=true:=decide_eq_true (by omega)
  have h3:i64.wrap ((k:Int)+1)=((k+1:Nat):Int):=by rw [IntWalk.i64_in _ (by omega)];omega
  have h4:((k:Int)).toNat=k:=Int.toNat_natCast k
  simp only [Zbm,h1,h0,Bool.and_self,h4,cond_true,h3,sumW]) (by
  have h1:decide (((5:Nat):Int)<5)=false:=by decide
  simp only [Zbm,h1,cond_false]) (by omega)
 refine (Zni 1000 a0).trans ?_
 have h':iterO (Zbm prog a0) 1000 ((0:Int),(0:Int))=some (sumW a0 5,((5:Nat):Int)):=h
 rw [h']
 rfl
def Zfn:Con:=fun args h=>match args,h with
 | [.g a0 31],[]=>some (.a (.b ((sumW a0 5==(12:Int)))),.none,true)
 | _,_=>none
theorem Zlb:EntX prog 88:=Zam (fn:=Tryd.f88) (by kernel_rfl) (by kernel_rfl) (by kernel_rfl)
theorem Zoe:ConOkX mn prog 88 Zfn:=(Zat (N:=1000) (by kernel_rfl) mkΓ_nilX (fn:=Tryd.f88) (by kernel_rfl) (by kernel_rfl) [([3,7],[])]).of (by
 intro ρ h w args vals r e hA hH hr
 unfold Zfn at hr
 split at hr
 ·rename_i a0
  obtain ⟨rfl,hg⟩:=Prod.mk.inj (Option.some.inj hr)
  obtain ⟨rfl,hg2⟩:=Prod.mk.inj hg
  exact Zl8 a0 (hA.wt 0 rfl) hg2
 ·cases hr)
def Zc7 (a0:Array Value):St:=(⟨.a (.g a0 31) :: .a (.w 0) :: .a (.b (false)) :: .a (.i .i64 (0:Int)) :: .a (.i .i64 (0:Int))::us 12 ([]),[.row a0 31,.no],[]⟩:St)
def Zd9:Int×Int→LS
 | (y0_3,y0_4)=>([.a (.i .i64 (y0_3)),.a (.i .i64 (y0_4))],[])
def Zg8:Int×Int→Exit×LS
 | t=>((.exit 0),Zd9 t)
def Zb3 (P:Program) (a0:Array Value):Int×Int→Option (Stp (Int×Int) (Int×Int))
 | (y0_3,y0_4)=>bif decide (y0_4<(5:Int)) then (bif (decide (0≤y0_4)&&decide (y0_4<5)) then (some (.more ((i64.wrap (y0_3+(i64.wrap (num a0 ((y0_4).toNat*1))))),(i64.wrap (y0_4+(1:Int))))))
   else (none))
  else (some (.done (y0_3,y0_4)))
theorem Zqs (N:Nat) (a0:Array Value):∀ t:Int×Int,stepV prog (mkΓ []) N (cAt (codeOf Tryd.f63) [1,1,0,1,0,0]) (pAt (mkPlan (codeOf Tryd.f63) [([3,4],[])]).1 [1,1,0,1,0]) [3,4] [] (Zc7 a0) (Zd9 t)=mapS Zd9 Zg8 (Zb3 prog a0 t):=by
 rintro ⟨y0_3,y0_4⟩
 refine Eq.trans (b:=(bif decide (y0_4<(5:Int)) then (bif (decide (0≤y0_4)&&decide (y0_4<5)) then (some (.more ([.a (.i .i64 (i64.wrap (y0_3+(i64.wrap (num a0 ((y0_4).toNat*1)))))),.a (.i .i64 (i64.wrap (y0_4+(1:Int))))],[])))
   else (none))
  else (some (.done ((.exit 0),([.a (.i .i64 (y0_3)),.a (.i .i64 (y0_4))],[])))))) (by kernel_rfl) ?_
 simp only [Zb3,Zbe,Zbc,Zbb,Zbf,Zd9,Zg8]
def Zgd (P:Program) (N:Nat) (a0:Array Value) (z0_3:Int) (z0_4:Int):Option (SV×Eff×Bool):=some (.a (.b ((z0_3==(12:Int)))),.none,true)
theorem Zla (N:Nat) (a0:Array Value) (z0_3:Int) (z0_4:Int):(kBlock 0 (kSeq (veC prog (mkΓ []) N (cAt (codeOf Tryd.f63) [1,1,1]) (pAt (mkPlan (codeOf Tryd.f63) [([3,4],[])]).1 [1,1,1]) (SV×Eff×Bool)) (finK prog [] [.tmp 2]))) (.exit 0) (left (writes (cAt (codeOf Tryd.f63) [1,1,0,1,0,0])) [3,4] [] (Zc7 a0) ([.a (.i .i64 (z0_3)),.a (.i .i64 (z0_4))],[]))=Zgd prog N a0 z0_3 z0_4:=by
 refine Eq.trans (b:=(some (.a (.b ((z0_3==(12:Int)))),.none,true))) (by kernel_rfl) ?_
 rfl
theorem Zrq (N:Nat) (a0:Array Value):bindX (iterO (stepV prog (mkΓ []) N (cAt (codeOf Tryd.f63) [1,1,0,1,0,0]) (pAt (mkPlan (codeOf Tryd.f63) [([3,4],[])]).1 [1,1,0,1,0]) [3,4] [] (Zc7 a0)) N ([.a (.i .i64 (0:Int)),.a (.i .i64 (0:Int))],[])) (fun e s=>(kBlock 0 (kSeq (veC prog (mkΓ []) N (cAt (codeOf Tryd.f63) [1,1,1]) (pAt (mkPlan (codeOf Tryd.f63) [([3,4],[])]).1 [1,1,1]) (SV×Eff×Bool)) (finK prog [] [.tmp 2]))) e (left (writes (cAt (codeOf Tryd.f63) [1,1,0,1,0,0])) [3,4] [] (Zc7 a0) s))=nodeX (iterO (Zb3 prog a0) N ((0:Int),(0:Int))) (fun x=>Zgd prog N a0 x.1 x.2):=by
 refine Zcl Zd9 Zg8 _ _ (Zqs N a0) N ((0:Int),(0:Int)) _ _ ?_
 intro x;exact Zla N a0 x.1 x.2
theorem Zpf (N:Nat) (a0:Array Value):ansV prog (mkΓ []) N Tryd.f63 [([3,4],[])] [.g a0 31] []=(nodeX (iterO (Zb3 prog a0) N ((0:Int),(0:Int))) (fun x=>Zgd prog N a0 x.1 x.2)):=by
 refine Eq.trans (b:=(bindX (iterO (stepV prog (mkΓ []) N (cAt (codeOf Tryd.f63) [1,1,0,1,0,0]) (pAt (mkPlan (codeOf Tryd.f63) [([3,4],[])]).1 [1,1,0,1,0]) [3,4] [] (Zc7 a0)) N ([.a (.i .i64 (0:Int)),.a (.i .i64 (0:Int))],[])) (fun e s=>(kBlock 0 (kSeq (veC prog (mkΓ []) N (cAt (codeOf Tryd.f63) [1,1,1]) (pAt (mkPlan (codeOf Tryd.f63) [([3,4],[])]).1 [1,1,1]) (SV×Eff×Bool)) (finK prog [] [.tmp 2]))) e (left (writes (cAt (codeOf Tryd.f63) [1,1,0,1,0,0])) [3,4] [] (Zc7 a0) s)))) (by kernel_rfl) ?_
 simp only [Zrq N a0]
theorem Zoa (a0:Array Value) (h_a0:WT prog 31 a0) (hg:(true)=true):ansV prog (mkΓ []) 1000 Tryd.f63 [([3,4],[])] [.g a0 31] []=some (.a (.b ((sumW a0 5==(12:Int)))),.none,true):=by
 have h:=Zhi (g:=Zb3 prog a0) (fun k=>(sumW a0 k,(k:Int))) (m:=5) (x:=(sumW a0 5,((5:Nat):Int))) (N:=1000) (fun k hk=>by
  have h1:decide ((k:Int)<5)=true:=decide_eq_true (by omega)
  have h0:decide (0≤(k:Int))=true:=decide_eq_true (by omega)
  have h3:i64.wrap ((k:Int)+1)=((k+1:Nat):Int):=by rw [IntWalk.i64_in _ (by omega)];omega
  have h4:((k:Int)).toNat=k:=Int.toNat_natCast k
  simp only [Zb3,h1,h0,Bool.and_self,h4,cond_true,h3,sumW]) (by
  have h1:decide (((5:Nat):Int)<5)=false:=by decide
  simp only [Zb3,h1,cond_false]) (by omega)
 refine (Zpf 1000 a0).trans ?_
 have h':iterO (Zb3 prog a0) 1000 ((0:Int),(0:Int))=some (sumW a0 5,((5:Nat):Int)):=h
 rw [h']
 rfl
def Zgp:Con:=fun args h=>match args,h with
 | [.g a0 31],[]=>some (.a (.b ((sumW a0 5==(12:Int)))),.none,true)
 | _,_=>none
theorem Zm5:EntX prog 63:=Zam (fn:=Tryd.f63) (by kernel_rfl) (by kernel_rfl) (by kernel_rfl)
theorem Zr0:ConOkX mn prog 63 Zgp:=(Zat (N:=1000) (by kernel_rfl) mkΓ_nilX (fn:=Tryd.f63) (by kernel_rfl) (by kernel_rfl) [([3,4],[])]).of (by
 intro ρ h w args vals r e hA hH hr
 unfold Zgp at hr
 split at hr
 ·rename_i a0
  obtain ⟨rfl,hg⟩:=Prod.mk.inj (Option.some.inj hr)
  obtain ⟨rfl,hg2⟩:=Prod.mk.inj hg
  exact Zoa a0 (hA.wt 0 rfl) hg2
 ·cases hr)
def Zko:Cons:=(mkΓ [(86,con Zio),(87,con Zig),(88,con Zfn)])
theorem Zp3 (N:Nat) (a0:Array Value) (a1:Int) (a2:Array Value):ansV prog Zko N Tryd.f67 [] [.g a0 35,.i .i64 (a1),.g a2 31] []=(bif (Zao a0 a1) then (bif decide (0≤a1) then (bif (Zdw a0 a1) then (some (.a (.b ((sumW a2 5==(12:Int)))),.none,true))
    else (some (.a (.b ((sameB a2 (#[.int .u8 (0:Int),.int .u8 (0:Int),.int .u8 (0:Int),.int .u8 (0:Int),.int .u8 (0:Int)]:Array Value)))),.none,true)))
   else (none))
  else (some (.a (.b ((sameB a2 (#[.int .u8 (0:Int),.int .u8 (0:Int),.int .u8 (0:Int),.int .u8 (0:Int),.int .u8 (0:Int)]:Array Value)))),.none,true))):=by kernel_rfl
def Zbr (a0:Array Value) (a1:Int) (a2:Array Value):Bool:=(bif (Zao a0 a1) then (bif (Zdw a0 a1) then (sumW a2 5==(12:Int)) else (sameB a2 (#[.int .u8 (0:Int),.int .u8 (0:Int),.int .u8 (0:Int),.int .u8 (0:Int),.int .u8 (0:Int)]:Array Value))) else (sameB a2 (#[.int .u8 (0:Int),.int .u8 (0:Int),.int .u8 (0:Int),.int .u8 (0:Int),.int .u8 (0:Int)]:Array Value)))
theorem Zn8 (a0:Array Value) (a1:Int) (a2:Array Value) (h_a0:WT prog 35 a0) (h_a1:i64.min≤a1∧a1≤i64.max) (h_a2:WT prog 31 a2) (hg:((bif (Zao a0 a1) then decide (0≤a1) else true))=true):ansV prog Zko 1000 Tryd.f67 [] [.g a0 35,.i .i64 (a1),.g a2 31] []=some (.a (.b ((Zbr a0 a1 a2))),.none,true):=by
 refine (Zp3 1000 a0 a1 a2).trans ?_
 unfold Zbr
 revert hg
 generalize ((Zao a0 a1))=b2
 intro hg
 cases b2
 ·skip
  first | (simp only [cond_true,cond_false,Bool.and_true,Bool.true_and,Bool.and_false,Bool.false_and];done) | rfl | exact (nomatch (hg:false=true))
 ·skip
  revert hg
  generalize (decide (0≤a1))=b4
  intro hg
  cases b4
  ·skip
   first | exact (nomatch (hg:false=true)) | (simp only [cond_true,cond_false,Bool.and_true,Bool.true_and,Bool.and_false,Bool.false_and];done) | rfl
  ·skip
   revert hg
   generalize ((Zdw a0 a1))=b6
   intro hg
   cases b6
   ·skip
    first | (simp only [cond_true,cond_false,Bool.and_true,Bool.true_and,Bool.and_false,Bool.false_and];done) | rfl | exact (nomatch (hg:false=true))
   ·skip
    first | (simp only [cond_true,cond_false,Bool.and_true,Bool.true_and,Bool.and_false,Bool.false_and];done) | rfl | exact (nomatch (hg:false=true))
def Zgq:Con:=fun args h=>match args,h with
 | [.g a0 35,.i .i64 a1,.g a2 31],[]=>some (.a (.b ((Zbr a0 a1 a2))),.none,(bif (Zao a0 a1) then decide (0≤a1) else true))
 | _,_=>none
theorem Znd:EntX prog 67:=Zam (fn:=Tryd.f67) (by kernel_rfl) (by kernel_rfl) (by kernel_rfl)
theorem Zq4:ConOkX mn prog 67 Zgq:=(Zat (N:=1000) (by kernel_rfl) (mkΓ_consX (Zag Zwm) Zr3 (mkΓ_consX (Zag Zvs) Zrf (mkΓ_consX (Zag Zoe) Zlb mkΓ_nilX))) (fn:=Tryd.f67) (by kernel_rfl) (by kernel_rfl) []).of (by
 intro ρ h w args vals r e hA hH hr
 unfold Zgq at hr
 split at hr
 ·rename_i a0 a1 a2
  obtain ⟨rfl,hg⟩:=Prod.mk.inj (Option.some.inj hr)
  obtain ⟨rfl,hg2⟩:=Prod.mk.inj hg
  exact Zn8 a0 a1 a2 (hA.wt 0 rfl) (hA.rng 1 rfl) (hA.wt 2 rfl) hg2
 ·cases hr)
def chR (S:Array Value) (t k:Nat):Array Value:=S.extract (3+t*180+k*5) (3+t*180+k*5+5)
def fitS (S:Array Value) (t k:Nat):Bool:=bif inC (num S 0) (num S 1) k && !(bitI (num S 2) k) then (sumW (chR S t k) 5==(12:Int)) else sameB (chR S t k) (#[.int .u8 (0:Int),.int .u8 (0:Int),.int .u8 (0:Int),.int .u8 (0:Int),.int .u8 (0:Int)]:Array Value)
def okD (S:Array Value):Bool:=decide (1≤num S 0)&&decide (num S 0≤6)&&(decide (1≤num S 1)&&decide (num S 1≤6))
def okS (S:Array Value):Bool:=okD S&&((andNotI (num S 2) (gridI (num S 0) (num S 1) 36)==0)&&(List.range 36).all fun k=>fitS S 0 k&&fitS S 1 k)
theorem Zzq (n:Nat) (p:Nat→Bool):((List.range n).find? (fun k=> !(p k))).isNone=(List.range n).all p:=by
 rw [Bool.eq_iff_iff,Option.isNone_iff_eq_none,List.find?_eq_none,List.all_eq_true]
 simp
theorem all_two (n:Nat) (p q:Nat→Bool):(List.range n).all (fun k=>p k&&q k)=((List.range n).all p&&(List.range n).all q):=by
 rw [Bool.eq_iff_iff,Bool.and_eq_true,List.all_eq_true,List.all_eq_true,List.all_eq_true]
 simp only [Bool.and_eq_true]
 exact ⟨fun h=>⟨fun x hx=>(h x hx).1,fun x hx=>(h x hx).2⟩,fun h x hx=>⟨h.1 x hx,h.2 x hx⟩⟩
theorem Ygn {S:Array Value} (h:WT prog 35 S) {k:Nat} (hk:k<36):Zao S (k:Int)=inC (num S 0) (num S 1) k:=by rw [cell_is,Zx5 h hk]
theorem Zu2 {S:Array Value} (h:WT prog 35 S) {k:Nat} (hk:k<36) (t:Nat):Zbr S (k:Int) (chR S t k)=fitS S t k:=by
 unfold Zbr fitS
 rw [Ygn h hk]
 unfold Zdw
 rw [Zyh hk]
 cases inC (num S 0) (num S 1) k<;>cases bitI (num S 2) k<;>rfl
theorem Ztq {S:Array Value} (h:WT prog 35 S) {k:Nat} (hk:k<36):Za0 (k:Int) S=true∧Zac (k:Int) S=(inC (num S 0) (num S 1) k && !(bitI (num S 2) k)):=by
 have hu:decide (0≤IntKind.u64.wrap (k:Int))=true:=decide_eq_true (Zg1 .u64 _).1
 unfold Za0 Zac
 rw [Zx5 h hk,Yb2 h hk]
 constructor
 ·cases inC (num S 0) (num S 1) k<;>simp [hu]
 ·cases inC (num S 0) (num S 1) k<;>simp
def Zck:Cons:=(mkΓ [(66,con Zc1),(67,con Zgq)])
def Zdf (a0:Array Value):St:=(⟨.a (.g a0 35) :: .a (.w 0) :: .a (.b (false)) :: .a (.u) :: .a (.p 0 (0) 22) :: .a (.i .i8 (num a0 0)) :: .a (.b (decide ((num a0 0)<(1:Int)))) :: .a (.b (false)) :: .a (.p 0 (0) 22) :: .a (.i .i8 (num a0 0)) :: .a (.b (decide ((num a0 0) > (6:Int)))) :: .a (.b (decide ((num a0 0) > (6:Int)))) :: .a (.b (false)) :: .a (.p 0 (1) 22) :: .a (.i .i8 (num a0 1)) :: .a (.b (decide ((num a0 1)<(1:Int)))) :: .a (.b (decide ((num a0 1)<(1:Int)))) :: .a (.b (false)) :: .a (.p 0 (1) 22) :: .a (.i .i8 (num a0 1)) :: .a (.b (decide ((num a0 1) > (6:Int)))) :: .a (.b (decide ((num a0 1) > (6:Int)))) :: .a (.p 0 (2) 23) :: .a (.i .u64 (num a0 2)) :: .a (.g a0 35) :: .a (.i .u64 (gridI (num a0 0) (num a0 1) 36)) :: .a (.i .u64 (IntKind.u64.wrap (BitVec.ofInt IntKind.u64.bits (num a0 2) &&& ~~~(BitVec.ofInt IntKind.u64.bits (gridI (num a0 0) (num a0 1) 36))).toNat)) :: .a (.b (((IntKind.u64.wrap (BitVec.ofInt IntKind.u64.bits (num a0 2) &&& ~~~(BitVec.ofInt IntKind.u64.bits (gridI (num a0 0) (num a0 1) 36))).toNat) != (0:Int)))) :: .a (.i .i64 (0:Int))::us 23 ([]),[.row a0 35,.no,.no,.no,.no,.no,.no,.no],[]⟩:St)
def Zd5:Bool×Int→LS
 | (y0_2,y0_28)=>([.a (.b (y0_2)),.a (.i .i64 (y0_28))],[])
def Zik:(Stp (Bool×Int) (Bool×Int))→Exit×LS
 | .more t=>(.ret,Zd5 t)
 | .done t=>((.exit 0),Zd5 t)
def Zbw (P:Program) (a0:Array Value):Bool×Int→Option (Stp (Bool×Int) (Stp (Bool×Int) (Bool×Int)))
  | (y0_2,y0_28)=>bif decide (y0_28<(36:Int)) then (bif (decide (0≤y0_28)&&decide (y0_28<36)) then (bif (bif (Zao a0 y0_28) then decide (0≤y0_28) else true) then (bif (!((Zbr a0 y0_28 (a0.extract (3+((y0_28).toNat*5)) ((3+((y0_28).toNat*5))+5))))) then (some (.done (.more (false,y0_28))))
          else (bif (decide (0≤y0_28)&&decide (y0_28<36)) then (bif (bif (Zao a0 y0_28) then decide (0≤y0_28) else true) then (bif (!((Zbr a0 y0_28 (a0.extract (183+((y0_28).toNat*5)) ((183+((y0_28).toNat*5))+5))))) then (some (.done (.more (false,y0_28))))
                else (some (.more (y0_2,(i64.wrap (y0_28+(1:Int)))))))
              else (none))
            else (none)))
        else (none))
      else (none))
    else (some (.done (.done (y0_2,y0_28))))
theorem Zut (N:Nat) (a0:Array Value):∀ t:Bool×Int,stepV prog Zck N (cAt (codeOf Tryd.f45) [1,1,1,0,1,0,0]) (pAt (mkPlan (codeOf Tryd.f45) [([2,28],[])]).1 [1,1,1,0,1,0]) [2,28] [] (Zdf a0) (Zd5 t)=mapS Zd5 Zik (Zbw prog a0 t):=by
  rintro ⟨y0_2,y0_28⟩
  refine Eq.trans (b:=(bif decide (y0_28<(36:Int)) then (bif (decide (0≤y0_28)&&decide (y0_28<36)) then (bif (bif (Zao a0 y0_28) then decide (0≤y0_28) else true) then (bif (!((Zbr a0 y0_28 (a0.extract (3+((y0_28).toNat*5)) ((3+((y0_28).toNat*5))+5))))) then (some (.done (.ret,([.a (.b (false)),.a (.i .i64 (y0_28))],[]))))
          else (bif (decide (0≤y0_28)&&decide (y0_28<36)) then (bif (bif (Zao a0 y0_28) then decide (0≤y0_28) else true) then (bif (!((Zbr a0 y0_28 (a0.extract (183+((y0_28).toNat*5)) ((183+((y0_28).toNat*5))+5))))) then (some (.done (.ret,([.a (.b (false)),.a (.i .i64 (y0_28))],[]))))
                else (some (.more ([.a (.b (y0_2)),.a (.i .i64 (i64.wrap (y0_28+(1:Int))))],[]))))
              else (none))
            else (none)))
        else (none))
      else (none))
    else (some (.done ((.exit 0),([.a (.b (y0_2)),.a (.i .i64 (y0_28))],[])))))) (by kernel_rfl) ?_
  simp only [Zbw,Zbe,Zbc,Zbb,Zbf,Zd5,Zik]
def Zhr (P:Program) (N:Nat) (a0:Array Value) (z0_2:Bool) (z0_28:Int):Option (SV×Eff×Bool):=some (.a (.b (z0_2)),.none,true)
theorem Zm3 (N:Nat) (a0:Array Value) (z0_2:Bool) (z0_28:Int):(kBlock 0 (kSeq (veC prog Zck N (cAt (codeOf Tryd.f45) [1,1,1,1]) (pAt (mkPlan (codeOf Tryd.f45) [([2,28],[])]).1 [1,1,1,1]) (SV×Eff×Bool)) (finK prog [] [.tmp 2]))) .ret (left (writes (cAt (codeOf Tryd.f45) [1,1,1,0,1,0,0])) [2,28] [] (Zdf a0) ([.a (.b (z0_2)),.a (.i .i64 (z0_28))],[]))=Zhr prog N a0 z0_2 z0_28:=by
 refine Eq.trans (b:=(some (.a (.b (z0_2)),.none,true))) (by kernel_rfl) ?_
 rfl
def Zhn (P:Program) (N:Nat) (a0:Array Value) (z0_2:Bool) (z0_28:Int):Option (SV×Eff×Bool):=some (.a (.b (true)),.none,true)
theorem Znm (N:Nat) (a0:Array Value) (z0_2:Bool) (z0_28:Int):(kBlock 0 (kSeq (veC prog Zck N (cAt (codeOf Tryd.f45) [1,1,1,1]) (pAt (mkPlan (codeOf Tryd.f45) [([2,28],[])]).1 [1,1,1,1]) (SV×Eff×Bool)) (finK prog [] [.tmp 2]))) (.exit 0) (left (writes (cAt (codeOf Tryd.f45) [1,1,1,0,1,0,0])) [2,28] [] (Zdf a0) ([.a (.b (z0_2)),.a (.i .i64 (z0_28))],[]))=Zhn prog N a0 z0_2 z0_28:=by
 refine Eq.trans (b:=(some (.a (.b (true)),.none,true))) (by kernel_rfl) ?_
 rfl
theorem Zui (N:Nat) (a0:Array Value):bindX (iterO (stepV prog Zck N (cAt (codeOf Tryd.f45) [1,1,1,0,1,0,0]) (pAt (mkPlan (codeOf Tryd.f45) [([2,28],[])]).1 [1,1,1,0,1,0]) [2,28] [] (Zdf a0)) N ([.a (.b (false)),.a (.i .i64 (0:Int))],[])) (fun e s=>(kBlock 0 (kSeq (veC prog Zck N (cAt (codeOf Tryd.f45) [1,1,1,1]) (pAt (mkPlan (codeOf Tryd.f45) [([2,28],[])]).1 [1,1,1,1]) (SV×Eff×Bool)) (finK prog [] [.tmp 2]))) e (left (writes (cAt (codeOf Tryd.f45) [1,1,1,0,1,0,0])) [2,28] [] (Zdf a0) s))=nodeX (iterO (Zbw prog a0) N (false,(0:Int))) (st2 (fun x=>Zhr prog N a0 x.1 x.2) (fun x=>Zhn prog N a0 x.1 x.2)):=by
 refine Zcl Zd5 Zik _ _ (Zut N a0) N (false,(0:Int)) _ _ ?_
 intro x
 cases x with
 | more x=>exact Zm3 N a0 x.1 x.2
 | done x=>exact Znm N a0 x.1 x.2
theorem Zs0 (N:Nat) (a0:Array Value):ansV prog Zck N Tryd.f45 [([2,28],[])] [.g a0 35] []=(bif decide ((num a0 0)<(1:Int)) then (some (.a (.b (false)),.none,true))
    else (bif decide ((num a0 0) > (6:Int)) then (some (.a (.b (false)),.none,true))
      else (bif decide ((num a0 1)<(1:Int)) then (some (.a (.b (false)),.none,true))
        else (bif decide ((num a0 1) > (6:Int)) then (some (.a (.b (false)),.none,true))
          else (bif (decide (0≤num a0 0)&&decide (num a0 0≤6)&&(decide (0≤num a0 1)&&decide (num a0 1≤6))) then (bif ((IntKind.u64.wrap (BitVec.ofInt IntKind.u64.bits (num a0 2) &&& ~~~(BitVec.ofInt IntKind.u64.bits (gridI (num a0 0) (num a0 1) 36))).toNat) != (0:Int)) then (some (.a (.b (false)),.none,true))
              else (nodeX (iterO (Zbw prog a0) N (false,(0:Int))) (st2 (fun x=>Zhr prog N a0 x.1 x.2) (fun x=>Zhn prog N a0 x.1 x.2))))
            else (none)))))):=by
  refine Eq.trans (b:=(bif decide ((num a0 0)<(1:Int)) then (some (.a (.b (false)),.none,true))
    else (bif decide ((num a0 0) > (6:Int)) then (some (.a (.b (false)),.none,true))
      else (bif decide ((num a0 1)<(1:Int)) then (some (.a (.b (false)),.none,true))
        else (bif decide ((num a0 1) > (6:Int)) then (some (.a (.b (false)),.none,true))
          else (bif (decide (0≤num a0 0)&&decide (num a0 0≤6)&&(decide (0≤num a0 1)&&decide (num a0 1≤6))) then (bif ((IntKind.u64.wrap (BitVec.ofInt IntKind.u64.bits (num a0 2) &&& ~~~(BitVec.ofInt IntKind.u64.bits (gridI (num a0 0) (num a0 1) 36))).toNat) != (0:Int)) then (some (.a (.b (false)),.none,true))
              else (bindX (iterO (stepV prog Zck N (cAt (codeOf Tryd.f45) [1,1,1,0,1,0,0]) (pAt (mkPlan (codeOf Tryd.f45) [([2,28],[])]).1 [1,1,1,0,1,0]) [2,28] [] (Zdf a0)) N ([.a (.b (false)),.a (.i .i64 (0:Int))],[])) (fun e s=>(kBlock 0 (kSeq (veC prog Zck N (cAt (codeOf Tryd.f45) [1,1,1,1]) (pAt (mkPlan (codeOf Tryd.f45) [([2,28],[])]).1 [1,1,1,1]) (SV×Eff×Bool)) (finK prog [] [.tmp 2]))) e (left (writes (cAt (codeOf Tryd.f45) [1,1,1,0,1,0,0])) [2,28] [] (Zdf a0) s))))
            else (none))))))) (by kernel_rfl) ?_
  simp only [Zui N a0]
theorem Zrc (a0:Array Value) (h_a0:WT prog 35 a0) (hg:(true)=true):ansV prog Zck 1000 Tryd.f45 [([2,28],[])] [.g a0 35] []=some (.a (.b ((okS a0))),.none,true):=by
 refine (Zs0 1000 a0).trans ?_
 have h:=Zwc (g:=Zbw prog a0) (fun k=>(false,(k:Int))) (fun k=> !(fitS a0 0 k&&fitS a0 1 k)) 36 (N:=1000) (by omega) (xd:=.done (false,((36:Nat):Int))) (fun k=>.more (false,(k:Int))) (fun k hk hp=>by
  have h1:decide ((k:Int)<36)=true:=decide_eq_true (by omega)
  have h0:decide (0≤(k:Int))=true:=decide_eq_true (by omega)
  have h3:i64.wrap ((k:Int)+1)=((k+1:Nat):Int):=by rw [IntWalk.i64_in _ (by omega)];omega
  have f0:=Zu2 h_a0 hk 0
  have f1:=Zu2 h_a0 hk 1
  unfold chR at f0 f1
  rw [show 3+0*180+k*5=3+k*5 by omega] at f0
  rw [show 3+1*180+k*5=183+k*5 by omega] at f1
  have hg:(bif Zao a0 (k:Int) then true else true)=true:=by cases Zao a0 (k:Int)<;>rfl
  simp only [Bool.not_eq_false',Bool.and_eq_true] at hp
  simp only [Zbw,h1,h0,h3,Bool.and_self,cond_true,Int.toNat_natCast,hg,f0,f1,hp.1,hp.2,Bool.not_true,cond_false]) (fun k hk hp=>by
  have h1:decide ((k:Int)<36)=true:=decide_eq_true (by omega)
  have h0:decide (0≤(k:Int))=true:=decide_eq_true (by omega)
  have f0:=Zu2 h_a0 hk 0
  have f1:=Zu2 h_a0 hk 1
  unfold chR at f0 f1
  rw [show 3+0*180+k*5=3+k*5 by omega] at f0
  rw [show 3+1*180+k*5=183+k*5 by omega] at f1
  have hg:(bif Zao a0 (k:Int) then true else true)=true:=by cases Zao a0 (k:Int)<;>rfl
  cases e0:fitS a0 0 k with
  | false=>simp only [Zbw,h1,h0,Bool.and_self,cond_true,Int.toNat_natCast,hg,f0,e0,Bool.not_false]
  | true=>
   rw [e0] at hp
   have e1:fitS a0 1 k=false:=by simpa using hp
   simp only [Zbw,h1,h0,Bool.and_self,cond_true,Int.toNat_natCast,hg,f0,f1,e0,e1,Bool.not_false,Bool.not_true,cond_false]) (by
  have h1:decide (((36:Nat):Int)<36)=false:=by decide
  simp only [Zbw,h1,cond_false])
 have h':iterO (Zbw prog a0) 1000 (false,(0:Int))=some (match (List.range 36).find? (fun k=> !(fitS a0 0 k&&fitS a0 1 k)) with | some k=>.more (false,(k:Int)) | none=>.done (false,((36:Nat):Int))):=h
 have hf:=Zzq 36 (fun k=>fitS a0 0 k&&fitS a0 1 k)
 unfold okS okD
 by_cases d1:1≤num a0 0
 ·rw [decide_eq_true d1,decide_eq_false (show ¬ num a0 0<1 by omega)]
  by_cases d2:num a0 0≤6
  ·rw [decide_eq_true d2,decide_eq_false (show ¬ num a0 0 > 6 by omega)]
   by_cases d3:1≤num a0 1
   ·rw [decide_eq_true d3,decide_eq_false (show ¬ num a0 1<1 by omega)]
    by_cases d4:num a0 1≤6
    ·rw [decide_eq_true d4,decide_eq_false (show ¬ num a0 1 > 6 by omega),decide_eq_true (show 0≤num a0 0 by omega),decide_eq_true (show 0≤num a0 1 by omega)]
     simp only [Bool.and_self,cond_true,cond_false,Bool.true_and,h']
     rw [show IntKind.u64.wrap (BitVec.ofInt IntKind.u64.bits (num a0 2) &&& ~~~(BitVec.ofInt IntKind.u64.bits (gridI (num a0 0) (num a0 1) 36))).toNat=andNotI (num a0 2) (gridI (num a0 0) (num a0 1) 36) from rfl]
     cases hb:(andNotI (num a0 2) (gridI (num a0 0) (num a0 1) 36)==0) with
     | false=>rw [show (andNotI (num a0 2) (gridI (num a0 0) (num a0 1) 36) != 0)=true by simp [bne,hb]];rfl
     | true=>
      rw [show (andNotI (num a0 2) (gridI (num a0 0) (num a0 1) 36) != 0)=false by simp [bne,hb],← hf]
      cases (List.range 36).find? (fun k=> !(fitS a0 0 k&&fitS a0 1 k))<;>rfl
    ·rw [decide_eq_false d4,decide_eq_true (show num a0 1 > 6 by omega)];rfl
   ·rw [decide_eq_false d3,decide_eq_true (show num a0 1<1 by omega)];rfl
  ·rw [decide_eq_false d2,decide_eq_true (show num a0 0 > 6 by omega)];rfl
 ·rw [decide_eq_false d1,decide_eq_true (show num a0 0<1 by omega)];rfl
def Zhu:Con:=fun args h=>match args,h with
 | [.g a0 35],[]=>some (.a (.b ((okS a0))),.none,true)
 | _,_=>none
theorem Zgw:EntX prog 45:=Zam (fn:=Tryd.f45) (by kernel_rfl) (by kernel_rfl) (by kernel_rfl)
theorem Zis:ConOkX mn prog 45 Zhu:=(Zat (N:=1000) (by kernel_rfl) (mkΓ_consX (Zag Zid) Zgr (mkΓ_consX (Zag Zq4) Znd mkΓ_nilX)) (fn:=Tryd.f45) (by kernel_rfl) (by kernel_rfl) [([2,28],[])]).of (by
 intro ρ h w args vals r e hA hH hr
 unfold Zhu at hr
 split at hr
 ·rename_i a0
  obtain ⟨rfl,hg⟩:=Prod.mk.inj (Option.some.inj hr)
  obtain ⟨rfl,hg2⟩:=Prod.mk.inj hg
  exact Zrc a0 (hA.wt 0 rfl) hg2
 ·cases hr)
def Zbo:Cons:=(mkΓ [(19,con Zfv),(39,con Zcg),(40,con Zf0),(63,con Zgp)])
def Zex (a0:Array Value) (y0_2:Bool) (y0_3:Int):St:=(⟨.a (.w 0) :: .a (.u) :: .a (.b (y0_2)) :: .a (.i .i64 (y0_3)) :: .a (.i .i64 (0:Int)) :: .a (.x) :: .a (.w 0) :: .a (.w 0) :: .a (.p 0 (0) 22) :: .a (.i .i8 (num a0 0)) :: .a (.i .i64 (i64.wrap (num a0 0))) :: .a (.b ((Zaa (i64.wrap (num a0 0)) (1:Int) (6:Int)))) :: .a (.b ((!((Zaa (i64.wrap (num a0 0)) (1:Int) (6:Int)))))) :: .a (.b (false)) :: .a (.w 0) :: .a (.w 0) :: .a (.p 0 (1) 22) :: .a (.i .i8 (num a0 1)) :: .a (.i .i64 (i64.wrap (num a0 1))) :: .a (.b ((Zaa (i64.wrap (num a0 1)) (1:Int) (6:Int)))) :: .a (.b ((!((Zaa (i64.wrap (num a0 1)) (1:Int) (6:Int)))))) :: .a (.b ((!((Zaa (i64.wrap (num a0 1)) (1:Int) (6:Int)))))) :: .a (.b (false)) :: .a (.w 0) :: .a (.w 0) :: .a (.p 0 (2) 23) :: .a (.i .u64 (num a0 2)) :: .a (.w 0) :: .a (.i .u64 (gridI (num a0 0) (num a0 1) 36)) :: .a (.i .u64 (IntKind.u64.wrap (BitVec.ofInt IntKind.u64.bits (num a0 2) &&& ~~~(BitVec.ofInt IntKind.u64.bits (gridI (num a0 0) (num a0 1) 36))).toNat)) :: .a (.b (((IntKind.u64.wrap (BitVec.ofInt IntKind.u64.bits (num a0 2) &&& ~~~(BitVec.ofInt IntKind.u64.bits (gridI (num a0 0) (num a0 1) 36))).toNat) != (0:Int)))) :: .a (.b (((IntKind.u64.wrap (BitVec.ofInt IntKind.u64.bits (num a0 2) &&& ~~~(BitVec.ofInt IntKind.u64.bits (gridI (num a0 0) (num a0 1) 36))).toNat) != (0:Int)))) :: .a (.i .i64 (y0_3)) :: .a (.b (decide (y0_3<(2:Int))))::xs 33 ([]),[.row a0 35,.no,.no,.no,.no,.no,.no,.no,.no,.no,.no,.no,.no,.no,.no,.no,.no,.no,.no,.no,.no,.no,.no,.no,.no,.no,.no],[]⟩:St)
def Zf2:Bool×Int→LS
 | (y1_2,y1_4)=>([.a (.b (y1_2)),.a (.i .i64 (y1_4))],[])
def Zlj:(Stp (Bool×Int) (Bool×Int))→Exit×LS
 | .more t=>(.ret,Zf2 t)
 | .done t=>((.exit 2),Zf2 t)
def Zco (P : Program) (a0 : Array Value) (y0_2 : Bool) (y0_3 : Int) : Bool × Int → Option (Stp (Bool × Int) (Stp (Bool × Int) (Bool × Int)))
  | (y1_2, y1_4) => bif decide (y1_4 < (36 : Int)) then (bif (decide (0 ≤ y0_3) && decide (y0_3 < 2)) then (bif (decide (0 ≤ y1_4) && decide (y1_4 < 36)) then (bif (Za0 y1_4 a0) then (bif (Zac y1_4 a0) then (bif (!((sumW (a0.extract ((3 + ((y0_3).toNat * 180)) + ((y1_4).toNat * 5)) (((3 + ((y0_3).toNat * 180)) + ((y1_4).toNat * 5)) + 5)) 5 == (12 : Int)))) then (some (.done (.more (false, y1_4))))
              else (bif (Za0 y1_4 a0) then (bif (!((Zac y1_4 a0))) then (bif (!(sameB (a0.extract ((3 + ((y0_3).toNat * 180)) + ((y1_4).toNat * 5)) (((3 + ((y0_3).toNat * 180)) + ((y1_4).toNat * 5)) + 5)) (#[.int .u8 (0 : Int), .int .u8 (0 : Int), .int .u8 (0 : Int), .int .u8 (0 : Int), .int .u8 (0 : Int)] : Array Value))) then (some (.done (.more (false, y1_4))))
                    else (some (.more (y1_2, (i64.wrap (y1_4 + (1 : Int)))))))
                  else (some (.more (y1_2, (i64.wrap (y1_4 + (1 : Int)))))))
                else (none)))
            else (bif (Za0 y1_4 a0) then (bif (!((Zac y1_4 a0))) then (bif (!(sameB (a0.extract ((3 + ((y0_3).toNat * 180)) + ((y1_4).toNat * 5)) (((3 + ((y0_3).toNat * 180)) + ((y1_4).toNat * 5)) + 5)) (#[.int .u8 (0 : Int), .int .u8 (0 : Int), .int .u8 (0 : Int), .int .u8 (0 : Int), .int .u8 (0 : Int)] : Array Value))) then (some (.done (.more (false, y1_4))))
                  else (some (.more (y1_2, (i64.wrap (y1_4 + (1 : Int)))))))
                else (some (.more (y1_2, (i64.wrap (y1_4 + (1 : Int)))))))
              else (none)))
          else (none))
        else (none))
      else (none))
    else (some (.done (.done (y1_2, y1_4))))
theorem Zz1 (N:Nat) (a0:Array Value) (y0_2:Bool) (y0_3:Int):∀ t:Bool×Int,stepV prog Zbo N (cAt (codeOf Tryd.f37) [1,1,0,1,0,0,1,0,0,1,0,0]) (pAt (mkPlan (codeOf Tryd.f37) [([2,3],[]),([2,4],[])]).1 [1,1,0,1,0,1,0,1,0]) [2,4] [] (Zex a0 y0_2 y0_3) (Zf2 t)=mapS Zf2 Zlj (Zco prog a0 y0_2 y0_3 t):=by
  rintro ⟨y1_2,y1_4⟩
  refine Eq.trans (b:=(bif decide (y1_4<(36:Int)) then (bif (decide (0≤y0_3)&&decide (y0_3<2)) then (bif (decide (0≤y1_4)&&decide (y1_4<36)) then (bif (Za0 y1_4 a0) then (bif (Zac y1_4 a0) then (bif (!((sumW (a0.extract ((3+((y0_3).toNat*180))+((y1_4).toNat*5)) (((3+((y0_3).toNat*180))+((y1_4).toNat*5))+5)) 5==(12:Int)))) then (some (.done (.ret,([.a (.b (false)),.a (.i .i64 (y1_4))],[]))))
              else (bif (Za0 y1_4 a0) then (bif (!((Zac y1_4 a0))) then (bif (!(sameB (a0.extract ((3+((y0_3).toNat*180))+((y1_4).toNat*5)) (((3+((y0_3).toNat*180))+((y1_4).toNat*5))+5)) (#[.int .u8 (0:Int),.int .u8 (0:Int),.int .u8 (0:Int),.int .u8 (0:Int),.int .u8 (0:Int)]:Array Value))) then (some (.done (.ret,([.a (.b (false)),.a (.i .i64 (y1_4))],[]))))
                    else (some (.more ([.a (.b (y1_2)),.a (.i .i64 (i64.wrap (y1_4+(1:Int))))],[]))))
                  else (some (.more ([.a (.b (y1_2)),.a (.i .i64 (i64.wrap (y1_4+(1:Int))))],[]))))
                else (none)))
            else (bif (Za0 y1_4 a0) then (bif (!((Zac y1_4 a0))) then (bif (!(sameB (a0.extract ((3+((y0_3).toNat*180))+((y1_4).toNat*5)) (((3+((y0_3).toNat*180))+((y1_4).toNat*5))+5)) (#[.int .u8 (0:Int),.int .u8 (0:Int),.int .u8 (0:Int),.int .u8 (0:Int),.int .u8 (0:Int)]:Array Value))) then (some (.done (.ret,([.a (.b (false)),.a (.i .i64 (y1_4))],[]))))
                  else (some (.more ([.a (.b (y1_2)),.a (.i .i64 (i64.wrap (y1_4+(1:Int))))],[]))))
                else (some (.more ([.a (.b (y1_2)),.a (.i .i64 (i64.wrap (y1_4+(1:Int))))],[]))))
              else (none)))
          else (none))
        else (none))
      else (none))
    else (some (.done ((.exit 2),([.a (.b (y1_2)),.a (.i .i64 (y1_4))],[])))))) (by kernel_rfl) ?_
  simp only [Zco,Zbe,Zbc,Zbb,Zbf,Zf2,Zlj]
def Ze4 (a0:Array Value):St:=(⟨.a (.w 0) :: .a (.u) :: .a (.b (false)) :: .a (.i .i64 (0:Int)) :: .a (.u) :: .a (.u) :: .a (.w 0) :: .a (.w 0) :: .a (.p 0 (0) 22) :: .a (.i .i8 (num a0 0)) :: .a (.i .i64 (i64.wrap (num a0 0))) :: .a (.b ((Zaa (i64.wrap (num a0 0)) (1:Int) (6:Int)))) :: .a (.b ((!((Zaa (i64.wrap (num a0 0)) (1:Int) (6:Int)))))) :: .a (.b (false)) :: .a (.w 0) :: .a (.w 0) :: .a (.p 0 (1) 22) :: .a (.i .i8 (num a0 1)) :: .a (.i .i64 (i64.wrap (num a0 1))) :: .a (.b ((Zaa (i64.wrap (num a0 1)) (1:Int) (6:Int)))) :: .a (.b ((!((Zaa (i64.wrap (num a0 1)) (1:Int) (6:Int)))))) :: .a (.b ((!((Zaa (i64.wrap (num a0 1)) (1:Int) (6:Int)))))) :: .a (.b (false)) :: .a (.w 0) :: .a (.w 0) :: .a (.p 0 (2) 23) :: .a (.i .u64 (num a0 2)) :: .a (.w 0) :: .a (.i .u64 (gridI (num a0 0) (num a0 1) 36)) :: .a (.i .u64 (IntKind.u64.wrap (BitVec.ofInt IntKind.u64.bits (num a0 2) &&& ~~~(BitVec.ofInt IntKind.u64.bits (gridI (num a0 0) (num a0 1) 36))).toNat)) :: .a (.b (((IntKind.u64.wrap (BitVec.ofInt IntKind.u64.bits (num a0 2) &&& ~~~(BitVec.ofInt IntKind.u64.bits (gridI (num a0 0) (num a0 1) 36))).toNat) != (0:Int)))) :: .a (.b (((IntKind.u64.wrap (BitVec.ofInt IntKind.u64.bits (num a0 2) &&& ~~~(BitVec.ofInt IntKind.u64.bits (gridI (num a0 0) (num a0 1) 36))).toNat) != (0:Int))))::us 35 ([]),[.row a0 35,.no,.no,.no,.no,.no,.no,.no,.no,.no,.no,.no,.no,.no,.no,.no,.no,.no,.no,.no,.no,.no,.no,.no,.no,.no,.no],[]⟩:St)
def Zb8:Bool×Int→LS
 | (y0_2,y0_3)=>([.a (.b (y0_2)),.a (.i .i64 (y0_3))],[])
def Zdl:(Stp (Bool×Int) (Bool×Int))→Exit×LS
 | .more t=>(.ret,Zb8 t)
 | .done t=>((.exit 0),Zb8 t)
def Zfr (P:Program) (N:Nat) (a0:Array Value) (y0_2:Bool) (y0_3:Int) (z1_2:Bool) (z1_4:Int):Option (Stp (Bool×Int) (Stp (Bool×Int) (Bool×Int))):=some (.done (.more (z1_2,y0_3)))
theorem Zqb (N:Nat) (a0:Array Value) (y0_2:Bool) (y0_3:Int) (z1_2:Bool) (z1_4:Int):(kBlock 2 (kBlock 1 (kSeq (veC prog Zbo N (cAt (codeOf Tryd.f37) [1,1,0,1,0,0,1,1]) (pAt (mkPlan (codeOf Tryd.f37) [([2,3],[]),([2,4],[])]).1 [1,1,0,1,0,1,1]) (Stp LS (Exit×LS))) (kBody 27 [2,3] [])))) .ret (left (writes (cAt (codeOf Tryd.f37) [1,1,0,1,0,0,1,0,0,1,0,0])) [2,4] [] (Zex a0 y0_2 y0_3) ([.a (.b (z1_2)),.a (.i .i64 (z1_4))],[]))=mapS Zb8 Zdl (Zfr prog N a0 y0_2 y0_3 z1_2 z1_4):=by
 refine Eq.trans (b:=(some (.done (.ret,([.a (.b (z1_2)),.a (.i .i64 (y0_3))],[]))))) (by kernel_rfl) ?_
 simp only [Zfr,Zbe,Zbc,Zbb,Zbf,Zb8,Zdl]
def Zfx (P:Program) (N:Nat) (a0:Array Value) (y0_2:Bool) (y0_3:Int) (z1_2:Bool) (z1_4:Int):Option (Stp (Bool×Int) (Stp (Bool×Int) (Bool×Int))):=some (.more (z1_2,(i64.wrap (y0_3+(1:Int)))))
theorem Zrt (N:Nat) (a0:Array Value) (y0_2:Bool) (y0_3:Int) (z1_2:Bool) (z1_4:Int):(kBlock 2 (kBlock 1 (kSeq (veC prog Zbo N (cAt (codeOf Tryd.f37) [1,1,0,1,0,0,1,1]) (pAt (mkPlan (codeOf Tryd.f37) [([2,3],[]),([2,4],[])]).1 [1,1,0,1,0,1,1]) (Stp LS (Exit×LS))) (kBody 27 [2,3] [])))) (.exit 2) (left (writes (cAt (codeOf Tryd.f37) [1,1,0,1,0,0,1,0,0,1,0,0])) [2,4] [] (Zex a0 y0_2 y0_3) ([.a (.b (z1_2)),.a (.i .i64 (z1_4))],[]))=mapS Zb8 Zdl (Zfx prog N a0 y0_2 y0_3 z1_2 z1_4):=by
 refine Eq.trans (b:=(some (.more ([.a (.b (z1_2)),.a (.i .i64 (i64.wrap (y0_3+(1:Int))))],[])))) (by kernel_rfl) ?_
 simp only [Zfx,Zbe,Zbc,Zbb,Zbf,Zb8,Zdl]
theorem Zzz (N:Nat) (a0:Array Value) (y0_2:Bool) (y0_3:Int):bindX (iterO (stepV prog Zbo N (cAt (codeOf Tryd.f37) [1,1,0,1,0,0,1,0,0,1,0,0]) (pAt (mkPlan (codeOf Tryd.f37) [([2,3],[]),([2,4],[])]).1 [1,1,0,1,0,1,0,1,0]) [2,4] [] (Zex a0 y0_2 y0_3)) N ([.a (.b (y0_2)),.a (.i .i64 (0:Int))],[])) (fun e s=>(kBlock 2 (kBlock 1 (kSeq (veC prog Zbo N (cAt (codeOf Tryd.f37) [1,1,0,1,0,0,1,1]) (pAt (mkPlan (codeOf Tryd.f37) [([2,3],[]),([2,4],[])]).1 [1,1,0,1,0,1,1]) (Stp LS (Exit×LS))) (kBody 27 [2,3] [])))) e (left (writes (cAt (codeOf Tryd.f37) [1,1,0,1,0,0,1,0,0,1,0,0])) [2,4] [] (Zex a0 y0_2 y0_3) s))=mapS Zb8 Zdl (nodeX (iterO (Zco prog a0 y0_2 y0_3) N (y0_2,(0:Int))) (st2 (fun x=>Zfr prog N a0 y0_2 y0_3 x.1 x.2) (fun x=>Zfx prog N a0 y0_2 y0_3 x.1 x.2))):=by
 have h:=Zcl (α:=Stp LS (Exit×LS)) Zf2 Zlj _ _ (Zz1 N a0 y0_2 y0_3) N (y0_2,(0:Int))
 rw [Zs5 Zb8 Zdl]
 refine h _ _ ?_
 intro x
 cases x with
 | more x=>exact Zqb N a0 y0_2 y0_3 x.1 x.2
 | done x=>exact Zrt N a0 y0_2 y0_3 x.1 x.2
def Zdk (P:Program) (N:Nat) (a0:Array Value):Bool×Int→Option (Stp (Bool×Int) (Stp (Bool×Int) (Bool×Int)))
 | (y0_2,y0_3)=>bif decide (y0_3<(2:Int)) then (nodeX (iterO (Zco P a0 y0_2 y0_3) N (y0_2,(0:Int))) (st2 (fun x=>Zfr P N a0 y0_2 y0_3 x.1 x.2) (fun x=>Zfx P N a0 y0_2 y0_3 x.1 x.2)))
  else (some (.done (.done (y0_2,y0_3))))
theorem Zyy (N:Nat) (a0:Array Value):∀ t:Bool×Int,stepV prog Zbo N (cAt (codeOf Tryd.f37) [1,1,0,1,0,0]) (pAt (mkPlan (codeOf Tryd.f37) [([2,3],[]),([2,4],[])]).1 [1,1,0,1,0]) [2,3] [] (Ze4 a0) (Zb8 t)=mapS Zb8 Zdl (Zdk prog N a0 t):=by
 rintro ⟨y0_2,y0_3⟩
 refine Eq.trans (b:=(bif decide (y0_3<(2:Int)) then (bindX (iterO (stepV prog Zbo N (cAt (codeOf Tryd.f37) [1,1,0,1,0,0,1,0,0,1,0,0]) (pAt (mkPlan (codeOf Tryd.f37) [([2,3],[]),([2,4],[])]).1 [1,1,0,1,0,1,0,1,0]) [2,4] [] (Zex a0 y0_2 y0_3)) N ([.a (.b (y0_2)),.a (.i .i64 (0:Int))],[])) (fun e s=>(kBlock 2 (kBlock 1 (kSeq (veC prog Zbo N (cAt (codeOf Tryd.f37) [1,1,0,1,0,0,1,1]) (pAt (mkPlan (codeOf Tryd.f37) [([2,3],[]),([2,4],[])]).1 [1,1,0,1,0,1,1]) (Stp LS (Exit×LS))) (kBody 27 [2,3] [])))) e (left (writes (cAt (codeOf Tryd.f37) [1,1,0,1,0,0,1,0,0,1,0,0])) [2,4] [] (Zex a0 y0_2 y0_3) s)))
  else (some (.done ((.exit 0),([.a (.b (y0_2)),.a (.i .i64 (y0_3))],[])))))) (by kernel_rfl) ?_
 simp only [Zzz N a0 y0_2 y0_3,Zdk,Zbe,Zbc,Zbb,Zbf,Zb8,Zdl]
def Zjj (P:Program) (N:Nat) (a0:Array Value) (z0_2:Bool) (z0_3:Int):Option (SV×Eff×Bool):=some (.a (.b (z0_2)),.none,true)
theorem Zrz (N:Nat) (a0:Array Value) (z0_2:Bool) (z0_3:Int):(kBlock 0 (kSeq (veC prog Zbo N (cAt (codeOf Tryd.f37) [1,1,1]) (pAt (mkPlan (codeOf Tryd.f37) [([2,3],[]),([2,4],[])]).1 [1,1,1]) (SV×Eff×Bool)) (finK prog [.row a0 35] [.tmp 2]))) .ret (left (writes (cAt (codeOf Tryd.f37) [1,1,0,1,0,0])) [2,3] [] (Ze4 a0) ([.a (.b (z0_2)),.a (.i .i64 (z0_3))],[]))=Zjj prog N a0 z0_2 z0_3:=by
 refine Eq.trans (b:=(some (.a (.b (z0_2)),.none,true))) (by kernel_rfl) ?_
 rfl
def Zjg (P:Program) (N:Nat) (a0:Array Value) (z0_2:Bool) (z0_3:Int):Option (SV×Eff×Bool):=some (.a (.b (true)),.none,true)
theorem Zrs (N:Nat) (a0:Array Value) (z0_2:Bool) (z0_3:Int):(kBlock 0 (kSeq (veC prog Zbo N (cAt (codeOf Tryd.f37) [1,1,1]) (pAt (mkPlan (codeOf Tryd.f37) [([2,3],[]),([2,4],[])]).1 [1,1,1]) (SV×Eff×Bool)) (finK prog [.row a0 35] [.tmp 2]))) (.exit 0) (left (writes (cAt (codeOf Tryd.f37) [1,1,0,1,0,0])) [2,3] [] (Ze4 a0) ([.a (.b (z0_2)),.a (.i .i64 (z0_3))],[]))=Zjg prog N a0 z0_2 z0_3:=by
 refine Eq.trans (b:=(some (.a (.b (true)),.none,true))) (by kernel_rfl) ?_
 rfl
theorem Zza (N:Nat) (a0:Array Value):bindX (iterO (stepV prog Zbo N (cAt (codeOf Tryd.f37) [1,1,0,1,0,0]) (pAt (mkPlan (codeOf Tryd.f37) [([2,3],[]),([2,4],[])]).1 [1,1,0,1,0]) [2,3] [] (Ze4 a0)) N ([.a (.b (false)),.a (.i .i64 (0:Int))],[])) (fun e s=>(kBlock 0 (kSeq (veC prog Zbo N (cAt (codeOf Tryd.f37) [1,1,1]) (pAt (mkPlan (codeOf Tryd.f37) [([2,3],[]),([2,4],[])]).1 [1,1,1]) (SV×Eff×Bool)) (finK prog [.row a0 35] [.tmp 2]))) e (left (writes (cAt (codeOf Tryd.f37) [1,1,0,1,0,0])) [2,3] [] (Ze4 a0) s))=nodeX (iterO (Zdk prog N a0) N (false,(0:Int))) (st2 (fun x=>Zjj prog N a0 x.1 x.2) (fun x=>Zjg prog N a0 x.1 x.2)):=by
 refine Zcl Zb8 Zdl _ _ (Zyy N a0) N (false,(0:Int)) _ _ ?_
 intro x
 cases x with
 | more x=>exact Zrz N a0 x.1 x.2
 | done x=>exact Zrs N a0 x.1 x.2
theorem Zxi (N:Nat) (a0:Array Value):ansV prog Zbo N Tryd.f37 [([2,3],[]),([2,4],[])] [.w 0] [.row a0 35]=(bif (!((Zaa (i64.wrap (num a0 0)) (1:Int) (6:Int)))) then (some (.a (.b (false)),.none,true))
  else (bif (!((Zaa (i64.wrap (num a0 1)) (1:Int) (6:Int)))) then (some (.a (.b (false)),.none,true))
   else (bif ((IntKind.u64.wrap (BitVec.ofInt IntKind.u64.bits (num a0 2) &&& ~~~(BitVec.ofInt IntKind.u64.bits (gridI (num a0 0) (num a0 1) 36))).toNat) != (0:Int)) then (some (.a (.b (false)),.none,true))
    else (nodeX (iterO (Zdk prog N a0) N (false,(0:Int))) (st2 (fun x=>Zjj prog N a0 x.1 x.2) (fun x=>Zjg prog N a0 x.1 x.2)))))):=by
 refine Eq.trans (b:=(bif (!((Zaa (i64.wrap (num a0 0)) (1:Int) (6:Int)))) then (some (.a (.b (false)),.none,true))
  else (bif (!((Zaa (i64.wrap (num a0 1)) (1:Int) (6:Int)))) then (some (.a (.b (false)),.none,true))
   else (bif ((IntKind.u64.wrap (BitVec.ofInt IntKind.u64.bits (num a0 2) &&& ~~~(BitVec.ofInt IntKind.u64.bits (gridI (num a0 0) (num a0 1) 36))).toNat) != (0:Int)) then (some (.a (.b (false)),.none,true))
    else (bindX (iterO (stepV prog Zbo N (cAt (codeOf Tryd.f37) [1,1,0,1,0,0]) (pAt (mkPlan (codeOf Tryd.f37) [([2,3],[]),([2,4],[])]).1 [1,1,0,1,0]) [2,3] [] (Ze4 a0)) N ([.a (.b (false)),.a (.i .i64 (0:Int))],[])) (fun e s=>(kBlock 0 (kSeq (veC prog Zbo N (cAt (codeOf Tryd.f37) [1,1,1]) (pAt (mkPlan (codeOf Tryd.f37) [([2,3],[]),([2,4],[])]).1 [1,1,1]) (SV×Eff×Bool)) (finK prog [.row a0 35] [.tmp 2]))) e (left (writes (cAt (codeOf Tryd.f37) [1,1,0,1,0,0])) [2,3] [] (Ze4 a0) s))))))) (by kernel_rfl) ?_
 simp only [Zza N a0]
theorem Yd0 {S:Array Value} (h:WT prog 35 S) {t:Nat} (ht:t<2) (b:Bool):iterO (Zco prog S b (t:Int)) 1000 (b,(0:Int))=some (match (List.range 36).find? (fun k=> !(fitS S t k)) with | some k=>.more (false,(k:Int)) | none=>.done (b,((36:Nat):Int))):=by
 have htt:decide (0≤(t:Int))=true:=decide_eq_true (by omega)
 have ht2:decide ((t:Int)<2)=true:=decide_eq_true (by omega)
 exact Zwc (g:=Zco prog S b (t:Int)) (fun k=>(b,(k:Int))) (fun k=> !(fitS S t k)) 36 (N:=1000) (by omega) (xd:=.done (b,((36:Nat):Int))) (fun k=>.more (false,(k:Int))) (fun k hk hp=>by
  have h1:decide ((k:Int)<36)=true:=decide_eq_true (by omega)
  have h0:decide (0≤(k:Int))=true:=decide_eq_true (by omega)
  have h3:i64.wrap ((k:Int)+1)=((k+1:Nat):Int):=by rw [IntWalk.i64_in _ (by omega)];omega
  obtain ⟨w1,w2⟩:=Ztq h hk
  rw [Bool.not_eq_false'] at hp
  unfold fitS chR at hp
  rw [← w2] at hp
  cases hw:Zac (k:Int) S with
  | false=>
   rw [hw] at hp
   simp only [cond_false] at hp
   simp only [Zco,h1,h0,h3,htt,ht2,w1,hw,Bool.and_self,Bool.not_false,cond_true,cond_false,Int.toNat_natCast,hp,Bool.not_true]
  | true=>
   rw [hw] at hp
   simp only [cond_true] at hp
   simp only [Zco,h1,h0,h3,htt,ht2,w1,hw,Bool.and_self,Bool.not_true,cond_true,cond_false,Int.toNat_natCast,hp]) (fun k hk hp=>by
  have h1:decide ((k:Int)<36)=true:=decide_eq_true (by omega)
  have h0:decide (0≤(k:Int))=true:=decide_eq_true (by omega)
  obtain ⟨w1,w2⟩:=Ztq h hk
  rw [Bool.not_eq_true'] at hp
  unfold fitS chR at hp
  rw [← w2] at hp
  cases hw:Zac (k:Int) S with
  | false=>
   rw [hw] at hp
   simp only [cond_false] at hp
   simp only [Zco,h1,h0,htt,ht2,w1,hw,Bool.and_self,Bool.not_false,cond_true,cond_false,Int.toNat_natCast,hp]
  | true=>
   rw [hw] at hp
   simp only [cond_true] at hp
   simp only [Zco,h1,h0,htt,ht2,w1,hw,Bool.and_self,Bool.not_true,Bool.not_false,cond_true,cond_false,Int.toNat_natCast,hp]) (by
  have h1:decide (((36:Nat):Int)<36)=false:=by decide
  simp only [Zco,h1,cond_false])
theorem Zwj (a0:Array Value) (h_a0:WT prog 35 a0) (hg:(true)=true):ansV prog Zbo 1000 Tryd.f37 [([2,3],[]),([2,4],[])] [.w 0] [.row a0 35]=some (.a (.b ((okS a0))),.none,true):=by
 refine (Zxi 1000 a0).trans ?_
 obtain ⟨s0,b0,b1⟩:=h_a0.int (o:=0) (k:=.i8) (by kernel_rfl)
 obtain ⟨s1,b2,b3⟩:=h_a0.int (o:=1) (k:=.i8) (by kernel_rfl)
 have e1:IntKind.i8.min = -128:=rfl
 have e2:IntKind.i8.max=127:=rfl
 have h:=Zwc (g:=Zdk prog 1000 a0) (fun t=>(false,(t:Int))) (fun t=>((List.range 36).find? (fun k=> !(fitS a0 t k))).isSome) 2 (N:=1000) (by omega) (xd:=.done (false,((2:Nat):Int))) (fun t=>.more (false,(t:Int))) (fun t ht hp=>by
  have h1:decide ((t:Int)<2)=true:=decide_eq_true (by omega)
  have h3:i64.wrap ((t:Int)+1)=((t+1:Nat):Int):=by rw [IntWalk.i64_in _ (by omega)];omega
  have hn:(List.range 36).find? (fun k=> !(fitS a0 t k))=none:=by simpa using hp
  have hi:=Yd0 h_a0 ht false
  rw [hn] at hi
  simp only [Zdk,h1,cond_true,hi,nodeX,st2,Zfx,h3]) (fun t ht hp=>by
  have h1:decide ((t:Int)<2)=true:=decide_eq_true (by omega)
  obtain ⟨k,hn⟩:=Option.isSome_iff_exists.1 hp
  have hi:=Yd0 h_a0 ht false
  rw [hn] at hi
  simp only [Zdk,h1,cond_true,hi,nodeX,st2,Zfr]) (by
  have h1:decide (((2:Nat):Int)<2)=false:=by decide
  simp only [Zdk,h1,cond_false])
 have h':iterO (Zdk prog 1000 a0) 1000 (false,(0:Int))=some (match (List.range 2).find? (fun t=>((List.range 36).find? (fun k=> !(fitS a0 t k))).isSome) with | some t=>.more (false,(t:Int)) | none=>.done (false,((2:Nat):Int))):=h
 have i0:Zaa (i64.wrap (num a0 0)) 1 6=(decide (1≤num a0 0)&&decide (num a0 0≤6)):=by
  rw [IntWalk.i64_in _ (by omega)];unfold Zaa
  cases h1:decide (num a0 0 ≥ 1)<;>simp_all
 have i1:Zaa (i64.wrap (num a0 1)) 1 6=(decide (1≤num a0 1)&&decide (num a0 1≤6)):=by
  rw [IntWalk.i64_in _ (by omega)];unfold Zaa
  cases h1:decide (num a0 1 ≥ 1)<;>simp_all
 unfold okS okD
 rw [i0,i1,h',all_two,← Zzq,← Zzq,show IntKind.u64.wrap (BitVec.ofInt IntKind.u64.bits (num a0 2) &&& ~~~(BitVec.ofInt IntKind.u64.bits (gridI (num a0 0) (num a0 1) 36))).toNat=andNotI (num a0 2) (gridI (num a0 0) (num a0 1) 36) from rfl,show (List.range 2)=[0,1] from rfl]
 cases decide (1≤num a0 0)&&decide (num a0 0≤6)
 ·rfl
 cases decide (1≤num a0 1)&&decide (num a0 1≤6)
 ·rfl
 cases hb:(andNotI (num a0 2) (gridI (num a0 0) (num a0 1) 36)==0) with
 | false=>rw [show (andNotI (num a0 2) (gridI (num a0 0) (num a0 1) 36) != 0)=true by simp [bne,hb]];rfl
 | true=>
  rw [show (andNotI (num a0 2) (gridI (num a0 0) (num a0 1) 36) != 0)=false by simp [bne,hb]]
  simp only [List.find?]
  generalize (List.range 36).find? (fun k=> !(fitS a0 0 k))=f0
  generalize (List.range 36).find? (fun k=> !(fitS a0 1 k))=f1
  cases f0<;>cases f1<;>rfl
def Zj4:Con:=fun args h=>match args,h with
 | [.w 0],[.row a0 35]=>some (.a (.b ((okS a0))),.none,true)
 | _,_=>none
theorem Zud:EntX prog 37:=Zam (fn:=Tryd.f37) (by kernel_rfl) (by kernel_rfl) (by kernel_rfl)
theorem Zzs:ConOkX mn prog 37 Zj4:=(Zat (N:=1000) (by kernel_rfl) (mkΓ_consX (Zag Zj7) Zh2 (mkΓ_consX (Zag Zhl) Ze9 (mkΓ_consX (Zag Zlz) Zjc (mkΓ_consX (Zag Zr0) Zm5 mkΓ_nilX)))) (fn:=Tryd.f37) (by kernel_rfl) (by kernel_rfl) [([2,3],[]),([2,4],[])]).of (by
 intro ρ h w args vals r e hA hH hr
 unfold Zj4 at hr
 split at hr
 ·rename_i a0
  obtain ⟨rfl,hg⟩:=Prod.mk.inj (Option.some.inj hr)
  obtain ⟨rfl,hg2⟩:=Prod.mk.inj hg
  exact Zwj a0 (hH.wt 0 rfl) hg2
 ·cases hr)
theorem Zly {S:Array Value} (h:okS S=true):1≤num S 0∧num S 0≤6∧1≤num S 1∧num S 1≤6:=by
 unfold okS okD at h
 simp only [Bool.and_eq_true,decide_eq_true_eq] at h
 exact ⟨h.1.1.1,h.1.1.2,h.1.2.1,h.1.2.2⟩
theorem Zzk {S:Array Value} (h:okS S=true):(decide (0≤num S 0)&&decide (num S 0≤6)&&(decide (0≤num S 1)&&decide (num S 1≤6)))=true:=by
 obtain ⟨h1,h2,h3,h4⟩:=Zly h
 rw [decide_eq_true (show 0≤num S 0 by omega),decide_eq_true h2,decide_eq_true (show 0≤num S 1 by omega),decide_eq_true h4];rfl
theorem okS_fit {S:Array Value} (h:okS S=true) {t k:Nat} (ht:t<2) (hk:k<36):fitS S t k=true:=by
 unfold okS at h
 simp only [Bool.and_eq_true] at h
 have:=List.all_eq_true.1 h.2.2 k (List.mem_range.2 hk)
 rw [Bool.and_eq_true] at this
 match t,ht with
 | 0,_=>exact this.1
 | 1,_=>exact this.2
theorem Zvz {S:Array Value} (h:WT prog 35 S):S.size=363:=by rw [h.layLen,Zy7];simp
theorem num_sub {S:Array Value} {o n j:Nat} (hj:j<n):num (S.extract o (o+n)) j=num S (o+j):=by
 unfold num
 rw [Array.getElem?_extract]
 by_cases h:o+j<S.size
 ·rw [if_pos (by omega)]
 ·rw [if_neg (by omega),Array.getElem?_eq_none (by omega)]
theorem sea_u8 {S:Array Value} (h:WT prog 35 S) {i:Nat} (hi:i<360):S[3+i]? = some (.int .u8 (num S (3+i)))∧0≤num S (3+i)∧num S (3+i)≤255:=h.int (k:=.u8) (by rw [Zy7,show 3+i=i+3 by omega];show (List.replicate 360 4)[i]? = some 4;rw [List.getElem?_replicate,if_pos hi])
end
end Go.Proofs.YtffagbiedigmcaaDoor
