/- What a valid sea is, in company. -/
import Derived.Test.YtdfefaanfiheoaaGreatDoorProg
import Derived.Test.YtdfefaanfiheoaaGreatDoorCxB
open _root_.List renaming range→jA,all_eq_true→jC
open _root_.Bool renaming and_self→jB,not_false→jD
namespace Go.Proofs.YtdfefaanfiheoaaGreatDoor
open Go.ChangeShapes Go.WideShapes Go.ChangeAt Go.RowKit Ve Vc
open Tryz renaming prog → PZ
open IntKind (i64)
set_option linter.unusedVariables false
set_option linter.unusedSimpArgs false
set_option maxRecDepth 100000
noncomputable section
variable {mn:Md}
def sumW (a:Array Value):Nat→Int
 | 0=>0
 | k+1=>i64.wrap (sumW a k+i64.wrap (num a (k*1)))
theorem Ykc (t:Int):Zcm t=Zaa t 0 1:=by
 unfold Zcm Zaa
 by_cases h0:t=0
 ·subst h0;rfl
 ·by_cases h1:t=1
  ·subst h1;rfl
  ·rw [show (t==0)=false from beq_eq_false_iff_ne.2 h0,show (t==1)=false from beq_eq_false_iff_ne.2 h1]
   by_cases h2:t ≥ 0
   ·rw [Q3 h2,Q4 (show ¬ t≤1 by omega)];rfl
   ·rw [Q4 h2];rfl
def Zct (a0:Array Value):St:=(⟨.a (.g a0 33) :: .a (.w 0) :: .a (.b (false)) :: .a (.i .i64 (0:Int)) :: .a (.u) :: .a (.u) :: .a (.g a0 33) :: .a (.i .i64 (0:Int))::us 9 ([]),[.row a0 33,.no],[]⟩:St)
def Zdq:Int×Int→LS
 | (y0_3,y0_7)=>([.a (.i .i64 (y0_3)),.a (.i .i64 (y0_7))],[])
def Zia:Int×Int→Exit×LS
 | t=>((.exit 0),Zdq t)
def Zbj (P:Program) (a0:Array Value):Int×Int→Option (Stp (Int×Int) (Int×Int))
 | (y0_3,y0_7)=>bif decide (y0_7<(5:Int)) then (bif (decide (0≤y0_7)&&decide (y0_7<5)) then (some (.more ((i64.wrap (y0_3+(i64.wrap (num a0 ((y0_7).toNat*1))))),(i64.wrap (y0_7+(1:Int))))))
   else (none))
  else (some (.done (y0_3,y0_7)))
def Ufo:=(Uaa (codeOf Tryz.f112) [([3,7],[])]).1
theorem Zsu (N:Nat) (a0:Array Value):∀ t:Int×Int,Uag PZ (mkΓ []) N (cAt (codeOf Tryz.f112) [1,1,0,1,0,0]) (pAt Ufo [1,1,0,1,0]) [3,7] [] (Zct a0) (Zdq t)=mapS Zdq Zia (Zbj PZ a0 t):=by
 rintro ⟨y0_3,y0_7⟩
 refine Eq.trans (b:=(bif decide (y0_7<(5:Int)) then (bif (decide (0≤y0_7)&&decide (y0_7<5)) then (some (.more ([.a (.i .i64 (i64.wrap (y0_3+(i64.wrap (num a0 ((y0_7).toNat*1)))))),.a (.i .i64 (i64.wrap (y0_7+(1:Int))))],[])))
   else (none))
  else (some (.done ((.exit 0),([.a (.i .i64 (y0_3)),.a (.i .i64 (y0_7))],[])))))) (by kernel_rfl) ?_
 simp only [Zbj,Zas,Zat,Zar,Zaq,Zdq,Zia]
def Zgw (P:Program) (N:Nat) (a0:Array Value) (z0_3:Int) (z0_7:Int):Option (SV×Eff×Bool):=some (.a (.b ((z0_3==(12:Int)))),.none,true)
def Ue7 (N:Nat):=(Uad 0 (kSeq (veC PZ (mkΓ []) N (cAt (codeOf Tryz.f112) [1,1,1]) (pAt Ufo [1,1,1]) (SV×Eff×Bool)) (finK PZ [] [.tmp 2])))
theorem Znu (N:Nat) (a0:Array Value) (z0_3:Int) (z0_7:Int):(Ue7 N) (.exit 0) (left (writes (cAt (codeOf Tryz.f112) [1,1,0,1,0,0])) [3,7] [] (Zct a0) ([.a (.i .i64 (z0_3)),.a (.i .i64 (z0_7))],[]))=Zgw PZ N a0 z0_3 z0_7:=by
 refine Eq.trans (b:=(some (.a (.b ((z0_3==(12:Int)))),.none,true))) (by kernel_rfl) ?_
 rfl
theorem Zsp (N:Nat) (a0:Array Value):Uah (Uab (Uag PZ (mkΓ []) N (cAt (codeOf Tryz.f112) [1,1,0,1,0,0]) (pAt Ufo [1,1,0,1,0]) [3,7] [] (Zct a0)) N ([.a (.i .i64 (0:Int)),.a (.i .i64 (0:Int))],[])) (fun e s=>(Ue7 N) e (left (writes (cAt (codeOf Tryz.f112) [1,1,0,1,0,0])) [3,7] [] (Zct a0) s))=Uai (Uab (Zbj PZ a0) N ((0:Int),(0:Int))) (fun x=>Zgw PZ N a0 x.1 x.2):=by
 refine Zav Zdq Zia _ _ (Zsu N a0) N ((0:Int),(0:Int)) _ _ ?_
 intro x;exact Znu N a0 x.1 x.2
theorem Zqp (N:Nat) (a0:Array Value):ansV PZ (mkΓ []) N Tryz.f112 [([3,7],[])] [.g a0 33] []=(Uai (Uab (Zbj PZ a0) N ((0:Int),(0:Int))) (fun x=>Zgw PZ N a0 x.1 x.2)):=by
 refine Eq.trans (b:=(Uah (Uab (Uag PZ (mkΓ []) N (cAt (codeOf Tryz.f112) [1,1,0,1,0,0]) (pAt Ufo [1,1,0,1,0]) [3,7] [] (Zct a0)) N ([.a (.i .i64 (0:Int)),.a (.i .i64 (0:Int))],[])) (fun e s=>(Ue7 N) e (left (writes (cAt (codeOf Tryz.f112) [1,1,0,1,0,0])) [3,7] [] (Zct a0) s)))) (by kernel_rfl) ?_
 simp only [Zsp N a0]
theorem Zpv (a0:Array Value) (h_a0:WT PZ 33 a0) (hg:(true)=true):ansV PZ (mkΓ []) 1000 Tryz.f112 [([3,7],[])] [.g a0 33] []=some (.a (.b ((sumW a0 5==(12:Int)))),.none,true):=by
 have h:=Zdg (g:=Zbj PZ a0) (fun k=>(sumW a0 k,(k:Int))) (m:=5) (x:=(sumW a0 5,((5:Nat):Int))) (N:=1000) (fun k hk=>by
  have h1:decide ((k:Int)<5)=true:=Q3 (by omega)
  have h0:decide (0≤(k:Int))=true:=Q3 (by omega)
  have h3:i64.wrap ((k:Int)+1)=((k+1:Nat):Int):=by rw [IntWalk.i64_in _ (by omega)];omega
  have h4:((k:Int)).toNat=k:=Q9 k
  simp only [Zbj,h1,h0,jB,h4,Q1,h3,sumW]) (by
  have h1:decide (((5:Nat):Int)<5)=false:=by decide
  simp only [Zbj,h1,Q2]) (by omega)
 refine (Zqp 1000 a0).trans ?_
 have h':Uab (Zbj PZ a0) 1000 ((0:Int),(0:Int))=some (sumW a0 5,((5:Nat):Int)):=h
 rw [h']
 rfl
def Zhh:Con:=fun args h=>match args,h with
 | [.g a0 33],[]=>some (.a (.b ((sumW a0 5==(12:Int)))),.none,true)
 | _,_=>none
theorem Zov:EntX PZ 112:=Zah (fn:=Tryz.f112) (by kernel_rfl) (by kernel_rfl) (by kernel_rfl)
theorem Zst:Uac mn PZ 112 Zhh:=(Zai (N:=1000) (by kernel_rfl) mkΓ_nilX (fn:=Tryz.f112) (by kernel_rfl) (by kernel_rfl) [([3,7],[])]).of (by
 intro ρ h w args vals r e hA hH hr
 unfold Zhh at hr
 split at hr
 ·rename_i a0
  obtain ⟨rfl,rfl,hg2⟩:=BQi hr
  exact Zpv a0 (hA.wt 0 rfl) hg2
 ·cases hr)
def Zdf (a0:Array Value):St:=(⟨.a (.g a0 33) :: .a (.w 0) :: .a (.b (false)) :: .a (.i .i64 (0:Int)) :: .a (.i .i64 (0:Int))::us 12 ([]),[.row a0 33,.no],[]⟩:St)
def Ze4:Int×Int→LS
 | (y0_3,y0_4)=>([.a (.i .i64 (y0_3)),.a (.i .i64 (y0_4))],[])
def Zj2:Int×Int→Exit×LS
 | t=>((.exit 0),Ze4 t)
def Zbt (P:Program) (a0:Array Value):Int×Int→Option (Stp (Int×Int) (Int×Int))
 | (y0_3,y0_4)=>bif decide (y0_4<(5:Int)) then (bif (decide (0≤y0_4)&&decide (y0_4<5)) then (some (.more ((i64.wrap (y0_3+(i64.wrap (num a0 ((y0_4).toNat*1))))),(i64.wrap (y0_4+(1:Int))))))
   else (none))
  else (some (.done (y0_3,y0_4)))
def Ufn:=(Uaa (codeOf Tryz.f71) [([3,4],[])]).1
theorem Zxn (N:Nat) (a0:Array Value):∀ t:Int×Int,Uag PZ (mkΓ []) N (cAt (codeOf Tryz.f71) [1,1,0,1,0,0]) (pAt Ufn [1,1,0,1,0]) [3,4] [] (Zdf a0) (Ze4 t)=mapS Ze4 Zj2 (Zbt PZ a0 t):=by
 rintro ⟨y0_3,y0_4⟩
 refine Eq.trans (b:=(bif decide (y0_4<(5:Int)) then (bif (decide (0≤y0_4)&&decide (y0_4<5)) then (some (.more ([.a (.i .i64 (i64.wrap (y0_3+(i64.wrap (num a0 ((y0_4).toNat*1)))))),.a (.i .i64 (i64.wrap (y0_4+(1:Int))))],[])))
   else (none))
  else (some (.done ((.exit 0),([.a (.i .i64 (y0_3)),.a (.i .i64 (y0_4))],[])))))) (by kernel_rfl) ?_
 simp only [Zbt,Zas,Zat,Zar,Zaq,Ze4,Zj2]
def Zic (P:Program) (N:Nat) (a0:Array Value) (z0_3:Int) (z0_4:Int):Option (SV×Eff×Bool):=some (.a (.b ((z0_3==(12:Int)))),.none,true)
def Uey (N:Nat):=(Uad 0 (kSeq (veC PZ (mkΓ []) N (cAt (codeOf Tryz.f71) [1,1,1]) (pAt Ufn [1,1,1]) (SV×Eff×Bool)) (finK PZ [] [.tmp 2])))
theorem Zo3 (N:Nat) (a0:Array Value) (z0_3:Int) (z0_4:Int):(Uey N) (.exit 0) (left (writes (cAt (codeOf Tryz.f71) [1,1,0,1,0,0])) [3,4] [] (Zdf a0) ([.a (.i .i64 (z0_3)),.a (.i .i64 (z0_4))],[]))=Zic PZ N a0 z0_3 z0_4:=by
 refine Eq.trans (b:=(some (.a (.b ((z0_3==(12:Int)))),.none,true))) (by kernel_rfl) ?_
 rfl
theorem Zwx (N:Nat) (a0:Array Value):Uah (Uab (Uag PZ (mkΓ []) N (cAt (codeOf Tryz.f71) [1,1,0,1,0,0]) (pAt Ufn [1,1,0,1,0]) [3,4] [] (Zdf a0)) N ([.a (.i .i64 (0:Int)),.a (.i .i64 (0:Int))],[])) (fun e s=>(Uey N) e (left (writes (cAt (codeOf Tryz.f71) [1,1,0,1,0,0])) [3,4] [] (Zdf a0) s))=Uai (Uab (Zbt PZ a0) N ((0:Int),(0:Int))) (fun x=>Zic PZ N a0 x.1 x.2):=by
 refine Zav Ze4 Zj2 _ _ (Zxn N a0) N ((0:Int),(0:Int)) _ _ ?_
 intro x;exact Zo3 N a0 x.1 x.2
theorem Zt8 (N:Nat) (a0:Array Value):ansV PZ (mkΓ []) N Tryz.f71 [([3,4],[])] [.g a0 33] []=(Uai (Uab (Zbt PZ a0) N ((0:Int),(0:Int))) (fun x=>Zic PZ N a0 x.1 x.2)):=by
 refine Eq.trans (b:=(Uah (Uab (Uag PZ (mkΓ []) N (cAt (codeOf Tryz.f71) [1,1,0,1,0,0]) (pAt Ufn [1,1,0,1,0]) [3,4] [] (Zdf a0)) N ([.a (.i .i64 (0:Int)),.a (.i .i64 (0:Int))],[])) (fun e s=>(Uey N) e (left (writes (cAt (codeOf Tryz.f71) [1,1,0,1,0,0])) [3,4] [] (Zdf a0) s)))) (by kernel_rfl) ?_
 simp only [Zwx N a0]
theorem Zsh (a0:Array Value) (h_a0:WT PZ 33 a0) (hg:(true)=true):ansV PZ (mkΓ []) 1000 Tryz.f71 [([3,4],[])] [.g a0 33] []=some (.a (.b ((sumW a0 5==(12:Int)))),.none,true):=by
 have h:=Zdg (g:=Zbt PZ a0) (fun k=>(sumW a0 k,(k:Int))) (m:=5) (x:=(sumW a0 5,((5:Nat):Int))) (N:=1000) (fun k hk=>by
  have h1:decide ((k:Int)<5)=true:=Q3 (by omega)
  have h0:decide (0≤(k:Int))=true:=Q3 (by omega)
  have h3:i64.wrap ((k:Int)+1)=((k+1:Nat):Int):=by rw [IntWalk.i64_in _ (by omega)];omega
  have h4:((k:Int)).toNat=k:=Q9 k
  simp only [Zbt,h1,h0,jB,h4,Q1,h3,sumW]) (by
  have h1:decide (((5:Nat):Int)<5)=false:=by decide
  simp only [Zbt,h1,Q2]) (by omega)
 refine (Zt8 1000 a0).trans ?_
 have h':Uab (Zbt PZ a0) 1000 ((0:Int),(0:Int))=some (sumW a0 5,((5:Nat):Int)):=h
 rw [h']
 rfl
def Ziu:Con:=fun args h=>match args,h with
 | [.g a0 33],[]=>some (.a (.b ((sumW a0 5==(12:Int)))),.none,true)
 | _,_=>none
theorem Zq3:EntX PZ 71:=Zah (fn:=Tryz.f71) (by kernel_rfl) (by kernel_rfl) (by kernel_rfl)
theorem Zu6:Uac mn PZ 71 Ziu:=(Zai (N:=1000) (by kernel_rfl) mkΓ_nilX (fn:=Tryz.f71) (by kernel_rfl) (by kernel_rfl) [([3,4],[])]).of (by
 intro ρ h w args vals r e hA hH hr
 unfold Ziu at hr
 split at hr
 ·rename_i a0
  obtain ⟨rfl,rfl,hg2⟩:=BQi hr
  exact Zsh a0 (hA.wt 0 rfl) hg2
 ·cases hr)
def Zoi:Cons:=(mkΓ [(81,con Zgk),(94,con Zej),(112,con Zhh)])
theorem Zuq (N:Nat) (a0:Array Value) (a1:Int) (a2:Array Value):ansV PZ Zoi N Tryz.f99 [] [.g a0 37,.i .i64 (a1),.g a2 33] []=(bif (Zam a0 a1) then (bif decide (0≤a1) then (bif (Zad a0 a1) then (some (.a (.b ((sumW a2 5==(12:Int)))),.none,true))
    else (some (.a (.b ((Uav a2 (#[.int .u8 (0:Int),.int .u8 (0:Int),.int .u8 (0:Int),.int .u8 (0:Int),.int .u8 (0:Int)]:Array Value)))),.none,true)))
   else (none))
  else (some (.a (.b ((Uav a2 (#[.int .u8 (0:Int),.int .u8 (0:Int),.int .u8 (0:Int),.int .u8 (0:Int),.int .u8 (0:Int)]:Array Value)))),.none,true))):=by kernel_rfl
def Zbk (a0:Array Value) (a1:Int) (a2:Array Value):Bool:=(bif (Zam a0 a1) then (bif (Zad a0 a1) then (sumW a2 5==(12:Int)) else (Uav a2 (#[.int .u8 (0:Int),.int .u8 (0:Int),.int .u8 (0:Int),.int .u8 (0:Int),.int .u8 (0:Int)]:Array Value))) else (Uav a2 (#[.int .u8 (0:Int),.int .u8 (0:Int),.int .u8 (0:Int),.int .u8 (0:Int),.int .u8 (0:Int)]:Array Value)))
theorem Zsx (a0:Array Value) (a1:Int) (a2:Array Value) (h_a0:WT PZ 37 a0) (h_a1:i64.min≤a1∧a1≤i64.max) (h_a2:WT PZ 33 a2) (hg:((bif (Zam a0 a1) then decide (0≤a1) else true))=true):ansV PZ Zoi 1000 Tryz.f99 [] [.g a0 37,.i .i64 (a1),.g a2 33] []=some (.a (.b ((Zbk a0 a1 a2))),.none,true):=by
 refine (Zuq 1000 a0 a1 a2).trans ?_
 unfold Zbk
 revert hg
 generalize ((Zam a0 a1))=b2
 intro hg
 cases b2
 ·skip
  first | (simp only [Q1,Q2,BQ6];done) | rfl | exact (nomatch (hg:false=true))
 ·skip
  revert hg
  generalize (decide (0≤a1))=b4
  intro hg
  cases b4
  ·skip
   first | exact (nomatch (hg:false=true)) | (simp only [Q1,Q2,BQ6];done) | rfl
  ·skip
   revert hg
   generalize ((Zad a0 a1))=b6
   intro hg
   cases b6
   ·skip
    first | (simp only [Q1,Q2,BQ6];done) | rfl | exact (nomatch (hg:false=true))
   ·skip
    first | (simp only [Q1,Q2,BQ6];done) | rfl | exact (nomatch (hg:false=true))
def Ziy:Con:=fun args h=>match args,h with
 | [.g a0 37,.i .i64 a1,.g a2 33],[]=>some (.a (.b ((Zbk a0 a1 a2))),.none,(bif (Zam a0 a1) then decide (0≤a1) else true))
 | _,_=>none
theorem Zqx:EntX PZ 99:=Zah (fn:=Tryz.f99) (by kernel_rfl) (by kernel_rfl) (by kernel_rfl)
theorem Zut:Uac mn PZ 99 Ziy:=(Zai (N:=1000) (by kernel_rfl) (mkΓ_consX (Zae Zfu) Zdi (mkΓ_consX (Zae Zjd) Zg4 (mkΓ_consX (Zae Zst) Zov mkΓ_nilX))) (fn:=Tryz.f99) (by kernel_rfl) (by kernel_rfl) []).of (by
 intro ρ h w args vals r e hA hH hr
 unfold Ziy at hr
 split at hr
 ·rename_i a0 a1 a2
  obtain ⟨rfl,rfl,hg2⟩:=BQi hr
  exact Zsx a0 a1 a2 (hA.wt 0 rfl) (hA.rng 1 rfl) (hA.wt 2 rfl) hg2
 ·cases hr)
def chR (S:Array Value) (t k:Nat):Array Value:=S.extract (3+t*180+k*5) (3+t*180+k*5+5)
def fitS (S:Array Value) (t k:Nat):Bool:=bif inC (num S 0) (num S 1) k && !(bitI (num S 2) k) then (sumW (chR S t k) 5==(12:Int)) else Uav (chR S t k) (#[.int .u8 (0:Int),.int .u8 (0:Int),.int .u8 (0:Int),.int .u8 (0:Int),.int .u8 (0:Int)]:Array Value)
def okD (S:Array Value):Bool:=decide (1≤num S 0)&&decide (num S 0≤6)&&(decide (1≤num S 1)&&decide (num S 1≤6))
def okS (S:Array Value):Bool:=okD S&&((Ua8 (num S 2) (Ua0 (num S 0) (num S 1) 36)==0)&&(jA 36).all fun k=>fitS S 0 k&&fitS S 1 k)
theorem Yg1 (n:Nat) (p:Nat→Bool):((jA n).find? (fun k=> !(p k))).isNone=(jA n).all p:=by
 rw [Bool.eq_iff_iff,Option.isNone_iff_eq_none,List.find?_eq_none,jC]
 simp
theorem all_two (n:Nat) (p q:Nat→Bool):(jA n).all (fun k=>p k&&q k)=((jA n).all p&&(jA n).all q):=by
 rw [Bool.eq_iff_iff,Q7,jC,jC,jC]
 simp only [Q7]
 exact ⟨fun h=>⟨fun x hx=>(h x hx).1,fun x hx=>(h x hx).2⟩,fun h x hx=>⟨h.1 x hx,h.2 x hx⟩⟩
theorem Yoh {S:Array Value} (h:WT PZ 37 S) {k:Nat} (hk:k<36):Zam S (k:Int)=inC (num S 0) (num S 1) k:=by rw [Zqa,Yjt h hk]
theorem Ybw {S:Array Value} (h:WT PZ 37 S) {k:Nat} (hk:k<36) (t:Nat):Zbk S (k:Int) (chR S t k)=fitS S t k:=by
 unfold Zbk fitS
 rw [Yoh h hk]
 unfold Zad
 rw [Zr6 hk]
 cases inC (num S 0) (num S 1) k<;>cases bitI (num S 2) k<;>rfl
theorem Yd0 {S:Array Value} (h:WT PZ 37 S) {k:Nat} (hk:k<36):Zbh (k:Int) S=true∧Zaj (k:Int) S=(inC (num S 0) (num S 1) k && !(bitI (num S 2) k)):=by
 have hu:decide (0≤IntKind.u64.wrap (k:Int))=true:=Q3 (Zfh .u64 _).1
 unfold Zbh Zaj
 rw [Yjt h hk,Ypt h hk]
 constructor
 ·cases inC (num S 0) (num S 1) k<;>simp [hu]
 ·cases inC (num S 0) (num S 1) k<;>simp
def Zfp:Cons:=(mkΓ [(98,con Zkl),(99,con Ziy)])
def Zdl (a0:Array Value):St:=(⟨.a (.g a0 37) :: .a (.w 0) :: .a (.b (false)) :: .a (.u) :: .a (.p 0 (0) 22) :: .a (.i .i8 (num a0 0)) :: .a (.b (decide ((num a0 0)<(1:Int)))) :: .a (.b (false)) :: .a (.p 0 (0) 22) :: .a (.i .i8 (num a0 0)) :: .a (.b (decide ((num a0 0) > (6:Int)))) :: .a (.b (decide ((num a0 0) > (6:Int)))) :: .a (.b (false)) :: .a (.p 0 (1) 22) :: .a (.i .i8 (num a0 1)) :: .a (.b (decide ((num a0 1)<(1:Int)))) :: .a (.b (decide ((num a0 1)<(1:Int)))) :: .a (.b (false)) :: .a (.p 0 (1) 22) :: .a (.i .i8 (num a0 1)) :: .a (.b (decide ((num a0 1) > (6:Int)))) :: .a (.b (decide ((num a0 1) > (6:Int)))) :: .a (.p 0 (2) 23) :: .a (.i .u64 (num a0 2)) :: .a (.g a0 37) :: .a (.i .u64 (Ua0 (num a0 0) (num a0 1) 36)) :: .a (.i .u64 (IntKind.u64.wrap (BitVec.ofInt IntKind.u64.bits (num a0 2) &&& ~~~(BitVec.ofInt IntKind.u64.bits (Ua0 (num a0 0) (num a0 1) 36))).toNat)) :: .a (.b (((IntKind.u64.wrap (BitVec.ofInt IntKind.u64.bits (num a0 2) &&& ~~~(BitVec.ofInt IntKind.u64.bits (Ua0 (num a0 0) (num a0 1) 36))).toNat) != (0:Int)))) :: .a (.i .i64 (0:Int))::us 23 ([]),[.row a0 37,.no,.no,.no,.no,.no,.no,.no],[]⟩:St)
def Zer:Bool×Int→LS
 | (y0_2,y0_28)=>([.a (.b (y0_2)),.a (.i .i64 (y0_28))],[])
def Zlc:(Stp (Bool×Int) (Bool×Int))→Exit×LS
 | .more t=>(.ret,Zer t)
 | .done t=>((.exit 0),Zer t)
def Zbn (P:Program) (a0:Array Value):Bool×Int→Option (Stp (Bool×Int) (Stp (Bool×Int) (Bool×Int)))
  | (y0_2,y0_28)=>bif decide (y0_28<(36:Int)) then (bif (decide (0≤y0_28)&&decide (y0_28<36)) then (bif (bif (Zam a0 y0_28) then decide (0≤y0_28) else true) then (bif (!((Zbk a0 y0_28 (a0.extract (3+((y0_28).toNat*5)) ((3+((y0_28).toNat*5))+5))))) then (some (.done (.more (false,y0_28))))
          else (bif (decide (0≤y0_28)&&decide (y0_28<36)) then (bif (bif (Zam a0 y0_28) then decide (0≤y0_28) else true) then (bif (!((Zbk a0 y0_28 (a0.extract (183+((y0_28).toNat*5)) ((183+((y0_28).toNat*5))+5))))) then (some (.done (.more (false,y0_28))))
                else (some (.more (y0_2,(i64.wrap (y0_28+(1:Int)))))))
              else (none))
            else (none)))
        else (none))
      else (none))
    else (some (.done (.done (y0_2,y0_28))))
def Ufi:=(Uaa (codeOf Tryz.f80) [([2,28],[])]).1
theorem Ya5 (N:Nat) (a0:Array Value):∀ t:Bool×Int,Uag PZ Zfp N (cAt (codeOf Tryz.f80) [1,1,1,0,1,0,0]) (pAt Ufi [1,1,1,0,1,0]) [2,28] [] (Zdl a0) (Zer t)=mapS Zer Zlc (Zbn PZ a0 t):=by
  rintro ⟨y0_2,y0_28⟩
  refine Eq.trans (b:=(bif decide (y0_28<(36:Int)) then (bif (decide (0≤y0_28)&&decide (y0_28<36)) then (bif (bif (Zam a0 y0_28) then decide (0≤y0_28) else true) then (bif (!((Zbk a0 y0_28 (a0.extract (3+((y0_28).toNat*5)) ((3+((y0_28).toNat*5))+5))))) then (some (.done (.ret,([.a (.b (false)),.a (.i .i64 (y0_28))],[]))))
          else (bif (decide (0≤y0_28)&&decide (y0_28<36)) then (bif (bif (Zam a0 y0_28) then decide (0≤y0_28) else true) then (bif (!((Zbk a0 y0_28 (a0.extract (183+((y0_28).toNat*5)) ((183+((y0_28).toNat*5))+5))))) then (some (.done (.ret,([.a (.b (false)),.a (.i .i64 (y0_28))],[]))))
                else (some (.more ([.a (.b (y0_2)),.a (.i .i64 (i64.wrap (y0_28+(1:Int))))],[]))))
              else (none))
            else (none)))
        else (none))
      else (none))
    else (some (.done ((.exit 0),([.a (.b (y0_2)),.a (.i .i64 (y0_28))],[])))))) (by kernel_rfl) ?_
  simp only [Zbn,Zas,Zat,Zar,Zaq,Zer,Zlc]
def Zi8 (P:Program) (N:Nat) (a0:Array Value) (z0_2:Bool) (z0_28:Int):Option (SV×Eff×Bool):=some (.a (.b (z0_2)),.none,true)
def Ud8 (N:Nat):=(Uad 0 (kSeq (veC PZ Zfp N (cAt (codeOf Tryz.f80) [1,1,1,1]) (pAt Ufi [1,1,1,1]) (SV×Eff×Bool)) (finK PZ [] [.tmp 2])))
theorem Zqn (N:Nat) (a0:Array Value) (z0_2:Bool) (z0_28:Int):(Ud8 N) .ret (left (writes (cAt (codeOf Tryz.f80) [1,1,1,0,1,0,0])) [2,28] [] (Zdl a0) ([.a (.b (z0_2)),.a (.i .i64 (z0_28))],[]))=Zi8 PZ N a0 z0_2 z0_28:=by
 refine Eq.trans (b:=(some (.a (.b (z0_2)),.none,true))) (by kernel_rfl) ?_
 rfl
def Zjx (P:Program) (N:Nat) (a0:Array Value) (z0_2:Bool) (z0_28:Int):Option (SV×Eff×Bool):=some (.a (.b (true)),.none,true)
theorem Zqi (N:Nat) (a0:Array Value) (z0_2:Bool) (z0_28:Int):(Ud8 N) (.exit 0) (left (writes (cAt (codeOf Tryz.f80) [1,1,1,0,1,0,0])) [2,28] [] (Zdl a0) ([.a (.b (z0_2)),.a (.i .i64 (z0_28))],[]))=Zjx PZ N a0 z0_2 z0_28:=by
 refine Eq.trans (b:=(some (.a (.b (true)),.none,true))) (by kernel_rfl) ?_
 rfl
theorem Zz1 (N:Nat) (a0:Array Value):Uah (Uab (Uag PZ Zfp N (cAt (codeOf Tryz.f80) [1,1,1,0,1,0,0]) (pAt Ufi [1,1,1,0,1,0]) [2,28] [] (Zdl a0)) N ([.a (.b (false)),.a (.i .i64 (0:Int))],[])) (fun e s=>(Ud8 N) e (left (writes (cAt (codeOf Tryz.f80) [1,1,1,0,1,0,0])) [2,28] [] (Zdl a0) s))=Uai (Uab (Zbn PZ a0) N (false,(0:Int))) (st2 (fun x=>Zi8 PZ N a0 x.1 x.2) (fun x=>Zjx PZ N a0 x.1 x.2)):=by
 refine Zav Zer Zlc _ _ (Ya5 N a0) N (false,(0:Int)) _ _ ?_
 intro x
 cases x with
 | more x=>exact Zqn N a0 x.1 x.2
 | done x=>exact Zqi N a0 x.1 x.2
theorem Zya (N:Nat) (a0:Array Value):ansV PZ Zfp N Tryz.f80 [([2,28],[])] [.g a0 37] []=(bif decide ((num a0 0)<(1:Int)) then (some (.a (.b (false)),.none,true))
    else (bif decide ((num a0 0) > (6:Int)) then (some (.a (.b (false)),.none,true))
      else (bif decide ((num a0 1)<(1:Int)) then (some (.a (.b (false)),.none,true))
        else (bif decide ((num a0 1) > (6:Int)) then (some (.a (.b (false)),.none,true))
          else (bif (decide (0≤num a0 0)&&decide (num a0 0≤6)&&(decide (0≤num a0 1)&&decide (num a0 1≤6))) then (bif ((IntKind.u64.wrap (BitVec.ofInt IntKind.u64.bits (num a0 2) &&& ~~~(BitVec.ofInt IntKind.u64.bits (Ua0 (num a0 0) (num a0 1) 36))).toNat) != (0:Int)) then (some (.a (.b (false)),.none,true))
              else (Uai (Uab (Zbn PZ a0) N (false,(0:Int))) (st2 (fun x=>Zi8 PZ N a0 x.1 x.2) (fun x=>Zjx PZ N a0 x.1 x.2))))
            else (none)))))):=by
  refine Eq.trans (b:=(bif decide ((num a0 0)<(1:Int)) then (some (.a (.b (false)),.none,true))
    else (bif decide ((num a0 0) > (6:Int)) then (some (.a (.b (false)),.none,true))
      else (bif decide ((num a0 1)<(1:Int)) then (some (.a (.b (false)),.none,true))
        else (bif decide ((num a0 1) > (6:Int)) then (some (.a (.b (false)),.none,true))
          else (bif (decide (0≤num a0 0)&&decide (num a0 0≤6)&&(decide (0≤num a0 1)&&decide (num a0 1≤6))) then (bif ((IntKind.u64.wrap (BitVec.ofInt IntKind.u64.bits (num a0 2) &&& ~~~(BitVec.ofInt IntKind.u64.bits (Ua0 (num a0 0) (num a0 1) 36))).toNat) != (0:Int)) then (some (.a (.b (false)),.none,true))
              else (Uah (Uab (Uag PZ Zfp N (cAt (codeOf Tryz.f80) [1,1,1,0,1,0,0]) (pAt Ufi [1,1,1,0,1,0]) [2,28] [] (Zdl a0)) N ([.a (.b (false)),.a (.i .i64 (0:Int))],[])) (fun e s=>(Ud8 N) e (left (writes (cAt (codeOf Tryz.f80) [1,1,1,0,1,0,0])) [2,28] [] (Zdl a0) s))))
            else (none))))))) (by kernel_rfl) ?_
  simp only [Zz1 N a0]
theorem Zxe (a0:Array Value) (h_a0:WT PZ 37 a0) (hg:(true)=true):ansV PZ Zfp 1000 Tryz.f80 [([2,28],[])] [.g a0 37] []=some (.a (.b ((okS a0))),.none,true):=by
 refine (Zya 1000 a0).trans ?_
 have h:=Zm6 (g:=Zbn PZ a0) (fun k=>(false,(k:Int))) (fun k=> !(fitS a0 0 k&&fitS a0 1 k)) 36 (N:=1000) (by omega) (xd:=.done (false,((36:Nat):Int))) (fun k=>.more (false,(k:Int))) (fun k hk hp=>by
  have h1:decide ((k:Int)<36)=true:=Q3 (by omega)
  have h0:decide (0≤(k:Int))=true:=Q3 (by omega)
  have h3:i64.wrap ((k:Int)+1)=((k+1:Nat):Int):=by rw [IntWalk.i64_in _ (by omega)];omega
  have f0:=Ybw h_a0 hk 0
  have f1:=Ybw h_a0 hk 1
  unfold chR at f0 f1
  rw [show 3+0*180+k*5=3+k*5 by omega] at f0
  rw [show 3+1*180+k*5=183+k*5 by omega] at f1
  have hg:(bif Zam a0 (k:Int) then true else true)=true:=by cases Zam a0 (k:Int)<;>rfl
  simp only [Bool.not_eq_false',Q7] at hp
  simp only [Zbn,h1,h0,h3,jB,Q1,Q9,hg,f0,f1,hp.1,hp.2,Bool.not_true,Q2]) (fun k hk hp=>by
  have h1:decide ((k:Int)<36)=true:=Q3 (by omega)
  have h0:decide (0≤(k:Int))=true:=Q3 (by omega)
  have f0:=Ybw h_a0 hk 0
  have f1:=Ybw h_a0 hk 1
  unfold chR at f0 f1
  rw [show 3+0*180+k*5=3+k*5 by omega] at f0
  rw [show 3+1*180+k*5=183+k*5 by omega] at f1
  have hg:(bif Zam a0 (k:Int) then true else true)=true:=by cases Zam a0 (k:Int)<;>rfl
  cases e0:fitS a0 0 k with
  | false=>simp only [Zbn,h1,h0,jB,Q1,Q9,hg,f0,e0,jD]
  | true=>
   rw [e0] at hp
   have e1:fitS a0 1 k=false:=by simpa using hp
   simp only [Zbn,h1,h0,jB,Q1,Q9,hg,f0,f1,e0,e1,jD,Bool.not_true,Q2]) (by
  have h1:decide (((36:Nat):Int)<36)=false:=by decide
  simp only [Zbn,h1,Q2])
 have h':Uab (Zbn PZ a0) 1000 (false,(0:Int))=some (match (jA 36).find? (fun k=> !(fitS a0 0 k&&fitS a0 1 k)) with | some k=>.more (false,(k:Int)) | none=>.done (false,((36:Nat):Int))):=h
 have hf:=Yg1 36 (fun k=>fitS a0 0 k&&fitS a0 1 k)
 unfold okS okD
 by_cases d1:1≤num a0 0
 ·rw [Q3 d1,Q4 (show ¬ num a0 0<1 by omega)]
  by_cases d2:num a0 0≤6
  ·rw [Q3 d2,Q4 (show ¬ num a0 0 > 6 by omega)]
   by_cases d3:1≤num a0 1
   ·rw [Q3 d3,Q4 (show ¬ num a0 1<1 by omega)]
    by_cases d4:num a0 1≤6
    ·rw [Q3 d4,Q4 (show ¬ num a0 1 > 6 by omega),Q3 (show 0≤num a0 0 by omega),Q3 (show 0≤num a0 1 by omega)]
     simp only [jB,Q1,Q2,Bool.true_and,h']
     rw [show IntKind.u64.wrap (BitVec.ofInt IntKind.u64.bits (num a0 2) &&& ~~~(BitVec.ofInt IntKind.u64.bits (Ua0 (num a0 0) (num a0 1) 36))).toNat=Ua8 (num a0 2) (Ua0 (num a0 0) (num a0 1) 36) from rfl]
     cases hb:(Ua8 (num a0 2) (Ua0 (num a0 0) (num a0 1) 36)==0) with
     | false=>rw [show (Ua8 (num a0 2) (Ua0 (num a0 0) (num a0 1) 36) != 0)=true by simp [bne,hb]];rfl
     | true=>
      rw [show (Ua8 (num a0 2) (Ua0 (num a0 0) (num a0 1) 36) != 0)=false by simp [bne,hb],← hf]
      cases (jA 36).find? (fun k=> !(fitS a0 0 k&&fitS a0 1 k))<;>rfl
    ·rw [Q4 d4,Q3 (show num a0 1 > 6 by omega)];rfl
   ·rw [Q4 d3,Q3 (show num a0 1<1 by omega)];rfl
  ·rw [Q4 d2,Q3 (show num a0 0 > 6 by omega)];rfl
 ·rw [Q4 d1,Q3 (show num a0 0<1 by omega)];rfl
def Zhr:Con:=fun args h=>match args,h with
 | [.g a0 37],[]=>some (.a (.b ((okS a0))),.none,true)
 | _,_=>none
theorem Zea:EntX PZ 80:=Zah (fn:=Tryz.f80) (by kernel_rfl) (by kernel_rfl) (by kernel_rfl)
theorem Zgi:Uac mn PZ 80 Zhr:=(Zai (N:=1000) (by kernel_rfl) (mkΓ_consX (Zae Ya0) Zur (mkΓ_consX (Zae Zut) Zqx mkΓ_nilX)) (fn:=Tryz.f80) (by kernel_rfl) (by kernel_rfl) [([2,28],[])]).of (by
 intro ρ h w args vals r e hA hH hr
 unfold Zhr at hr
 split at hr
 ·rename_i a0
  obtain ⟨rfl,rfl,hg2⟩:=BQi hr
  exact Zxe a0 (hA.wt 0 rfl) hg2
 ·cases hr)
def Zd1:Cons:=(mkΓ [(47,con Zb1),(69,con Zj7),(70,con Zj0),(71,con Ziu)])
def Zf5 (a0:Array Value) (y0_2:Bool) (y0_3:Int):St:=(⟨.a (.w 0) :: .a (.u) :: .a (.b (y0_2)) :: .a (.i .i64 (y0_3)) :: .a (.i .i64 (0:Int)) :: .a (.x) :: .a (.w 0) :: .a (.w 0) :: .a (.p 0 (0) 22) :: .a (.i .i8 (num a0 0)) :: .a (.i .i64 (i64.wrap (num a0 0))) :: .a (.b ((Zaa (i64.wrap (num a0 0)) (1:Int) (6:Int)))) :: .a (.b ((!((Zaa (i64.wrap (num a0 0)) (1:Int) (6:Int)))))) :: .a (.b (false)) :: .a (.w 0) :: .a (.w 0) :: .a (.p 0 (1) 22) :: .a (.i .i8 (num a0 1)) :: .a (.i .i64 (i64.wrap (num a0 1))) :: .a (.b ((Zaa (i64.wrap (num a0 1)) (1:Int) (6:Int)))) :: .a (.b ((!((Zaa (i64.wrap (num a0 1)) (1:Int) (6:Int)))))) :: .a (.b ((!((Zaa (i64.wrap (num a0 1)) (1:Int) (6:Int)))))) :: .a (.b (false)) :: .a (.w 0) :: .a (.w 0) :: .a (.p 0 (2) 23) :: .a (.i .u64 (num a0 2)) :: .a (.w 0) :: .a (.i .u64 (Ua0 (num a0 0) (num a0 1) 36)) :: .a (.i .u64 (IntKind.u64.wrap (BitVec.ofInt IntKind.u64.bits (num a0 2) &&& ~~~(BitVec.ofInt IntKind.u64.bits (Ua0 (num a0 0) (num a0 1) 36))).toNat)) :: .a (.b (((IntKind.u64.wrap (BitVec.ofInt IntKind.u64.bits (num a0 2) &&& ~~~(BitVec.ofInt IntKind.u64.bits (Ua0 (num a0 0) (num a0 1) 36))).toNat) != (0:Int)))) :: .a (.b (((IntKind.u64.wrap (BitVec.ofInt IntKind.u64.bits (num a0 2) &&& ~~~(BitVec.ofInt IntKind.u64.bits (Ua0 (num a0 0) (num a0 1) 36))).toNat) != (0:Int)))) :: .a (.i .i64 (y0_3)) :: .a (.b (decide (y0_3<(2:Int))))::xs 33 ([]),[.row a0 37,.no,.no,.no,.no,.no,.no,.no,.no,.no,.no,.no,.no,.no,.no,.no,.no,.no,.no,.no,.no,.no,.no,.no,.no,.no,.no],[]⟩:St)
def Zey:Bool×Int→LS
 | (y1_2,y1_4)=>([.a (.b (y1_2)),.a (.i .i64 (y1_4))],[])
def Zjo:(Stp (Bool×Int) (Bool×Int))→Exit×LS
 | .more t=>(.ret,Zey t)
 | .done t=>((.exit 2),Zey t)
def Zcg (P : Program) (a0 : Array Value) (y0_2 : Bool) (y0_3 : Int) : Bool × Int → Option (Stp (Bool × Int) (Stp (Bool × Int) (Bool × Int)))
  | (y1_2, y1_4) => bif decide (y1_4 < (36 : Int)) then (bif (decide (0 ≤ y0_3) && decide (y0_3 < 2)) then (bif (decide (0 ≤ y1_4) && decide (y1_4 < 36)) then (bif (Zbh y1_4 a0) then (bif (Zaj y1_4 a0) then (bif (!((sumW (a0.extract ((3 + ((y0_3).toNat * 180)) + ((y1_4).toNat * 5)) (((3 + ((y0_3).toNat * 180)) + ((y1_4).toNat * 5)) + 5)) 5 == (12 : Int)))) then (some (.done (.more (false, y1_4))))
              else (bif (Zbh y1_4 a0) then (bif (!((Zaj y1_4 a0))) then (bif (!(Uav (a0.extract ((3 + ((y0_3).toNat * 180)) + ((y1_4).toNat * 5)) (((3 + ((y0_3).toNat * 180)) + ((y1_4).toNat * 5)) + 5)) (#[.int .u8 (0 : Int), .int .u8 (0 : Int), .int .u8 (0 : Int), .int .u8 (0 : Int), .int .u8 (0 : Int)] : Array Value))) then (some (.done (.more (false, y1_4))))
                    else (some (.more (y1_2, (i64.wrap (y1_4 + (1 : Int)))))))
                  else (some (.more (y1_2, (i64.wrap (y1_4 + (1 : Int)))))))
                else (none)))
            else (bif (Zbh y1_4 a0) then (bif (!((Zaj y1_4 a0))) then (bif (!(Uav (a0.extract ((3 + ((y0_3).toNat * 180)) + ((y1_4).toNat * 5)) (((3 + ((y0_3).toNat * 180)) + ((y1_4).toNat * 5)) + 5)) (#[.int .u8 (0 : Int), .int .u8 (0 : Int), .int .u8 (0 : Int), .int .u8 (0 : Int), .int .u8 (0 : Int)] : Array Value))) then (some (.done (.more (false, y1_4))))
                  else (some (.more (y1_2, (i64.wrap (y1_4 + (1 : Int)))))))
                else (some (.more (y1_2, (i64.wrap (y1_4 + (1 : Int)))))))
              else (none)))
          else (none))
        else (none))
      else (none))
    else (some (.done (.done (y1_2, y1_4))))
def Uct:=(Uaa (codeOf Tryz.f51) [([2,3],[]),([2,4],[])]).1
theorem Zo0 (N:Nat) (a0:Array Value) (y0_2:Bool) (y0_3:Int):∀ t:Bool×Int,Uag PZ Zd1 N (cAt (codeOf Tryz.f51) [1,1,0,1,0,0,1,0,0,1,0,0]) (pAt Uct [1,1,0,1,0,1,0,1,0]) [2,4] [] (Zf5 a0 y0_2 y0_3) (Zey t)=mapS Zey Zjo (Zcg PZ a0 y0_2 y0_3 t):=by
  rintro ⟨y1_2,y1_4⟩
  refine Eq.trans (b:=(bif decide (y1_4<(36:Int)) then (bif (decide (0≤y0_3)&&decide (y0_3<2)) then (bif (decide (0≤y1_4)&&decide (y1_4<36)) then (bif (Zbh y1_4 a0) then (bif (Zaj y1_4 a0) then (bif (!((sumW (a0.extract ((3+((y0_3).toNat*180))+((y1_4).toNat*5)) (((3+((y0_3).toNat*180))+((y1_4).toNat*5))+5)) 5==(12:Int)))) then (some (.done (.ret,([.a (.b (false)),.a (.i .i64 (y1_4))],[]))))
              else (bif (Zbh y1_4 a0) then (bif (!((Zaj y1_4 a0))) then (bif (!(Uav (a0.extract ((3+((y0_3).toNat*180))+((y1_4).toNat*5)) (((3+((y0_3).toNat*180))+((y1_4).toNat*5))+5)) (#[.int .u8 (0:Int),.int .u8 (0:Int),.int .u8 (0:Int),.int .u8 (0:Int),.int .u8 (0:Int)]:Array Value))) then (some (.done (.ret,([.a (.b (false)),.a (.i .i64 (y1_4))],[]))))
                    else (some (.more ([.a (.b (y1_2)),.a (.i .i64 (i64.wrap (y1_4+(1:Int))))],[]))))
                  else (some (.more ([.a (.b (y1_2)),.a (.i .i64 (i64.wrap (y1_4+(1:Int))))],[]))))
                else (none)))
            else (bif (Zbh y1_4 a0) then (bif (!((Zaj y1_4 a0))) then (bif (!(Uav (a0.extract ((3+((y0_3).toNat*180))+((y1_4).toNat*5)) (((3+((y0_3).toNat*180))+((y1_4).toNat*5))+5)) (#[.int .u8 (0:Int),.int .u8 (0:Int),.int .u8 (0:Int),.int .u8 (0:Int),.int .u8 (0:Int)]:Array Value))) then (some (.done (.ret,([.a (.b (false)),.a (.i .i64 (y1_4))],[]))))
                  else (some (.more ([.a (.b (y1_2)),.a (.i .i64 (i64.wrap (y1_4+(1:Int))))],[]))))
                else (some (.more ([.a (.b (y1_2)),.a (.i .i64 (i64.wrap (y1_4+(1:Int))))],[]))))
              else (none)))
          else (none))
        else (none))
      else (none))
    else (some (.done ((.exit 2),([.a (.b (y1_2)),.a (.i .i64 (y1_4))],[])))))) (by kernel_rfl) ?_
  simp only [Zcg,Zas,Zat,Zar,Zaq,Zey,Zjo]
def Zfy (a0:Array Value):St:=(⟨.a (.w 0) :: .a (.u) :: .a (.b (false)) :: .a (.i .i64 (0:Int)) :: .a (.u) :: .a (.u) :: .a (.w 0) :: .a (.w 0) :: .a (.p 0 (0) 22) :: .a (.i .i8 (num a0 0)) :: .a (.i .i64 (i64.wrap (num a0 0))) :: .a (.b ((Zaa (i64.wrap (num a0 0)) (1:Int) (6:Int)))) :: .a (.b ((!((Zaa (i64.wrap (num a0 0)) (1:Int) (6:Int)))))) :: .a (.b (false)) :: .a (.w 0) :: .a (.w 0) :: .a (.p 0 (1) 22) :: .a (.i .i8 (num a0 1)) :: .a (.i .i64 (i64.wrap (num a0 1))) :: .a (.b ((Zaa (i64.wrap (num a0 1)) (1:Int) (6:Int)))) :: .a (.b ((!((Zaa (i64.wrap (num a0 1)) (1:Int) (6:Int)))))) :: .a (.b ((!((Zaa (i64.wrap (num a0 1)) (1:Int) (6:Int)))))) :: .a (.b (false)) :: .a (.w 0) :: .a (.w 0) :: .a (.p 0 (2) 23) :: .a (.i .u64 (num a0 2)) :: .a (.w 0) :: .a (.i .u64 (Ua0 (num a0 0) (num a0 1) 36)) :: .a (.i .u64 (IntKind.u64.wrap (BitVec.ofInt IntKind.u64.bits (num a0 2) &&& ~~~(BitVec.ofInt IntKind.u64.bits (Ua0 (num a0 0) (num a0 1) 36))).toNat)) :: .a (.b (((IntKind.u64.wrap (BitVec.ofInt IntKind.u64.bits (num a0 2) &&& ~~~(BitVec.ofInt IntKind.u64.bits (Ua0 (num a0 0) (num a0 1) 36))).toNat) != (0:Int)))) :: .a (.b (((IntKind.u64.wrap (BitVec.ofInt IntKind.u64.bits (num a0 2) &&& ~~~(BitVec.ofInt IntKind.u64.bits (Ua0 (num a0 0) (num a0 1) 36))).toNat) != (0:Int))))::us 35 ([]),[.row a0 37,.no,.no,.no,.no,.no,.no,.no,.no,.no,.no,.no,.no,.no,.no,.no,.no,.no,.no,.no,.no,.no,.no,.no,.no,.no,.no],[]⟩:St)
def Zb4:Bool×Int→LS
 | (y0_2,y0_3)=>([.a (.b (y0_2)),.a (.i .i64 (y0_3))],[])
def Zdx:(Stp (Bool×Int) (Bool×Int))→Exit×LS
 | .more t=>(.ret,Zb4 t)
 | .done t=>((.exit 0),Zb4 t)
def Zhc (P:Program) (N:Nat) (a0:Array Value) (y0_2:Bool) (y0_3:Int) (z1_2:Bool) (z1_4:Int):Option (Stp (Bool×Int) (Stp (Bool×Int) (Bool×Int))):=some (.done (.more (z1_2,y0_3)))
def Ufl (N:Nat):=(Uad 2 (Uad 1 (kSeq (veC PZ Zd1 N (cAt (codeOf Tryz.f51) [1,1,0,1,0,0,1,1]) (pAt Uct [1,1,0,1,0,1,1]) (Stp LS (Exit×LS))) (Uee 27 [2,3] []))))
theorem Zw6 (N:Nat) (a0:Array Value) (y0_2:Bool) (y0_3:Int) (z1_2:Bool) (z1_4:Int):(Ufl N) .ret (left (writes (cAt (codeOf Tryz.f51) [1,1,0,1,0,0,1,0,0,1,0,0])) [2,4] [] (Zf5 a0 y0_2 y0_3) ([.a (.b (z1_2)),.a (.i .i64 (z1_4))],[]))=mapS Zb4 Zdx (Zhc PZ N a0 y0_2 y0_3 z1_2 z1_4):=by
 refine Eq.trans (b:=(some (.done (.ret,([.a (.b (z1_2)),.a (.i .i64 (y0_3))],[]))))) (by kernel_rfl) ?_
 simp only [Zhc,Zas,Zat,Zar,Zaq,Zb4,Zdx]
def Zhb (P:Program) (N:Nat) (a0:Array Value) (y0_2:Bool) (y0_3:Int) (z1_2:Bool) (z1_4:Int):Option (Stp (Bool×Int) (Stp (Bool×Int) (Bool×Int))):=some (.more (z1_2,(i64.wrap (y0_3+(1:Int)))))
theorem Zw0 (N:Nat) (a0:Array Value) (y0_2:Bool) (y0_3:Int) (z1_2:Bool) (z1_4:Int):(Ufl N) (.exit 2) (left (writes (cAt (codeOf Tryz.f51) [1,1,0,1,0,0,1,0,0,1,0,0])) [2,4] [] (Zf5 a0 y0_2 y0_3) ([.a (.b (z1_2)),.a (.i .i64 (z1_4))],[]))=mapS Zb4 Zdx (Zhb PZ N a0 y0_2 y0_3 z1_2 z1_4):=by
 refine Eq.trans (b:=(some (.more ([.a (.b (z1_2)),.a (.i .i64 (i64.wrap (y0_3+(1:Int))))],[])))) (by kernel_rfl) ?_
 simp only [Zhb,Zas,Zat,Zar,Zaq,Zb4,Zdx]
theorem Yhv (N:Nat) (a0:Array Value) (y0_2:Bool) (y0_3:Int):Uah (Uab (Uag PZ Zd1 N (cAt (codeOf Tryz.f51) [1,1,0,1,0,0,1,0,0,1,0,0]) (pAt Uct [1,1,0,1,0,1,0,1,0]) [2,4] [] (Zf5 a0 y0_2 y0_3)) N ([.a (.b (y0_2)),.a (.i .i64 (0:Int))],[])) (fun e s=>(Ufl N) e (left (writes (cAt (codeOf Tryz.f51) [1,1,0,1,0,0,1,0,0,1,0,0])) [2,4] [] (Zf5 a0 y0_2 y0_3) s))=mapS Zb4 Zdx (Uai (Uab (Zcg PZ a0 y0_2 y0_3) N (y0_2,(0:Int))) (st2 (fun x=>Zhc PZ N a0 y0_2 y0_3 x.1 x.2) (fun x=>Zhb PZ N a0 y0_2 y0_3 x.1 x.2))):=by
 rw [Ygd Zb4 Zdx]
 first
 | (have h:=Zav (α:=Stp LS (Exit×LS)) Zey Zjo _ _ (Zo0 N a0 y0_2 y0_3) N (y0_2,(0:Int));refine h _ _ ?_)
 | (have h:=Zav (α:=Stp BS (Exit×BS)) Zey Zjo _ _ (Zo0 N a0 y0_2 y0_3) N (y0_2,(0:Int));refine h _ _ ?_)
 | (have h:=Zav (α:=Stp LS ((Exit×LS) ⊕ (SV×Eff×Bool))) Zey Zjo _ _ (Zo0 N a0 y0_2 y0_3) N (y0_2,(0:Int));refine h _ _ ?_)
 intro x
 cases x with
 | more x=>exact Zw6 N a0 y0_2 y0_3 x.1 x.2
 | done x=>exact Zw0 N a0 y0_2 y0_3 x.1 x.2
def Zdv (P:Program) (N:Nat) (a0:Array Value):Bool×Int→Option (Stp (Bool×Int) (Stp (Bool×Int) (Bool×Int)))
 | (y0_2,y0_3)=>bif decide (y0_3<(2:Int)) then (Uai (Uab (Zcg P a0 y0_2 y0_3) N (y0_2,(0:Int))) (st2 (fun x=>Zhc P N a0 y0_2 y0_3 x.1 x.2) (fun x=>Zhb P N a0 y0_2 y0_3 x.1 x.2)))
  else (some (.done (.done (y0_2,y0_3))))
theorem Yho (N:Nat) (a0:Array Value):∀ t:Bool×Int,Uag PZ Zd1 N (cAt (codeOf Tryz.f51) [1,1,0,1,0,0]) (pAt Uct [1,1,0,1,0]) [2,3] [] (Zfy a0) (Zb4 t)=mapS Zb4 Zdx (Zdv PZ N a0 t):=by
 rintro ⟨y0_2,y0_3⟩
 refine Eq.trans (b:=(bif decide (y0_3<(2:Int)) then (Uah (Uab (Uag PZ Zd1 N (cAt (codeOf Tryz.f51) [1,1,0,1,0,0,1,0,0,1,0,0]) (pAt Uct [1,1,0,1,0,1,0,1,0]) [2,4] [] (Zf5 a0 y0_2 y0_3)) N ([.a (.b (y0_2)),.a (.i .i64 (0:Int))],[])) (fun e s=>(Ufl N) e (left (writes (cAt (codeOf Tryz.f51) [1,1,0,1,0,0,1,0,0,1,0,0])) [2,4] [] (Zf5 a0 y0_2 y0_3) s)))
  else (some (.done ((.exit 0),([.a (.b (y0_2)),.a (.i .i64 (y0_3))],[])))))) (by kernel_rfl) ?_
 simp only [Yhv N a0 y0_2 y0_3,Zdv,Zas,Zat,Zar,Zaq,Zb4,Zdx]
def Zmi (P:Program) (N:Nat) (a0:Array Value) (z0_2:Bool) (z0_3:Int):Option (SV×Eff×Bool):=some (.a (.b (z0_2)),.none,true)
def Ufk (N:Nat) (a0:Array Value):=(Uad 0 (kSeq (veC PZ Zd1 N (cAt (codeOf Tryz.f51) [1,1,1]) (pAt Uct [1,1,1]) (SV×Eff×Bool)) (finK PZ [.row a0 37] [.tmp 2])))
theorem Zvc (N:Nat) (a0:Array Value) (z0_2:Bool) (z0_3:Int):(Ufk N a0) .ret (left (writes (cAt (codeOf Tryz.f51) [1,1,0,1,0,0])) [2,3] [] (Zfy a0) ([.a (.b (z0_2)),.a (.i .i64 (z0_3))],[]))=Zmi PZ N a0 z0_2 z0_3:=by
 refine Eq.trans (b:=(some (.a (.b (z0_2)),.none,true))) (by kernel_rfl) ?_
 rfl
def Zmt (P:Program) (N:Nat) (a0:Array Value) (z0_2:Bool) (z0_3:Int):Option (SV×Eff×Bool):=some (.a (.b (true)),.none,true)
theorem Zve (N:Nat) (a0:Array Value) (z0_2:Bool) (z0_3:Int):(Ufk N a0) (.exit 0) (left (writes (cAt (codeOf Tryz.f51) [1,1,0,1,0,0])) [2,3] [] (Zfy a0) ([.a (.b (z0_2)),.a (.i .i64 (z0_3))],[]))=Zmt PZ N a0 z0_2 z0_3:=by
 refine Eq.trans (b:=(some (.a (.b (true)),.none,true))) (by kernel_rfl) ?_
 rfl
theorem Ygz (N:Nat) (a0:Array Value):Uah (Uab (Uag PZ Zd1 N (cAt (codeOf Tryz.f51) [1,1,0,1,0,0]) (pAt Uct [1,1,0,1,0]) [2,3] [] (Zfy a0)) N ([.a (.b (false)),.a (.i .i64 (0:Int))],[])) (fun e s=>(Ufk N a0) e (left (writes (cAt (codeOf Tryz.f51) [1,1,0,1,0,0])) [2,3] [] (Zfy a0) s))=Uai (Uab (Zdv PZ N a0) N (false,(0:Int))) (st2 (fun x=>Zmi PZ N a0 x.1 x.2) (fun x=>Zmt PZ N a0 x.1 x.2)):=by
 refine Zav Zb4 Zdx _ _ (Yho N a0) N (false,(0:Int)) _ _ ?_
 intro x
 cases x with
 | more x=>exact Zvc N a0 x.1 x.2
 | done x=>exact Zve N a0 x.1 x.2
theorem Yfd (N:Nat) (a0:Array Value):ansV PZ Zd1 N Tryz.f51 [([2,3],[]),([2,4],[])] [.w 0] [.row a0 37]=(bif (!((Zaa (i64.wrap (num a0 0)) (1:Int) (6:Int)))) then (some (.a (.b (false)),.none,true))
  else (bif (!((Zaa (i64.wrap (num a0 1)) (1:Int) (6:Int)))) then (some (.a (.b (false)),.none,true))
   else (bif ((IntKind.u64.wrap (BitVec.ofInt IntKind.u64.bits (num a0 2) &&& ~~~(BitVec.ofInt IntKind.u64.bits (Ua0 (num a0 0) (num a0 1) 36))).toNat) != (0:Int)) then (some (.a (.b (false)),.none,true))
    else (Uai (Uab (Zdv PZ N a0) N (false,(0:Int))) (st2 (fun x=>Zmi PZ N a0 x.1 x.2) (fun x=>Zmt PZ N a0 x.1 x.2)))))):=by
 refine Eq.trans (b:=(bif (!((Zaa (i64.wrap (num a0 0)) (1:Int) (6:Int)))) then (some (.a (.b (false)),.none,true))
  else (bif (!((Zaa (i64.wrap (num a0 1)) (1:Int) (6:Int)))) then (some (.a (.b (false)),.none,true))
   else (bif ((IntKind.u64.wrap (BitVec.ofInt IntKind.u64.bits (num a0 2) &&& ~~~(BitVec.ofInt IntKind.u64.bits (Ua0 (num a0 0) (num a0 1) 36))).toNat) != (0:Int)) then (some (.a (.b (false)),.none,true))
    else (Uah (Uab (Uag PZ Zd1 N (cAt (codeOf Tryz.f51) [1,1,0,1,0,0]) (pAt Uct [1,1,0,1,0]) [2,3] [] (Zfy a0)) N ([.a (.b (false)),.a (.i .i64 (0:Int))],[])) (fun e s=>(Ufk N a0) e (left (writes (cAt (codeOf Tryz.f51) [1,1,0,1,0,0])) [2,3] [] (Zfy a0) s))))))) (by kernel_rfl) ?_
 simp only [Ygz N a0]
theorem Ylf {S:Array Value} (h:WT PZ 37 S) {t:Nat} (ht:t<2) (b:Bool):Uab (Zcg PZ S b (t:Int)) 1000 (b,(0:Int))=some (match (jA 36).find? (fun k=> !(fitS S t k)) with | some k=>.more (false,(k:Int)) | none=>.done (b,((36:Nat):Int))):=by
 have htt:decide (0≤(t:Int))=true:=Q3 (by omega)
 have ht2:decide ((t:Int)<2)=true:=Q3 (by omega)
 exact Zm6 (g:=Zcg PZ S b (t:Int)) (fun k=>(b,(k:Int))) (fun k=> !(fitS S t k)) 36 (N:=1000) (by omega) (xd:=.done (b,((36:Nat):Int))) (fun k=>.more (false,(k:Int))) (fun k hk hp=>by
  have h1:decide ((k:Int)<36)=true:=Q3 (by omega)
  have h0:decide (0≤(k:Int))=true:=Q3 (by omega)
  have h3:i64.wrap ((k:Int)+1)=((k+1:Nat):Int):=by rw [IntWalk.i64_in _ (by omega)];omega
  obtain ⟨w1,w2⟩:=Yd0 h hk
  rw [Bool.not_eq_false'] at hp
  unfold fitS chR at hp
  rw [← w2] at hp
  cases hw:Zaj (k:Int) S with
  | false=>
   rw [hw] at hp
   simp only [Q2] at hp
   simp only [Zcg,h1,h0,h3,htt,ht2,w1,hw,jB,jD,Q1,Q2,Q9,hp,Bool.not_true]
  | true=>
   rw [hw] at hp
   simp only [Q1] at hp
   simp only [Zcg,h1,h0,h3,htt,ht2,w1,hw,jB,Bool.not_true,Q1,Q2,Q9,hp]) (fun k hk hp=>by
  have h1:decide ((k:Int)<36)=true:=Q3 (by omega)
  have h0:decide (0≤(k:Int))=true:=Q3 (by omega)
  obtain ⟨w1,w2⟩:=Yd0 h hk
  rw [Bool.not_eq_true'] at hp
  unfold fitS chR at hp
  rw [← w2] at hp
  cases hw:Zaj (k:Int) S with
  | false=>
   rw [hw] at hp
   simp only [Q2] at hp
   simp only [Zcg,h1,h0,htt,ht2,w1,hw,jB,jD,Q1,Q2,Q9,hp]
  | true=>
   rw [hw] at hp
   simp only [Q1] at hp
   simp only [Zcg,h1,h0,htt,ht2,w1,hw,jB,Bool.not_true,jD,Q1,Q2,Q9,hp]) (by
  have h1:decide (((36:Nat):Int)<36)=false:=by decide
  simp only [Zcg,h1,Q2])
theorem Yc8 (a0:Array Value) (h_a0:WT PZ 37 a0) (hg:(true)=true):ansV PZ Zd1 1000 Tryz.f51 [([2,3],[]),([2,4],[])] [.w 0] [.row a0 37]=some (.a (.b ((okS a0))),.none,true):=by
 refine (Yfd 1000 a0).trans ?_
 obtain ⟨s0,b0,b1⟩:=h_a0.int (o:=0) (k:=.i8) (by kernel_rfl)
 obtain ⟨s1,b2,b3⟩:=h_a0.int (o:=1) (k:=.i8) (by kernel_rfl)
 have e1:IntKind.i8.min = -128:=rfl
 have e2:IntKind.i8.max=127:=rfl
 have h:=Zm6 (g:=Zdv PZ 1000 a0) (fun t=>(false,(t:Int))) (fun t=>((jA 36).find? (fun k=> !(fitS a0 t k))).isSome) 2 (N:=1000) (by omega) (xd:=.done (false,((2:Nat):Int))) (fun t=>.more (false,(t:Int))) (fun t ht hp=>by
  have h1:decide ((t:Int)<2)=true:=Q3 (by omega)
  have h3:i64.wrap ((t:Int)+1)=((t+1:Nat):Int):=by rw [IntWalk.i64_in _ (by omega)];omega
  have hn:(jA 36).find? (fun k=> !(fitS a0 t k))=none:=by simpa using hp
  have hi:=Ylf h_a0 ht false
  rw [hn] at hi
  simp only [Zdv,h1,Q1,hi,Uai,st2,Zhb,h3]) (fun t ht hp=>by
  have h1:decide ((t:Int)<2)=true:=Q3 (by omega)
  obtain ⟨k,hn⟩:=Option.isSome_iff_exists.1 hp
  have hi:=Ylf h_a0 ht false
  rw [hn] at hi
  simp only [Zdv,h1,Q1,hi,Uai,st2,Zhc]) (by
  have h1:decide (((2:Nat):Int)<2)=false:=by decide
  simp only [Zdv,h1,Q2])
 have h':Uab (Zdv PZ 1000 a0) 1000 (false,(0:Int))=some (match (jA 2).find? (fun t=>((jA 36).find? (fun k=> !(fitS a0 t k))).isSome) with | some t=>.more (false,(t:Int)) | none=>.done (false,((2:Nat):Int))):=h
 have i0:Zaa (i64.wrap (num a0 0)) 1 6=(decide (1≤num a0 0)&&decide (num a0 0≤6)):=by
  rw [IntWalk.i64_in _ (by omega)];unfold Zaa
  cases h1:decide (num a0 0 ≥ 1)<;>simp_all
 have i1:Zaa (i64.wrap (num a0 1)) 1 6=(decide (1≤num a0 1)&&decide (num a0 1≤6)):=by
  rw [IntWalk.i64_in _ (by omega)];unfold Zaa
  cases h1:decide (num a0 1 ≥ 1)<;>simp_all
 unfold okS okD
 rw [i0,i1,h',all_two,← Yg1,← Yg1,show IntKind.u64.wrap (BitVec.ofInt IntKind.u64.bits (num a0 2) &&& ~~~(BitVec.ofInt IntKind.u64.bits (Ua0 (num a0 0) (num a0 1) 36))).toNat=Ua8 (num a0 2) (Ua0 (num a0 0) (num a0 1) 36) from rfl,show (jA 2)=[0,1] from rfl]
 cases decide (1≤num a0 0)&&decide (num a0 0≤6)
 ·rfl
 cases decide (1≤num a0 1)&&decide (num a0 1≤6)
 ·rfl
 cases hb:(Ua8 (num a0 2) (Ua0 (num a0 0) (num a0 1) 36)==0) with
 | false=>rw [show (Ua8 (num a0 2) (Ua0 (num a0 0) (num a0 1) 36) != 0)=true by simp [bne,hb]];rfl
 | true=>
  rw [show (Ua8 (num a0 2) (Ua0 (num a0 0) (num a0 1) 36) != 0)=false by simp [bne,hb]]
  simp only [List.find?]
  generalize (jA 36).find? (fun k=> !(fitS a0 0 k))=f0
  generalize (jA 36).find? (fun k=> !(fitS a0 1 k))=f1
  cases f0<;>cases f1<;>rfl
def Zkt:Con:=fun args h=>match args,h with
 | [.w 0],[.row a0 37]=>some (.a (.b ((okS a0))),.none,true)
 | _,_=>none
theorem Zpm:EntX PZ 51:=Zah (fn:=Tryz.f51) (by kernel_rfl) (by kernel_rfl) (by kernel_rfl)
theorem Zwi:Uac mn PZ 51 Zkt:=(Zai (N:=1000) (by kernel_rfl) (mkΓ_consX (Zae Zi5) Zga (mkΓ_consX (Zae Yau) Zup (mkΓ_consX (Zae Ztd) Zn8 (mkΓ_consX (Zae Zu6) Zq3 mkΓ_nilX)))) (fn:=Tryz.f51) (by kernel_rfl) (by kernel_rfl) [([2,3],[]),([2,4],[])]).of (by
 intro ρ h w args vals r e hA hH hr
 unfold Zkt at hr
 split at hr
 ·rename_i a0
  obtain ⟨rfl,rfl,hg2⟩:=BQi hr
  exact Yc8 a0 (hH.wt 0 rfl) hg2
 ·cases hr)
theorem Zsb {S:Array Value} (h:okS S=true):1≤num S 0∧num S 0≤6∧1≤num S 1∧num S 1≤6:=by
 unfold okS okD at h
 simp only [Q7,decide_eq_true_eq] at h
 exact ⟨h.1.1.1,h.1.1.2,h.1.2.1,h.1.2.2⟩
theorem Yma {S:Array Value} (h:okS S=true):(decide (0≤num S 0)&&decide (num S 0≤6)&&(decide (0≤num S 1)&&decide (num S 1≤6)))=true:=by
 obtain ⟨h1,h2,h3,h4⟩:=Zsb h
 rw [Q3 (show 0≤num S 0 by omega),Q3 h2,Q3 (show 0≤num S 1 by omega),Q3 h4];rfl
theorem okS_fit {S:Array Value} (h:okS S=true) {t k:Nat} (ht:t<2) (hk:k<36):fitS S t k=true:=by
 unfold okS at h
 simp only [Q7] at h
 have:=jC.1 h.2.2 k (List.mem_range.2 hk)
 rw [Q7] at this
 match t,ht with
 | 0,_=>exact this.1
 | 1,_=>exact this.2
theorem okS_land {S:Array Value} (h:okS S=true) {k:Nat} (hk:k<64) (hb:bitI (num S 2) k=true):k<36∧inC (num S 0) (num S 1) k=true:=by
 unfold okS at h
 simp only [Q7] at h
 have:=Yj7.1 h.2.1 k hk hb
 rw [Ylz _ _ 36 (Nat.le_refl _)] at this
 simpa using this
theorem Yic {S:Array Value} (h:WT PZ 37 S):S.size=363:=by rw [h.layLen,Yj3];simp
theorem num_sub {S:Array Value} {o n j:Nat} (hj:j<n):num (S.extract o (o+n)) j=num S (o+j):=by
 unfold num
 rw [Array.getElem?_extract]
 by_cases h:o+j<S.size
 ·rw [if_pos (by omega)]
 ·rw [if_neg (by omega),Array.getElem?_eq_none (by omega)]
theorem sea_u8 {S:Array Value} (h:WT PZ 37 S) {i:Nat} (hi:i<360):S[3+i]? = some (.int .u8 (num S (3+i)))∧0≤num S (3+i)∧num S (3+i)≤255:=h.int (k:=.u8) (by rw [Yj3,show 3+i=i+3 by omega];show (List.replicate 360 4)[i]? = some 4;rw [List.getElem?_replicate,if_pos hi])
end
end Go.Proofs.YtdfefaanfiheoaaGreatDoor
