/- What a valid sea is, in company. -/
import Derived.Test.YtdhckffhnkeogaaDoorProg
import Derived.Test.YtdhckffhnkeogaaDoorCxB
set_option linter.unusedVariables false
set_option linter.unusedSimpArgs false
open _root_.List renaming range→jA
open _root_.Bool renaming and_self→jB,not_false→jC
namespace Go.Proofs.YtdhckffhnkeogaaDoor
open Tryd (f31 f45 f55 f67 f85)
open Go.ChangeShapes Go.WideShapes Go.ChangeAt Go.RowKit Ve Vc
open Tryd (prog)
open IntKind (i64)
set_option maxRecDepth 100000
noncomputable section
variable {mn:Md}
def sumW (a:Array Value):Nat→Int
 | 0=>0
 | k+1=>i64.wrap (sumW a k+i64.wrap (num a (k*1)))
theorem tide_eq (t:Int):Zdd t=Zab t 0 1:=by
 unfold Zdd Zab
 by_cases h0:t=0
 ·subst h0;rfl
 ·by_cases h1:t=1
  ·subst h1;rfl
  ·rw [show (t==0)=false from beq_eq_false_iff_ne.2 h0,show (t==1)=false from beq_eq_false_iff_ne.2 h1]
   by_cases h2:t ≥ 0
   ·rw [Q3 h2,Q4 (show ¬ t≤1 by omega)];rfl
   ·rw [Q4 h2];rfl
def Zcv (a0:Array Value):St:=(⟨.a (.g a0 38) :: .a (.w 0) :: .a (.b (false)) :: .a (.i .i64 (0:Int)) :: .a (.u) :: .a (.u) :: .a (.g a0 38) :: .a (.i .i64 (0:Int))::us 9 ([]),[.row a0 38,.no],[]⟩:St)
def Zdo:Int×Int→LS
 | (y0_3,y0_7)=>([.a (.i .i64 (y0_3)),.a (.i .i64 (y0_7))],[])
def Zgc:Int×Int→Exit×LS
 | t=>((.exit 0),Zdo t)
def Zbl (P:Program) (a0:Array Value):Int×Int→Option (Stp (Int×Int) (Int×Int))
 | (y0_3,y0_7)=>bif decide (y0_7<(5:Int)) then (bif (decide (0≤y0_7)&&decide (y0_7<5)) then (some (.more ((i64.wrap (y0_3+(i64.wrap (num a0 ((y0_7).toNat*1))))),(i64.wrap (y0_7+(1:Int))))))
   else (none))
  else (some (.done (y0_3,y0_7)))
noncomputable abbrev cKCxC85:=codeOf f85
def Udo:=(Uaf cKCxC85 [([3,7],[])]).1
theorem Zoy (N:Nat) (a0:Array Value):∀ t:Int×Int,Uam prog (mkΓ []) N (cAt cKCxC85 [1,1,0,1,0,0]) (pAt Udo [1,1,0,1,0]) [3,7] [] (Zcv a0) (Zdo t)=mapS Zdo Zgc (Zbl prog a0 t):=by
 rintro ⟨y0_3,y0_7⟩
 refine Eq.trans (b:=(bif decide (y0_7<(5:Int)) then (bif (decide (0≤y0_7)&&decide (y0_7<5)) then (some (.more ([.a (.i .i64 (i64.wrap (y0_3+(i64.wrap (num a0 ((y0_7).toNat*1)))))),.a (.i .i64 (i64.wrap (y0_7+(1:Int))))],[])))
   else (none))
  else (some (.done ((.exit 0),([.a (.i .i64 (y0_3)),.a (.i .i64 (y0_7))],[])))))) (by kernel_rfl) ?_
 simp only [Zbl,Zbp,Zbo,Zbm,Zbn,Zdo,Zgc]
def Zfm (P:Program) (N:Nat) (a0:Array Value) (z0_3:Int) (z0_7:Int):Option (SV×Eff×Bool):=some (.a (.b ((z0_3==(12:Int)))),.none,true)
def Uea (N:Nat):=(Uaz 0 (kSeq (veC prog (mkΓ []) N (cAt cKCxC85 [1,1,1]) (pAt Udo [1,1,1]) (SV×Eff×Bool)) (finK prog [] [.tmp 2])))
theorem Zki (N:Nat) (a0:Array Value) (z0_3:Int) (z0_7:Int):(Uea N) (.exit 0) (left (writes (cAt cKCxC85 [1,1,0,1,0,0])) [3,7] [] (Zcv a0) ([.a (.i .i64 (z0_3)),.a (.i .i64 (z0_7))],[]))=Zfm prog N a0 z0_3 z0_7:=by
 refine Eq.trans (b:=(some (.a (.b ((z0_3==(12:Int)))),.none,true))) (by kernel_rfl) ?_
 rfl
theorem Zoz (N:Nat) (a0:Array Value):Uak (Uaa (Uam prog (mkΓ []) N (cAt cKCxC85 [1,1,0,1,0,0]) (pAt Udo [1,1,0,1,0]) [3,7] [] (Zcv a0)) N ([.a (.i .i64 (0:Int)),.a (.i .i64 (0:Int))],[])) (fun e s=>(Uea N) e (left (writes (cAt cKCxC85 [1,1,0,1,0,0])) [3,7] [] (Zcv a0) s))=Uan (Uaa (Zbl prog a0) N ((0:Int),(0:Int))) (fun x=>Zfm prog N a0 x.1 x.2):=by
 refine Zby Zdo Zgc _ _ (Zoy N a0) N ((0:Int),(0:Int)) _ _ ?_
 intro x;exact Zki N a0 x.1 x.2
theorem Zmz (N:Nat) (a0:Array Value):ansV prog (mkΓ []) N f85 [([3,7],[])] [.g a0 38] []=(Uan (Uaa (Zbl prog a0) N ((0:Int),(0:Int))) (fun x=>Zfm prog N a0 x.1 x.2)):=by
 refine Eq.trans (b:=(Uak (Uaa (Uam prog (mkΓ []) N (cAt cKCxC85 [1,1,0,1,0,0]) (pAt Udo [1,1,0,1,0]) [3,7] [] (Zcv a0)) N ([.a (.i .i64 (0:Int)),.a (.i .i64 (0:Int))],[])) (fun e s=>(Uea N) e (left (writes (cAt cKCxC85 [1,1,0,1,0,0])) [3,7] [] (Zcv a0) s)))) (by kernel_rfl) ?_
 simp only [Zoz N a0]
theorem Zmu (a0:Array Value) (h_a0:WT prog 38 a0) (hg:(true)=true):ansV prog (mkΓ []) 1000 f85 [([3,7],[])] [.g a0 38] []=some (.a (.b ((sumW a0 5==(12:Int)))),.none,true):=by
 have h:=Zeo (g:=Zbl prog a0) (fun k=>(sumW a0 k,(k:Int))) (m:=5) (x:=(sumW a0 5,((5:Nat):Int))) (N:=1000) (fun k hk=>by
  have h1:decide ((k:Int)<5)=true:=Q3 (by omega)
  have h0:decide (0≤(k:Int))=true:=Q3 (by omega)
  have h3:i64.wrap ((k:Int)+1)=((k+1:Nat):Int):=by rw [IntWalk.i64_in _ (by omega)];omega
  have h4:((k:Int)).toNat=k:=Q9 k
  simp only [Zbl,h1,h0,jB,h4,Q1,h3,sumW]) (by
  have h1:decide (((5:Nat):Int)<5)=false:=by decide
  simp only [Zbl,h1,Q2]) (by omega)
 refine (Zmz 1000 a0).trans ?_
 have h':Uaa (Zbl prog a0) 1000 ((0:Int),(0:Int))=some (sumW a0 5,((5:Nat):Int)):=h
 rw [h']
 rfl
def Zfx:Con:=fun args h=>match args,h with
 | [.g a0 38],[]=>some (.a (.b ((sumW a0 5==(12:Int)))),.none,true)
 | _,_=>none
theorem Zlg:EntX prog 85:=Zap (fn:=f85)
theorem Zoo:Uab mn prog 85 Zfx:=(ansY (N:=1000) mkΓ_nilX f85 [([3,7],[])]).of (by
 intro ρ h w args vals r e hA hH hr
 unfold Zfx at hr
 split at hr
 ·rename_i a0
  obtain ⟨rfl,rfl,hg2⟩:=BQi hr
  exact Zmu a0 (hA.wt 0 rfl) hg2
 ·cases hr)
def Zdh (a0:Array Value):St:=(⟨.a (.g a0 38) :: .a (.w 0) :: .a (.b (false)) :: .a (.i .i64 (0:Int)) :: .a (.i .i64 (0:Int))::us 12 ([]),[.row a0 38,.no],[]⟩:St)
def Zec:Int×Int→LS
 | (y0_3,y0_4)=>([.a (.i .i64 (y0_3)),.a (.i .i64 (y0_4))],[])
def Zhf:Int×Int→Exit×LS
 | t=>((.exit 0),Zec t)
def Zca (P:Program) (a0:Array Value):Int×Int→Option (Stp (Int×Int) (Int×Int))
 | (y0_3,y0_4)=>bif decide (y0_4<(5:Int)) then (bif (decide (0≤y0_4)&&decide (y0_4<5)) then (some (.more ((i64.wrap (y0_3+(i64.wrap (num a0 ((y0_4).toNat*1))))),(i64.wrap (y0_4+(1:Int))))))
   else (none))
  else (some (.done (y0_3,y0_4)))
noncomputable abbrev cKCxC55:=codeOf f55
def Uda:=(Uaf cKCxC55 [([3,4],[])]).1
theorem Zql (N:Nat) (a0:Array Value):∀ t:Int×Int,Uam prog (mkΓ []) N (cAt cKCxC55 [1,1,0,1,0,0]) (pAt Uda [1,1,0,1,0]) [3,4] [] (Zdh a0) (Zec t)=mapS Zec Zhf (Zca prog a0 t):=by
 rintro ⟨y0_3,y0_4⟩
 refine Eq.trans (b:=(bif decide (y0_4<(5:Int)) then (bif (decide (0≤y0_4)&&decide (y0_4<5)) then (some (.more ([.a (.i .i64 (i64.wrap (y0_3+(i64.wrap (num a0 ((y0_4).toNat*1)))))),.a (.i .i64 (i64.wrap (y0_4+(1:Int))))],[])))
   else (none))
  else (some (.done ((.exit 0),([.a (.i .i64 (y0_3)),.a (.i .i64 (y0_4))],[])))))) (by kernel_rfl) ?_
 simp only [Zca,Zbp,Zbo,Zbm,Zbn,Zec,Zhf]
def Zgf (P:Program) (N:Nat) (a0:Array Value) (z0_3:Int) (z0_4:Int):Option (SV×Eff×Bool):=some (.a (.b ((z0_3==(12:Int)))),.none,true)
def Uef (N:Nat):=(Uaz 0 (kSeq (veC prog (mkΓ []) N (cAt cKCxC55 [1,1,1]) (pAt Uda [1,1,1]) (SV×Eff×Bool)) (finK prog [] [.tmp 2])))
theorem Zle (N:Nat) (a0:Array Value) (z0_3:Int) (z0_4:Int):(Uef N) (.exit 0) (left (writes (cAt cKCxC55 [1,1,0,1,0,0])) [3,4] [] (Zdh a0) ([.a (.i .i64 (z0_3)),.a (.i .i64 (z0_4))],[]))=Zgf prog N a0 z0_3 z0_4:=by
 refine Eq.trans (b:=(some (.a (.b ((z0_3==(12:Int)))),.none,true))) (by kernel_rfl) ?_
 rfl
theorem Zqj (N:Nat) (a0:Array Value):Uak (Uaa (Uam prog (mkΓ []) N (cAt cKCxC55 [1,1,0,1,0,0]) (pAt Uda [1,1,0,1,0]) [3,4] [] (Zdh a0)) N ([.a (.i .i64 (0:Int)),.a (.i .i64 (0:Int))],[])) (fun e s=>(Uef N) e (left (writes (cAt cKCxC55 [1,1,0,1,0,0])) [3,4] [] (Zdh a0) s))=Uan (Uaa (Zca prog a0) N ((0:Int),(0:Int))) (fun x=>Zgf prog N a0 x.1 x.2):=by
 refine Zby Zec Zhf _ _ (Zql N a0) N ((0:Int),(0:Int)) _ _ ?_
 intro x;exact Zle N a0 x.1 x.2
theorem Zpp (N:Nat) (a0:Array Value):ansV prog (mkΓ []) N f55 [([3,4],[])] [.g a0 38] []=(Uan (Uaa (Zca prog a0) N ((0:Int),(0:Int))) (fun x=>Zgf prog N a0 x.1 x.2)):=by
 refine Eq.trans (b:=(Uak (Uaa (Uam prog (mkΓ []) N (cAt cKCxC55 [1,1,0,1,0,0]) (pAt Uda [1,1,0,1,0]) [3,4] [] (Zdh a0)) N ([.a (.i .i64 (0:Int)),.a (.i .i64 (0:Int))],[])) (fun e s=>(Uef N) e (left (writes (cAt cKCxC55 [1,1,0,1,0,0])) [3,4] [] (Zdh a0) s)))) (by kernel_rfl) ?_
 simp only [Zqj N a0]
theorem Zot (a0:Array Value) (h_a0:WT prog 38 a0) (hg:(true)=true):ansV prog (mkΓ []) 1000 f55 [([3,4],[])] [.g a0 38] []=some (.a (.b ((sumW a0 5==(12:Int)))),.none,true):=by
 have h:=Zeo (g:=Zca prog a0) (fun k=>(sumW a0 k,(k:Int))) (m:=5) (x:=(sumW a0 5,((5:Nat):Int))) (N:=1000) (fun k hk=>by
  have h1:decide ((k:Int)<5)=true:=Q3 (by omega)
  have h0:decide (0≤(k:Int))=true:=Q3 (by omega)
  have h3:i64.wrap ((k:Int)+1)=((k+1:Nat):Int):=by rw [IntWalk.i64_in _ (by omega)];omega
  have h4:((k:Int)).toNat=k:=Q9 k
  simp only [Zca,h1,h0,jB,h4,Q1,h3,sumW]) (by
  have h1:decide (((5:Nat):Int)<5)=false:=by decide
  simp only [Zca,h1,Q2]) (by omega)
 refine (Zpp 1000 a0).trans ?_
 have h':Uaa (Zca prog a0) 1000 ((0:Int),(0:Int))=some (sumW a0 5,((5:Nat):Int)):=h
 rw [h']
 rfl
def Zg1:Con:=fun args h=>match args,h with
 | [.g a0 38],[]=>some (.a (.b ((sumW a0 5==(12:Int)))),.none,true)
 | _,_=>none
theorem Zn5:EntX prog 55:=Zap (fn:=f55)
theorem Zpz:Uab mn prog 55 Zg1:=(ansY (N:=1000) mkΓ_nilX f55 [([3,4],[])]).of (by
 intro ρ h w args vals r e hA hH hr
 unfold Zg1 at hr
 split at hr
 ·rename_i a0
  obtain ⟨rfl,rfl,hg2⟩:=BQi hr
  exact Zot a0 (hA.wt 0 rfl) hg2
 ·cases hr)
def Zkn:Cons:=(mkΓ [(77,con Zgv),(78,con Zgr),(85,con Zfx)])
theorem Zpc (N:Nat) (a0:Array Value) (a1:Int) (a2:Array Value):ansV prog Zkn N f67 [] [.g a0 42,.i .i64 (a1),.g a2 38] []=(bif (Zal a0 a1) then (bif decide (0≤a1) then (bif (Zbt a0 a1) then (some (.a (.b ((sumW a2 5==(12:Int)))),.none,true))
    else (some (.a (.b ((Uas a2 (#[.int .u8 (0:Int),.int .u8 (0:Int),.int .u8 (0:Int),.int .u8 (0:Int),.int .u8 (0:Int)]:Array Value)))),.none,true)))
   else (none))
  else (some (.a (.b ((Uas a2 (#[.int .u8 (0:Int),.int .u8 (0:Int),.int .u8 (0:Int),.int .u8 (0:Int),.int .u8 (0:Int)]:Array Value)))),.none,true))):=by kernel_rfl
def Zbr (a0:Array Value) (a1:Int) (a2:Array Value):Bool:=(bif (Zal a0 a1) then (bif (Zbt a0 a1) then (sumW a2 5==(12:Int)) else (Uas a2 (#[.int .u8 (0:Int),.int .u8 (0:Int),.int .u8 (0:Int),.int .u8 (0:Int),.int .u8 (0:Int)]:Array Value))) else (Uas a2 (#[.int .u8 (0:Int),.int .u8 (0:Int),.int .u8 (0:Int),.int .u8 (0:Int),.int .u8 (0:Int)]:Array Value)))
theorem Zok (a0:Array Value) (a1:Int) (a2:Array Value) (h_a0:WT prog 42 a0) (h_a1:i64.min≤a1∧a1≤i64.max) (h_a2:WT prog 38 a2) (hg:((bif (Zal a0 a1) then decide (0≤a1) else true))=true):ansV prog Zkn 1000 f67 [] [.g a0 42,.i .i64 (a1),.g a2 38] []=some (.a (.b ((Zbr a0 a1 a2))),.none,true):=by
 refine (Zpc 1000 a0 a1 a2).trans ?_
 unfold Zbr
 revert hg
 generalize ((Zal a0 a1))=b2
 intro hg
 cases b2
 ·skip
  first | (simp only [Q1,Q2,BQ6];done) | rfl | exact (nomatch (hg:false=true))
 ·skip
  revert hg
  generalize (decide (0≤a1))=b4
  intro hg
  cases b4
  ·skip
   first | exact (nomatch (hg:false=true)) | (simp only [Q1,Q2,BQ6];done) | rfl
  ·skip
   revert hg
   generalize ((Zbt a0 a1))=b6
   intro hg
   cases b6
   ·skip
    first | (simp only [Q1,Q2,BQ6];done) | rfl | exact (nomatch (hg:false=true))
   ·skip
    first | (simp only [Q1,Q2,BQ6];done) | rfl | exact (nomatch (hg:false=true))
def Zg0:Con:=fun args h=>match args,h with
 | [.g a0 42,.i .i64 a1,.g a2 38],[]=>some (.a (.b ((Zbr a0 a1 a2))),.none,(bif (Zal a0 a1) then decide (0≤a1) else true))
 | _,_=>none
theorem Zm8:EntX prog 67:=Zap (fn:=f67)
theorem Zq8:Uab mn prog 67 Zg0:=(ansY (N:=1000) (mkΓ_consX (Zam Znr) Zjt (mkΓ_consX (Zam Zn2) Zjz (mkΓ_consX (Zam Zoo) Zlg mkΓ_nilX))) f67 []).of (by
 intro ρ h w args vals r e hA hH hr
 unfold Zg0 at hr
 split at hr
 ·rename_i a0 a1 a2
  obtain ⟨rfl,rfl,hg2⟩:=BQi hr
  exact Zok a0 a1 a2 (hA.wt 0 rfl) (hA.rng 1 rfl) (hA.wt 2 rfl) hg2
 ·cases hr)
def chR (S:Array Value) (t k:Nat):Array Value:=S.extract (3+t*180+k*5) (3+t*180+k*5+5)
def fitS (S:Array Value) (t k:Nat):Bool:=bif inC (num S 0) (num S 1) k && !(bitI (num S 2) k) then (sumW (chR S t k) 5==(12:Int)) else Uas (chR S t k) (#[.int .u8 (0:Int),.int .u8 (0:Int),.int .u8 (0:Int),.int .u8 (0:Int),.int .u8 (0:Int)]:Array Value)
def okD (S:Array Value):Bool:=decide (1≤num S 0)&&decide (num S 0≤6)&&(decide (1≤num S 1)&&decide (num S 1≤6))
def okS (S:Array Value):Bool:=okD S&&((Ubh (num S 2) (Uay (num S 0) (num S 1) 36)==0)&&(jA 36).all fun k=>fitS S 0 k&&fitS S 1 k)
theorem Zxu (n:Nat) (p:Nat→Bool):((jA n).find? (fun k=> !(p k))).isNone=(jA n).all p:=by
 rw [Bool.eq_iff_iff,Option.isNone_iff_eq_none,List.find?_eq_none,List.all_eq_true]
 simp
theorem all_two (n:Nat) (p q:Nat→Bool):(jA n).all (fun k=>p k&&q k)=((jA n).all p&&(jA n).all q):=by
 rw [Bool.eq_iff_iff,Q7,List.all_eq_true,List.all_eq_true,List.all_eq_true]
 simp only [Q7]
 exact ⟨fun h=>⟨fun x hx=>(h x hx).1,fun x hx=>(h x hx).2⟩,fun h x hx=>⟨h.1 x hx,h.2 x hx⟩⟩
theorem Yd3 {S:Array Value} (h:WT prog 42 S) {k:Nat} (hk:k<36):Zal S (k:Int)=inC (num S 0) (num S 1) k:=by rw [Yeu,Ye3 h hk]
theorem Zt2 {S:Array Value} (h:WT prog 42 S) {k:Nat} (hk:k<36) (t:Nat):Zbr S (k:Int) (chR S t k)=fitS S t k:=by
 unfold Zbr fitS
 rw [Yd3 h hk]
 unfold Zbt
 rw [Zwo hk]
 cases inC (num S 0) (num S 1) k<;>cases bitI (num S 2) k<;>rfl
theorem wet_in {S:Array Value} (h:WT prog 42 S) {k:Nat} (hk:k<36):Za5 (k:Int) S=true∧Zaq (k:Int) S=(inC (num S 0) (num S 1) k && !(bitI (num S 2) k)):=by
 have hu:decide (0≤IntKind.u64.wrap (k:Int))=true:=Q3 (Zpq .u64 _).1
 unfold Za5 Zaq
 rw [Ye3 h hk,Yd7 h hk]
 constructor
 ·cases inC (num S 0) (num S 1) k<;>simp [hu]
 ·cases inC (num S 0) (num S 1) k<;>simp
def Zer:Cons:=(mkΓ [(66,con Zh8),(67,con Zg0)])
def Zdk (a0:Array Value):St:=(⟨.a (.g a0 42) :: .a (.w 0) :: .a (.b (false)) :: .a (.u) :: .a (.p 0 (0) 22) :: .a (.i .i8 (num a0 0)) :: .a (.b (decide ((num a0 0)<(1:Int)))) :: .a (.b (false)) :: .a (.p 0 (0) 22) :: .a (.i .i8 (num a0 0)) :: .a (.b (decide ((num a0 0) > (6:Int)))) :: .a (.b (decide ((num a0 0) > (6:Int)))) :: .a (.b (false)) :: .a (.p 0 (1) 22) :: .a (.i .i8 (num a0 1)) :: .a (.b (decide ((num a0 1)<(1:Int)))) :: .a (.b (decide ((num a0 1)<(1:Int)))) :: .a (.b (false)) :: .a (.p 0 (1) 22) :: .a (.i .i8 (num a0 1)) :: .a (.b (decide ((num a0 1) > (6:Int)))) :: .a (.b (decide ((num a0 1) > (6:Int)))) :: .a (.p 0 (2) 23) :: .a (.i .u64 (num a0 2)) :: .a (.g a0 42) :: .a (.i .u64 (Uay (num a0 0) (num a0 1) 36)) :: .a (.i .u64 (IntKind.u64.wrap (BitVec.ofInt IntKind.u64.bits (num a0 2) &&& ~~~(BitVec.ofInt IntKind.u64.bits (Uay (num a0 0) (num a0 1) 36))).toNat)) :: .a (.b (((IntKind.u64.wrap (BitVec.ofInt IntKind.u64.bits (num a0 2) &&& ~~~(BitVec.ofInt IntKind.u64.bits (Uay (num a0 0) (num a0 1) 36))).toNat) != (0:Int)))) :: .a (.i .i64 (0:Int))::us 23 ([]),[.row a0 42,.no,.no,.no,.no,.no,.no,.no],[]⟩:St)
def Zd8:Bool×Int→LS
 | (y0_2,y0_28)=>([.a (.b (y0_2)),.a (.i .i64 (y0_28))],[])
def Zik:(Stp (Bool×Int) (Bool×Int))→Exit×LS
 | .more t=>(.ret,Zd8 t)
 | .done t=>((.exit 0),Zd8 t)
def Zbz (P:Program) (a0:Array Value):Bool×Int→Option (Stp (Bool×Int) (Stp (Bool×Int) (Bool×Int)))
  | (y0_2,y0_28)=>bif decide (y0_28<(36:Int)) then (bif (decide (0≤y0_28)&&decide (y0_28<36)) then (bif (bif (Zal a0 y0_28) then decide (0≤y0_28) else true) then (bif (!((Zbr a0 y0_28 (a0.extract (3+((y0_28).toNat*5)) ((3+((y0_28).toNat*5))+5))))) then (some (.done (.more (false,y0_28))))
          else (bif (decide (0≤y0_28)&&decide (y0_28<36)) then (bif (bif (Zal a0 y0_28) then decide (0≤y0_28) else true) then (bif (!((Zbr a0 y0_28 (a0.extract (183+((y0_28).toNat*5)) ((183+((y0_28).toNat*5))+5))))) then (some (.done (.more (false,y0_28))))
                else (some (.more (y0_2,(i64.wrap (y0_28+(1:Int)))))))
              else (none))
            else (none)))
        else (none))
      else (none))
    else (some (.done (.done (y0_2,y0_28))))
noncomputable abbrev cKCxC45:=codeOf f45
def Udl:=(Uaf cKCxC45 [([2,28],[])]).1
theorem Zts (N:Nat) (a0:Array Value):∀ t:Bool×Int,Uam prog Zer N (cAt cKCxC45 [1,1,1,0,1,0,0]) (pAt Udl [1,1,1,0,1,0]) [2,28] [] (Zdk a0) (Zd8 t)=mapS Zd8 Zik (Zbz prog a0 t):=by
  rintro ⟨y0_2,y0_28⟩
  refine Eq.trans (b:=(bif decide (y0_28<(36:Int)) then (bif (decide (0≤y0_28)&&decide (y0_28<36)) then (bif (bif (Zal a0 y0_28) then decide (0≤y0_28) else true) then (bif (!((Zbr a0 y0_28 (a0.extract (3+((y0_28).toNat*5)) ((3+((y0_28).toNat*5))+5))))) then (some (.done (.ret,([.a (.b (false)),.a (.i .i64 (y0_28))],[]))))
          else (bif (decide (0≤y0_28)&&decide (y0_28<36)) then (bif (bif (Zal a0 y0_28) then decide (0≤y0_28) else true) then (bif (!((Zbr a0 y0_28 (a0.extract (183+((y0_28).toNat*5)) ((183+((y0_28).toNat*5))+5))))) then (some (.done (.ret,([.a (.b (false)),.a (.i .i64 (y0_28))],[]))))
                else (some (.more ([.a (.b (y0_2)),.a (.i .i64 (i64.wrap (y0_28+(1:Int))))],[]))))
              else (none))
            else (none)))
        else (none))
      else (none))
    else (some (.done ((.exit 0),([.a (.b (y0_2)),.a (.i .i64 (y0_28))],[])))))) (by kernel_rfl) ?_
  simp only [Zbz,Zbp,Zbo,Zbm,Zbn,Zd8,Zik]
def Zhi (P:Program) (N:Nat) (a0:Array Value) (z0_2:Bool) (z0_28:Int):Option (SV×Eff×Bool):=some (.a (.b (z0_2)),.none,true)
def Udt (N:Nat):=(Uaz 0 (kSeq (veC prog Zer N (cAt cKCxC45 [1,1,1,1]) (pAt Udl [1,1,1,1]) (SV×Eff×Bool)) (finK prog [] [.tmp 2])))
theorem Zny (N:Nat) (a0:Array Value) (z0_2:Bool) (z0_28:Int):(Udt N) .ret (left (writes (cAt cKCxC45 [1,1,1,0,1,0,0])) [2,28] [] (Zdk a0) ([.a (.b (z0_2)),.a (.i .i64 (z0_28))],[]))=Zhi prog N a0 z0_2 z0_28:=by
 refine Eq.trans (b:=(some (.a (.b (z0_2)),.none,true))) (by kernel_rfl) ?_
 rfl
def Zhu (P:Program) (N:Nat) (a0:Array Value) (z0_2:Bool) (z0_28:Int):Option (SV×Eff×Bool):=some (.a (.b (true)),.none,true)
theorem Zn1 (N:Nat) (a0:Array Value) (z0_2:Bool) (z0_28:Int):(Udt N) (.exit 0) (left (writes (cAt cKCxC45 [1,1,1,0,1,0,0])) [2,28] [] (Zdk a0) ([.a (.b (z0_2)),.a (.i .i64 (z0_28))],[]))=Zhu prog N a0 z0_2 z0_28:=by
 refine Eq.trans (b:=(some (.a (.b (true)),.none,true))) (by kernel_rfl) ?_
 rfl
theorem Ztn (N:Nat) (a0:Array Value):Uak (Uaa (Uam prog Zer N (cAt cKCxC45 [1,1,1,0,1,0,0]) (pAt Udl [1,1,1,0,1,0]) [2,28] [] (Zdk a0)) N ([.a (.b (false)),.a (.i .i64 (0:Int))],[])) (fun e s=>(Udt N) e (left (writes (cAt cKCxC45 [1,1,1,0,1,0,0])) [2,28] [] (Zdk a0) s))=Uan (Uaa (Zbz prog a0) N (false,(0:Int))) (st2 (fun x=>Zhi prog N a0 x.1 x.2) (fun x=>Zhu prog N a0 x.1 x.2)):=by
 refine Zby Zd8 Zik _ _ (Zts N a0) N (false,(0:Int)) _ _ ?_
 intro x
 cases x with
 | more x=>exact Zny N a0 x.1 x.2
 | done x=>exact Zn1 N a0 x.1 x.2
theorem Zrq (N:Nat) (a0:Array Value):ansV prog Zer N f45 [([2,28],[])] [.g a0 42] []=(bif decide ((num a0 0)<(1:Int)) then (some (.a (.b (false)),.none,true))
    else (bif decide ((num a0 0) > (6:Int)) then (some (.a (.b (false)),.none,true))
      else (bif decide ((num a0 1)<(1:Int)) then (some (.a (.b (false)),.none,true))
        else (bif decide ((num a0 1) > (6:Int)) then (some (.a (.b (false)),.none,true))
          else (bif (decide (0≤num a0 0)&&decide (num a0 0≤6)&&(decide (0≤num a0 1)&&decide (num a0 1≤6))) then (bif ((IntKind.u64.wrap (BitVec.ofInt IntKind.u64.bits (num a0 2) &&& ~~~(BitVec.ofInt IntKind.u64.bits (Uay (num a0 0) (num a0 1) 36))).toNat) != (0:Int)) then (some (.a (.b (false)),.none,true))
              else (Uan (Uaa (Zbz prog a0) N (false,(0:Int))) (st2 (fun x=>Zhi prog N a0 x.1 x.2) (fun x=>Zhu prog N a0 x.1 x.2))))
            else (none)))))):=by
  refine Eq.trans (b:=(bif decide ((num a0 0)<(1:Int)) then (some (.a (.b (false)),.none,true))
    else (bif decide ((num a0 0) > (6:Int)) then (some (.a (.b (false)),.none,true))
      else (bif decide ((num a0 1)<(1:Int)) then (some (.a (.b (false)),.none,true))
        else (bif decide ((num a0 1) > (6:Int)) then (some (.a (.b (false)),.none,true))
          else (bif (decide (0≤num a0 0)&&decide (num a0 0≤6)&&(decide (0≤num a0 1)&&decide (num a0 1≤6))) then (bif ((IntKind.u64.wrap (BitVec.ofInt IntKind.u64.bits (num a0 2) &&& ~~~(BitVec.ofInt IntKind.u64.bits (Uay (num a0 0) (num a0 1) 36))).toNat) != (0:Int)) then (some (.a (.b (false)),.none,true))
              else (Uak (Uaa (Uam prog Zer N (cAt cKCxC45 [1,1,1,0,1,0,0]) (pAt Udl [1,1,1,0,1,0]) [2,28] [] (Zdk a0)) N ([.a (.b (false)),.a (.i .i64 (0:Int))],[])) (fun e s=>(Udt N) e (left (writes (cAt cKCxC45 [1,1,1,0,1,0,0])) [2,28] [] (Zdk a0) s))))
            else (none))))))) (by kernel_rfl) ?_
  simp only [Ztn N a0]
theorem Zp0 (a0:Array Value) (h_a0:WT prog 42 a0) (hg:(true)=true):ansV prog Zer 1000 f45 [([2,28],[])] [.g a0 42] []=some (.a (.b ((okS a0))),.none,true):=by
 refine (Zrq 1000 a0).trans ?_
 have h:=Zn3 (g:=Zbz prog a0) (fun k=>(false,(k:Int))) (fun k=> !(fitS a0 0 k&&fitS a0 1 k)) 36 (N:=1000) (by omega) (xd:=.done (false,((36:Nat):Int))) (fun k=>.more (false,(k:Int))) (fun k hk hp=>by
  have h1:decide ((k:Int)<36)=true:=Q3 (by omega)
  have h0:decide (0≤(k:Int))=true:=Q3 (by omega)
  have h3:i64.wrap ((k:Int)+1)=((k+1:Nat):Int):=by rw [IntWalk.i64_in _ (by omega)];omega
  have f0:=Zt2 h_a0 hk 0
  have f1:=Zt2 h_a0 hk 1
  unfold chR at f0 f1
  rw [show 3+0*180+k*5=3+k*5 by omega] at f0
  rw [show 3+1*180+k*5=183+k*5 by omega] at f1
  have hg:(bif Zal a0 (k:Int) then true else true)=true:=by cases Zal a0 (k:Int)<;>rfl
  simp only [Bool.not_eq_false',Q7] at hp
  simp only [Zbz,h1,h0,h3,jB,Q1,Q9,hg,f0,f1,hp.1,hp.2,Bool.not_true,Q2]) (fun k hk hp=>by
  have h1:decide ((k:Int)<36)=true:=Q3 (by omega)
  have h0:decide (0≤(k:Int))=true:=Q3 (by omega)
  have f0:=Zt2 h_a0 hk 0
  have f1:=Zt2 h_a0 hk 1
  unfold chR at f0 f1
  rw [show 3+0*180+k*5=3+k*5 by omega] at f0
  rw [show 3+1*180+k*5=183+k*5 by omega] at f1
  have hg:(bif Zal a0 (k:Int) then true else true)=true:=by cases Zal a0 (k:Int)<;>rfl
  cases e0:fitS a0 0 k with
  | false=>simp only [Zbz,h1,h0,jB,Q1,Q9,hg,f0,e0,jC]
  | true=>
   rw [e0] at hp
   have e1:fitS a0 1 k=false:=by simpa using hp
   simp only [Zbz,h1,h0,jB,Q1,Q9,hg,f0,f1,e0,e1,jC,Bool.not_true,Q2]) (by
  have h1:decide (((36:Nat):Int)<36)=false:=by decide
  simp only [Zbz,h1,Q2])
 have h':Uaa (Zbz prog a0) 1000 (false,(0:Int))=some (match (jA 36).find? (fun k=> !(fitS a0 0 k&&fitS a0 1 k)) with | some k=>.more (false,(k:Int)) | none=>.done (false,((36:Nat):Int))):=h
 have hf:=Zxu 36 (fun k=>fitS a0 0 k&&fitS a0 1 k)
 unfold okS okD
 by_cases d1:1≤num a0 0
 ·rw [Q3 d1,Q4 (show ¬ num a0 0<1 by omega)]
  by_cases d2:num a0 0≤6
  ·rw [Q3 d2,Q4 (show ¬ num a0 0 > 6 by omega)]
   by_cases d3:1≤num a0 1
   ·rw [Q3 d3,Q4 (show ¬ num a0 1<1 by omega)]
    by_cases d4:num a0 1≤6
    ·rw [Q3 d4,Q4 (show ¬ num a0 1 > 6 by omega),Q3 (show 0≤num a0 0 by omega),Q3 (show 0≤num a0 1 by omega)]
     simp only [jB,Q1,Q2,Bool.true_and,h']
     rw [show IntKind.u64.wrap (BitVec.ofInt IntKind.u64.bits (num a0 2) &&& ~~~(BitVec.ofInt IntKind.u64.bits (Uay (num a0 0) (num a0 1) 36))).toNat=Ubh (num a0 2) (Uay (num a0 0) (num a0 1) 36) from rfl]
     cases hb:(Ubh (num a0 2) (Uay (num a0 0) (num a0 1) 36)==0) with
     | false=>rw [show (Ubh (num a0 2) (Uay (num a0 0) (num a0 1) 36) != 0)=true by simp [bne,hb]];rfl
     | true=>
      rw [show (Ubh (num a0 2) (Uay (num a0 0) (num a0 1) 36) != 0)=false by simp [bne,hb],← hf]
      cases (jA 36).find? (fun k=> !(fitS a0 0 k&&fitS a0 1 k))<;>rfl
    ·rw [Q4 d4,Q3 (show num a0 1 > 6 by omega)];rfl
   ·rw [Q4 d3,Q3 (show num a0 1<1 by omega)];rfl
  ·rw [Q4 d2,Q3 (show num a0 0 > 6 by omega)];rfl
 ·rw [Q4 d1,Q3 (show num a0 0<1 by omega)];rfl
def Zh1:Con:=fun args h=>match args,h with
 | [.g a0 42],[]=>some (.a (.b ((okS a0))),.none,true)
 | _,_=>none
theorem Zpi:EntX prog 45:=Zap (fn:=f45)
theorem Zs5:Uab mn prog 45 Zh1:=(ansY (N:=1000) (mkΓ_consX (Zam Ztm) Zpv (mkΓ_consX (Zam Zq8) Zm8 mkΓ_nilX)) f45 [([2,28],[])]).of (by
 intro ρ h w args vals r e hA hH hr
 unfold Zh1 at hr
 split at hr
 ·rename_i a0
  obtain ⟨rfl,rfl,hg2⟩:=BQi hr
  exact Zp0 a0 (hA.wt 0 rfl) hg2
 ·cases hr)
def Zdu:Cons:=(mkΓ [(32,con Zf7),(34,con Zdt),(35,con Zhm),(55,con Zg1)])
def Ze8 (a0:Array Value) (y0_2:Bool) (y0_3:Int):St:=(⟨.a (.w 0) :: .a (.u) :: .a (.b (y0_2)) :: .a (.i .i64 (y0_3)) :: .a (.i .i64 (0:Int)) :: .a (.x) :: .a (.w 0) :: .a (.w 0) :: .a (.p 0 (0) 22) :: .a (.i .i8 (num a0 0)) :: .a (.i .i64 (i64.wrap (num a0 0))) :: .a (.b ((Zab (i64.wrap (num a0 0)) (1:Int) (6:Int)))) :: .a (.b ((!((Zab (i64.wrap (num a0 0)) (1:Int) (6:Int)))))) :: .a (.b (false)) :: .a (.w 0) :: .a (.w 0) :: .a (.p 0 (1) 22) :: .a (.i .i8 (num a0 1)) :: .a (.i .i64 (i64.wrap (num a0 1))) :: .a (.b ((Zab (i64.wrap (num a0 1)) (1:Int) (6:Int)))) :: .a (.b ((!((Zab (i64.wrap (num a0 1)) (1:Int) (6:Int)))))) :: .a (.b ((!((Zab (i64.wrap (num a0 1)) (1:Int) (6:Int)))))) :: .a (.b (false)) :: .a (.w 0) :: .a (.w 0) :: .a (.p 0 (2) 23) :: .a (.i .u64 (num a0 2)) :: .a (.w 0) :: .a (.i .u64 (Uay (num a0 0) (num a0 1) 36)) :: .a (.i .u64 (IntKind.u64.wrap (BitVec.ofInt IntKind.u64.bits (num a0 2) &&& ~~~(BitVec.ofInt IntKind.u64.bits (Uay (num a0 0) (num a0 1) 36))).toNat)) :: .a (.b (((IntKind.u64.wrap (BitVec.ofInt IntKind.u64.bits (num a0 2) &&& ~~~(BitVec.ofInt IntKind.u64.bits (Uay (num a0 0) (num a0 1) 36))).toNat) != (0:Int)))) :: .a (.b (((IntKind.u64.wrap (BitVec.ofInt IntKind.u64.bits (num a0 2) &&& ~~~(BitVec.ofInt IntKind.u64.bits (Uay (num a0 0) (num a0 1) 36))).toNat) != (0:Int)))) :: .a (.i .i64 (y0_3)) :: .a (.b (decide (y0_3<(2:Int))))::xs 33 ([]),[.row a0 42,.no,.no,.no,.no,.no,.no,.no,.no,.no,.no,.no,.no,.no,.no,.no,.no,.no,.no,.no,.no,.no,.no,.no,.no,.no,.no],[]⟩:St)
def Zeg:Bool×Int→LS
 | (y1_2,y1_4)=>([.a (.b (y1_2)),.a (.i .i64 (y1_4))],[])
def Zhn:(Stp (Bool×Int) (Bool×Int))→Exit×LS
 | .more t=>(.ret,Zeg t)
 | .done t=>((.exit 2),Zeg t)
def Zcq (P : Program) (a0 : Array Value) (y0_2 : Bool) (y0_3 : Int) : Bool × Int → Option (Stp (Bool × Int) (Stp (Bool × Int) (Bool × Int)))
  | (y1_2, y1_4) => bif decide (y1_4 < (36 : Int)) then (bif (decide (0 ≤ y0_3) && decide (y0_3 < 2)) then (bif (decide (0 ≤ y1_4) && decide (y1_4 < 36)) then (bif (Za5 y1_4 a0) then (bif (Zaq y1_4 a0) then (bif (!((sumW (a0.extract ((3 + ((y0_3).toNat * 180)) + ((y1_4).toNat * 5)) (((3 + ((y0_3).toNat * 180)) + ((y1_4).toNat * 5)) + 5)) 5 == (12 : Int)))) then (some (.done (.more (false, y1_4))))
              else (bif (Za5 y1_4 a0) then (bif (!((Zaq y1_4 a0))) then (bif (!(Uas (a0.extract ((3 + ((y0_3).toNat * 180)) + ((y1_4).toNat * 5)) (((3 + ((y0_3).toNat * 180)) + ((y1_4).toNat * 5)) + 5)) (#[.int .u8 (0 : Int), .int .u8 (0 : Int), .int .u8 (0 : Int), .int .u8 (0 : Int), .int .u8 (0 : Int)] : Array Value))) then (some (.done (.more (false, y1_4))))
                    else (some (.more (y1_2, (i64.wrap (y1_4 + (1 : Int)))))))
                  else (some (.more (y1_2, (i64.wrap (y1_4 + (1 : Int)))))))
                else (none)))
            else (bif (Za5 y1_4 a0) then (bif (!((Zaq y1_4 a0))) then (bif (!(Uas (a0.extract ((3 + ((y0_3).toNat * 180)) + ((y1_4).toNat * 5)) (((3 + ((y0_3).toNat * 180)) + ((y1_4).toNat * 5)) + 5)) (#[.int .u8 (0 : Int), .int .u8 (0 : Int), .int .u8 (0 : Int), .int .u8 (0 : Int), .int .u8 (0 : Int)] : Array Value))) then (some (.done (.more (false, y1_4))))
                  else (some (.more (y1_2, (i64.wrap (y1_4 + (1 : Int)))))))
                else (some (.more (y1_2, (i64.wrap (y1_4 + (1 : Int)))))))
              else (none)))
          else (none))
        else (none))
      else (none))
    else (some (.done (.done (y1_2, y1_4))))
noncomputable abbrev cKCxC31:=codeOf f31
def Ubp:=(Uaf cKCxC31 [([2,3],[]),([2,4],[])]).1
theorem Zl3 (N:Nat) (a0:Array Value) (y0_2:Bool) (y0_3:Int):∀ t:Bool×Int,Uam prog Zdu N (cAt cKCxC31 [1,1,0,1,0,0,1,0,0,1,0,0]) (pAt Ubp [1,1,0,1,0,1,0,1,0]) [2,4] [] (Ze8 a0 y0_2 y0_3) (Zeg t)=mapS Zeg Zhn (Zcq prog a0 y0_2 y0_3 t):=by
  rintro ⟨y1_2,y1_4⟩
  refine Eq.trans (b:=(bif decide (y1_4<(36:Int)) then (bif (decide (0≤y0_3)&&decide (y0_3<2)) then (bif (decide (0≤y1_4)&&decide (y1_4<36)) then (bif (Za5 y1_4 a0) then (bif (Zaq y1_4 a0) then (bif (!((sumW (a0.extract ((3+((y0_3).toNat*180))+((y1_4).toNat*5)) (((3+((y0_3).toNat*180))+((y1_4).toNat*5))+5)) 5==(12:Int)))) then (some (.done (.ret,([.a (.b (false)),.a (.i .i64 (y1_4))],[]))))
              else (bif (Za5 y1_4 a0) then (bif (!((Zaq y1_4 a0))) then (bif (!(Uas (a0.extract ((3+((y0_3).toNat*180))+((y1_4).toNat*5)) (((3+((y0_3).toNat*180))+((y1_4).toNat*5))+5)) (#[.int .u8 (0:Int),.int .u8 (0:Int),.int .u8 (0:Int),.int .u8 (0:Int),.int .u8 (0:Int)]:Array Value))) then (some (.done (.ret,([.a (.b (false)),.a (.i .i64 (y1_4))],[]))))
                    else (some (.more ([.a (.b (y1_2)),.a (.i .i64 (i64.wrap (y1_4+(1:Int))))],[]))))
                  else (some (.more ([.a (.b (y1_2)),.a (.i .i64 (i64.wrap (y1_4+(1:Int))))],[]))))
                else (none)))
            else (bif (Za5 y1_4 a0) then (bif (!((Zaq y1_4 a0))) then (bif (!(Uas (a0.extract ((3+((y0_3).toNat*180))+((y1_4).toNat*5)) (((3+((y0_3).toNat*180))+((y1_4).toNat*5))+5)) (#[.int .u8 (0:Int),.int .u8 (0:Int),.int .u8 (0:Int),.int .u8 (0:Int),.int .u8 (0:Int)]:Array Value))) then (some (.done (.ret,([.a (.b (false)),.a (.i .i64 (y1_4))],[]))))
                  else (some (.more ([.a (.b (y1_2)),.a (.i .i64 (i64.wrap (y1_4+(1:Int))))],[]))))
                else (some (.more ([.a (.b (y1_2)),.a (.i .i64 (i64.wrap (y1_4+(1:Int))))],[]))))
              else (none)))
          else (none))
        else (none))
      else (none))
    else (some (.done ((.exit 2),([.a (.b (y1_2)),.a (.i .i64 (y1_4))],[])))))) (by kernel_rfl) ?_
  simp only [Zcq,Zbp,Zbo,Zbm,Zbn,Zeg,Zhn]
def Ze1 (a0:Array Value):St:=(⟨.a (.w 0) :: .a (.u) :: .a (.b (false)) :: .a (.i .i64 (0:Int)) :: .a (.u) :: .a (.u) :: .a (.w 0) :: .a (.w 0) :: .a (.p 0 (0) 22) :: .a (.i .i8 (num a0 0)) :: .a (.i .i64 (i64.wrap (num a0 0))) :: .a (.b ((Zab (i64.wrap (num a0 0)) (1:Int) (6:Int)))) :: .a (.b ((!((Zab (i64.wrap (num a0 0)) (1:Int) (6:Int)))))) :: .a (.b (false)) :: .a (.w 0) :: .a (.w 0) :: .a (.p 0 (1) 22) :: .a (.i .i8 (num a0 1)) :: .a (.i .i64 (i64.wrap (num a0 1))) :: .a (.b ((Zab (i64.wrap (num a0 1)) (1:Int) (6:Int)))) :: .a (.b ((!((Zab (i64.wrap (num a0 1)) (1:Int) (6:Int)))))) :: .a (.b ((!((Zab (i64.wrap (num a0 1)) (1:Int) (6:Int)))))) :: .a (.b (false)) :: .a (.w 0) :: .a (.w 0) :: .a (.p 0 (2) 23) :: .a (.i .u64 (num a0 2)) :: .a (.w 0) :: .a (.i .u64 (Uay (num a0 0) (num a0 1) 36)) :: .a (.i .u64 (IntKind.u64.wrap (BitVec.ofInt IntKind.u64.bits (num a0 2) &&& ~~~(BitVec.ofInt IntKind.u64.bits (Uay (num a0 0) (num a0 1) 36))).toNat)) :: .a (.b (((IntKind.u64.wrap (BitVec.ofInt IntKind.u64.bits (num a0 2) &&& ~~~(BitVec.ofInt IntKind.u64.bits (Uay (num a0 0) (num a0 1) 36))).toNat) != (0:Int)))) :: .a (.b (((IntKind.u64.wrap (BitVec.ofInt IntKind.u64.bits (num a0 2) &&& ~~~(BitVec.ofInt IntKind.u64.bits (Uay (num a0 0) (num a0 1) 36))).toNat) != (0:Int))))::us 35 ([]),[.row a0 42,.no,.no,.no,.no,.no,.no,.no,.no,.no,.no,.no,.no,.no,.no,.no,.no,.no,.no,.no,.no,.no,.no,.no,.no,.no,.no],[]⟩:St)
def Zcf:Bool×Int→LS
 | (y0_2,y0_3)=>([.a (.b (y0_2)),.a (.i .i64 (y0_3))],[])
def Zdp:(Stp (Bool×Int) (Bool×Int))→Exit×LS
 | .more t=>(.ret,Zcf t)
 | .done t=>((.exit 0),Zcf t)
def Zf1 (P:Program) (N:Nat) (a0:Array Value) (y0_2:Bool) (y0_3:Int) (z1_2:Bool) (z1_4:Int):Option (Stp (Bool×Int) (Stp (Bool×Int) (Bool×Int))):=some (.done (.more (z1_2,y0_3)))
def Udj (N:Nat):=(Uaz 2 (Uaz 1 (kSeq (veC prog Zdu N (cAt cKCxC31 [1,1,0,1,0,0,1,1]) (pAt Ubp [1,1,0,1,0,1,1]) (Stp LS (Exit×LS))) (Uel 27 [2,3] []))))
theorem Zp7 (N:Nat) (a0:Array Value) (y0_2:Bool) (y0_3:Int) (z1_2:Bool) (z1_4:Int):(Udj N) .ret (left (writes (cAt cKCxC31 [1,1,0,1,0,0,1,0,0,1,0,0])) [2,4] [] (Ze8 a0 y0_2 y0_3) ([.a (.b (z1_2)),.a (.i .i64 (z1_4))],[]))=mapS Zcf Zdp (Zf1 prog N a0 y0_2 y0_3 z1_2 z1_4):=by
 refine Eq.trans (b:=(some (.done (.ret,([.a (.b (z1_2)),.a (.i .i64 (y0_3))],[]))))) (by kernel_rfl) ?_
 simp only [Zf1,Zbp,Zbo,Zbm,Zbn,Zcf,Zdp]
def Zf0 (P:Program) (N:Nat) (a0:Array Value) (y0_2:Bool) (y0_3:Int) (z1_2:Bool) (z1_4:Int):Option (Stp (Bool×Int) (Stp (Bool×Int) (Bool×Int))):=some (.more (z1_2,(i64.wrap (y0_3+(1:Int)))))
theorem Zra (N:Nat) (a0:Array Value) (y0_2:Bool) (y0_3:Int) (z1_2:Bool) (z1_4:Int):(Udj N) (.exit 2) (left (writes (cAt cKCxC31 [1,1,0,1,0,0,1,0,0,1,0,0])) [2,4] [] (Ze8 a0 y0_2 y0_3) ([.a (.b (z1_2)),.a (.i .i64 (z1_4))],[]))=mapS Zcf Zdp (Zf0 prog N a0 y0_2 y0_3 z1_2 z1_4):=by
 refine Eq.trans (b:=(some (.more ([.a (.b (z1_2)),.a (.i .i64 (i64.wrap (y0_3+(1:Int))))],[])))) (by kernel_rfl) ?_
 simp only [Zf0,Zbp,Zbo,Zbm,Zbn,Zcf,Zdp]
theorem Zxi (N:Nat) (a0:Array Value) (y0_2:Bool) (y0_3:Int):Uak (Uaa (Uam prog Zdu N (cAt cKCxC31 [1,1,0,1,0,0,1,0,0,1,0,0]) (pAt Ubp [1,1,0,1,0,1,0,1,0]) [2,4] [] (Ze8 a0 y0_2 y0_3)) N ([.a (.b (y0_2)),.a (.i .i64 (0:Int))],[])) (fun e s=>(Udj N) e (left (writes (cAt cKCxC31 [1,1,0,1,0,0,1,0,0,1,0,0])) [2,4] [] (Ze8 a0 y0_2 y0_3) s))=mapS Zcf Zdp (Uan (Uaa (Zcq prog a0 y0_2 y0_3) N (y0_2,(0:Int))) (st2 (fun x=>Zf1 prog N a0 y0_2 y0_3 x.1 x.2) (fun x=>Zf0 prog N a0 y0_2 y0_3 x.1 x.2))):=by
 rw [Zwg Zcf Zdp]
 first
 | (have h:=Zby (α:=Stp LS (Exit×LS)) Zeg Zhn _ _ (Zl3 N a0 y0_2 y0_3) N (y0_2,(0:Int));refine h _ _ ?_)
 | (have h:=Zby (α:=Stp BS (Exit×BS)) Zeg Zhn _ _ (Zl3 N a0 y0_2 y0_3) N (y0_2,(0:Int));refine h _ _ ?_)
 | (have h:=Zby (α:=Stp LS ((Exit×LS) ⊕ (SV×Eff×Bool))) Zeg Zhn _ _ (Zl3 N a0 y0_2 y0_3) N (y0_2,(0:Int));refine h _ _ ?_)
 intro x
 cases x with
 | more x=>exact Zp7 N a0 y0_2 y0_3 x.1 x.2
 | done x=>exact Zra N a0 y0_2 y0_3 x.1 x.2
def Zdr (P:Program) (N:Nat) (a0:Array Value):Bool×Int→Option (Stp (Bool×Int) (Stp (Bool×Int) (Bool×Int)))
 | (y0_2,y0_3)=>bif decide (y0_3<(2:Int)) then (Uan (Uaa (Zcq P a0 y0_2 y0_3) N (y0_2,(0:Int))) (st2 (fun x=>Zf1 P N a0 y0_2 y0_3 x.1 x.2) (fun x=>Zf0 P N a0 y0_2 y0_3 x.1 x.2)))
  else (some (.done (.done (y0_2,y0_3))))
theorem Zyc (N:Nat) (a0:Array Value):∀ t:Bool×Int,Uam prog Zdu N (cAt cKCxC31 [1,1,0,1,0,0]) (pAt Ubp [1,1,0,1,0]) [2,3] [] (Ze1 a0) (Zcf t)=mapS Zcf Zdp (Zdr prog N a0 t):=by
 rintro ⟨y0_2,y0_3⟩
 refine Eq.trans (b:=(bif decide (y0_3<(2:Int)) then (Uak (Uaa (Uam prog Zdu N (cAt cKCxC31 [1,1,0,1,0,0,1,0,0,1,0,0]) (pAt Ubp [1,1,0,1,0,1,0,1,0]) [2,4] [] (Ze8 a0 y0_2 y0_3)) N ([.a (.b (y0_2)),.a (.i .i64 (0:Int))],[])) (fun e s=>(Udj N) e (left (writes (cAt cKCxC31 [1,1,0,1,0,0,1,0,0,1,0,0])) [2,4] [] (Ze8 a0 y0_2 y0_3) s)))
  else (some (.done ((.exit 0),([.a (.b (y0_2)),.a (.i .i64 (y0_3))],[])))))) (by kernel_rfl) ?_
 simp only [Zxi N a0 y0_2 y0_3,Zdr,Zbp,Zbo,Zbm,Zbn,Zcf,Zdp]
def Zjd (P:Program) (N:Nat) (a0:Array Value) (z0_2:Bool) (z0_3:Int):Option (SV×Eff×Bool):=some (.a (.b (z0_2)),.none,true)
def Uc7 (N:Nat) (a0:Array Value):=(Uaz 0 (kSeq (veC prog Zdu N (cAt cKCxC31 [1,1,1]) (pAt Ubp [1,1,1]) (SV×Eff×Bool)) (finK prog [.row a0 42] [.tmp 2])))
theorem Zqv (N:Nat) (a0:Array Value) (z0_2:Bool) (z0_3:Int):(Uc7 N a0) .ret (left (writes (cAt cKCxC31 [1,1,0,1,0,0])) [2,3] [] (Ze1 a0) ([.a (.b (z0_2)),.a (.i .i64 (z0_3))],[]))=Zjd prog N a0 z0_2 z0_3:=by
 refine Eq.trans (b:=(some (.a (.b (z0_2)),.none,true))) (by kernel_rfl) ?_
 rfl
def Zje (P:Program) (N:Nat) (a0:Array Value) (z0_2:Bool) (z0_3:Int):Option (SV×Eff×Bool):=some (.a (.b (true)),.none,true)
theorem Zqq (N:Nat) (a0:Array Value) (z0_2:Bool) (z0_3:Int):(Uc7 N a0) (.exit 0) (left (writes (cAt cKCxC31 [1,1,0,1,0,0])) [2,3] [] (Ze1 a0) ([.a (.b (z0_2)),.a (.i .i64 (z0_3))],[]))=Zje prog N a0 z0_2 z0_3:=by
 refine Eq.trans (b:=(some (.a (.b (true)),.none,true))) (by kernel_rfl) ?_
 rfl
theorem Zxv (N:Nat) (a0:Array Value):Uak (Uaa (Uam prog Zdu N (cAt cKCxC31 [1,1,0,1,0,0]) (pAt Ubp [1,1,0,1,0]) [2,3] [] (Ze1 a0)) N ([.a (.b (false)),.a (.i .i64 (0:Int))],[])) (fun e s=>(Uc7 N a0) e (left (writes (cAt cKCxC31 [1,1,0,1,0,0])) [2,3] [] (Ze1 a0) s))=Uan (Uaa (Zdr prog N a0) N (false,(0:Int))) (st2 (fun x=>Zjd prog N a0 x.1 x.2) (fun x=>Zje prog N a0 x.1 x.2)):=by
 refine Zby Zcf Zdp _ _ (Zyc N a0) N (false,(0:Int)) _ _ ?_
 intro x
 cases x with
 | more x=>exact Zqv N a0 x.1 x.2
 | done x=>exact Zqq N a0 x.1 x.2
theorem Zvp (N:Nat) (a0:Array Value):ansV prog Zdu N f31 [([2,3],[]),([2,4],[])] [.w 0] [.row a0 42]=(bif (!((Zab (i64.wrap (num a0 0)) (1:Int) (6:Int)))) then (some (.a (.b (false)),.none,true))
  else (bif (!((Zab (i64.wrap (num a0 1)) (1:Int) (6:Int)))) then (some (.a (.b (false)),.none,true))
   else (bif ((IntKind.u64.wrap (BitVec.ofInt IntKind.u64.bits (num a0 2) &&& ~~~(BitVec.ofInt IntKind.u64.bits (Uay (num a0 0) (num a0 1) 36))).toNat) != (0:Int)) then (some (.a (.b (false)),.none,true))
    else (Uan (Uaa (Zdr prog N a0) N (false,(0:Int))) (st2 (fun x=>Zjd prog N a0 x.1 x.2) (fun x=>Zje prog N a0 x.1 x.2)))))):=by
 refine Eq.trans (b:=(bif (!((Zab (i64.wrap (num a0 0)) (1:Int) (6:Int)))) then (some (.a (.b (false)),.none,true))
  else (bif (!((Zab (i64.wrap (num a0 1)) (1:Int) (6:Int)))) then (some (.a (.b (false)),.none,true))
   else (bif ((IntKind.u64.wrap (BitVec.ofInt IntKind.u64.bits (num a0 2) &&& ~~~(BitVec.ofInt IntKind.u64.bits (Uay (num a0 0) (num a0 1) 36))).toNat) != (0:Int)) then (some (.a (.b (false)),.none,true))
    else (Uak (Uaa (Uam prog Zdu N (cAt cKCxC31 [1,1,0,1,0,0]) (pAt Ubp [1,1,0,1,0]) [2,3] [] (Ze1 a0)) N ([.a (.b (false)),.a (.i .i64 (0:Int))],[])) (fun e s=>(Uc7 N a0) e (left (writes (cAt cKCxC31 [1,1,0,1,0,0])) [2,3] [] (Ze1 a0) s))))))) (by kernel_rfl) ?_
 simp only [Zxv N a0]
theorem Yb0 {S:Array Value} (h:WT prog 42 S) {t:Nat} (ht:t<2) (b:Bool):Uaa (Zcq prog S b (t:Int)) 1000 (b,(0:Int))=some (match (jA 36).find? (fun k=> !(fitS S t k)) with | some k=>.more (false,(k:Int)) | none=>.done (b,((36:Nat):Int))):=by
 have htt:decide (0≤(t:Int))=true:=Q3 (by omega)
 have ht2:decide ((t:Int)<2)=true:=Q3 (by omega)
 exact Zn3 (g:=Zcq prog S b (t:Int)) (fun k=>(b,(k:Int))) (fun k=> !(fitS S t k)) 36 (N:=1000) (by omega) (xd:=.done (b,((36:Nat):Int))) (fun k=>.more (false,(k:Int))) (fun k hk hp=>by
  have h1:decide ((k:Int)<36)=true:=Q3 (by omega)
  have h0:decide (0≤(k:Int))=true:=Q3 (by omega)
  have h3:i64.wrap ((k:Int)+1)=((k+1:Nat):Int):=by rw [IntWalk.i64_in _ (by omega)];omega
  obtain ⟨w1,w2⟩:=wet_in h hk
  rw [Bool.not_eq_false'] at hp
  unfold fitS chR at hp
  rw [← w2] at hp
  cases hw:Zaq (k:Int) S with
  | false=>
   rw [hw] at hp
   simp only [Q2] at hp
   simp only [Zcq,h1,h0,h3,htt,ht2,w1,hw,jB,jC,Q1,Q2,Q9,hp,Bool.not_true]
  | true=>
   rw [hw] at hp
   simp only [Q1] at hp
   simp only [Zcq,h1,h0,h3,htt,ht2,w1,hw,jB,Bool.not_true,Q1,Q2,Q9,hp]) (fun k hk hp=>by
  have h1:decide ((k:Int)<36)=true:=Q3 (by omega)
  have h0:decide (0≤(k:Int))=true:=Q3 (by omega)
  obtain ⟨w1,w2⟩:=wet_in h hk
  rw [Bool.not_eq_true'] at hp
  unfold fitS chR at hp
  rw [← w2] at hp
  cases hw:Zaq (k:Int) S with
  | false=>
   rw [hw] at hp
   simp only [Q2] at hp
   simp only [Zcq,h1,h0,htt,ht2,w1,hw,jB,jC,Q1,Q2,Q9,hp]
  | true=>
   rw [hw] at hp
   simp only [Q1] at hp
   simp only [Zcq,h1,h0,htt,ht2,w1,hw,jB,Bool.not_true,jC,Q1,Q2,Q9,hp]) (by
  have h1:decide (((36:Nat):Int)<36)=false:=by decide
  simp only [Zcq,h1,Q2])
theorem Zuo (a0:Array Value) (h_a0:WT prog 42 a0) (hg:(true)=true):ansV prog Zdu 1000 f31 [([2,3],[]),([2,4],[])] [.w 0] [.row a0 42]=some (.a (.b ((okS a0))),.none,true):=by
 refine (Zvp 1000 a0).trans ?_
 obtain ⟨s0,b0,b1⟩:=h_a0.int (o:=0) (k:=.i8) (by kernel_rfl)
 obtain ⟨s1,b2,b3⟩:=h_a0.int (o:=1) (k:=.i8) (by kernel_rfl)
 have e1:IntKind.i8.min = -128:=rfl
 have e2:IntKind.i8.max=127:=rfl
 have h:=Zn3 (g:=Zdr prog 1000 a0) (fun t=>(false,(t:Int))) (fun t=>((jA 36).find? (fun k=> !(fitS a0 t k))).isSome) 2 (N:=1000) (by omega) (xd:=.done (false,((2:Nat):Int))) (fun t=>.more (false,(t:Int))) (fun t ht hp=>by
  have h1:decide ((t:Int)<2)=true:=Q3 (by omega)
  have h3:i64.wrap ((t:Int)+1)=((t+1:Nat):Int):=by rw [IntWalk.i64_in _ (by omega)];omega
  have hn:(jA 36).find? (fun k=> !(fitS a0 t k))=none:=by simpa using hp
  have hi:=Yb0 h_a0 ht false
  rw [hn] at hi
  simp only [Zdr,h1,Q1,hi,Uan,st2,Zf0,h3]) (fun t ht hp=>by
  have h1:decide ((t:Int)<2)=true:=Q3 (by omega)
  obtain ⟨k,hn⟩:=Option.isSome_iff_exists.1 hp
  have hi:=Yb0 h_a0 ht false
  rw [hn] at hi
  simp only [Zdr,h1,Q1,hi,Uan,st2,Zf1]) (by
  have h1:decide (((2:Nat):Int)<2)=false:=by decide
  simp only [Zdr,h1,Q2])
 have h':Uaa (Zdr prog 1000 a0) 1000 (false,(0:Int))=some (match (jA 2).find? (fun t=>((jA 36).find? (fun k=> !(fitS a0 t k))).isSome) with | some t=>.more (false,(t:Int)) | none=>.done (false,((2:Nat):Int))):=h
 have i0:Zab (i64.wrap (num a0 0)) 1 6=(decide (1≤num a0 0)&&decide (num a0 0≤6)):=by
  rw [IntWalk.i64_in _ (by omega)];unfold Zab
  cases h1:decide (num a0 0 ≥ 1)<;>simp_all
 have i1:Zab (i64.wrap (num a0 1)) 1 6=(decide (1≤num a0 1)&&decide (num a0 1≤6)):=by
  rw [IntWalk.i64_in _ (by omega)];unfold Zab
  cases h1:decide (num a0 1 ≥ 1)<;>simp_all
 unfold okS okD
 rw [i0,i1,h',all_two,← Zxu,← Zxu,show IntKind.u64.wrap (BitVec.ofInt IntKind.u64.bits (num a0 2) &&& ~~~(BitVec.ofInt IntKind.u64.bits (Uay (num a0 0) (num a0 1) 36))).toNat=Ubh (num a0 2) (Uay (num a0 0) (num a0 1) 36) from rfl,show (jA 2)=[0,1] from rfl]
 cases decide (1≤num a0 0)&&decide (num a0 0≤6)
 ·rfl
 cases decide (1≤num a0 1)&&decide (num a0 1≤6)
 ·rfl
 cases hb:(Ubh (num a0 2) (Uay (num a0 0) (num a0 1) 36)==0) with
 | false=>rw [show (Ubh (num a0 2) (Uay (num a0 0) (num a0 1) 36) != 0)=true by simp [bne,hb]];rfl
 | true=>
  rw [show (Ubh (num a0 2) (Uay (num a0 0) (num a0 1) 36) != 0)=false by simp [bne,hb]]
  simp only [List.find?]
  generalize (jA 36).find? (fun k=> !(fitS a0 0 k))=f0
  generalize (jA 36).find? (fun k=> !(fitS a0 1 k))=f1
  cases f0<;>cases f1<;>rfl
def Zj7:Con:=fun args h=>match args,h with
 | [.w 0],[.row a0 42]=>some (.a (.b ((okS a0))),.none,true)
 | _,_=>none
theorem Zs7:EntX prog 31:=Zap (fn:=f31)
theorem Zyb:Uab mn prog 31 Zj7:=(ansY (N:=1000) (mkΓ_consX (Zam Zmb) Zjk (mkΓ_consX (Zam Zit) Zgs (mkΓ_consX (Zam Zo6) Zkp (mkΓ_consX (Zam Zpz) Zn5 mkΓ_nilX)))) f31 [([2,3],[]),([2,4],[])]).of (by
 intro ρ h w args vals r e hA hH hr
 unfold Zj7 at hr
 split at hr
 ·rename_i a0
  obtain ⟨rfl,rfl,hg2⟩:=BQi hr
  exact Zuo a0 (hH.wt 0 rfl) hg2
 ·cases hr)
theorem Yed {S:Array Value} (h:WT prog 42 S):S.size=363:=by rw [h.layLen,Yds];simp
end
end Go.Proofs.YtdhckffhnkeogaaDoor
