/- What a valid sea is, in company. -/
import Derived.Test.YtohnggmlmglhmaaGreatDoorProg
import Derived.Test.YtohnggmlmglhmaaGreatDoorCxB
open _root_.List renaming range→jA,all_eq_true→jC
open _root_.Bool renaming and_self→jB,not_false→jD
namespace Go.Proofs.YtohnggmlmglhmaaGreatDoor
open Go.ChangeShapes Go.WideShapes Go.ChangeAt Go.RowKit Ve Vc
open Tryz renaming prog → PZ
open IntKind (i64)
set_option linter.unusedVariables false
set_option linter.unusedSimpArgs false
set_option maxRecDepth 100000
noncomputable section
variable {mn:Md}
def sumW (a:Array Value):Nat→Int
 | 0=>0
 | k+1=>i64.wrap (sumW a k+i64.wrap (num a (k*1)))
theorem tide_eq (t:Int):Zed t=Zaa t 0 1:=by
 unfold Zed Zaa
 by_cases h0:t=0
 ·subst h0;rfl
 ·by_cases h1:t=1
  ·subst h1;rfl
  ·rw [show (t==0)=false from beq_eq_false_iff_ne.2 h0,show (t==1)=false from beq_eq_false_iff_ne.2 h1]
   by_cases h2:t ≥ 0
   ·rw [Q3 h2,Q4 (show ¬ t≤1 by omega)];rfl
   ·rw [Q4 h2];rfl
def Zdi (a0:Array Value):St:=(⟨.a (.g a0 37) :: .a (.w 0) :: .a (.b (false)) :: .a (.i .i64 (0:Int)) :: .a (.u) :: .a (.u) :: .a (.g a0 37) :: .a (.i .i64 (0:Int))::us 9 ([]),[.row a0 37,.no],[]⟩:St)
def Zev:Int×Int→LS
 | (y0_3,y0_7)=>([.a (.i .i64 (y0_3)),.a (.i .i64 (y0_7))],[])
def Ziz:Int×Int→Exit×LS
 | t=>((.exit 0),Zev t)
def Zbu (P:Program) (a0:Array Value):Int×Int→Option (Stp (Int×Int) (Int×Int))
 | (y0_3,y0_7)=>bif decide (y0_7<(5:Int)) then (bif (decide (0≤y0_7)&&decide (y0_7<5)) then (some (.more ((i64.wrap (y0_3+(i64.wrap (num a0 ((y0_7).toNat*1))))),(i64.wrap (y0_7+(1:Int))))))
   else (none))
  else (some (.done (y0_3,y0_7)))
def Ueg:=(Uaf (codeOf Tryz.f118) [([3,7],[])]).1
theorem Zu0 (N:Nat) (a0:Array Value):∀ t:Int×Int,Uag PZ (mkΓ []) N (cAt (codeOf Tryz.f118) [1,1,0,1,0,0]) (pAt Ueg [1,1,0,1,0]) [3,7] [] (Zdi a0) (Zev t)=mapS Zev Ziz (Zbu PZ a0 t):=by
 rintro ⟨y0_3,y0_7⟩
 refine Eq.trans (b:=(bif decide (y0_7<(5:Int)) then (bif (decide (0≤y0_7)&&decide (y0_7<5)) then (some (.more ([.a (.i .i64 (i64.wrap (y0_3+(i64.wrap (num a0 ((y0_7).toNat*1)))))),.a (.i .i64 (i64.wrap (y0_7+(1:Int))))],[])))
   else (none))
  else (some (.done ((.exit 0),([.a (.i .i64 (y0_3)),.a (.i .i64 (y0_7))],[])))))) (by kernel_rfl) ?_
 simp only [Zbu,Zaz,Zay,Za1,Za0,Zev,Ziz]
def Zhp (P:Program) (N:Nat) (a0:Array Value) (z0_3:Int) (z0_7:Int):Option (SV×Eff×Bool):=some (.a (.b ((z0_3==(12:Int)))),.none,true)
def Ufu (N:Nat):=(Uan 0 (kSeq (veC PZ (mkΓ []) N (cAt (codeOf Tryz.f118) [1,1,1]) (pAt Ueg [1,1,1]) (SV×Eff×Bool)) (finK PZ [] [.tmp 2])))
theorem Zo7 (N:Nat) (a0:Array Value) (z0_3:Int) (z0_7:Int):(Ufu N) (.exit 0) (left (writes (cAt (codeOf Tryz.f118) [1,1,0,1,0,0])) [3,7] [] (Zdi a0) ([.a (.i .i64 (z0_3)),.a (.i .i64 (z0_7))],[]))=Zhp PZ N a0 z0_3 z0_7:=by
 refine Eq.trans (b:=(some (.a (.b ((z0_3==(12:Int)))),.none,true))) (by kernel_rfl) ?_
 rfl
theorem Zud (N:Nat) (a0:Array Value):Uah (Uaa (Uag PZ (mkΓ []) N (cAt (codeOf Tryz.f118) [1,1,0,1,0,0]) (pAt Ueg [1,1,0,1,0]) [3,7] [] (Zdi a0)) N ([.a (.i .i64 (0:Int)),.a (.i .i64 (0:Int))],[])) (fun e s=>(Ufu N) e (left (writes (cAt (codeOf Tryz.f118) [1,1,0,1,0,0])) [3,7] [] (Zdi a0) s))=Uak (Uaa (Zbu PZ a0) N ((0:Int),(0:Int))) (fun x=>Zhp PZ N a0 x.1 x.2):=by
 refine Zbd Zev Ziz _ _ (Zu0 N a0) N ((0:Int),(0:Int)) _ _ ?_
 intro x;exact Zo7 N a0 x.1 x.2
theorem Zsl (N:Nat) (a0:Array Value):ansV PZ (mkΓ []) N Tryz.f118 [([3,7],[])] [.g a0 37] []=(Uak (Uaa (Zbu PZ a0) N ((0:Int),(0:Int))) (fun x=>Zhp PZ N a0 x.1 x.2)):=by
 refine Eq.trans (b:=(Uah (Uaa (Uag PZ (mkΓ []) N (cAt (codeOf Tryz.f118) [1,1,0,1,0,0]) (pAt Ueg [1,1,0,1,0]) [3,7] [] (Zdi a0)) N ([.a (.i .i64 (0:Int)),.a (.i .i64 (0:Int))],[])) (fun e s=>(Ufu N) e (left (writes (cAt (codeOf Tryz.f118) [1,1,0,1,0,0])) [3,7] [] (Zdi a0) s)))) (by kernel_rfl) ?_
 simp only [Zud N a0]
theorem Zr4 (a0:Array Value) (h_a0:WT PZ 37 a0) (hg:(true)=true):ansV PZ (mkΓ []) 1000 Tryz.f118 [([3,7],[])] [.g a0 37] []=some (.a (.b ((sumW a0 5==(12:Int)))),.none,true):=by
 have h:=Zcc (g:=Zbu PZ a0) (fun k=>(sumW a0 k,(k:Int))) (m:=5) (x:=(sumW a0 5,((5:Nat):Int))) (N:=1000) (fun k hk=>by
  have h1:decide ((k:Int)<5)=true:=Q3 (by omega)
  have h0:decide (0≤(k:Int))=true:=Q3 (by omega)
  have h3:i64.wrap ((k:Int)+1)=((k+1:Nat):Int):=by rw [IntWalk.i64_in _ (by omega)];omega
  have h4:((k:Int)).toNat=k:=Q9 k
  simp only [Zbu,h1,h0,jB,h4,Q1,h3,sumW]) (by
  have h1:decide (((5:Nat):Int)<5)=false:=by decide
  simp only [Zbu,h1,Q2]) (by omega)
 refine (Zsl 1000 a0).trans ?_
 have h':Uaa (Zbu PZ a0) 1000 ((0:Int),(0:Int))=some (sumW a0 5,((5:Nat):Int)):=h
 rw [h']
 rfl
def Zh5:Con:=fun args h=>match args,h with
 | [.g a0 37],[]=>some (.a (.b ((sumW a0 5==(12:Int)))),.none,true)
 | _,_=>none
theorem Zq7:EntX PZ 118:=Zag (fn:=Tryz.f118) (by kernel_rfl) (by kernel_rfl) (by kernel_rfl)
theorem Zui:Uab mn PZ 118 Zh5:=(Zaf (N:=1000) (by kernel_rfl) mkΓ_nilX (fn:=Tryz.f118) (by kernel_rfl) (by kernel_rfl) [([3,7],[])]).of (by
 intro ρ h w args vals r e hA hH hr
 unfold Zh5 at hr
 split at hr
 ·rename_i a0
  obtain ⟨rfl,rfl,hg2⟩:=BQi hr
  exact Zr4 a0 (hA.wt 0 rfl) hg2
 ·cases hr)
def Zeh (a0:Array Value):St:=(⟨.a (.g a0 37) :: .a (.w 0) :: .a (.b (false)) :: .a (.i .i64 (0:Int)) :: .a (.i .i64 (0:Int))::us 12 ([]),[.row a0 37,.no],[]⟩:St)
def Zfq:Int×Int→LS
 | (y0_3,y0_4)=>([.a (.i .i64 (y0_3)),.a (.i .i64 (y0_4))],[])
def Zkz:Int×Int→Exit×LS
 | t=>((.exit 0),Zfq t)
def Zcm (P:Program) (a0:Array Value):Int×Int→Option (Stp (Int×Int) (Int×Int))
 | (y0_3,y0_4)=>bif decide (y0_4<(5:Int)) then (bif (decide (0≤y0_4)&&decide (y0_4<5)) then (some (.more ((i64.wrap (y0_3+(i64.wrap (num a0 ((y0_4).toNat*1))))),(i64.wrap (y0_4+(1:Int))))))
   else (none))
  else (some (.done (y0_3,y0_4)))
def Uew:=(Uaf (codeOf Tryz.f81) [([3,4],[])]).1
theorem Zze (N:Nat) (a0:Array Value):∀ t:Int×Int,Uag PZ (mkΓ []) N (cAt (codeOf Tryz.f81) [1,1,0,1,0,0]) (pAt Uew [1,1,0,1,0]) [3,4] [] (Zeh a0) (Zfq t)=mapS Zfq Zkz (Zcm PZ a0 t):=by
 rintro ⟨y0_3,y0_4⟩
 refine Eq.trans (b:=(bif decide (y0_4<(5:Int)) then (bif (decide (0≤y0_4)&&decide (y0_4<5)) then (some (.more ([.a (.i .i64 (i64.wrap (y0_3+(i64.wrap (num a0 ((y0_4).toNat*1)))))),.a (.i .i64 (i64.wrap (y0_4+(1:Int))))],[])))
   else (none))
  else (some (.done ((.exit 0),([.a (.i .i64 (y0_3)),.a (.i .i64 (y0_4))],[])))))) (by kernel_rfl) ?_
 simp only [Zcm,Zaz,Zay,Za1,Za0,Zfq,Zkz]
def Zin (P:Program) (N:Nat) (a0:Array Value) (z0_3:Int) (z0_4:Int):Option (SV×Eff×Bool):=some (.a (.b ((z0_3==(12:Int)))),.none,true)
def Ufm (N:Nat):=(Uan 0 (kSeq (veC PZ (mkΓ []) N (cAt (codeOf Tryz.f81) [1,1,1]) (pAt Uew [1,1,1]) (SV×Eff×Bool)) (finK PZ [] [.tmp 2])))
theorem Zp9 (N:Nat) (a0:Array Value) (z0_3:Int) (z0_4:Int):(Ufm N) (.exit 0) (left (writes (cAt (codeOf Tryz.f81) [1,1,0,1,0,0])) [3,4] [] (Zeh a0) ([.a (.i .i64 (z0_3)),.a (.i .i64 (z0_4))],[]))=Zin PZ N a0 z0_3 z0_4:=by
 refine Eq.trans (b:=(some (.a (.b ((z0_3==(12:Int)))),.none,true))) (by kernel_rfl) ?_
 rfl
theorem Zw9 (N:Nat) (a0:Array Value):Uah (Uaa (Uag PZ (mkΓ []) N (cAt (codeOf Tryz.f81) [1,1,0,1,0,0]) (pAt Uew [1,1,0,1,0]) [3,4] [] (Zeh a0)) N ([.a (.i .i64 (0:Int)),.a (.i .i64 (0:Int))],[])) (fun e s=>(Ufm N) e (left (writes (cAt (codeOf Tryz.f81) [1,1,0,1,0,0])) [3,4] [] (Zeh a0) s))=Uak (Uaa (Zcm PZ a0) N ((0:Int),(0:Int))) (fun x=>Zin PZ N a0 x.1 x.2):=by
 refine Zbd Zfq Zkz _ _ (Zze N a0) N ((0:Int),(0:Int)) _ _ ?_
 intro x;exact Zp9 N a0 x.1 x.2
theorem Zwj (N:Nat) (a0:Array Value):ansV PZ (mkΓ []) N Tryz.f81 [([3,4],[])] [.g a0 37] []=(Uak (Uaa (Zcm PZ a0) N ((0:Int),(0:Int))) (fun x=>Zin PZ N a0 x.1 x.2)):=by
 refine Eq.trans (b:=(Uah (Uaa (Uag PZ (mkΓ []) N (cAt (codeOf Tryz.f81) [1,1,0,1,0,0]) (pAt Uew [1,1,0,1,0]) [3,4] [] (Zeh a0)) N ([.a (.i .i64 (0:Int)),.a (.i .i64 (0:Int))],[])) (fun e s=>(Ufm N) e (left (writes (cAt (codeOf Tryz.f81) [1,1,0,1,0,0])) [3,4] [] (Zeh a0) s)))) (by kernel_rfl) ?_
 simp only [Zw9 N a0]
theorem Zve (a0:Array Value) (h_a0:WT PZ 37 a0) (hg:(true)=true):ansV PZ (mkΓ []) 1000 Tryz.f81 [([3,4],[])] [.g a0 37] []=some (.a (.b ((sumW a0 5==(12:Int)))),.none,true):=by
 have h:=Zcc (g:=Zcm PZ a0) (fun k=>(sumW a0 k,(k:Int))) (m:=5) (x:=(sumW a0 5,((5:Nat):Int))) (N:=1000) (fun k hk=>by
  have h1:decide ((k:Int)<5)=true:=Q3 (by omega)
  have h0:decide (0≤(k:Int))=true:=Q3 (by omega)
  have h3:i64.wrap ((k:Int)+1)=((k+1:Nat):Int):=by rw [IntWalk.i64_in _ (by omega)];omega
  have h4:((k:Int)).toNat=k:=Q9 k
  simp only [Zcm,h1,h0,jB,h4,Q1,h3,sumW]) (by
  have h1:decide (((5:Nat):Int)<5)=false:=by decide
  simp only [Zcm,h1,Q2]) (by omega)
 refine (Zwj 1000 a0).trans ?_
 have h':Uaa (Zcm PZ a0) 1000 ((0:Int),(0:Int))=some (sumW a0 5,((5:Nat):Int)):=h
 rw [h']
 rfl
def Zjs:Con:=fun args h=>match args,h with
 | [.g a0 37],[]=>some (.a (.b ((sumW a0 5==(12:Int)))),.none,true)
 | _,_=>none
theorem Zs4:EntX PZ 81:=Zag (fn:=Tryz.f81) (by kernel_rfl) (by kernel_rfl) (by kernel_rfl)
theorem Zyf:Uab mn PZ 81 Zjs:=(Zaf (N:=1000) (by kernel_rfl) mkΓ_nilX (fn:=Tryz.f81) (by kernel_rfl) (by kernel_rfl) [([3,4],[])]).of (by
 intro ρ h w args vals r e hA hH hr
 unfold Zjs at hr
 split at hr
 ·rename_i a0
  obtain ⟨rfl,rfl,hg2⟩:=BQi hr
  exact Zve a0 (hA.wt 0 rfl) hg2
 ·cases hr)
def Zo9:Cons:=(mkΓ [(33,con Zi8),(117,con Zi9),(118,con Zh5)])
theorem Zvs (N:Nat) (a0:Array Value) (a1:Int) (a2:Array Value):ansV PZ Zo9 N Tryz.f96 [] [.g a0 41,.i .i64 (a1),.g a2 37] []=(bif (Zao a0 a1) then (bif decide (0≤a1) then (bif (Zb3 a0 a1) then (some (.a (.b ((sumW a2 5==(12:Int)))),.none,true))
    else (some (.a (.b ((Ua4 a2 (#[.int .u8 (0:Int),.int .u8 (0:Int),.int .u8 (0:Int),.int .u8 (0:Int),.int .u8 (0:Int)]:Array Value)))),.none,true)))
   else (none))
  else (some (.a (.b ((Ua4 a2 (#[.int .u8 (0:Int),.int .u8 (0:Int),.int .u8 (0:Int),.int .u8 (0:Int),.int .u8 (0:Int)]:Array Value)))),.none,true))):=by kernel_rfl
def Zb2 (a0:Array Value) (a1:Int) (a2:Array Value):Bool:=(bif (Zao a0 a1) then (bif (Zb3 a0 a1) then (sumW a2 5==(12:Int)) else (Ua4 a2 (#[.int .u8 (0:Int),.int .u8 (0:Int),.int .u8 (0:Int),.int .u8 (0:Int),.int .u8 (0:Int)]:Array Value))) else (Ua4 a2 (#[.int .u8 (0:Int),.int .u8 (0:Int),.int .u8 (0:Int),.int .u8 (0:Int),.int .u8 (0:Int)]:Array Value)))
theorem Zuf (a0:Array Value) (a1:Int) (a2:Array Value) (h_a0:WT PZ 41 a0) (h_a1:i64.min≤a1∧a1≤i64.max) (h_a2:WT PZ 37 a2) (hg:((bif (Zao a0 a1) then decide (0≤a1) else true))=true):ansV PZ Zo9 1000 Tryz.f96 [] [.g a0 41,.i .i64 (a1),.g a2 37] []=some (.a (.b ((Zb2 a0 a1 a2))),.none,true):=by
 refine (Zvs 1000 a0 a1 a2).trans ?_
 unfold Zb2
 revert hg
 generalize ((Zao a0 a1))=b2
 intro hg
 cases b2
 ·skip
  first | (simp only [Q1,Q2,BQ6];done) | rfl | exact (nomatch (hg:false=true))
 ·skip
  revert hg
  generalize (decide (0≤a1))=b4
  intro hg
  cases b4
  ·skip
   first | exact (nomatch (hg:false=true)) | (simp only [Q1,Q2,BQ6];done) | rfl
  ·skip
   revert hg
   generalize ((Zb3 a0 a1))=b6
   intro hg
   cases b6
   ·skip
    first | (simp only [Q1,Q2,BQ6];done) | rfl | exact (nomatch (hg:false=true))
   ·skip
    first | (simp only [Q1,Q2,BQ6];done) | rfl | exact (nomatch (hg:false=true))
def Zji:Con:=fun args h=>match args,h with
 | [.g a0 41,.i .i64 a1,.g a2 37],[]=>some (.a (.b ((Zb2 a0 a1 a2))),.none,(bif (Zao a0 a1) then decide (0≤a1) else true))
 | _,_=>none
theorem Ztj:EntX PZ 96:=Zag (fn:=Tryz.f96) (by kernel_rfl) (by kernel_rfl) (by kernel_rfl)
theorem Zyd:Uab mn PZ 96 Zji:=(Zaf (N:=1000) (by kernel_rfl) (mkΓ_consX (Zac Zsa) Zoe (mkΓ_consX (Zac Zs1) Zof (mkΓ_consX (Zac Zui) Zq7 mkΓ_nilX))) (fn:=Tryz.f96) (by kernel_rfl) (by kernel_rfl) []).of (by
 intro ρ h w args vals r e hA hH hr
 unfold Zji at hr
 split at hr
 ·rename_i a0 a1 a2
  obtain ⟨rfl,rfl,hg2⟩:=BQi hr
  exact Zuf a0 a1 a2 (hA.wt 0 rfl) (hA.rng 1 rfl) (hA.wt 2 rfl) hg2
 ·cases hr)
def chR (S:Array Value) (t k:Nat):Array Value:=S.extract (3+t*180+k*5) (3+t*180+k*5+5)
def fitS (S:Array Value) (t k:Nat):Bool:=bif inC (num S 0) (num S 1) k && !(bitI (num S 2) k) then (sumW (chR S t k) 5==(12:Int)) else Ua4 (chR S t k) (#[.int .u8 (0:Int),.int .u8 (0:Int),.int .u8 (0:Int),.int .u8 (0:Int),.int .u8 (0:Int)]:Array Value)
def okD (S:Array Value):Bool:=decide (1≤num S 0)&&decide (num S 0≤6)&&(decide (1≤num S 1)&&decide (num S 1≤6))
def okS (S:Array Value):Bool:=okD S&&((Ubf (num S 2) (Uaz (num S 0) (num S 1) 36)==0)&&(jA 36).all fun k=>fitS S 0 k&&fitS S 1 k)
theorem Yiq (n:Nat) (p:Nat→Bool):((jA n).find? (fun k=> !(p k))).isNone=(jA n).all p:=by
 rw [Bool.eq_iff_iff,Option.isNone_iff_eq_none,List.find?_eq_none,jC]
 simp
theorem all_two (n:Nat) (p q:Nat→Bool):(jA n).all (fun k=>p k&&q k)=((jA n).all p&&(jA n).all q):=by
 rw [Bool.eq_iff_iff,Q7,jC,jC,jC]
 simp only [Q7]
 exact ⟨fun h=>⟨fun x hx=>(h x hx).1,fun x hx=>(h x hx).2⟩,fun h x hx=>⟨h.1 x hx,h.2 x hx⟩⟩
theorem Yol {S:Array Value} (h:WT PZ 41 S) {k:Nat} (hk:k<36):Zao S (k:Int)=inC (num S 0) (num S 1) k:=by rw [Ypt,Ykf h hk]
theorem Ycz {S:Array Value} (h:WT PZ 41 S) {k:Nat} (hk:k<36) (t:Nat):Zb2 S (k:Int) (chR S t k)=fitS S t k:=by
 unfold Zb2 fitS
 rw [Yol h hk]
 unfold Zb3
 rw [Ygi hk]
 cases inC (num S 0) (num S 1) k<;>cases bitI (num S 2) k<;>rfl
theorem Yi0 {S:Array Value} (h:WT PZ 41 S) {k:Nat} (hk:k<36):Za3 (k:Int) S=true∧Zae (k:Int) S=(inC (num S 0) (num S 1) k && !(bitI (num S 2) k)):=by
 have hu:decide (0≤IntKind.u64.wrap (k:Int))=true:=Q3 (Zjk .u64 _).1
 unfold Za3 Zae
 rw [Ykf h hk,Ylc h hk]
 constructor
 ·cases inC (num S 0) (num S 1) k<;>simp [hu]
 ·cases inC (num S 0) (num S 1) k<;>simp
def Zf6:Cons:=(mkΓ [(67,con Zf4),(96,con Zji)])
def Zen (a0:Array Value):St:=(⟨.a (.g a0 41) :: .a (.w 0) :: .a (.b (false)) :: .a (.u) :: .a (.p 0 (0) 22) :: .a (.i .i8 (num a0 0)) :: .a (.b (decide ((num a0 0)<(1:Int)))) :: .a (.b (false)) :: .a (.p 0 (0) 22) :: .a (.i .i8 (num a0 0)) :: .a (.b (decide ((num a0 0) > (6:Int)))) :: .a (.b (decide ((num a0 0) > (6:Int)))) :: .a (.b (false)) :: .a (.p 0 (1) 22) :: .a (.i .i8 (num a0 1)) :: .a (.b (decide ((num a0 1)<(1:Int)))) :: .a (.b (decide ((num a0 1)<(1:Int)))) :: .a (.b (false)) :: .a (.p 0 (1) 22) :: .a (.i .i8 (num a0 1)) :: .a (.b (decide ((num a0 1) > (6:Int)))) :: .a (.b (decide ((num a0 1) > (6:Int)))) :: .a (.p 0 (2) 23) :: .a (.i .u64 (num a0 2)) :: .a (.g a0 41) :: .a (.i .u64 (Uaz (num a0 0) (num a0 1) 36)) :: .a (.i .u64 (IntKind.u64.wrap (BitVec.ofInt IntKind.u64.bits (num a0 2) &&& ~~~(BitVec.ofInt IntKind.u64.bits (Uaz (num a0 0) (num a0 1) 36))).toNat)) :: .a (.b (((IntKind.u64.wrap (BitVec.ofInt IntKind.u64.bits (num a0 2) &&& ~~~(BitVec.ofInt IntKind.u64.bits (Uaz (num a0 0) (num a0 1) 36))).toNat) != (0:Int)))) :: .a (.i .i64 (0:Int))::us 23 ([]),[.row a0 41,.no,.no,.no,.no,.no,.no,.no],[]⟩:St)
def Zfn:Bool×Int→LS
 | (y0_2,y0_28)=>([.a (.b (y0_2)),.a (.i .i64 (y0_28))],[])
def Zmf:(Stp (Bool×Int) (Bool×Int))→Exit×LS
 | .more t=>(.ret,Zfn t)
 | .done t=>((.exit 0),Zfn t)
def Zb9 (P:Program) (a0:Array Value):Bool×Int→Option (Stp (Bool×Int) (Stp (Bool×Int) (Bool×Int)))
  | (y0_2,y0_28)=>bif decide (y0_28<(36:Int)) then (bif (decide (0≤y0_28)&&decide (y0_28<36)) then (bif (bif (Zao a0 y0_28) then decide (0≤y0_28) else true) then (bif (!((Zb2 a0 y0_28 (a0.extract (3+((y0_28).toNat*5)) ((3+((y0_28).toNat*5))+5))))) then (some (.done (.more (false,y0_28))))
          else (bif (decide (0≤y0_28)&&decide (y0_28<36)) then (bif (bif (Zao a0 y0_28) then decide (0≤y0_28) else true) then (bif (!((Zb2 a0 y0_28 (a0.extract (183+((y0_28).toNat*5)) ((183+((y0_28).toNat*5))+5))))) then (some (.done (.more (false,y0_28))))
                else (some (.more (y0_2,(i64.wrap (y0_28+(1:Int)))))))
              else (none))
            else (none)))
        else (none))
      else (none))
    else (some (.done (.done (y0_2,y0_28))))
def Ud5:=(Uaf (codeOf Tryz.f70) [([2,28],[])]).1
theorem Ybq (N:Nat) (a0:Array Value):∀ t:Bool×Int,Uag PZ Zf6 N (cAt (codeOf Tryz.f70) [1,1,1,0,1,0,0]) (pAt Ud5 [1,1,1,0,1,0]) [2,28] [] (Zen a0) (Zfn t)=mapS Zfn Zmf (Zb9 PZ a0 t):=by
  rintro ⟨y0_2,y0_28⟩
  refine Eq.trans (b:=(bif decide (y0_28<(36:Int)) then (bif (decide (0≤y0_28)&&decide (y0_28<36)) then (bif (bif (Zao a0 y0_28) then decide (0≤y0_28) else true) then (bif (!((Zb2 a0 y0_28 (a0.extract (3+((y0_28).toNat*5)) ((3+((y0_28).toNat*5))+5))))) then (some (.done (.ret,([.a (.b (false)),.a (.i .i64 (y0_28))],[]))))
          else (bif (decide (0≤y0_28)&&decide (y0_28<36)) then (bif (bif (Zao a0 y0_28) then decide (0≤y0_28) else true) then (bif (!((Zb2 a0 y0_28 (a0.extract (183+((y0_28).toNat*5)) ((183+((y0_28).toNat*5))+5))))) then (some (.done (.ret,([.a (.b (false)),.a (.i .i64 (y0_28))],[]))))
                else (some (.more ([.a (.b (y0_2)),.a (.i .i64 (i64.wrap (y0_28+(1:Int))))],[]))))
              else (none))
            else (none)))
        else (none))
      else (none))
    else (some (.done ((.exit 0),([.a (.b (y0_2)),.a (.i .i64 (y0_28))],[])))))) (by kernel_rfl) ?_
  simp only [Zb9,Zaz,Zay,Za1,Za0,Zfn,Zmf]
def Zk1 (P:Program) (N:Nat) (a0:Array Value) (z0_2:Bool) (z0_28:Int):Option (SV×Eff×Bool):=some (.a (.b (z0_2)),.none,true)
def Uev (N:Nat):=(Uan 0 (kSeq (veC PZ Zf6 N (cAt (codeOf Tryz.f70) [1,1,1,1]) (pAt Ud5 [1,1,1,1]) (SV×Eff×Bool)) (finK PZ [] [.tmp 2])))
theorem Zss (N:Nat) (a0:Array Value) (z0_2:Bool) (z0_28:Int):(Uev N) .ret (left (writes (cAt (codeOf Tryz.f70) [1,1,1,0,1,0,0])) [2,28] [] (Zen a0) ([.a (.b (z0_2)),.a (.i .i64 (z0_28))],[]))=Zk1 PZ N a0 z0_2 z0_28:=by
 refine Eq.trans (b:=(some (.a (.b (z0_2)),.none,true))) (by kernel_rfl) ?_
 rfl
def Zk4 (P:Program) (N:Nat) (a0:Array Value) (z0_2:Bool) (z0_28:Int):Option (SV×Eff×Bool):=some (.a (.b (true)),.none,true)
theorem Zr8 (N:Nat) (a0:Array Value) (z0_2:Bool) (z0_28:Int):(Uev N) (.exit 0) (left (writes (cAt (codeOf Tryz.f70) [1,1,1,0,1,0,0])) [2,28] [] (Zen a0) ([.a (.b (z0_2)),.a (.i .i64 (z0_28))],[]))=Zk4 PZ N a0 z0_2 z0_28:=by
 refine Eq.trans (b:=(some (.a (.b (true)),.none,true))) (by kernel_rfl) ?_
 rfl
theorem Ycl (N:Nat) (a0:Array Value):Uah (Uaa (Uag PZ Zf6 N (cAt (codeOf Tryz.f70) [1,1,1,0,1,0,0]) (pAt Ud5 [1,1,1,0,1,0]) [2,28] [] (Zen a0)) N ([.a (.b (false)),.a (.i .i64 (0:Int))],[])) (fun e s=>(Uev N) e (left (writes (cAt (codeOf Tryz.f70) [1,1,1,0,1,0,0])) [2,28] [] (Zen a0) s))=Uak (Uaa (Zb9 PZ a0) N (false,(0:Int))) (st2 (fun x=>Zk1 PZ N a0 x.1 x.2) (fun x=>Zk4 PZ N a0 x.1 x.2)):=by
 refine Zbd Zfn Zmf _ _ (Ybq N a0) N (false,(0:Int)) _ _ ?_
 intro x
 cases x with
 | more x=>exact Zss N a0 x.1 x.2
 | done x=>exact Zr8 N a0 x.1 x.2
theorem Zzx (N:Nat) (a0:Array Value):ansV PZ Zf6 N Tryz.f70 [([2,28],[])] [.g a0 41] []=(bif decide ((num a0 0)<(1:Int)) then (some (.a (.b (false)),.none,true))
    else (bif decide ((num a0 0) > (6:Int)) then (some (.a (.b (false)),.none,true))
      else (bif decide ((num a0 1)<(1:Int)) then (some (.a (.b (false)),.none,true))
        else (bif decide ((num a0 1) > (6:Int)) then (some (.a (.b (false)),.none,true))
          else (bif (decide (0≤num a0 0)&&decide (num a0 0≤6)&&(decide (0≤num a0 1)&&decide (num a0 1≤6))) then (bif ((IntKind.u64.wrap (BitVec.ofInt IntKind.u64.bits (num a0 2) &&& ~~~(BitVec.ofInt IntKind.u64.bits (Uaz (num a0 0) (num a0 1) 36))).toNat) != (0:Int)) then (some (.a (.b (false)),.none,true))
              else (Uak (Uaa (Zb9 PZ a0) N (false,(0:Int))) (st2 (fun x=>Zk1 PZ N a0 x.1 x.2) (fun x=>Zk4 PZ N a0 x.1 x.2))))
            else (none)))))):=by
  refine Eq.trans (b:=(bif decide ((num a0 0)<(1:Int)) then (some (.a (.b (false)),.none,true))
    else (bif decide ((num a0 0) > (6:Int)) then (some (.a (.b (false)),.none,true))
      else (bif decide ((num a0 1)<(1:Int)) then (some (.a (.b (false)),.none,true))
        else (bif decide ((num a0 1) > (6:Int)) then (some (.a (.b (false)),.none,true))
          else (bif (decide (0≤num a0 0)&&decide (num a0 0≤6)&&(decide (0≤num a0 1)&&decide (num a0 1≤6))) then (bif ((IntKind.u64.wrap (BitVec.ofInt IntKind.u64.bits (num a0 2) &&& ~~~(BitVec.ofInt IntKind.u64.bits (Uaz (num a0 0) (num a0 1) 36))).toNat) != (0:Int)) then (some (.a (.b (false)),.none,true))
              else (Uah (Uaa (Uag PZ Zf6 N (cAt (codeOf Tryz.f70) [1,1,1,0,1,0,0]) (pAt Ud5 [1,1,1,0,1,0]) [2,28] [] (Zen a0)) N ([.a (.b (false)),.a (.i .i64 (0:Int))],[])) (fun e s=>(Uev N) e (left (writes (cAt (codeOf Tryz.f70) [1,1,1,0,1,0,0])) [2,28] [] (Zen a0) s))))
            else (none))))))) (by kernel_rfl) ?_
  simp only [Ycl N a0]
theorem Zw5 (a0:Array Value) (h_a0:WT PZ 41 a0) (hg:(true)=true):ansV PZ Zf6 1000 Tryz.f70 [([2,28],[])] [.g a0 41] []=some (.a (.b ((okS a0))),.none,true):=by
 refine (Zzx 1000 a0).trans ?_
 have h:=Yfh (g:=Zb9 PZ a0) (fun k=>(false,(k:Int))) (fun k=> !(fitS a0 0 k&&fitS a0 1 k)) 36 (N:=1000) (by omega) (xd:=.done (false,((36:Nat):Int))) (fun k=>.more (false,(k:Int))) (fun k hk hp=>by
  have h1:decide ((k:Int)<36)=true:=Q3 (by omega)
  have h0:decide (0≤(k:Int))=true:=Q3 (by omega)
  have h3:i64.wrap ((k:Int)+1)=((k+1:Nat):Int):=by rw [IntWalk.i64_in _ (by omega)];omega
  have f0:=Ycz h_a0 hk 0
  have f1:=Ycz h_a0 hk 1
  unfold chR at f0 f1
  rw [show 3+0*180+k*5=3+k*5 by omega] at f0
  rw [show 3+1*180+k*5=183+k*5 by omega] at f1
  have hg:(bif Zao a0 (k:Int) then true else true)=true:=by cases Zao a0 (k:Int)<;>rfl
  simp only [Bool.not_eq_false',Q7] at hp
  simp only [Zb9,h1,h0,h3,jB,Q1,Q9,hg,f0,f1,hp.1,hp.2,Bool.not_true,Q2]) (fun k hk hp=>by
  have h1:decide ((k:Int)<36)=true:=Q3 (by omega)
  have h0:decide (0≤(k:Int))=true:=Q3 (by omega)
  have f0:=Ycz h_a0 hk 0
  have f1:=Ycz h_a0 hk 1
  unfold chR at f0 f1
  rw [show 3+0*180+k*5=3+k*5 by omega] at f0
  rw [show 3+1*180+k*5=183+k*5 by omega] at f1
  have hg:(bif Zao a0 (k:Int) then true else true)=true:=by cases Zao a0 (k:Int)<;>rfl
  cases e0:fitS a0 0 k with
  | false=>simp only [Zb9,h1,h0,jB,Q1,Q9,hg,f0,e0,jD]
  | true=>
   rw [e0] at hp
   have e1:fitS a0 1 k=false:=by simpa using hp
   simp only [Zb9,h1,h0,jB,Q1,Q9,hg,f0,f1,e0,e1,jD,Bool.not_true,Q2]) (by
  have h1:decide (((36:Nat):Int)<36)=false:=by decide
  simp only [Zb9,h1,Q2])
 have h':Uaa (Zb9 PZ a0) 1000 (false,(0:Int))=some (match (jA 36).find? (fun k=> !(fitS a0 0 k&&fitS a0 1 k)) with | some k=>.more (false,(k:Int)) | none=>.done (false,((36:Nat):Int))):=h
 have hf:=Yiq 36 (fun k=>fitS a0 0 k&&fitS a0 1 k)
 unfold okS okD
 by_cases d1:1≤num a0 0
 ·rw [Q3 d1,Q4 (show ¬ num a0 0<1 by omega)]
  by_cases d2:num a0 0≤6
  ·rw [Q3 d2,Q4 (show ¬ num a0 0 > 6 by omega)]
   by_cases d3:1≤num a0 1
   ·rw [Q3 d3,Q4 (show ¬ num a0 1<1 by omega)]
    by_cases d4:num a0 1≤6
    ·rw [Q3 d4,Q4 (show ¬ num a0 1 > 6 by omega),Q3 (show 0≤num a0 0 by omega),Q3 (show 0≤num a0 1 by omega)]
     simp only [jB,Q1,Q2,Bool.true_and,h']
     rw [show IntKind.u64.wrap (BitVec.ofInt IntKind.u64.bits (num a0 2) &&& ~~~(BitVec.ofInt IntKind.u64.bits (Uaz (num a0 0) (num a0 1) 36))).toNat=Ubf (num a0 2) (Uaz (num a0 0) (num a0 1) 36) from rfl]
     cases hb:(Ubf (num a0 2) (Uaz (num a0 0) (num a0 1) 36)==0) with
     | false=>rw [show (Ubf (num a0 2) (Uaz (num a0 0) (num a0 1) 36) != 0)=true by simp [bne,hb]];rfl
     | true=>
      rw [show (Ubf (num a0 2) (Uaz (num a0 0) (num a0 1) 36) != 0)=false by simp [bne,hb],← hf]
      cases (jA 36).find? (fun k=> !(fitS a0 0 k&&fitS a0 1 k))<;>rfl
    ·rw [Q4 d4,Q3 (show num a0 1 > 6 by omega)];rfl
   ·rw [Q4 d3,Q3 (show num a0 1<1 by omega)];rfl
  ·rw [Q4 d2,Q3 (show num a0 0 > 6 by omega)];rfl
 ·rw [Q4 d1,Q3 (show num a0 0<1 by omega)];rfl
def Zlf:Con:=fun args h=>match args,h with
 | [.g a0 41],[]=>some (.a (.b ((okS a0))),.none,true)
 | _,_=>none
theorem Zv3:EntX PZ 70:=Zag (fn:=Tryz.f70) (by kernel_rfl) (by kernel_rfl) (by kernel_rfl)
theorem Ybw:Uab mn PZ 70 Zlf:=(Zaf (N:=1000) (by kernel_rfl) (mkΓ_consX (Zac Zrd) Znp (mkΓ_consX (Zac Zyd) Ztj mkΓ_nilX)) (fn:=Tryz.f70) (by kernel_rfl) (by kernel_rfl) [([2,28],[])]).of (by
 intro ρ h w args vals r e hA hH hr
 unfold Zlf at hr
 split at hr
 ·rename_i a0
  obtain ⟨rfl,rfl,hg2⟩:=BQi hr
  exact Zw5 a0 (hA.wt 0 rfl) hg2
 ·cases hr)
def Zez:Cons:=(mkΓ [(38,con Zhu),(47,con Zcw),(55,con Zig),(81,con Zjs)])
def Zgy (a0:Array Value) (y0_2:Bool) (y0_3:Int):St:=(⟨.a (.w 0) :: .a (.u) :: .a (.b (y0_2)) :: .a (.i .i64 (y0_3)) :: .a (.i .i64 (0:Int)) :: .a (.x) :: .a (.w 0) :: .a (.w 0) :: .a (.p 0 (0) 22) :: .a (.i .i8 (num a0 0)) :: .a (.i .i64 (i64.wrap (num a0 0))) :: .a (.b ((Zaa (i64.wrap (num a0 0)) (1:Int) (6:Int)))) :: .a (.b ((!((Zaa (i64.wrap (num a0 0)) (1:Int) (6:Int)))))) :: .a (.b (false)) :: .a (.w 0) :: .a (.w 0) :: .a (.p 0 (1) 22) :: .a (.i .i8 (num a0 1)) :: .a (.i .i64 (i64.wrap (num a0 1))) :: .a (.b ((Zaa (i64.wrap (num a0 1)) (1:Int) (6:Int)))) :: .a (.b ((!((Zaa (i64.wrap (num a0 1)) (1:Int) (6:Int)))))) :: .a (.b ((!((Zaa (i64.wrap (num a0 1)) (1:Int) (6:Int)))))) :: .a (.b (false)) :: .a (.w 0) :: .a (.w 0) :: .a (.p 0 (2) 23) :: .a (.i .u64 (num a0 2)) :: .a (.w 0) :: .a (.i .u64 (Uaz (num a0 0) (num a0 1) 36)) :: .a (.i .u64 (IntKind.u64.wrap (BitVec.ofInt IntKind.u64.bits (num a0 2) &&& ~~~(BitVec.ofInt IntKind.u64.bits (Uaz (num a0 0) (num a0 1) 36))).toNat)) :: .a (.b (((IntKind.u64.wrap (BitVec.ofInt IntKind.u64.bits (num a0 2) &&& ~~~(BitVec.ofInt IntKind.u64.bits (Uaz (num a0 0) (num a0 1) 36))).toNat) != (0:Int)))) :: .a (.b (((IntKind.u64.wrap (BitVec.ofInt IntKind.u64.bits (num a0 2) &&& ~~~(BitVec.ofInt IntKind.u64.bits (Uaz (num a0 0) (num a0 1) 36))).toNat) != (0:Int)))) :: .a (.i .i64 (y0_3)) :: .a (.b (decide (y0_3<(2:Int))))::xs 33 ([]),[.row a0 41,.no,.no,.no,.no,.no,.no,.no,.no,.no,.no,.no,.no,.no,.no,.no,.no,.no,.no,.no,.no,.no,.no,.no,.no,.no,.no],[]⟩:St)
def Zia:Bool×Int→LS
 | (y1_2,y1_4)=>([.a (.b (y1_2)),.a (.i .i64 (y1_4))],[])
def Zqe:(Stp (Bool×Int) (Bool×Int))→Exit×LS
 | .more t=>(.ret,Zia t)
 | .done t=>((.exit 2),Zia t)
def Zdh (P : Program) (a0 : Array Value) (y0_2 : Bool) (y0_3 : Int) : Bool × Int → Option (Stp (Bool × Int) (Stp (Bool × Int) (Bool × Int)))
  | (y1_2, y1_4) => bif decide (y1_4 < (36 : Int)) then (bif (decide (0 ≤ y0_3) && decide (y0_3 < 2)) then (bif (decide (0 ≤ y1_4) && decide (y1_4 < 36)) then (bif (Za3 y1_4 a0) then (bif (Zae y1_4 a0) then (bif (!((sumW (a0.extract ((3 + ((y0_3).toNat * 180)) + ((y1_4).toNat * 5)) (((3 + ((y0_3).toNat * 180)) + ((y1_4).toNat * 5)) + 5)) 5 == (12 : Int)))) then (some (.done (.more (false, y1_4))))
              else (bif (Za3 y1_4 a0) then (bif (!((Zae y1_4 a0))) then (bif (!(Ua4 (a0.extract ((3 + ((y0_3).toNat * 180)) + ((y1_4).toNat * 5)) (((3 + ((y0_3).toNat * 180)) + ((y1_4).toNat * 5)) + 5)) (#[.int .u8 (0 : Int), .int .u8 (0 : Int), .int .u8 (0 : Int), .int .u8 (0 : Int), .int .u8 (0 : Int)] : Array Value))) then (some (.done (.more (false, y1_4))))
                    else (some (.more (y1_2, (i64.wrap (y1_4 + (1 : Int)))))))
                  else (some (.more (y1_2, (i64.wrap (y1_4 + (1 : Int)))))))
                else (none)))
            else (bif (Za3 y1_4 a0) then (bif (!((Zae y1_4 a0))) then (bif (!(Ua4 (a0.extract ((3 + ((y0_3).toNat * 180)) + ((y1_4).toNat * 5)) (((3 + ((y0_3).toNat * 180)) + ((y1_4).toNat * 5)) + 5)) (#[.int .u8 (0 : Int), .int .u8 (0 : Int), .int .u8 (0 : Int), .int .u8 (0 : Int), .int .u8 (0 : Int)] : Array Value))) then (some (.done (.more (false, y1_4))))
                  else (some (.more (y1_2, (i64.wrap (y1_4 + (1 : Int)))))))
                else (some (.more (y1_2, (i64.wrap (y1_4 + (1 : Int)))))))
              else (none)))
          else (none))
        else (none))
      else (none))
    else (some (.done (.done (y1_2, y1_4))))
def Ub4:=(Uaf (codeOf Tryz.f53) [([2,3],[]),([2,4],[])]).1
theorem Yhi (N:Nat) (a0:Array Value) (y0_2:Bool) (y0_3:Int):∀ t:Bool×Int,Uag PZ Zez N (cAt (codeOf Tryz.f53) [1,1,0,1,0,0,1,0,0,1,0,0]) (pAt Ub4 [1,1,0,1,0,1,0,1,0]) [2,4] [] (Zgy a0 y0_2 y0_3) (Zia t)=mapS Zia Zqe (Zdh PZ a0 y0_2 y0_3 t):=by
  rintro ⟨y1_2,y1_4⟩
  refine Eq.trans (b:=(bif decide (y1_4<(36:Int)) then (bif (decide (0≤y0_3)&&decide (y0_3<2)) then (bif (decide (0≤y1_4)&&decide (y1_4<36)) then (bif (Za3 y1_4 a0) then (bif (Zae y1_4 a0) then (bif (!((sumW (a0.extract ((3+((y0_3).toNat*180))+((y1_4).toNat*5)) (((3+((y0_3).toNat*180))+((y1_4).toNat*5))+5)) 5==(12:Int)))) then (some (.done (.ret,([.a (.b (false)),.a (.i .i64 (y1_4))],[]))))
              else (bif (Za3 y1_4 a0) then (bif (!((Zae y1_4 a0))) then (bif (!(Ua4 (a0.extract ((3+((y0_3).toNat*180))+((y1_4).toNat*5)) (((3+((y0_3).toNat*180))+((y1_4).toNat*5))+5)) (#[.int .u8 (0:Int),.int .u8 (0:Int),.int .u8 (0:Int),.int .u8 (0:Int),.int .u8 (0:Int)]:Array Value))) then (some (.done (.ret,([.a (.b (false)),.a (.i .i64 (y1_4))],[]))))
                    else (some (.more ([.a (.b (y1_2)),.a (.i .i64 (i64.wrap (y1_4+(1:Int))))],[]))))
                  else (some (.more ([.a (.b (y1_2)),.a (.i .i64 (i64.wrap (y1_4+(1:Int))))],[]))))
                else (none)))
            else (bif (Za3 y1_4 a0) then (bif (!((Zae y1_4 a0))) then (bif (!(Ua4 (a0.extract ((3+((y0_3).toNat*180))+((y1_4).toNat*5)) (((3+((y0_3).toNat*180))+((y1_4).toNat*5))+5)) (#[.int .u8 (0:Int),.int .u8 (0:Int),.int .u8 (0:Int),.int .u8 (0:Int),.int .u8 (0:Int)]:Array Value))) then (some (.done (.ret,([.a (.b (false)),.a (.i .i64 (y1_4))],[]))))
                  else (some (.more ([.a (.b (y1_2)),.a (.i .i64 (i64.wrap (y1_4+(1:Int))))],[]))))
                else (some (.more ([.a (.b (y1_2)),.a (.i .i64 (i64.wrap (y1_4+(1:Int))))],[]))))
              else (none)))
          else (none))
        else (none))
      else (none))
    else (some (.done ((.exit 2),([.a (.b (y1_2)),.a (.i .i64 (y1_4))],[])))))) (by kernel_rfl) ?_
  simp only [Zdh,Zaz,Zay,Za1,Za0,Zia,Zqe]
def Zg7 (a0:Array Value):St:=(⟨.a (.w 0) :: .a (.u) :: .a (.b (false)) :: .a (.i .i64 (0:Int)) :: .a (.u) :: .a (.u) :: .a (.w 0) :: .a (.w 0) :: .a (.p 0 (0) 22) :: .a (.i .i8 (num a0 0)) :: .a (.i .i64 (i64.wrap (num a0 0))) :: .a (.b ((Zaa (i64.wrap (num a0 0)) (1:Int) (6:Int)))) :: .a (.b ((!((Zaa (i64.wrap (num a0 0)) (1:Int) (6:Int)))))) :: .a (.b (false)) :: .a (.w 0) :: .a (.w 0) :: .a (.p 0 (1) 22) :: .a (.i .i8 (num a0 1)) :: .a (.i .i64 (i64.wrap (num a0 1))) :: .a (.b ((Zaa (i64.wrap (num a0 1)) (1:Int) (6:Int)))) :: .a (.b ((!((Zaa (i64.wrap (num a0 1)) (1:Int) (6:Int)))))) :: .a (.b ((!((Zaa (i64.wrap (num a0 1)) (1:Int) (6:Int)))))) :: .a (.b (false)) :: .a (.w 0) :: .a (.w 0) :: .a (.p 0 (2) 23) :: .a (.i .u64 (num a0 2)) :: .a (.w 0) :: .a (.i .u64 (Uaz (num a0 0) (num a0 1) 36)) :: .a (.i .u64 (IntKind.u64.wrap (BitVec.ofInt IntKind.u64.bits (num a0 2) &&& ~~~(BitVec.ofInt IntKind.u64.bits (Uaz (num a0 0) (num a0 1) 36))).toNat)) :: .a (.b (((IntKind.u64.wrap (BitVec.ofInt IntKind.u64.bits (num a0 2) &&& ~~~(BitVec.ofInt IntKind.u64.bits (Uaz (num a0 0) (num a0 1) 36))).toNat) != (0:Int)))) :: .a (.b (((IntKind.u64.wrap (BitVec.ofInt IntKind.u64.bits (num a0 2) &&& ~~~(BitVec.ofInt IntKind.u64.bits (Uaz (num a0 0) (num a0 1) 36))).toNat) != (0:Int))))::us 35 ([]),[.row a0 41,.no,.no,.no,.no,.no,.no,.no,.no,.no,.no,.no,.no,.no,.no,.no,.no,.no,.no,.no,.no,.no,.no,.no,.no,.no,.no],[]⟩:St)
def Zcz:Bool×Int→LS
 | (y0_2,y0_3)=>([.a (.b (y0_2)),.a (.i .i64 (y0_3))],[])
def Zex:(Stp (Bool×Int) (Bool×Int))→Exit×LS
 | .more t=>(.ret,Zcz t)
 | .done t=>((.exit 0),Zcz t)
def Zh1 (P:Program) (N:Nat) (a0:Array Value) (y0_2:Bool) (y0_3:Int) (z1_2:Bool) (z1_4:Int):Option (Stp (Bool×Int) (Stp (Bool×Int) (Bool×Int))):=some (.done (.more (z1_2,y0_3)))
def Ud1 (N:Nat):=(Uan 2 (Uan 1 (kSeq (veC PZ Zez N (cAt (codeOf Tryz.f53) [1,1,0,1,0,0,1,1]) (pAt Ub4 [1,1,0,1,0,1,1]) (Stp LS (Exit×LS))) (Ue2 27 [2,3] []))))
theorem Zw4 (N:Nat) (a0:Array Value) (y0_2:Bool) (y0_3:Int) (z1_2:Bool) (z1_4:Int):(Ud1 N) .ret (left (writes (cAt (codeOf Tryz.f53) [1,1,0,1,0,0,1,0,0,1,0,0])) [2,4] [] (Zgy a0 y0_2 y0_3) ([.a (.b (z1_2)),.a (.i .i64 (z1_4))],[]))=mapS Zcz Zex (Zh1 PZ N a0 y0_2 y0_3 z1_2 z1_4):=by
 refine Eq.trans (b:=(some (.done (.ret,([.a (.b (z1_2)),.a (.i .i64 (y0_3))],[]))))) (by kernel_rfl) ?_
 simp only [Zh1,Zaz,Zay,Za1,Za0,Zcz,Zex]
def Zh2 (P:Program) (N:Nat) (a0:Array Value) (y0_2:Bool) (y0_3:Int) (z1_2:Bool) (z1_4:Int):Option (Stp (Bool×Int) (Stp (Bool×Int) (Bool×Int))):=some (.more (z1_2,(i64.wrap (y0_3+(1:Int)))))
theorem Zyv (N:Nat) (a0:Array Value) (y0_2:Bool) (y0_3:Int) (z1_2:Bool) (z1_4:Int):(Ud1 N) (.exit 2) (left (writes (cAt (codeOf Tryz.f53) [1,1,0,1,0,0,1,0,0,1,0,0])) [2,4] [] (Zgy a0 y0_2 y0_3) ([.a (.b (z1_2)),.a (.i .i64 (z1_4))],[]))=mapS Zcz Zex (Zh2 PZ N a0 y0_2 y0_3 z1_2 z1_4):=by
 refine Eq.trans (b:=(some (.more ([.a (.b (z1_2)),.a (.i .i64 (i64.wrap (y0_3+(1:Int))))],[])))) (by kernel_rfl) ?_
 simp only [Zh2,Zaz,Zay,Za1,Za0,Zcz,Zex]
theorem Yhw (N:Nat) (a0:Array Value) (y0_2:Bool) (y0_3:Int):Uah (Uaa (Uag PZ Zez N (cAt (codeOf Tryz.f53) [1,1,0,1,0,0,1,0,0,1,0,0]) (pAt Ub4 [1,1,0,1,0,1,0,1,0]) [2,4] [] (Zgy a0 y0_2 y0_3)) N ([.a (.b (y0_2)),.a (.i .i64 (0:Int))],[])) (fun e s=>(Ud1 N) e (left (writes (cAt (codeOf Tryz.f53) [1,1,0,1,0,0,1,0,0,1,0,0])) [2,4] [] (Zgy a0 y0_2 y0_3) s))=mapS Zcz Zex (Uak (Uaa (Zdh PZ a0 y0_2 y0_3) N (y0_2,(0:Int))) (st2 (fun x=>Zh1 PZ N a0 y0_2 y0_3 x.1 x.2) (fun x=>Zh2 PZ N a0 y0_2 y0_3 x.1 x.2))):=by
 have h:=Zbd (α:=Stp LS (Exit×LS)) Zia Zqe _ _ (Yhi N a0 y0_2 y0_3) N (y0_2,(0:Int))
 rw [Ya9 Zcz Zex]
 refine h _ _ ?_
 intro x
 cases x with
 | more x=>exact Zw4 N a0 y0_2 y0_3 x.1 x.2
 | done x=>exact Zyv N a0 y0_2 y0_3 x.1 x.2
def Zey (P:Program) (N:Nat) (a0:Array Value):Bool×Int→Option (Stp (Bool×Int) (Stp (Bool×Int) (Bool×Int)))
 | (y0_2,y0_3)=>bif decide (y0_3<(2:Int)) then (Uak (Uaa (Zdh P a0 y0_2 y0_3) N (y0_2,(0:Int))) (st2 (fun x=>Zh1 P N a0 y0_2 y0_3 x.1 x.2) (fun x=>Zh2 P N a0 y0_2 y0_3 x.1 x.2)))
  else (some (.done (.done (y0_2,y0_3))))
theorem Yh2 (N:Nat) (a0:Array Value):∀ t:Bool×Int,Uag PZ Zez N (cAt (codeOf Tryz.f53) [1,1,0,1,0,0]) (pAt Ub4 [1,1,0,1,0]) [2,3] [] (Zg7 a0) (Zcz t)=mapS Zcz Zex (Zey PZ N a0 t):=by
 rintro ⟨y0_2,y0_3⟩
 refine Eq.trans (b:=(bif decide (y0_3<(2:Int)) then (Uah (Uaa (Uag PZ Zez N (cAt (codeOf Tryz.f53) [1,1,0,1,0,0,1,0,0,1,0,0]) (pAt Ub4 [1,1,0,1,0,1,0,1,0]) [2,4] [] (Zgy a0 y0_2 y0_3)) N ([.a (.b (y0_2)),.a (.i .i64 (0:Int))],[])) (fun e s=>(Ud1 N) e (left (writes (cAt (codeOf Tryz.f53) [1,1,0,1,0,0,1,0,0,1,0,0])) [2,4] [] (Zgy a0 y0_2 y0_3) s)))
  else (some (.done ((.exit 0),([.a (.b (y0_2)),.a (.i .i64 (y0_3))],[])))))) (by kernel_rfl) ?_
 simp only [Yhw N a0 y0_2 y0_3,Zey,Zaz,Zay,Za1,Za0,Zcz,Zex]
def Znj (P:Program) (N:Nat) (a0:Array Value) (z0_2:Bool) (z0_3:Int):Option (SV×Eff×Bool):=some (.a (.b (z0_2)),.none,true)
def Uek (N:Nat) (a0:Array Value):=(Uan 0 (kSeq (veC PZ Zez N (cAt (codeOf Tryz.f53) [1,1,1]) (pAt Ub4 [1,1,1]) (SV×Eff×Bool)) (finK PZ [.row a0 41] [.tmp 2])))
theorem Zye (N:Nat) (a0:Array Value) (z0_2:Bool) (z0_3:Int):(Uek N a0) .ret (left (writes (cAt (codeOf Tryz.f53) [1,1,0,1,0,0])) [2,3] [] (Zg7 a0) ([.a (.b (z0_2)),.a (.i .i64 (z0_3))],[]))=Znj PZ N a0 z0_2 z0_3:=by
 refine Eq.trans (b:=(some (.a (.b (z0_2)),.none,true))) (by kernel_rfl) ?_
 rfl
def Zno (P:Program) (N:Nat) (a0:Array Value) (z0_2:Bool) (z0_3:Int):Option (SV×Eff×Bool):=some (.a (.b (true)),.none,true)
theorem Zxj (N:Nat) (a0:Array Value) (z0_2:Bool) (z0_3:Int):(Uek N a0) (.exit 0) (left (writes (cAt (codeOf Tryz.f53) [1,1,0,1,0,0])) [2,3] [] (Zg7 a0) ([.a (.b (z0_2)),.a (.i .i64 (z0_3))],[]))=Zno PZ N a0 z0_2 z0_3:=by
 refine Eq.trans (b:=(some (.a (.b (true)),.none,true))) (by kernel_rfl) ?_
 rfl
theorem Yhm (N:Nat) (a0:Array Value):Uah (Uaa (Uag PZ Zez N (cAt (codeOf Tryz.f53) [1,1,0,1,0,0]) (pAt Ub4 [1,1,0,1,0]) [2,3] [] (Zg7 a0)) N ([.a (.b (false)),.a (.i .i64 (0:Int))],[])) (fun e s=>(Uek N a0) e (left (writes (cAt (codeOf Tryz.f53) [1,1,0,1,0,0])) [2,3] [] (Zg7 a0) s))=Uak (Uaa (Zey PZ N a0) N (false,(0:Int))) (st2 (fun x=>Znj PZ N a0 x.1 x.2) (fun x=>Zno PZ N a0 x.1 x.2)):=by
 refine Zbd Zcz Zex _ _ (Yh2 N a0) N (false,(0:Int)) _ _ ?_
 intro x
 cases x with
 | more x=>exact Zye N a0 x.1 x.2
 | done x=>exact Zxj N a0 x.1 x.2
theorem Yf1 (N:Nat) (a0:Array Value):ansV PZ Zez N Tryz.f53 [([2,3],[]),([2,4],[])] [.w 0] [.row a0 41]=(bif (!((Zaa (i64.wrap (num a0 0)) (1:Int) (6:Int)))) then (some (.a (.b (false)),.none,true))
  else (bif (!((Zaa (i64.wrap (num a0 1)) (1:Int) (6:Int)))) then (some (.a (.b (false)),.none,true))
   else (bif ((IntKind.u64.wrap (BitVec.ofInt IntKind.u64.bits (num a0 2) &&& ~~~(BitVec.ofInt IntKind.u64.bits (Uaz (num a0 0) (num a0 1) 36))).toNat) != (0:Int)) then (some (.a (.b (false)),.none,true))
    else (Uak (Uaa (Zey PZ N a0) N (false,(0:Int))) (st2 (fun x=>Znj PZ N a0 x.1 x.2) (fun x=>Zno PZ N a0 x.1 x.2)))))):=by
 refine Eq.trans (b:=(bif (!((Zaa (i64.wrap (num a0 0)) (1:Int) (6:Int)))) then (some (.a (.b (false)),.none,true))
  else (bif (!((Zaa (i64.wrap (num a0 1)) (1:Int) (6:Int)))) then (some (.a (.b (false)),.none,true))
   else (bif ((IntKind.u64.wrap (BitVec.ofInt IntKind.u64.bits (num a0 2) &&& ~~~(BitVec.ofInt IntKind.u64.bits (Uaz (num a0 0) (num a0 1) 36))).toNat) != (0:Int)) then (some (.a (.b (false)),.none,true))
    else (Uah (Uaa (Uag PZ Zez N (cAt (codeOf Tryz.f53) [1,1,0,1,0,0]) (pAt Ub4 [1,1,0,1,0]) [2,3] [] (Zg7 a0)) N ([.a (.b (false)),.a (.i .i64 (0:Int))],[])) (fun e s=>(Uek N a0) e (left (writes (cAt (codeOf Tryz.f53) [1,1,0,1,0,0])) [2,3] [] (Zg7 a0) s))))))) (by kernel_rfl) ?_
 simp only [Yhm N a0]
theorem Ymf {S:Array Value} (h:WT PZ 41 S) {t:Nat} (ht:t<2) (b:Bool):Uaa (Zdh PZ S b (t:Int)) 1000 (b,(0:Int))=some (match (jA 36).find? (fun k=> !(fitS S t k)) with | some k=>.more (false,(k:Int)) | none=>.done (b,((36:Nat):Int))):=by
 have htt:decide (0≤(t:Int))=true:=Q3 (by omega)
 have ht2:decide ((t:Int)<2)=true:=Q3 (by omega)
 exact Yfh (g:=Zdh PZ S b (t:Int)) (fun k=>(b,(k:Int))) (fun k=> !(fitS S t k)) 36 (N:=1000) (by omega) (xd:=.done (b,((36:Nat):Int))) (fun k=>.more (false,(k:Int))) (fun k hk hp=>by
  have h1:decide ((k:Int)<36)=true:=Q3 (by omega)
  have h0:decide (0≤(k:Int))=true:=Q3 (by omega)
  have h3:i64.wrap ((k:Int)+1)=((k+1:Nat):Int):=by rw [IntWalk.i64_in _ (by omega)];omega
  obtain ⟨w1,w2⟩:=Yi0 h hk
  rw [Bool.not_eq_false'] at hp
  unfold fitS chR at hp
  rw [← w2] at hp
  cases hw:Zae (k:Int) S with
  | false=>
   rw [hw] at hp
   simp only [Q2] at hp
   simp only [Zdh,h1,h0,h3,htt,ht2,w1,hw,jB,jD,Q1,Q2,Q9,hp,Bool.not_true]
  | true=>
   rw [hw] at hp
   simp only [Q1] at hp
   simp only [Zdh,h1,h0,h3,htt,ht2,w1,hw,jB,Bool.not_true,Q1,Q2,Q9,hp]) (fun k hk hp=>by
  have h1:decide ((k:Int)<36)=true:=Q3 (by omega)
  have h0:decide (0≤(k:Int))=true:=Q3 (by omega)
  obtain ⟨w1,w2⟩:=Yi0 h hk
  rw [Bool.not_eq_true'] at hp
  unfold fitS chR at hp
  rw [← w2] at hp
  cases hw:Zae (k:Int) S with
  | false=>
   rw [hw] at hp
   simp only [Q2] at hp
   simp only [Zdh,h1,h0,htt,ht2,w1,hw,jB,jD,Q1,Q2,Q9,hp]
  | true=>
   rw [hw] at hp
   simp only [Q1] at hp
   simp only [Zdh,h1,h0,htt,ht2,w1,hw,jB,Bool.not_true,jD,Q1,Q2,Q9,hp]) (by
  have h1:decide (((36:Nat):Int)<36)=false:=by decide
  simp only [Zdh,h1,Q2])
theorem Yc8 (a0:Array Value) (h_a0:WT PZ 41 a0) (hg:(true)=true):ansV PZ Zez 1000 Tryz.f53 [([2,3],[]),([2,4],[])] [.w 0] [.row a0 41]=some (.a (.b ((okS a0))),.none,true):=by
 refine (Yf1 1000 a0).trans ?_
 obtain ⟨s0,b0,b1⟩:=h_a0.int (o:=0) (k:=.i8) (by kernel_rfl)
 obtain ⟨s1,b2,b3⟩:=h_a0.int (o:=1) (k:=.i8) (by kernel_rfl)
 have e1:IntKind.i8.min = -128:=rfl
 have e2:IntKind.i8.max=127:=rfl
 have h:=Yfh (g:=Zey PZ 1000 a0) (fun t=>(false,(t:Int))) (fun t=>((jA 36).find? (fun k=> !(fitS a0 t k))).isSome) 2 (N:=1000) (by omega) (xd:=.done (false,((2:Nat):Int))) (fun t=>.more (false,(t:Int))) (fun t ht hp=>by
  have h1:decide ((t:Int)<2)=true:=Q3 (by omega)
  have h3:i64.wrap ((t:Int)+1)=((t+1:Nat):Int):=by rw [IntWalk.i64_in _ (by omega)];omega
  have hn:(jA 36).find? (fun k=> !(fitS a0 t k))=none:=by simpa using hp
  have hi:=Ymf h_a0 ht false
  rw [hn] at hi
  simp only [Zey,h1,Q1,hi,Uak,st2,Zh2,h3]) (fun t ht hp=>by
  have h1:decide ((t:Int)<2)=true:=Q3 (by omega)
  obtain ⟨k,hn⟩:=Option.isSome_iff_exists.1 hp
  have hi:=Ymf h_a0 ht false
  rw [hn] at hi
  simp only [Zey,h1,Q1,hi,Uak,st2,Zh1]) (by
  have h1:decide (((2:Nat):Int)<2)=false:=by decide
  simp only [Zey,h1,Q2])
 have h':Uaa (Zey PZ 1000 a0) 1000 (false,(0:Int))=some (match (jA 2).find? (fun t=>((jA 36).find? (fun k=> !(fitS a0 t k))).isSome) with | some t=>.more (false,(t:Int)) | none=>.done (false,((2:Nat):Int))):=h
 have i0:Zaa (i64.wrap (num a0 0)) 1 6=(decide (1≤num a0 0)&&decide (num a0 0≤6)):=by
  rw [IntWalk.i64_in _ (by omega)];unfold Zaa
  cases h1:decide (num a0 0 ≥ 1)<;>simp_all
 have i1:Zaa (i64.wrap (num a0 1)) 1 6=(decide (1≤num a0 1)&&decide (num a0 1≤6)):=by
  rw [IntWalk.i64_in _ (by omega)];unfold Zaa
  cases h1:decide (num a0 1 ≥ 1)<;>simp_all
 unfold okS okD
 rw [i0,i1,h',all_two,← Yiq,← Yiq,show IntKind.u64.wrap (BitVec.ofInt IntKind.u64.bits (num a0 2) &&& ~~~(BitVec.ofInt IntKind.u64.bits (Uaz (num a0 0) (num a0 1) 36))).toNat=Ubf (num a0 2) (Uaz (num a0 0) (num a0 1) 36) from rfl,show (jA 2)=[0,1] from rfl]
 cases decide (1≤num a0 0)&&decide (num a0 0≤6)
 ·rfl
 cases decide (1≤num a0 1)&&decide (num a0 1≤6)
 ·rfl
 cases hb:(Ubf (num a0 2) (Uaz (num a0 0) (num a0 1) 36)==0) with
 | false=>rw [show (Ubf (num a0 2) (Uaz (num a0 0) (num a0 1) 36) != 0)=true by simp [bne,hb]];rfl
 | true=>
  rw [show (Ubf (num a0 2) (Uaz (num a0 0) (num a0 1) 36) != 0)=false by simp [bne,hb]]
  simp only [List.find?]
  generalize (jA 36).find? (fun k=> !(fitS a0 0 k))=f0
  generalize (jA 36).find? (fun k=> !(fitS a0 1 k))=f1
  cases f0<;>cases f1<;>rfl
def Zot:Con:=fun args h=>match args,h with
 | [.w 0],[.row a0 41]=>some (.a (.b ((okS a0))),.none,true)
 | _,_=>none
theorem Zl1:EntX PZ 53:=Zag (fn:=Tryz.f53) (by kernel_rfl) (by kernel_rfl) (by kernel_rfl)
theorem Zqw:Uab mn PZ 53 Zot:=(Zaf (N:=1000) (by kernel_rfl) (mkΓ_consX (Zac Zo1) Zln (mkΓ_consX (Zac Zgw) Zep (mkΓ_consX (Zac Zje) Zgx (mkΓ_consX (Zac Zyf) Zs4 mkΓ_nilX)))) (fn:=Tryz.f53) (by kernel_rfl) (by kernel_rfl) [([2,3],[]),([2,4],[])]).of (by
 intro ρ h w args vals r e hA hH hr
 unfold Zot at hr
 split at hr
 ·rename_i a0
  obtain ⟨rfl,rfl,hg2⟩:=BQi hr
  exact Yc8 a0 (hH.wt 0 rfl) hg2
 ·cases hr)
theorem Zt5 {S:Array Value} (h:okS S=true):1≤num S 0∧num S 0≤6∧1≤num S 1∧num S 1≤6:=by
 unfold okS okD at h
 simp only [Q7,decide_eq_true_eq] at h
 exact ⟨h.1.1.1,h.1.1.2,h.1.2.1,h.1.2.2⟩
theorem Yms {S:Array Value} (h:okS S=true):(decide (0≤num S 0)&&decide (num S 0≤6)&&(decide (0≤num S 1)&&decide (num S 1≤6)))=true:=by
 obtain ⟨h1,h2,h3,h4⟩:=Zt5 h
 rw [Q3 (show 0≤num S 0 by omega),Q3 h2,Q3 (show 0≤num S 1 by omega),Q3 h4];rfl
theorem okS_fit {S:Array Value} (h:okS S=true) {t k:Nat} (ht:t<2) (hk:k<36):fitS S t k=true:=by
 unfold okS at h
 simp only [Q7] at h
 have:=jC.1 h.2.2 k (List.mem_range.2 hk)
 rw [Q7] at this
 match t,ht with
 | 0,_=>exact this.1
 | 1,_=>exact this.2
theorem Yo0 {S:Array Value} (h:WT PZ 41 S):S.size=363:=by rw [h.layLen,Yhz];simp
theorem num_sub {S:Array Value} {o n j:Nat} (hj:j<n):num (S.extract o (o+n)) j=num S (o+j):=by
 unfold num
 rw [Array.getElem?_extract]
 by_cases h:o+j<S.size
 ·rw [if_pos (by omega)]
 ·rw [if_neg (by omega),Array.getElem?_eq_none (by omega)]
theorem sea_u8 {S:Array Value} (h:WT PZ 41 S) {i:Nat} (hi:i<360):S[3+i]? = some (.int .u8 (num S (3+i)))∧0≤num S (3+i)∧num S (3+i)≤255:=h.int (k:=.u8) (by rw [Yhz,show 3+i=i+3 by omega];show (List.replicate 360 4)[i]? = some 4;rw [List.getElem?_replicate,if_pos hi])
end
end Go.Proofs.YtohnggmlmglhmaaGreatDoor
