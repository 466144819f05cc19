/- What a valid sea is, in company. -/
import Derived.Test.YtdfefaanfiheoaaGreatDoorProg
import Derived.Test.YtdfefaanfiheoaaGreatDoorCxB
set_option linter.unusedVariables false
set_option linter.unusedSimpArgs false
open _root_.List renaming range->jA,all_eq_true->jC
open _root_.Bool renaming and_self->jB,not_false->jD
namespace Go.Proofs.YtdfefaanfiheoaaGreatDoor
open Tryz (f51 f71 f80 f99 f112)
open Go.ChangeShapes Go.WideShapes Go.ChangeAt Go.RowKit Ve Vc
open Tryz renaming prog -> PZ
open IntKind (i64)
set_option maxRecDepth 100000
noncomputable section
variable {mn:Md}
def sumW(a:Array Value):Nat->Int
 |0=>0
 |k+1=>i64.wrap (sumW a k+i64.wrap (num a (k*1)))
theorem Ymm(t:Int):Zci t=Zaa t 0 1:=by
 unfold Zci Zaa
 by_cases h0:t=0
 ·subst h0;rfl
 ·by_cases h1:t=1
  ·subst h1;rfl
  ·rw[show (t==0)=false from beq_eq_false_iff_ne.2 h0,show (t==1)=false from beq_eq_false_iff_ne.2 h1]
   by_cases h2:t>=0
   ·rw[Q3 h2,Q4 (show ¬t<=1 by omega)];rfl
   ·rw[Q4 h2];rfl
def Zcx(a0:Array Value):St:=(⟨.a (.g a0 33) :: .a (.w 0) :: .a (.b (false)) :: .a (.i .i64 (0:Int)) :: .a (.u) :: .a (.u) :: .a (.g a0 33) :: .a (.i .i64 (0:Int))::us 9 ([]),[.row a0 33,.no],[]⟩:St)
def Zdy:Int×Int->LS
 |(y0_3,y0_7)=>([.a (.i .i64 (y0_3)),.a (.i .i64 (y0_7))],[])
def Zit:Int×Int->Exit×LS
 |t=>((.exit 0),Zdy t)
def Zbk(P:Program)(a0:Array Value):Int×Int->Option (Stp (Int×Int) (Int×Int))
 |(y0_3,y0_7)=>bif decide (y0_7<(5:Int)) then (bif (decide (0<=y0_7)&&decide (y0_7<5)) then (some (.more ((i64.wrap (y0_3+(i64.wrap (num a0 ((y0_7).toNat*1))))),(i64.wrap (y0_7+(1:Int))))))
   else (none))
  else (some (.done (y0_3,y0_7)))
noncomputable abbrev cKCxC112:=codeOf f112
def Ufr:=(Uaa cKCxC112 [([3,7],[])]).1
theorem Zt9(N:Nat)(a0:Array Value):∀t:Int×Int,Uag PZ (mkΓ []) N (cAt cKCxC112 [1,1,0,1,0,0]) (pAt Ufr [1,1,0,1,0]) [3,7] [] (Zcx a0) (Zdy t)=mapS Zdy Zit (Zbk PZ a0 t):=by
 rintro⟨y0_3,y0_7⟩;refine Eq.trans (b:=(bif decide (y0_7<(5:Int)) then (bif (decide (0<=y0_7)&&decide (y0_7<5)) then (some (.more ([.a (.i .i64 (i64.wrap (y0_3+(i64.wrap (num a0 ((y0_7).toNat*1)))))),.a (.i .i64 (i64.wrap (y0_7+(1:Int))))],[])))
   else (none))
  else (some (.done ((.exit 0),([.a (.i .i64 (y0_3)),.a (.i .i64 (y0_7))],[])))))) (by kernel_rfl) ?_
 simp only[Zbk,Zao,Zap,Zam,Zan,Zdy,Zit]
def Zhc(P:Program)(N:Nat)(a0:Array Value)(z0_3:Int)(z0_7:Int):Option (SV×Eff×Bool):=some (.a (.b ((z0_3==(12:Int)))),.none,true)
def Ue6(N:Nat):=(Uad 0 (kSeq (veC PZ (mkΓ []) N (cAt cKCxC112 [1,1,1]) (pAt Ufr [1,1,1]) (SV×Eff×Bool)) (finK PZ [] [.tmp 2])))
theorem Zob(N:Nat)(a0:Array Value)(z0_3:Int)(z0_7:Int):(Ue6 N) (.exit 0) (left (writes (cAt cKCxC112 [1,1,0,1,0,0])) [3,7] [] (Zcx a0) ([.a (.i .i64 (z0_3)),.a (.i .i64 (z0_7))],[]))=Zhc PZ N a0 z0_3 z0_7:=by refine Eq.trans (b:=(some (.a (.b ((z0_3==(12:Int)))),.none,true))) (by kernel_rfl) ?_;rfl
theorem Zte(N:Nat)(a0:Array Value):Uaj (Uab (Uag PZ (mkΓ []) N (cAt cKCxC112 [1,1,0,1,0,0]) (pAt Ufr [1,1,0,1,0]) [3,7] [] (Zcx a0)) N ([.a (.i .i64 (0:Int)),.a (.i .i64 (0:Int))],[])) (λe s=>(Ue6 N) e (left (writes (cAt cKCxC112 [1,1,0,1,0,0])) [3,7] [] (Zcx a0) s))=Uak (Uab (Zbk PZ a0) N ((0:Int),(0:Int))) (λx=>Zhc PZ N a0 x.1 x.2):=by refine Zau Zdy Zit _ _ (Zt9 N a0) N ((0:Int),(0:Int)) _ _ ?_;intro x;exact Zob N a0 x.1 x.2
theorem Zr3(N:Nat)(a0:Array Value):ansV PZ (mkΓ []) N f112 [([3,7],[])] [.g a0 33] []=(Uak (Uab (Zbk PZ a0) N ((0:Int),(0:Int))) (λx=>Zhc PZ N a0 x.1 x.2)):=by refine Eq.trans (b:=(Uaj (Uab (Uag PZ (mkΓ []) N (cAt cKCxC112 [1,1,0,1,0,0]) (pAt Ufr [1,1,0,1,0]) [3,7] [] (Zcx a0)) N ([.a (.i .i64 (0:Int)),.a (.i .i64 (0:Int))],[])) (λe s=>(Ue6 N) e (left (writes (cAt cKCxC112 [1,1,0,1,0,0])) [3,7] [] (Zcx a0) s)))) (by kernel_rfl) ?_;simp only[Zte N a0]
theorem Zqm(a0:Array Value)(h_a0:WT PZ 33 a0)(hg:(true)=true):ansV PZ (mkΓ []) 1000 f112 [([3,7],[])] [.g a0 33] []=some (.a (.b ((sumW a0 5==(12:Int)))),.none,true):=by
 have h:=Zcu (g:=Zbk PZ a0) (λk=>(sumW a0 k,(k:Int))) (m:=5) (x:=(sumW a0 5,((5:Nat):Int))) (N:=1000) (λk hk=>by
  have h1:decide ((k:Int)<5)=true:=Q3 (by omega);have h0:decide (0<=(k:Int))=true:=Q3 (by omega);have h3:i64.wrap ((k:Int)+1)=((k+1:Nat):Int):=by rw[IntWalk.i64_in _ (by omega)];omega
  have h4:((k:Int)).toNat=k:=Q9 k;simp only[Zbk,h1,h0,jB,h4,Q1,h3,sumW]) (by
  have h1:decide (((5:Nat):Int)<5)=false:=by decide
  simp only[Zbk,h1,Q2]) (by omega)
 refine(Zr3 1000 a0).trans ?_;have h':Uab (Zbk PZ a0) 1000 ((0:Int),(0:Int))=some (sumW a0 5,((5:Nat):Int)):=h;rw[h'];rfl
def Zh3:Con:=λargs h=>match args,h with
 |[.g a0 33],[]=>some (.a (.b ((sumW a0 5==(12:Int)))),.none,true)
 |_,_=>none
theorem Zp7:EntX PZ 112:=Zah (fn:=f112)
theorem Zth:Uac mn PZ 112 Zh3:=(ansY (N:=1000) mKn f112 [([3,7],[])]).of (by
 intro ρ h w args vals r e hA hH hr;unfold Zh3 at hr;split at hr
 ·rename_i a0
  obtain⟨rfl,rfl,hg2⟩:=BQi hr;exact Zqm a0 (hA.wt 0 rfl) hg2
 ·cases hr)
def Zdq(a0:Array Value):St:=(⟨.a (.g a0 33) :: .a (.w 0) :: .a (.b (false)) :: .a (.i .i64 (0:Int)) :: .a (.i .i64 (0:Int))::us 12 ([]),[.row a0 33,.no],[]⟩:St)
def Zfk:Int×Int->LS
 |(y0_3,y0_4)=>([.a (.i .i64 (y0_3)),.a (.i .i64 (y0_4))],[])
def Zkj:Int×Int->Exit×LS
 |t=>((.exit 0),Zfk t)
def Zb1(P:Program)(a0:Array Value):Int×Int->Option (Stp (Int×Int) (Int×Int))
 |(y0_3,y0_4)=>bif decide (y0_4<(5:Int)) then (bif (decide (0<=y0_4)&&decide (y0_4<5)) then (some (.more ((i64.wrap (y0_3+(i64.wrap (num a0 ((y0_4).toNat*1))))),(i64.wrap (y0_4+(1:Int))))))
   else (none))
  else (some (.done (y0_3,y0_4)))
noncomputable abbrev cKCxC71:=codeOf f71
def Uft:=(Uaa cKCxC71 [([3,4],[])]).1
theorem Zwt(N:Nat)(a0:Array Value):∀t:Int×Int,Uag PZ (mkΓ []) N (cAt cKCxC71 [1,1,0,1,0,0]) (pAt Uft [1,1,0,1,0]) [3,4] [] (Zdq a0) (Zfk t)=mapS Zfk Zkj (Zb1 PZ a0 t):=by
 rintro⟨y0_3,y0_4⟩;refine Eq.trans (b:=(bif decide (y0_4<(5:Int)) then (bif (decide (0<=y0_4)&&decide (y0_4<5)) then (some (.more ([.a (.i .i64 (i64.wrap (y0_3+(i64.wrap (num a0 ((y0_4).toNat*1)))))),.a (.i .i64 (i64.wrap (y0_4+(1:Int))))],[])))
   else (none))
  else (some (.done ((.exit 0),([.a (.i .i64 (y0_3)),.a (.i .i64 (y0_4))],[])))))) (by kernel_rfl) ?_
 simp only[Zb1,Zao,Zap,Zam,Zan,Zfk,Zkj]
def Ziv(P:Program)(N:Nat)(a0:Array Value)(z0_3:Int)(z0_4:Int):Option (SV×Eff×Bool):=some (.a (.b ((z0_3==(12:Int)))),.none,true)
def Ufn(N:Nat):=(Uad 0 (kSeq (veC PZ (mkΓ []) N (cAt cKCxC71 [1,1,1]) (pAt Uft [1,1,1]) (SV×Eff×Bool)) (finK PZ [] [.tmp 2])))
theorem Zp4(N:Nat)(a0:Array Value)(z0_3:Int)(z0_4:Int):(Ufn N) (.exit 0) (left (writes (cAt cKCxC71 [1,1,0,1,0,0])) [3,4] [] (Zdq a0) ([.a (.i .i64 (z0_3)),.a (.i .i64 (z0_4))],[]))=Ziv PZ N a0 z0_3 z0_4:=by refine Eq.trans (b:=(some (.a (.b ((z0_3==(12:Int)))),.none,true))) (by kernel_rfl) ?_;rfl
theorem Zyv(N:Nat)(a0:Array Value):Uaj (Uab (Uag PZ (mkΓ []) N (cAt cKCxC71 [1,1,0,1,0,0]) (pAt Uft [1,1,0,1,0]) [3,4] [] (Zdq a0)) N ([.a (.i .i64 (0:Int)),.a (.i .i64 (0:Int))],[])) (λe s=>(Ufn N) e (left (writes (cAt cKCxC71 [1,1,0,1,0,0])) [3,4] [] (Zdq a0) s))=Uak (Uab (Zb1 PZ a0) N ((0:Int),(0:Int))) (λx=>Ziv PZ N a0 x.1 x.2):=by refine Zau Zfk Zkj _ _ (Zwt N a0) N ((0:Int),(0:Int)) _ _ ?_;intro x;exact Zp4 N a0 x.1 x.2
theorem Zu3(N:Nat)(a0:Array Value):ansV PZ (mkΓ []) N f71 [([3,4],[])] [.g a0 33] []=(Uak (Uab (Zb1 PZ a0) N ((0:Int),(0:Int))) (λx=>Ziv PZ N a0 x.1 x.2)):=by refine Eq.trans (b:=(Uaj (Uab (Uag PZ (mkΓ []) N (cAt cKCxC71 [1,1,0,1,0,0]) (pAt Uft [1,1,0,1,0]) [3,4] [] (Zdq a0)) N ([.a (.i .i64 (0:Int)),.a (.i .i64 (0:Int))],[])) (λe s=>(Ufn N) e (left (writes (cAt cKCxC71 [1,1,0,1,0,0])) [3,4] [] (Zdq a0) s)))) (by kernel_rfl) ?_;simp only[Zyv N a0]
theorem Ztk(a0:Array Value)(h_a0:WT PZ 33 a0)(hg:(true)=true):ansV PZ (mkΓ []) 1000 f71 [([3,4],[])] [.g a0 33] []=some (.a (.b ((sumW a0 5==(12:Int)))),.none,true):=by
 have h:=Zcu (g:=Zb1 PZ a0) (λk=>(sumW a0 k,(k:Int))) (m:=5) (x:=(sumW a0 5,((5:Nat):Int))) (N:=1000) (λk hk=>by
  have h1:decide ((k:Int)<5)=true:=Q3 (by omega);have h0:decide (0<=(k:Int))=true:=Q3 (by omega);have h3:i64.wrap ((k:Int)+1)=((k+1:Nat):Int):=by rw[IntWalk.i64_in _ (by omega)];omega
  have h4:((k:Int)).toNat=k:=Q9 k;simp only[Zb1,h1,h0,jB,h4,Q1,h3,sumW]) (by
  have h1:decide (((5:Nat):Int)<5)=false:=by decide
  simp only[Zb1,h1,Q2]) (by omega)
 refine(Zu3 1000 a0).trans ?_;have h':Uab (Zb1 PZ a0) 1000 ((0:Int),(0:Int))=some (sumW a0 5,((5:Nat):Int)):=h;rw[h'];rfl
def Zjp:Con:=λargs h=>match args,h with
 |[.g a0 33],[]=>some (.a (.b ((sumW a0 5==(12:Int)))),.none,true)
 |_,_=>none
theorem Zrp:EntX PZ 71:=Zah (fn:=f71)
theorem Zxa:Uac mn PZ 71 Zjp:=(ansY (N:=1000) mKn f71 [([3,4],[])]).of (by
 intro ρ h w args vals r e hA hH hr;unfold Zjp at hr;split at hr
 ·rename_i a0
  obtain⟨rfl,rfl,hg2⟩:=BQi hr;exact Ztk a0 (hA.wt 0 rfl) hg2
 ·cases hr)
def Zo2:Cons:=(mkΓ [(81,con Zg0),(94,con Zex),(112,con Zh3)])
theorem Zva(N:Nat)(a0:Array Value)(a1:Int)(a2:Array Value):ansV PZ Zo2 N f99 [] [.g a0 37,.i .i64 (a1),.g a2 33] []=(bif (Zal a0 a1) then (bif decide (0<=a1) then (bif (Zad a0 a1) then (some (.a (.b ((sumW a2 5==(12:Int)))),.none,true))
    else (some (.a (.b ((Uai a2 (#[.int .u8 (0:Int),.int .u8 (0:Int),.int .u8 (0:Int),.int .u8 (0:Int),.int .u8 (0:Int)]:Array Value)))),.none,true)))
   else (none))
  else (some (.a (.b ((Uai a2 (#[.int .u8 (0:Int),.int .u8 (0:Int),.int .u8 (0:Int),.int .u8 (0:Int),.int .u8 (0:Int)]:Array Value)))),.none,true))):=by kernel_rfl
def Zbl(a0:Array Value)(a1:Int)(a2:Array Value):Bool:=(bif (Zal a0 a1) then (bif (Zad a0 a1) then (sumW a2 5==(12:Int)) else (Uai a2 (#[.int .u8 (0:Int),.int .u8 (0:Int),.int .u8 (0:Int),.int .u8 (0:Int),.int .u8 (0:Int)]:Array Value))) else (Uai a2 (#[.int .u8 (0:Int),.int .u8 (0:Int),.int .u8 (0:Int),.int .u8 (0:Int),.int .u8 (0:Int)]:Array Value)))
theorem Zt8(a0:Array Value)(a1:Int)(a2:Array Value)(h_a0:WT PZ 37 a0)(h_a1:i64.min<=a1/\a1<=i64.max)(h_a2:WT PZ 33 a2)(hg:((bif (Zal a0 a1) then decide (0<=a1) else true))=true):ansV PZ Zo2 1000 f99 [] [.g a0 37,.i .i64 (a1),.g a2 33] []=some (.a (.b ((Zbl a0 a1 a2))),.none,true):=by
 refine(Zva 1000 a0 a1 a2).trans ?_;unfold Zbl;revert hg;generalize ((Zal a0 a1))=b2;intro hg;cases b2
 ·skip
  first | (simp only[Q1,Q2,BQ6];done)|rfl|exact(nomatch (hg:false=true))
 ·skip
  revert hg;generalize (decide (0<=a1))=b4;intro hg;cases b4
  ·skip
   first|exact(nomatch (hg:false=true)) | (simp only[Q1,Q2,BQ6];done)|rfl
  ·skip
   revert hg;generalize ((Zad a0 a1))=b6;intro hg;cases b6
   ·skip
    first | (simp only[Q1,Q2,BQ6];done)|rfl|exact(nomatch (hg:false=true))
   ·skip
    first | (simp only[Q1,Q2,BQ6];done)|rfl|exact(nomatch (hg:false=true))
def Zjd:Con:=λargs h=>match args,h with
 |[.g a0 37,.i .i64 a1,.g a2 33],[]=>some (.a (.b ((Zbl a0 a1 a2))),.none,(bif (Zal a0 a1) then decide (0<=a1) else true))
 |_,_=>none
theorem Zrx:EntX PZ 99:=Zah (fn:=f99)
theorem Zxx:Uac mn PZ 99 Zjd:=(ansY (N:=1000) (mKc (Zae Zf5) Zdp (mKc (Zae Zj2) Zhj (mKc (Zae Zth) Zp7 mKn))) f99 []).of (by
 intro ρ h w args vals r e hA hH hr;unfold Zjd at hr;split at hr
 ·rename_i a0 a1 a2
  obtain⟨rfl,rfl,hg2⟩:=BQi hr;exact Zt8 a0 a1 a2 (hA.wt 0 rfl) (hA.rng 1 rfl) (hA.wt 2 rfl) hg2
 ·cases hr)
def chR(S:Array Value)(t k:Nat):Array Value:=S.extract (3+t*180+k*5) (3+t*180+k*5+5)
def fitS(S:Array Value)(t k:Nat):Bool:=bif inC (num S 0) (num S 1) k && !(bitI (num S 2) k) then (sumW (chR S t k) 5==(12:Int)) else Uai (chR S t k) (#[.int .u8 (0:Int),.int .u8 (0:Int),.int .u8 (0:Int),.int .u8 (0:Int),.int .u8 (0:Int)]:Array Value)
def okD(S:Array Value):Bool:=decide (1<=num S 0)&&decide (num S 0<=6)&&(decide (1<=num S 1)&&decide (num S 1<=6))
def okS(S:Array Value):Bool:=okD S&&((Ubc (num S 2) (Ua3 (num S 0) (num S 1) 36)==0)&&(jA 36).all λk=>fitS S 0 k&&fitS S 1 k)
theorem Yih(n:Nat)(p:Nat->Bool):((jA n).find? (λk=> !(p k))).isNone=(jA n).all p:=by rw[Bool.eq_iff_iff,Option.isNone_iff_eq_none,List.find?_eq_none,jC];simp
theorem all_two(n:Nat)(p q:Nat->Bool):(jA n).all (λk=>p k&&q k)=((jA n).all p&&(jA n).all q):=by rw[Bool.eq_iff_iff,Q7,jC,jC,jC];simp only[Q7];exact⟨λh=>⟨λx hx=>(h x hx).1,λx hx=>(h x hx).2⟩,λh x hx=>⟨h.1 x hx,h.2 x hx⟩⟩
theorem Yp4{S:Array Value}(h:WT PZ 37 S){k:Nat}(hk:k<36):Zal S (k:Int)=inC (num S 0) (num S 1) k:=by rw[Zqy,Yky h hk]
theorem Ydi{S:Array Value}(h:WT PZ 37 S){k:Nat}(hk:k<36)(t:Nat):Zbl S (k:Int) (chR S t k)=fitS S t k:=by unfold Zbl fitS;rw[Yp4 h hk];unfold Zad;rw[Zta hk];cases inC (num S 0) (num S 1) k<;>cases bitI (num S 2) k<;>rfl
theorem Yef{S:Array Value}(h:WT PZ 37 S){k:Nat}(hk:k<36):Zbi (k:Int) S=true/\Zai (k:Int) S=(inC (num S 0) (num S 1) k && !(bitI (num S 2) k)):=by
 have hu:decide (0<=IntKind.u64.wrap (k:Int))=true:=Q3 (Zgo .u64 _).1;unfold Zbi Zai;rw[Yky h hk,Ypv h hk];constructor
 ·cases inC (num S 0) (num S 1) k<;>simp[hu]
 ·cases inC (num S 0) (num S 1) k<;>simp
def Zfw:Cons:=(mkΓ [(98,con Zlg),(99,con Zjd)])
def Zds(a0:Array Value):St:=(⟨.a (.g a0 37) :: .a (.w 0) :: .a (.b (false)) :: .a (.u) :: .a (.p 0 (0) 22) :: .a (.i .i8 (num a0 0)) :: .a (.b (decide ((num a0 0)<(1:Int)))) :: .a (.b (false)) :: .a (.p 0 (0) 22) :: .a (.i .i8 (num a0 0)) :: .a (.b (decide ((num a0 0) > (6:Int)))) :: .a (.b (decide ((num a0 0) > (6:Int)))) :: .a (.b (false)) :: .a (.p 0 (1) 22) :: .a (.i .i8 (num a0 1)) :: .a (.b (decide ((num a0 1)<(1:Int)))) :: .a (.b (decide ((num a0 1)<(1:Int)))) :: .a (.b (false)) :: .a (.p 0 (1) 22) :: .a (.i .i8 (num a0 1)) :: .a (.b (decide ((num a0 1) > (6:Int)))) :: .a (.b (decide ((num a0 1) > (6:Int)))) :: .a (.p 0 (2) 23) :: .a (.i .u64 (num a0 2)) :: .a (.g a0 37) :: .a (.i .u64 (Ua3 (num a0 0) (num a0 1) 36)) :: .a (.i .u64 (IntKind.u64.wrap (BitVec.ofInt IntKind.u64.bits (num a0 2) &&& ~~~(BitVec.ofInt IntKind.u64.bits (Ua3 (num a0 0) (num a0 1) 36))).toNat)) :: .a (.b (((IntKind.u64.wrap (BitVec.ofInt IntKind.u64.bits (num a0 2) &&& ~~~(BitVec.ofInt IntKind.u64.bits (Ua3 (num a0 0) (num a0 1) 36))).toNat) != (0:Int)))) :: .a (.i .i64 (0:Int))::us 23 ([]),[.row a0 37,.no,.no,.no,.no,.no,.no,.no],[]⟩:St)
def Ze8:Bool×Int->LS
 |(y0_2,y0_28)=>([.a (.b (y0_2)),.a (.i .i64 (y0_28))],[])
def Zmm:(Stp (Bool×Int) (Bool×Int))->Exit×LS
 |.more t=>(.ret,Ze8 t)
 |.done t=>((.exit 0),Ze8 t)
def Zbp(P:Program)(a0:Array Value):Bool×Int->Option (Stp (Bool×Int) (Stp (Bool×Int) (Bool×Int)))
  |(y0_2,y0_28)=>bif decide (y0_28<(36:Int)) then (bif (decide (0<=y0_28)&&decide (y0_28<36)) then (bif (bif (Zal a0 y0_28) then decide (0<=y0_28) else true) then (bif (!((Zbl a0 y0_28 (a0.extract (3+((y0_28).toNat*5)) ((3+((y0_28).toNat*5))+5))))) then (some (.done (.more (false,y0_28))))
          else (bif (decide (0<=y0_28)&&decide (y0_28<36)) then (bif (bif (Zal a0 y0_28) then decide (0<=y0_28) else true) then (bif (!((Zbl a0 y0_28 (a0.extract (183+((y0_28).toNat*5)) ((183+((y0_28).toNat*5))+5))))) then (some (.done (.more (false,y0_28))))
                else (some (.more (y0_2,(i64.wrap (y0_28+(1:Int)))))))
              else (none))
            else (none)))
        else (none))
      else (none))
    else (some (.done (.done (y0_2,y0_28))))
noncomputable abbrev cKCxC80:=codeOf f80
def Ufw:=(Uaa cKCxC80 [([2,28],[])]).1
theorem Yce(N:Nat)(a0:Array Value):∀t:Bool×Int,Uag PZ Zfw N (cAt cKCxC80 [1,1,1,0,1,0,0]) (pAt Ufw [1,1,1,0,1,0]) [2,28] [] (Zds a0) (Ze8 t)=mapS Ze8 Zmm (Zbp PZ a0 t):=by
  rintro⟨y0_2,y0_28⟩;refine Eq.trans (b:=(bif decide (y0_28<(36:Int)) then (bif (decide (0<=y0_28)&&decide (y0_28<36)) then (bif (bif (Zal a0 y0_28) then decide (0<=y0_28) else true) then (bif (!((Zbl a0 y0_28 (a0.extract (3+((y0_28).toNat*5)) ((3+((y0_28).toNat*5))+5))))) then (some (.done (.ret,([.a (.b (false)),.a (.i .i64 (y0_28))],[]))))
          else (bif (decide (0<=y0_28)&&decide (y0_28<36)) then (bif (bif (Zal a0 y0_28) then decide (0<=y0_28) else true) then (bif (!((Zbl a0 y0_28 (a0.extract (183+((y0_28).toNat*5)) ((183+((y0_28).toNat*5))+5))))) then (some (.done (.ret,([.a (.b (false)),.a (.i .i64 (y0_28))],[]))))
                else (some (.more ([.a (.b (y0_2)),.a (.i .i64 (i64.wrap (y0_28+(1:Int))))],[]))))
              else (none))
            else (none)))
        else (none))
      else (none))
    else (some (.done ((.exit 0),([.a (.b (y0_2)),.a (.i .i64 (y0_28))],[])))))) (by kernel_rfl) ?_
  simp only[Zbp,Zao,Zap,Zam,Zan,Ze8,Zmm]
def Zkx(P:Program)(N:Nat)(a0:Array Value)(z0_2:Bool)(z0_28:Int):Option (SV×Eff×Bool):=some (.a (.b (z0_2)),.none,true)
def Ued(N:Nat):=(Uad 0 (kSeq (veC PZ Zfw N (cAt cKCxC80 [1,1,1,1]) (pAt Ufw [1,1,1,1]) (SV×Eff×Bool)) (finK PZ [] [.tmp 2])))
theorem Zrv(N:Nat)(a0:Array Value)(z0_2:Bool)(z0_28:Int):(Ued N) .ret (left (writes (cAt cKCxC80 [1,1,1,0,1,0,0])) [2,28] [] (Zds a0) ([.a (.b (z0_2)),.a (.i .i64 (z0_28))],[]))=Zkx PZ N a0 z0_2 z0_28:=by refine Eq.trans (b:=(some (.a (.b (z0_2)),.none,true))) (by kernel_rfl) ?_;rfl
def Zkk(P:Program)(N:Nat)(a0:Array Value)(z0_2:Bool)(z0_28:Int):Option (SV×Eff×Bool):=some (.a (.b (true)),.none,true)
theorem Zq6(N:Nat)(a0:Array Value)(z0_2:Bool)(z0_28:Int):(Ued N) (.exit 0) (left (writes (cAt cKCxC80 [1,1,1,0,1,0,0])) [2,28] [] (Zds a0) ([.a (.b (z0_2)),.a (.i .i64 (z0_28))],[]))=Zkk PZ N a0 z0_2 z0_28:=by refine Eq.trans (b:=(some (.a (.b (true)),.none,true))) (by kernel_rfl) ?_;rfl
theorem Ycx(N:Nat)(a0:Array Value):Uaj (Uab (Uag PZ Zfw N (cAt cKCxC80 [1,1,1,0,1,0,0]) (pAt Ufw [1,1,1,0,1,0]) [2,28] [] (Zds a0)) N ([.a (.b (false)),.a (.i .i64 (0:Int))],[])) (λe s=>(Ued N) e (left (writes (cAt cKCxC80 [1,1,1,0,1,0,0])) [2,28] [] (Zds a0) s))=Uak (Uab (Zbp PZ a0) N (false,(0:Int))) (st2 (λx=>Zkx PZ N a0 x.1 x.2) (λx=>Zkk PZ N a0 x.1 x.2)):=by
 refine Zau Ze8 Zmm _ _ (Yce N a0) N (false,(0:Int)) _ _ ?_;intro x;cases x with
 |more x=>exact Zrv N a0 x.1 x.2
 |done x=>exact Zq6 N a0 x.1 x.2
theorem Yat(N:Nat)(a0:Array Value):ansV PZ Zfw N f80 [([2,28],[])] [.g a0 37] []=(bif decide ((num a0 0)<(1:Int)) then (some (.a (.b (false)),.none,true))
    else (bif decide ((num a0 0) > (6:Int)) then (some (.a (.b (false)),.none,true))
      else (bif decide ((num a0 1)<(1:Int)) then (some (.a (.b (false)),.none,true))
        else (bif decide ((num a0 1) > (6:Int)) then (some (.a (.b (false)),.none,true))
          else (bif (decide (0<=num a0 0)&&decide (num a0 0<=6)&&(decide (0<=num a0 1)&&decide (num a0 1<=6))) then (bif ((IntKind.u64.wrap (BitVec.ofInt IntKind.u64.bits (num a0 2) &&& ~~~(BitVec.ofInt IntKind.u64.bits (Ua3 (num a0 0) (num a0 1) 36))).toNat) != (0:Int)) then (some (.a (.b (false)),.none,true))
              else (Uak (Uab (Zbp PZ a0) N (false,(0:Int))) (st2 (λx=>Zkx PZ N a0 x.1 x.2) (λx=>Zkk PZ N a0 x.1 x.2))))
            else (none)))))):=by
  refine Eq.trans (b:=(bif decide ((num a0 0)<(1:Int)) then (some (.a (.b (false)),.none,true))
    else (bif decide ((num a0 0) > (6:Int)) then (some (.a (.b (false)),.none,true))
      else (bif decide ((num a0 1)<(1:Int)) then (some (.a (.b (false)),.none,true))
        else (bif decide ((num a0 1) > (6:Int)) then (some (.a (.b (false)),.none,true))
          else (bif (decide (0<=num a0 0)&&decide (num a0 0<=6)&&(decide (0<=num a0 1)&&decide (num a0 1<=6))) then (bif ((IntKind.u64.wrap (BitVec.ofInt IntKind.u64.bits (num a0 2) &&& ~~~(BitVec.ofInt IntKind.u64.bits (Ua3 (num a0 0) (num a0 1) 36))).toNat) != (0:Int)) then (some (.a (.b (false)),.none,true))
              else (Uaj (Uab (Uag PZ Zfw N (cAt cKCxC80 [1,1,1,0,1,0,0]) (pAt Ufw [1,1,1,0,1,0]) [2,28] [] (Zds a0)) N ([.a (.b (false)),.a (.i .i64 (0:Int))],[])) (λe s=>(Ued N) e (left (writes (cAt cKCxC80 [1,1,1,0,1,0,0])) [2,28] [] (Zds a0) s))))
            else (none))))))) (by kernel_rfl) ?_
  simp only[Ycx N a0]
theorem Zyu(a0:Array Value)(h_a0:WT PZ 37 a0)(hg:(true)=true):ansV PZ Zfw 1000 f80 [([2,28],[])] [.g a0 37] []=some (.a (.b ((okS a0))),.none,true):=by
 refine(Yat 1000 a0).trans ?_;have h:=Zr1 (g:=Zbp PZ a0) (λk=>(false,(k:Int))) (λk=> !(fitS a0 0 k&&fitS a0 1 k)) 36 (N:=1000) (by omega) (xd:=.done (false,((36:Nat):Int))) (λk=>.more (false,(k:Int))) (λk hk hp=>by
  have h1:decide ((k:Int)<36)=true:=Q3 (by omega);have h0:decide (0<=(k:Int))=true:=Q3 (by omega);have h3:i64.wrap ((k:Int)+1)=((k+1:Nat):Int):=by rw[IntWalk.i64_in _ (by omega)];omega
  have f0:=Ydi h_a0 hk 0;have f1:=Ydi h_a0 hk 1;unfold chR at f0 f1;rw[show 3+0*180+k*5=3+k*5 by omega]at f0;rw[show 3+1*180+k*5=183+k*5 by omega]at f1;have hg:(bif Zal a0 (k:Int) then true else true)=true:=by cases Zal a0 (k:Int)<;>rfl
  simp only[Bool.not_eq_false',Q7]at hp;simp only[Zbp,h1,h0,h3,jB,Q1,Q9,hg,f0,f1,hp.1,hp.2,Bool.not_true,Q2]) (λk hk hp=>by
  have h1:decide ((k:Int)<36)=true:=Q3 (by omega);have h0:decide (0<=(k:Int))=true:=Q3 (by omega);have f0:=Ydi h_a0 hk 0;have f1:=Ydi h_a0 hk 1;unfold chR at f0 f1;rw[show 3+0*180+k*5=3+k*5 by omega]at f0;rw[show 3+1*180+k*5=183+k*5 by omega]at f1;have hg:(bif Zal a0 (k:Int) then true else true)=true:=by cases Zal a0 (k:Int)<;>rfl
  cases e0:fitS a0 0 k with
  |false=>simp only[Zbp,h1,h0,jB,Q1,Q9,hg,f0,e0,jD]
  |true=>
   rw[e0]at hp;have e1:fitS a0 1 k=false:=by simpa using hp
   simp only[Zbp,h1,h0,jB,Q1,Q9,hg,f0,f1,e0,e1,jD,Bool.not_true,Q2]) (by
  have h1:decide (((36:Nat):Int)<36)=false:=by decide
  simp only[Zbp,h1,Q2])
 have h':Uab (Zbp PZ a0) 1000 (false,(0:Int))=some (match (jA 36).find? (λk=> !(fitS a0 0 k&&fitS a0 1 k)) with|some k=>.more (false,(k:Int))|none=>.done (false,((36:Nat):Int))):=h;have hf:=Yih 36 (λk=>fitS a0 0 k&&fitS a0 1 k);unfold okS okD
 by_cases d1:1<=num a0 0
 ·rw [Q3 d1,Q4 (show ¬ num a0 0<1 by omega)]
  by_cases d2:num a0 0<=6
  ·rw [Q3 d2,Q4 (show ¬ num a0 0 > 6 by omega)]
   by_cases d3:1<=num a0 1
   ·rw[Q3 d3,Q4 (show ¬num a0 1<1 by omega)]
    by_cases d4:num a0 1<=6
    ·rw[Q3 d4,Q4 (show ¬num a0 1 > 6 by omega),Q3 (show 0<=num a0 0 by omega),Q3 (show 0<=num a0 1 by omega)]
     simp only[jB,Q1,Q2,Bool.true_and,h'];rw[show IntKind.u64.wrap (BitVec.ofInt IntKind.u64.bits (num a0 2) &&& ~~~(BitVec.ofInt IntKind.u64.bits (Ua3 (num a0 0) (num a0 1) 36))).toNat=Ubc (num a0 2) (Ua3 (num a0 0) (num a0 1) 36) from rfl];cases hb:(Ubc (num a0 2) (Ua3 (num a0 0) (num a0 1) 36)==0) with
     |false=>rw[show (Ubc (num a0 2) (Ua3 (num a0 0) (num a0 1) 36) != 0)=true by simp[bne,hb]];rfl
     |true=>rw[show (Ubc (num a0 2) (Ua3 (num a0 0) (num a0 1) 36) != 0)=false by simp[bne,hb],<- hf];cases (jA 36).find? (λk=> !(fitS a0 0 k&&fitS a0 1 k))<;>rfl
    ·rw[Q4 d4,Q3 (show num a0 1 > 6 by omega)];rfl
   ·rw[Q4 d3,Q3 (show num a0 1<1 by omega)];rfl
  ·rw[Q4 d2,Q3 (show num a0 0 > 6 by omega)];rfl
 ·rw[Q4 d1,Q3 (show num a0 0<1 by omega)];rfl
def Zib:Con:=λargs h=>match args,h with
 |[.g a0 37],[]=>some (.a (.b ((okS a0))),.none,true)
 |_,_=>none
theorem Zel:EntX PZ 80:=Zah (fn:=f80)
theorem Zgu:Uac mn PZ 80 Zib:=(ansY (N:=1000) (mKc (Zae Ya8) Zvn (mKc (Zae Zxx) Zrx mKn)) f80 [([2,28],[])]).of (by
 intro ρ h w args vals r e hA hH hr;unfold Zib at hr;split at hr
 ·rename_i a0
  obtain⟨rfl,rfl,hg2⟩:=BQi hr;exact Zyu a0 (hA.wt 0 rfl) hg2
 ·cases hr)
def Zee:Cons:=(mkΓ [(47,con Zb4),(69,con Zk4),(70,con Zj9),(71,con Zjp)])
def Zgf(a0:Array Value)(y0_2:Bool)(y0_3:Int):St:=(⟨.a (.w 0) :: .a (.u) :: .a (.b (y0_2)) :: .a (.i .i64 (y0_3)) :: .a (.i .i64 (0:Int)) :: .a (.x) :: .a (.w 0) :: .a (.w 0) :: .a (.p 0 (0) 22) :: .a (.i .i8 (num a0 0)) :: .a (.i .i64 (i64.wrap (num a0 0))) :: .a (.b ((Zaa (i64.wrap (num a0 0)) (1:Int) (6:Int)))) :: .a (.b ((!((Zaa (i64.wrap (num a0 0)) (1:Int) (6:Int)))))) :: .a (.b (false)) :: .a (.w 0) :: .a (.w 0) :: .a (.p 0 (1) 22) :: .a (.i .i8 (num a0 1)) :: .a (.i .i64 (i64.wrap (num a0 1))) :: .a (.b ((Zaa (i64.wrap (num a0 1)) (1:Int) (6:Int)))) :: .a (.b ((!((Zaa (i64.wrap (num a0 1)) (1:Int) (6:Int)))))) :: .a (.b ((!((Zaa (i64.wrap (num a0 1)) (1:Int) (6:Int)))))) :: .a (.b (false)) :: .a (.w 0) :: .a (.w 0) :: .a (.p 0 (2) 23) :: .a (.i .u64 (num a0 2)) :: .a (.w 0) :: .a (.i .u64 (Ua3 (num a0 0) (num a0 1) 36)) :: .a (.i .u64 (IntKind.u64.wrap (BitVec.ofInt IntKind.u64.bits (num a0 2) &&& ~~~(BitVec.ofInt IntKind.u64.bits (Ua3 (num a0 0) (num a0 1) 36))).toNat)) :: .a (.b (((IntKind.u64.wrap (BitVec.ofInt IntKind.u64.bits (num a0 2) &&& ~~~(BitVec.ofInt IntKind.u64.bits (Ua3 (num a0 0) (num a0 1) 36))).toNat) != (0:Int)))) :: .a (.b (((IntKind.u64.wrap (BitVec.ofInt IntKind.u64.bits (num a0 2) &&& ~~~(BitVec.ofInt IntKind.u64.bits (Ua3 (num a0 0) (num a0 1) 36))).toNat) != (0:Int)))) :: .a (.i .i64 (y0_3)) :: .a (.b (decide (y0_3<(2:Int))))::xs 33 ([]),[.row a0 37,.no,.no,.no,.no,.no,.no,.no,.no,.no,.no,.no,.no,.no,.no,.no,.no,.no,.no,.no,.no,.no,.no,.no,.no,.no,.no],[]⟩:St)
def Zfn:Bool×Int->LS
 |(y1_2,y1_4)=>([.a (.b (y1_2)),.a (.i .i64 (y1_4))],[])
def Zks:(Stp (Bool×Int) (Bool×Int))->Exit×LS
 |.more t=>(.ret,Zfn t)
 |.done t=>((.exit 2),Zfn t)
def Zcm(P:Program)(a0:Array Value)(y0_2:Bool)(y0_3:Int):Bool×Int->Option (Stp (Bool×Int) (Stp (Bool×Int) (Bool×Int)))
  |(y1_2,y1_4)=>bif decide (y1_4<(36:Int)) then (bif (decide (0<=y0_3)&&decide (y0_3<2)) then (bif (decide (0<=y1_4)&&decide (y1_4<36)) then (bif (Zbi y1_4 a0) then (bif (Zai y1_4 a0) then (bif (!((sumW (a0.extract ((3+((y0_3).toNat*180))+((y1_4).toNat*5)) (((3+((y0_3).toNat*180))+((y1_4).toNat*5))+5)) 5==(12:Int)))) then (some (.done (.more (false,y1_4))))
              else (bif (Zbi y1_4 a0) then (bif (!((Zai y1_4 a0))) then (bif (!(Uai (a0.extract ((3+((y0_3).toNat*180))+((y1_4).toNat*5)) (((3+((y0_3).toNat*180))+((y1_4).toNat*5))+5)) (#[.int .u8 (0:Int),.int .u8 (0:Int),.int .u8 (0:Int),.int .u8 (0:Int),.int .u8 (0:Int)]:Array Value))) then (some (.done (.more (false,y1_4))))
                    else (some (.more (y1_2,(i64.wrap (y1_4+(1:Int)))))))
                  else (some (.more (y1_2,(i64.wrap (y1_4+(1:Int)))))))
                else (none)))
            else (bif (Zbi y1_4 a0) then (bif (!((Zai y1_4 a0))) then (bif (!(Uai (a0.extract ((3+((y0_3).toNat*180))+((y1_4).toNat*5)) (((3+((y0_3).toNat*180))+((y1_4).toNat*5))+5)) (#[.int .u8 (0:Int),.int .u8 (0:Int),.int .u8 (0:Int),.int .u8 (0:Int),.int .u8 (0:Int)]:Array Value))) then (some (.done (.more (false,y1_4))))
                  else (some (.more (y1_2,(i64.wrap (y1_4+(1:Int)))))))
                else (some (.more (y1_2,(i64.wrap (y1_4+(1:Int)))))))
              else (none)))
          else (none))
        else (none))
      else (none))
    else (some (.done (.done (y1_2,y1_4))))
noncomputable abbrev cKCxC51:=codeOf f51
def Ucu:=(Uaa cKCxC51 [([2,3],[]),([2,4],[])]).1
theorem Zpx(N:Nat)(a0:Array Value)(y0_2:Bool)(y0_3:Int):∀t:Bool×Int,Uag PZ Zee N (cAt cKCxC51 [1,1,0,1,0,0,1,0,0,1,0,0]) (pAt Ucu [1,1,0,1,0,1,0,1,0]) [2,4] [] (Zgf a0 y0_2 y0_3) (Zfn t)=mapS Zfn Zks (Zcm PZ a0 y0_2 y0_3 t):=by
  rintro⟨y1_2,y1_4⟩;refine Eq.trans (b:=(bif decide (y1_4<(36:Int)) then (bif (decide (0<=y0_3)&&decide (y0_3<2)) then (bif (decide (0<=y1_4)&&decide (y1_4<36)) then (bif (Zbi y1_4 a0) then (bif (Zai y1_4 a0) then (bif (!((sumW (a0.extract ((3+((y0_3).toNat*180))+((y1_4).toNat*5)) (((3+((y0_3).toNat*180))+((y1_4).toNat*5))+5)) 5==(12:Int)))) then (some (.done (.ret,([.a (.b (false)),.a (.i .i64 (y1_4))],[]))))
              else (bif (Zbi y1_4 a0) then (bif (!((Zai y1_4 a0))) then (bif (!(Uai (a0.extract ((3+((y0_3).toNat*180))+((y1_4).toNat*5)) (((3+((y0_3).toNat*180))+((y1_4).toNat*5))+5)) (#[.int .u8 (0:Int),.int .u8 (0:Int),.int .u8 (0:Int),.int .u8 (0:Int),.int .u8 (0:Int)]:Array Value))) then (some (.done (.ret,([.a (.b (false)),.a (.i .i64 (y1_4))],[]))))
                    else (some (.more ([.a (.b (y1_2)),.a (.i .i64 (i64.wrap (y1_4+(1:Int))))],[]))))
                  else (some (.more ([.a (.b (y1_2)),.a (.i .i64 (i64.wrap (y1_4+(1:Int))))],[]))))
                else (none)))
            else (bif (Zbi y1_4 a0) then (bif (!((Zai y1_4 a0))) then (bif (!(Uai (a0.extract ((3+((y0_3).toNat*180))+((y1_4).toNat*5)) (((3+((y0_3).toNat*180))+((y1_4).toNat*5))+5)) (#[.int .u8 (0:Int),.int .u8 (0:Int),.int .u8 (0:Int),.int .u8 (0:Int),.int .u8 (0:Int)]:Array Value))) then (some (.done (.ret,([.a (.b (false)),.a (.i .i64 (y1_4))],[]))))
                  else (some (.more ([.a (.b (y1_2)),.a (.i .i64 (i64.wrap (y1_4+(1:Int))))],[]))))
                else (some (.more ([.a (.b (y1_2)),.a (.i .i64 (i64.wrap (y1_4+(1:Int))))],[]))))
              else (none)))
          else (none))
        else (none))
      else (none))
    else (some (.done ((.exit 2),([.a (.b (y1_2)),.a (.i .i64 (y1_4))],[])))))) (by kernel_rfl) ?_
  simp only[Zcm,Zao,Zap,Zam,Zan,Zfn,Zks]
def Zgn(a0:Array Value):St:=(⟨.a (.w 0) :: .a (.u) :: .a (.b (false)) :: .a (.i .i64 (0:Int)) :: .a (.u) :: .a (.u) :: .a (.w 0) :: .a (.w 0) :: .a (.p 0 (0) 22) :: .a (.i .i8 (num a0 0)) :: .a (.i .i64 (i64.wrap (num a0 0))) :: .a (.b ((Zaa (i64.wrap (num a0 0)) (1:Int) (6:Int)))) :: .a (.b ((!((Zaa (i64.wrap (num a0 0)) (1:Int) (6:Int)))))) :: .a (.b (false)) :: .a (.w 0) :: .a (.w 0) :: .a (.p 0 (1) 22) :: .a (.i .i8 (num a0 1)) :: .a (.i .i64 (i64.wrap (num a0 1))) :: .a (.b ((Zaa (i64.wrap (num a0 1)) (1:Int) (6:Int)))) :: .a (.b ((!((Zaa (i64.wrap (num a0 1)) (1:Int) (6:Int)))))) :: .a (.b ((!((Zaa (i64.wrap (num a0 1)) (1:Int) (6:Int)))))) :: .a (.b (false)) :: .a (.w 0) :: .a (.w 0) :: .a (.p 0 (2) 23) :: .a (.i .u64 (num a0 2)) :: .a (.w 0) :: .a (.i .u64 (Ua3 (num a0 0) (num a0 1) 36)) :: .a (.i .u64 (IntKind.u64.wrap (BitVec.ofInt IntKind.u64.bits (num a0 2) &&& ~~~(BitVec.ofInt IntKind.u64.bits (Ua3 (num a0 0) (num a0 1) 36))).toNat)) :: .a (.b (((IntKind.u64.wrap (BitVec.ofInt IntKind.u64.bits (num a0 2) &&& ~~~(BitVec.ofInt IntKind.u64.bits (Ua3 (num a0 0) (num a0 1) 36))).toNat) != (0:Int)))) :: .a (.b (((IntKind.u64.wrap (BitVec.ofInt IntKind.u64.bits (num a0 2) &&& ~~~(BitVec.ofInt IntKind.u64.bits (Ua3 (num a0 0) (num a0 1) 36))).toNat) != (0:Int))))::us 35 ([]),[.row a0 37,.no,.no,.no,.no,.no,.no,.no,.no,.no,.no,.no,.no,.no,.no,.no,.no,.no,.no,.no,.no,.no,.no,.no,.no,.no,.no],[]⟩:St)
def Zca:Bool×Int->LS
 |(y0_2,y0_3)=>([.a (.b (y0_2)),.a (.i .i64 (y0_3))],[])
def Zd3:(Stp (Bool×Int) (Bool×Int))->Exit×LS
 |.more t=>(.ret,Zca t)
 |.done t=>((.exit 0),Zca t)
def Zhu(P:Program)(N:Nat)(a0:Array Value)(y0_2:Bool)(y0_3:Int)(z1_2:Bool)(z1_4:Int):Option (Stp (Bool×Int) (Stp (Bool×Int) (Bool×Int))):=some (.done (.more (z1_2,y0_3)))
def Ufy(N:Nat):=(Uad 2 (Uad 1 (kSeq (veC PZ Zee N (cAt cKCxC51 [1,1,0,1,0,0,1,1]) (pAt Ucu [1,1,0,1,0,1,1]) (Stp LS (Exit×LS))) (Uen 27 [2,3] []))))
theorem Zw6(N:Nat)(a0:Array Value)(y0_2:Bool)(y0_3:Int)(z1_2:Bool)(z1_4:Int):(Ufy N) .ret (left (writes (cAt cKCxC51 [1,1,0,1,0,0,1,0,0,1,0,0])) [2,4] [] (Zgf a0 y0_2 y0_3) ([.a (.b (z1_2)),.a (.i .i64 (z1_4))],[]))=mapS Zca Zd3 (Zhu PZ N a0 y0_2 y0_3 z1_2 z1_4):=by refine Eq.trans (b:=(some (.done (.ret,([.a (.b (z1_2)),.a (.i .i64 (y0_3))],[]))))) (by kernel_rfl) ?_;simp only[Zhu,Zao,Zap,Zam,Zan,Zca,Zd3]
def Zhp(P:Program)(N:Nat)(a0:Array Value)(y0_2:Bool)(y0_3:Int)(z1_2:Bool)(z1_4:Int):Option (Stp (Bool×Int) (Stp (Bool×Int) (Bool×Int))):=some (.more (z1_2,(i64.wrap (y0_3+(1:Int)))))
theorem Zx5(N:Nat)(a0:Array Value)(y0_2:Bool)(y0_3:Int)(z1_2:Bool)(z1_4:Int):(Ufy N) (.exit 2) (left (writes (cAt cKCxC51 [1,1,0,1,0,0,1,0,0,1,0,0])) [2,4] [] (Zgf a0 y0_2 y0_3) ([.a (.b (z1_2)),.a (.i .i64 (z1_4))],[]))=mapS Zca Zd3 (Zhp PZ N a0 y0_2 y0_3 z1_2 z1_4):=by refine Eq.trans (b:=(some (.more ([.a (.b (z1_2)),.a (.i .i64 (i64.wrap (y0_3+(1:Int))))],[])))) (by kernel_rfl) ?_;simp only[Zhp,Zao,Zap,Zam,Zan,Zca,Zd3]
theorem Yi1(N:Nat)(a0:Array Value)(y0_2:Bool)(y0_3:Int):Uaj (Uab (Uag PZ Zee N (cAt cKCxC51 [1,1,0,1,0,0,1,0,0,1,0,0]) (pAt Ucu [1,1,0,1,0,1,0,1,0]) [2,4] [] (Zgf a0 y0_2 y0_3)) N ([.a (.b (y0_2)),.a (.i .i64 (0:Int))],[])) (λe s=>(Ufy N) e (left (writes (cAt cKCxC51 [1,1,0,1,0,0,1,0,0,1,0,0])) [2,4] [] (Zgf a0 y0_2 y0_3) s))=mapS Zca Zd3 (Uak (Uab (Zcm PZ a0 y0_2 y0_3) N (y0_2,(0:Int))) (st2 (λx=>Zhu PZ N a0 y0_2 y0_3 x.1 x.2) (λx=>Zhp PZ N a0 y0_2 y0_3 x.1 x.2))):=by
 rw[Yhw Zca Zd3]
 first
 |(have h:=Zau (α:=Stp LS (Exit×LS)) Zfn Zks _ _ (Zpx N a0 y0_2 y0_3) N (y0_2,(0:Int));refine h _ _ ?_)
 |(have h:=Zau (α:=Stp BS (Exit×BS)) Zfn Zks _ _ (Zpx N a0 y0_2 y0_3) N (y0_2,(0:Int));refine h _ _ ?_)
 |(have h:=Zau (α:=Stp LS ((Exit×LS)⊕(SV×Eff×Bool))) Zfn Zks _ _ (Zpx N a0 y0_2 y0_3) N (y0_2,(0:Int));refine h _ _ ?_)
 intro x;cases x with
 |more x=>exact Zw6 N a0 y0_2 y0_3 x.1 x.2
 |done x=>exact Zx5 N a0 y0_2 y0_3 x.1 x.2
def Zd4(P:Program)(N:Nat)(a0:Array Value):Bool×Int->Option (Stp (Bool×Int) (Stp (Bool×Int) (Bool×Int)))
 |(y0_2,y0_3)=>bif decide (y0_3<(2:Int)) then (Uak (Uab (Zcm P a0 y0_2 y0_3) N (y0_2,(0:Int))) (st2 (λx=>Zhu P N a0 y0_2 y0_3 x.1 x.2) (λx=>Zhp P N a0 y0_2 y0_3 x.1 x.2)))
  else (some (.done (.done (y0_2,y0_3))))
theorem Yit(N:Nat)(a0:Array Value):∀t:Bool×Int,Uag PZ Zee N (cAt cKCxC51 [1,1,0,1,0,0]) (pAt Ucu [1,1,0,1,0]) [2,3] [] (Zgn a0) (Zca t)=mapS Zca Zd3 (Zd4 PZ N a0 t):=by
 rintro⟨y0_2,y0_3⟩;refine Eq.trans (b:=(bif decide (y0_3<(2:Int)) then (Uaj (Uab (Uag PZ Zee N (cAt cKCxC51 [1,1,0,1,0,0,1,0,0,1,0,0]) (pAt Ucu [1,1,0,1,0,1,0,1,0]) [2,4] [] (Zgf a0 y0_2 y0_3)) N ([.a (.b (y0_2)),.a (.i .i64 (0:Int))],[])) (λe s=>(Ufy N) e (left (writes (cAt cKCxC51 [1,1,0,1,0,0,1,0,0,1,0,0])) [2,4] [] (Zgf a0 y0_2 y0_3) s)))
  else (some (.done ((.exit 0),([.a (.b (y0_2)),.a (.i .i64 (y0_3))],[])))))) (by kernel_rfl) ?_
 simp only[Yi1 N a0 y0_2 y0_3,Zd4,Zao,Zap,Zam,Zan,Zca,Zd3]
def Zn0(P:Program)(N:Nat)(a0:Array Value)(z0_2:Bool)(z0_3:Int):Option (SV×Eff×Bool):=some (.a (.b (z0_2)),.none,true)
def Uf0(N:Nat)(a0:Array Value):=(Uad 0 (kSeq (veC PZ Zee N (cAt cKCxC51 [1,1,1]) (pAt Ucu [1,1,1]) (SV×Eff×Bool)) (finK PZ [.row a0 37] [.tmp 2])))
theorem Zyn(N:Nat)(a0:Array Value)(z0_2:Bool)(z0_3:Int):(Uf0 N a0) .ret (left (writes (cAt cKCxC51 [1,1,0,1,0,0])) [2,3] [] (Zgn a0) ([.a (.b (z0_2)),.a (.i .i64 (z0_3))],[]))=Zn0 PZ N a0 z0_2 z0_3:=by refine Eq.trans (b:=(some (.a (.b (z0_2)),.none,true))) (by kernel_rfl) ?_;rfl
def Zm8(P:Program)(N:Nat)(a0:Array Value)(z0_2:Bool)(z0_3:Int):Option (SV×Eff×Bool):=some (.a (.b (true)),.none,true)
theorem Zwg(N:Nat)(a0:Array Value)(z0_2:Bool)(z0_3:Int):(Uf0 N a0) (.exit 0) (left (writes (cAt cKCxC51 [1,1,0,1,0,0])) [2,3] [] (Zgn a0) ([.a (.b (z0_2)),.a (.i .i64 (z0_3))],[]))=Zm8 PZ N a0 z0_2 z0_3:=by refine Eq.trans (b:=(some (.a (.b (true)),.none,true))) (by kernel_rfl) ?_;rfl
theorem Yjl(N:Nat)(a0:Array Value):Uaj (Uab (Uag PZ Zee N (cAt cKCxC51 [1,1,0,1,0,0]) (pAt Ucu [1,1,0,1,0]) [2,3] [] (Zgn a0)) N ([.a (.b (false)),.a (.i .i64 (0:Int))],[])) (λe s=>(Uf0 N a0) e (left (writes (cAt cKCxC51 [1,1,0,1,0,0])) [2,3] [] (Zgn a0) s))=Uak (Uab (Zd4 PZ N a0) N (false,(0:Int))) (st2 (λx=>Zn0 PZ N a0 x.1 x.2) (λx=>Zm8 PZ N a0 x.1 x.2)):=by
 refine Zau Zca Zd3 _ _ (Yit N a0) N (false,(0:Int)) _ _ ?_;intro x;cases x with
 |more x=>exact Zyn N a0 x.1 x.2
 |done x=>exact Zwg N a0 x.1 x.2
theorem Ygl(N:Nat)(a0:Array Value):ansV PZ Zee N f51 [([2,3],[]),([2,4],[])] [.w 0] [.row a0 37]=(bif (!((Zaa (i64.wrap (num a0 0)) (1:Int) (6:Int)))) then (some (.a (.b (false)),.none,true))
  else (bif (!((Zaa (i64.wrap (num a0 1)) (1:Int) (6:Int)))) then (some (.a (.b (false)),.none,true))
   else (bif ((IntKind.u64.wrap (BitVec.ofInt IntKind.u64.bits (num a0 2) &&& ~~~(BitVec.ofInt IntKind.u64.bits (Ua3 (num a0 0) (num a0 1) 36))).toNat) != (0:Int)) then (some (.a (.b (false)),.none,true))
    else (Uak (Uab (Zd4 PZ N a0) N (false,(0:Int))) (st2 (λx=>Zn0 PZ N a0 x.1 x.2) (λx=>Zm8 PZ N a0 x.1 x.2)))))):=by
 refine Eq.trans (b:=(bif (!((Zaa (i64.wrap (num a0 0)) (1:Int) (6:Int)))) then (some (.a (.b (false)),.none,true))
  else (bif (!((Zaa (i64.wrap (num a0 1)) (1:Int) (6:Int)))) then (some (.a (.b (false)),.none,true))
   else (bif ((IntKind.u64.wrap (BitVec.ofInt IntKind.u64.bits (num a0 2) &&& ~~~(BitVec.ofInt IntKind.u64.bits (Ua3 (num a0 0) (num a0 1) 36))).toNat) != (0:Int)) then (some (.a (.b (false)),.none,true))
    else (Uaj (Uab (Uag PZ Zee N (cAt cKCxC51 [1,1,0,1,0,0]) (pAt Ucu [1,1,0,1,0]) [2,3] [] (Zgn a0)) N ([.a (.b (false)),.a (.i .i64 (0:Int))],[])) (λe s=>(Uf0 N a0) e (left (writes (cAt cKCxC51 [1,1,0,1,0,0])) [2,3] [] (Zgn a0) s))))))) (by kernel_rfl) ?_
 simp only[Yjl N a0]
theorem Ynl{S:Array Value}(h:WT PZ 37 S){t:Nat}(ht:t<2)(b:Bool):Uab (Zcm PZ S b (t:Int)) 1000 (b,(0:Int))=some (match (jA 36).find? (λk=> !(fitS S t k)) with|some k=>.more (false,(k:Int))|none=>.done (b,((36:Nat):Int))):=by
 have htt:decide (0<=(t:Int))=true:=Q3 (by omega);have ht2:decide ((t:Int)<2)=true:=Q3 (by omega);exact Zr1 (g:=Zcm PZ S b (t:Int)) (λk=>(b,(k:Int))) (λk=> !(fitS S t k)) 36 (N:=1000) (by omega) (xd:=.done (b,((36:Nat):Int))) (λk=>.more (false,(k:Int))) (λk hk hp=>by
  have h1:decide ((k:Int)<36)=true:=Q3 (by omega);have h0:decide (0<=(k:Int))=true:=Q3 (by omega);have h3:i64.wrap ((k:Int)+1)=((k+1:Nat):Int):=by rw[IntWalk.i64_in _ (by omega)];omega
  obtain⟨w1,w2⟩:=Yef h hk;rw[Bool.not_eq_false']at hp;unfold fitS chR at hp;rw[<- w2]at hp;cases hw:Zai (k:Int) S with
  |false=>rw[hw]at hp;simp only[Q2]at hp;simp only[Zcm,h1,h0,h3,htt,ht2,w1,hw,jB,jD,Q1,Q2,Q9,hp,Bool.not_true]
  |true=>rw[hw]at hp;simp only[Q1]at hp;simp only[Zcm,h1,h0,h3,htt,ht2,w1,hw,jB,Bool.not_true,Q1,Q2,Q9,hp]) (λk hk hp=>by
  have h1:decide ((k:Int)<36)=true:=Q3 (by omega);have h0:decide (0<=(k:Int))=true:=Q3 (by omega);obtain⟨w1,w2⟩:=Yef h hk;rw[Bool.not_eq_true']at hp;unfold fitS chR at hp;rw[<- w2]at hp;cases hw:Zai (k:Int) S with
  |false=>rw[hw]at hp;simp only[Q2]at hp;simp only[Zcm,h1,h0,htt,ht2,w1,hw,jB,jD,Q1,Q2,Q9,hp]
  |true=>rw[hw]at hp;simp only[Q1]at hp;simp only[Zcm,h1,h0,htt,ht2,w1,hw,jB,Bool.not_true,jD,Q1,Q2,Q9,hp]) (by
  have h1:decide (((36:Nat):Int)<36)=false:=by decide
  simp only[Zcm,h1,Q2])
theorem Yfl(a0:Array Value)(h_a0:WT PZ 37 a0)(hg:(true)=true):ansV PZ Zee 1000 f51 [([2,3],[]),([2,4],[])] [.w 0] [.row a0 37]=some (.a (.b ((okS a0))),.none,true):=by
 refine(Ygl 1000 a0).trans ?_;obtain⟨s0,b0,b1⟩:=h_a0.int (o:=0) (k:=.i8) (by kernel_rfl);obtain⟨s1,b2,b3⟩:=h_a0.int (o:=1) (k:=.i8) (by kernel_rfl);have e1:IntKind.i8.min=-128:=rfl;have e2:IntKind.i8.max=127:=rfl;have h:=Zr1 (g:=Zd4 PZ 1000 a0) (λt=>(false,(t:Int))) (λt=>((jA 36).find? (λk=> !(fitS a0 t k))).isSome) 2 (N:=1000) (by omega) (xd:=.done (false,((2:Nat):Int))) (λt=>.more (false,(t:Int))) (λt ht hp=>by
  have h1:decide ((t:Int)<2)=true:=Q3 (by omega);have h3:i64.wrap ((t:Int)+1)=((t+1:Nat):Int):=by rw[IntWalk.i64_in _ (by omega)];omega
  have hn:(jA 36).find? (λk=> !(fitS a0 t k))=none:=by simpa using hp
  have hi:=Ynl h_a0 ht false;rw[hn]at hi;simp only[Zd4,h1,Q1,hi,Uak,st2,Zhp,h3]) (λt ht hp=>by
  have h1:decide ((t:Int)<2)=true:=Q3 (by omega);obtain⟨k,hn⟩:=Option.isSome_iff_exists.1 hp;have hi:=Ynl h_a0 ht false;rw[hn]at hi;simp only[Zd4,h1,Q1,hi,Uak,st2,Zhu]) (by
  have h1:decide (((2:Nat):Int)<2)=false:=by decide
  simp only[Zd4,h1,Q2])
 have h':Uab (Zd4 PZ 1000 a0) 1000 (false,(0:Int))=some (match (jA 2).find? (λt=>((jA 36).find? (λk=> !(fitS a0 t k))).isSome) with|some t=>.more (false,(t:Int))|none=>.done (false,((2:Nat):Int))):=h;have i0:Zaa (i64.wrap (num a0 0)) 1 6=(decide (1<=num a0 0)&&decide (num a0 0<=6)):=by rw[IntWalk.i64_in _ (by omega)];unfold Zaa;cases h1:decide (num a0 0>=1)<;>simp_all
 have i1:Zaa (i64.wrap (num a0 1)) 1 6=(decide (1<=num a0 1)&&decide (num a0 1<=6)):=by rw[IntWalk.i64_in _ (by omega)];unfold Zaa;cases h1:decide (num a0 1>=1)<;>simp_all
 unfold okS okD;rw[i0,i1,h',all_two,<- Yih,<- Yih,show IntKind.u64.wrap (BitVec.ofInt IntKind.u64.bits (num a0 2) &&& ~~~(BitVec.ofInt IntKind.u64.bits (Ua3 (num a0 0) (num a0 1) 36))).toNat=Ubc (num a0 2) (Ua3 (num a0 0) (num a0 1) 36) from rfl,show (jA 2)=[0,1] from rfl];cases decide (1<=num a0 0)&&decide (num a0 0<=6)
 ·rfl
 cases decide (1<=num a0 1)&&decide (num a0 1<=6)
 ·rfl
 cases hb:(Ubc (num a0 2) (Ua3 (num a0 0) (num a0 1) 36)==0) with
 |false=>rw[show (Ubc (num a0 2) (Ua3 (num a0 0) (num a0 1) 36) != 0)=true by simp[bne,hb]];rfl
 |true=>rw[show (Ubc (num a0 2) (Ua3 (num a0 0) (num a0 1) 36) != 0)=false by simp[bne,hb]];simp only[List.find?];generalize (jA 36).find? (λk=> !(fitS a0 0 k))=f0;generalize (jA 36).find? (λk=> !(fitS a0 1 k))=f1;cases f0<;>cases f1<;>rfl
def Zlu:Con:=λargs h=>match args,h with
 |[.w 0],[.row a0 37]=>some (.a (.b ((okS a0))),.none,true)
 |_,_=>none
theorem Zqe:EntX PZ 51:=Zah (fn:=f51)
theorem Zxi:Uac mn PZ 51 Zlu:=(ansY (N:=1000) (mKc (Zae Zkw) Zgx (mKc (Zae Ybc) Zve (mKc (Zae Zum) Zpa (mKc (Zae Zxa) Zrp mKn)))) f51 [([2,3],[]),([2,4],[])]).of (by
 intro ρ h w args vals r e hA hH hr;unfold Zlu at hr;split at hr
 ·rename_i a0
  obtain⟨rfl,rfl,hg2⟩:=BQi hr;exact Yfl a0 (hH.wt 0 rfl) hg2
 ·cases hr)
theorem Zsz{S:Array Value}(h:okS S=true):1<=num S 0/\num S 0<=6/\1<=num S 1/\num S 1<=6:=by unfold okS okD at h;simp only[Q7,decide_eq_true_eq]at h;exact⟨h.1.1.1,h.1.1.2,h.1.2.1,h.1.2.2⟩
theorem Yn2{S:Array Value}(h:okS S=true):(decide (0<=num S 0)&&decide (num S 0<=6)&&(decide (0<=num S 1)&&decide (num S 1<=6)))=true:=by obtain⟨h1,h2,h3,h4⟩:=Zsz h;rw[Q3 (show 0<=num S 0 by omega),Q3 h2,Q3 (show 0<=num S 1 by omega),Q3 h4];rfl
theorem okS_fit{S:Array Value}(h:okS S=true){t k:Nat}(ht:t<2)(hk:k<36):fitS S t k=true:=by
 unfold okS at h;simp only[Q7]at h;have:=jC.1 h.2.2 k (List.mem_range.2 hk);rw[Q7]at this
 match t,ht with
 |0,_=>exact this.1
 |1,_=>exact this.2
theorem okS_land{S:Array Value}(h:okS S=true){k:Nat}(hk:k<64)(hb:bitI (num S 2) k=true):k<36/\inC (num S 0) (num S 1) k=true:=by
 unfold okS at h;simp only[Q7]at h;have:=Ylu.1 h.2.1 k hk hb;rw[Ynp _ _ 36 (Nat.le_refl _)]at this
 simpa using this
theorem Yk7{S:Array Value}(h:WT PZ 37 S):S.size=363:=by rw[h.layLen,Yl3];simp
theorem num_sub{S:Array Value}{o n j:Nat}(hj:j<n):num (S.extract o (o+n)) j=num S (o+j):=by
 unfold num;rw[Array.getElem?_extract]
 by_cases h:o+j<S.size
 ·rw[if_pos (by omega)]
 ·rw[if_neg (by omega),Array.getElem?_eq_none (by omega)]
theorem sea_u8{S:Array Value}(h:WT PZ 37 S){i:Nat}(hi:i<360):S[3+i]?=some (.int .u8 (num S (3+i)))/\0<=num S (3+i)/\num S (3+i)<=255:=h.int (k:=.u8) (by rw[Yl3,show 3+i=i+3 by omega];show (List.replicate 360 4)[i]?=some 4;rw[List.getElem?_replicate,if_pos hi])
end
end Go.Proofs.YtdfefaanfiheoaaGreatDoor
