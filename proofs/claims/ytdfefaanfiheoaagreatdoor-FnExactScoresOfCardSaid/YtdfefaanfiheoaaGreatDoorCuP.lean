/- Lists of numbers and of finds compared, marked and looked at again. -/
import Derived.Test.YtdfefaanfiheoaaGreatDoorProg
import Derived.Test.YtdfefaanfiheoaaGreatDoorCuA
set_option linter.unusedVariables false
set_option linter.unusedSimpArgs false
open _root_.Bool renaming and_self->jA
namespace Go.Proofs.YtdfefaanfiheoaaGreatDoor
open Tryz (f9 f14 f17 f18 f19 f20 f40)
open Go.ChangeShapes Go.WideShapes Go.ChangeAt Go.RowKit Ve Vc
open Tryz renaming prog -> PZ
open IntKind (i64)
set_option maxRecDepth 100000
noncomputable section
variable {F:Vc.Fd}
def mkA(n:Nat)(k:Int):Array Value:=⟨(List.range n).map λi:Nat=>.int .i64 (k+(i:Int))⟩
theorem Ynm(n:Nat)(k:Int):(mkA n k).size=n:=by simp[mkA]
theorem mkA_at{n:Nat}{k:Int}{i:Nat}(h:i<n):(mkA n k)[i]?=some (.int .i64 (k+(i:Int))):=by unfold mkA;simp[h]
theorem mkA_num{n:Nat}{k:Int}{i:Nat}(h:i<n):num (mkA n k) i=k+(i:Int):=by unfold num;rw[mkA_at h]
def mk8(n:Nat)(k:Int):Array Value:=⟨(List.range n).map λi:Nat=>.int .i8 (IntKind.i8.wrap (k+(i:Int)))⟩
theorem Ym0(n:Nat)(k:Int):(mk8 n k).size=n:=by simp[mk8]
theorem mk8_at{n:Nat}{k:Int}{i:Nat}(h:i<n):(mk8 n k)[i]?=some (.int .i8 (IntKind.i8.wrap (k+(i:Int)))):=by unfold mk8;simp[h]
def Zdw(b_a0:Option (Option Addr))(n_a0:Nat)(a0:Array Value)(b_a1:Option (Option Addr))(n_a1:Nat)(a1:Array Value):St:=(⟨.a (.l 0) :: .a (.l 1) :: .a (.u) :: .a (.u) :: .a (.b (false)) :: .a (.i .i64 (0:Int)) :: .a (.l 0) :: .a (.i .i64 (n_a0:Int)) :: .a (.l 1) :: .a (.i .i64 (n_a1:Int)) :: .a (.b (((n_a0:Int) != (n_a1:Int))))::us 15 ([]),[.sl (.came b_a0) n_a0 a0 2,.sl (.came b_a1) n_a1 a1 2],[]⟩:St)
def Zey:Bool×Int->LS
 |(y0_4,y0_5)=>([.a (.b (y0_4)),.a (.i .i64 (y0_5))],[])
def Zmp:(Stp (Bool×Int) (Bool×Int))->Exit×LS
 |.more t=>(.ret,Zey t)
 |.done t=>((.exit 0),Zey t)
def Zc1(P:Program)(b_a0:Option (Option Addr))(n_a0:Nat)(a0:Array Value)(b_a1:Option (Option Addr))(n_a1:Nat)(a1:Array Value):Bool×Int->Option (Stp (Bool×Int) (Stp (Bool×Int) (Bool×Int)))
 |(y0_4,y0_5)=>bif decide (y0_5<(n_a0:Int)) then (bif (decide (0<=y0_5)&&decide (y0_5<(n_a0:Int))) then (bif (decide (0<=y0_5)&&decide (y0_5<(n_a1:Int))) then (bif ((num a0 ((y0_5).toNat*1)) != (num a1 ((y0_5).toNat*1))) then (some (.done (.more (false,y0_5))))
     else (some (.more (y0_4,(i64.wrap (y0_5+(1:Int)))))))
    else (none))
   else (none))
  else (some (.done (.done (y0_4,y0_5))))
noncomputable abbrev cKCuP17:=codeOf f17
theorem Ybo(N:Nat)(b_a0:Option (Option Addr))(n_a0:Nat)(a0:Array Value)(b_a1:Option (Option Addr))(n_a1:Nat)(a1:Array Value):∀t:Bool×Int,Uag PZ (mkΓ []) N (cAt cKCuP17 [1,1,0,1,0,0]) (pAt (Uaa cKCuP17 [([4,5],[])]).1 [1,1,0,1,0]) [4,5] [] (Zdw b_a0 n_a0 a0 b_a1 n_a1 a1) (Zey t)=mapS Zey Zmp (Zc1 PZ b_a0 n_a0 a0 b_a1 n_a1 a1 t):=by
 rintro⟨y0_4,y0_5⟩;refine Eq.trans (b:=(bif decide (y0_5<(n_a0:Int)) then (bif (decide (0<=y0_5)&&decide (y0_5<(n_a0:Int))) then (bif (decide (0<=y0_5)&&decide (y0_5<(n_a1:Int))) then (bif ((num a0 ((y0_5).toNat*1)) != (num a1 ((y0_5).toNat*1))) then (some (.done (.ret,([.a (.b (false)),.a (.i .i64 (y0_5))],[]))))
     else (some (.more ([.a (.b (y0_4)),.a (.i .i64 (i64.wrap (y0_5+(1:Int))))],[]))))
    else (none))
   else (none))
  else (some (.done ((.exit 0),([.a (.b (y0_4)),.a (.i .i64 (y0_5))],[])))))) (by kernel_rfl) ?_
 simp only[Zc1,Zao,Zap,Zam,Zan,Zey,Zmp]
def Zj6(P:Program)(N:Nat)(b_a0:Option (Option Addr))(n_a0:Nat)(a0:Array Value)(b_a1:Option (Option Addr))(n_a1:Nat)(a1:Array Value)(z0_4:Bool)(z0_5:Int):Option (SV×Eff×Bool):=some (.a (.b (z0_4)),.none,true)
theorem Zse(N:Nat)(b_a0:Option (Option Addr))(n_a0:Nat)(a0:Array Value)(b_a1:Option (Option Addr))(n_a1:Nat)(a1:Array Value)(z0_4:Bool)(z0_5:Int):(Uad 0 (kSeq (veC PZ (mkΓ []) N (cAt cKCuP17 [1,1,1]) (pAt (Uaa cKCuP17 [([4,5],[])]).1 [1,1,1]) (SV×Eff×Bool)) (finK PZ [.sl (.came b_a0) n_a0 a0 2,.sl (.came b_a1) n_a1 a1 2] [.tmp 4]))) .ret (left (writes (cAt cKCuP17 [1,1,0,1,0,0])) [4,5] [] (Zdw b_a0 n_a0 a0 b_a1 n_a1 a1) ([.a (.b (z0_4)),.a (.i .i64 (z0_5))],[]))=Zj6 PZ N b_a0 n_a0 a0 b_a1 n_a1 a1 z0_4 z0_5:=by refine Eq.trans (b:=(some (.a (.b (z0_4)),.none,true))) (by kernel_rfl) ?_;rfl
def Zkr(P:Program)(N:Nat)(b_a0:Option (Option Addr))(n_a0:Nat)(a0:Array Value)(b_a1:Option (Option Addr))(n_a1:Nat)(a1:Array Value)(z0_4:Bool)(z0_5:Int):Option (SV×Eff×Bool):=some (.a (.b (true)),.none,true)
theorem Zqu(N:Nat)(b_a0:Option (Option Addr))(n_a0:Nat)(a0:Array Value)(b_a1:Option (Option Addr))(n_a1:Nat)(a1:Array Value)(z0_4:Bool)(z0_5:Int):(Uad 0 (kSeq (veC PZ (mkΓ []) N (cAt cKCuP17 [1,1,1]) (pAt (Uaa cKCuP17 [([4,5],[])]).1 [1,1,1]) (SV×Eff×Bool)) (finK PZ [.sl (.came b_a0) n_a0 a0 2,.sl (.came b_a1) n_a1 a1 2] [.tmp 4]))) (.exit 0) (left (writes (cAt cKCuP17 [1,1,0,1,0,0])) [4,5] [] (Zdw b_a0 n_a0 a0 b_a1 n_a1 a1) ([.a (.b (z0_4)),.a (.i .i64 (z0_5))],[]))=Zkr PZ N b_a0 n_a0 a0 b_a1 n_a1 a1 z0_4 z0_5:=by refine Eq.trans (b:=(some (.a (.b (true)),.none,true))) (by kernel_rfl) ?_;rfl
theorem Yb3(N:Nat)(b_a0:Option (Option Addr))(n_a0:Nat)(a0:Array Value)(b_a1:Option (Option Addr))(n_a1:Nat)(a1:Array Value):Uaj (Uab (Uag PZ (mkΓ []) N (cAt cKCuP17 [1,1,0,1,0,0]) (pAt (Uaa cKCuP17 [([4,5],[])]).1 [1,1,0,1,0]) [4,5] [] (Zdw b_a0 n_a0 a0 b_a1 n_a1 a1)) N ([.a (.b (false)),.a (.i .i64 (0:Int))],[])) (λe s=>(Uad 0 (kSeq (veC PZ (mkΓ []) N (cAt cKCuP17 [1,1,1]) (pAt (Uaa cKCuP17 [([4,5],[])]).1 [1,1,1]) (SV×Eff×Bool)) (finK PZ [.sl (.came b_a0) n_a0 a0 2,.sl (.came b_a1) n_a1 a1 2] [.tmp 4]))) e (left (writes (cAt cKCuP17 [1,1,0,1,0,0])) [4,5] [] (Zdw b_a0 n_a0 a0 b_a1 n_a1 a1) s))=Uak (Uab (Zc1 PZ b_a0 n_a0 a0 b_a1 n_a1 a1) N (false,(0:Int))) (st2 (λx=>Zj6 PZ N b_a0 n_a0 a0 b_a1 n_a1 a1 x.1 x.2) (λx=>Zkr PZ N b_a0 n_a0 a0 b_a1 n_a1 a1 x.1 x.2)):=by
 refine Zau Zey Zmp _ _ (Ybo N b_a0 n_a0 a0 b_a1 n_a1 a1) N (false,(0:Int)) _ _ ?_;intro x;cases x with
 |more x=>exact Zse N b_a0 n_a0 a0 b_a1 n_a1 a1 x.1 x.2
 |done x=>exact Zqu N b_a0 n_a0 a0 b_a1 n_a1 a1 x.1 x.2
theorem Zy8(N:Nat)(b_a0:Option (Option Addr))(n_a0:Nat)(a0:Array Value)(b_a1:Option (Option Addr))(n_a1:Nat)(a1:Array Value):ansV PZ (mkΓ []) N f17 [([4,5],[])] [.l 0,.l 1] [.sl (.came b_a0) n_a0 a0 2,.sl (.came b_a1) n_a1 a1 2]=(bif ((n_a0:Int) != (n_a1:Int)) then (some (.a (.b (false)),.none,true))
  else (Uak (Uab (Zc1 PZ b_a0 n_a0 a0 b_a1 n_a1 a1) N (false,(0:Int))) (st2 (λx=>Zj6 PZ N b_a0 n_a0 a0 b_a1 n_a1 a1 x.1 x.2) (λx=>Zkr PZ N b_a0 n_a0 a0 b_a1 n_a1 a1 x.1 x.2)))):=by
 refine Eq.trans (b:=(bif ((n_a0:Int) != (n_a1:Int)) then (some (.a (.b (false)),.none,true))
  else (Uaj (Uab (Uag PZ (mkΓ []) N (cAt cKCuP17 [1,1,0,1,0,0]) (pAt (Uaa cKCuP17 [([4,5],[])]).1 [1,1,0,1,0]) [4,5] [] (Zdw b_a0 n_a0 a0 b_a1 n_a1 a1)) N ([.a (.b (false)),.a (.i .i64 (0:Int))],[])) (λe s=>(Uad 0 (kSeq (veC PZ (mkΓ []) N (cAt cKCuP17 [1,1,1]) (pAt (Uaa cKCuP17 [([4,5],[])]).1 [1,1,1]) (SV×Eff×Bool)) (finK PZ [.sl (.came b_a0) n_a0 a0 2,.sl (.came b_a1) n_a1 a1 2] [.tmp 4]))) e (left (writes (cAt cKCuP17 [1,1,0,1,0,0])) [4,5] [] (Zdw b_a0 n_a0 a0 b_a1 n_a1 a1) s))))) (by kernel_rfl) ?_
 simp only[Yb3 N b_a0 n_a0 a0 b_a1 n_a1 a1]
theorem Zyd(b_a0:Option (Option Addr))(n_a0:Nat)(a0:Array Value)(b_a1:Option (Option Addr))(n_a1:Nat)(a1:Array Value)(h_a0:a0.size=n_a0*(lay PZ 2).length/\(∀k,k<n_a0->WT PZ 2 (a0.extract (k*(lay PZ 2).length) (k*(lay PZ 2).length+(lay PZ 2).length)))/\n_a0<=9223372036854775807)(h_a1:a1.size=n_a1*(lay PZ 2).length/\(∀k,k<n_a1->WT PZ 2 (a1.extract (k*(lay PZ 2).length) (k*(lay PZ 2).length+(lay PZ 2).length)))/\n_a1<=9223372036854775807)(hg:(true)=true):ansV PZ (mkΓ []) 18446744073709551616 f17 [([4,5],[])] [.l 0,.l 1] [.sl (.came b_a0) n_a0 a0 2,.sl (.came b_a1) n_a1 a1 2]=some (.a (.b ((decide (n_a0=n_a1)&&Uai a0 a1))),.none,true):=by
 have hm:(lay PZ 2).length=1:=by kernel_rfl
 obtain⟨s1,s2,s3⟩:=h_a0;obtain⟨t1,t2,t3⟩:=h_a1;rw[hm]at s1 s2 t1 t2;have hq:(lay PZ 2)[0]?=some 3:=by kernel_rfl
 refine(Zy8 18446744073709551616 b_a0 n_a0 a0 b_a1 n_a1 a1).trans ?_
 by_cases hl:n_a0=n_a1
 case neg=>
  rw[Q4 hl,show ((n_a0:Int) != (n_a1:Int))=true from bne_iff_ne.2 (by omega)];rfl
 subst hl;rw[Q3 rfl,show ((n_a0:Int) != (n_a0:Int))=false from bne_self_eq_false _];simp only[Q2,Bool.true_and];have hb:Uai a0 a1=true ↔ ∀k,k<n_a0->(λk=>(num a0 (k*1)==num a1 (k*1))) k=true:=by
  constructor
  ·intro h k hk
   rw[Zhq.1 h];exact beq_self_eq_true _
  ·intro h
   refine Zhq.2 ?_;refine Ye2 (n:=n_a0) (m:=1) (by omega) s1 t1 (λk hk=> ?_);have e0:=(sl_int (kd:=.i64) (o:=0) s2 hk (by omega) hq).1;have e1:=(sl_int (kd:=.i64) (o:=0) t2 hk (by omega) hq).1;rw[Nat.add_zero]at e0 e1;rw[eq_of_beq (h k hk)]at e0;refine Zhy λi=> ?_
   rw[Array.getElem?_extract,Array.getElem?_extract,s1,t1]
   by_cases hi:i=0
   ·subst hi;simp only[Nat.add_zero];rw[e0,e1]
   ·rw[if_neg (by omega),if_neg (by omega)]
 refine(Zs9 (g:=Zc1 PZ b_a0 n_a0 a0 b_a1 n_a0 a1) (λk=>(false,(k:Int))) (λk=>(num a0 (k*1)==num a1 (k*1))) n_a0 (N:=18446744073709551616) (xd:=.done (false,(n_a0:Int))) (by omega) (λk hk hp=>by
  have h1:decide ((k:Int)<(n_a0:Int))=true:=Q3 (by omega);have h0:decide (0<=(k:Int))=true:=Q3 (by omega);have h3:i64.wrap ((k:Int)+1)=((k+1:Nat):Int):=by rw[IntWalk.i64_in _ (by omega)];omega
  have hp':(num a0 (k*1)==num a1 (k*1))=true:=hp;simp only[Zc1,h1,h0,jA,Q9,Q1,h3,bne,hp',Bool.not_true,Q2]) (by
  have h1:decide ((n_a0:Int)<(n_a0:Int))=false:=Q4 (by omega);simp only[Zc1,h1,Q2]) (Uai a0 a1) hb (some (.a (.b true),.none,true)) (some (.a (.b false),.none,true)) rfl (λk hk hp=>by
  refine⟨.more (false,(k:Int)),?_,rfl⟩;have h1:decide ((k:Int)<(n_a0:Int))=true:=Q3 (by omega);have h0:decide (0<=(k:Int))=true:=Q3 (by omega);have hp':(num a0 (k*1)==num a1 (k*1))=false:=hp;simp only[Zc1,h1,h0,jA,Q9,Q1,bne,hp',Bool.not_false])).trans ?_
 cases Uai a0 a1<;>rfl
def Zlj:Con:=λargs h=>match args,h with
 |[.l 0,.l 1],[.sl (.came b_a0) n_a0 a0 2,.sl (.came b_a1) n_a1 a1 2]=>some (.a (.b ((decide (n_a0=n_a1)&&Uai a0 a1))),.none,true)
 |_,_=>none
theorem Zvc:EntX PZ 17:=Zah (fn:=f17)
theorem Ybq:Uac (md F) PZ 17 Zlj:=(ansY (N:=18446744073709551616) mKn f17 [([4,5],[])]).of (by
 intro ρ h w args vals r e hA hH hr;unfold Zlj at hr;split at hr
 ·rename_i b_a0 n_a0 a0 b_a1 n_a1 a1
  obtain⟨rfl,rfl,hg2⟩:=BQi hr;exact Zyd b_a0 n_a0 a0 b_a1 n_a1 a1 (hH.slw 0 rfl) (hH.slw 1 rfl) hg2
 ·cases hr)
def Zdl(a1:Int)(n_a0:Nat)(a0:Array Value):St:=(⟨.a (.l 0) :: .a (.i .i64 (a1)) :: .a (.u) :: .a (.u) :: .a (.i .i64 (0:Int)) :: .a (.i .i64 (0:Int))::us 13 ([]),[.sl .lent n_a0 a0 2],[]⟩:St)
def Zfd(n_a0:Nat):Int×Int×Array Value->LS
 |(y0_1,y0_5,r0_0)=>([.a (.i .i64 (y0_1)),.a (.i .i64 (y0_5))],[.sl .lent n_a0 r0_0 2])
def Zjw(n_a0:Nat):Int×Int×Array Value->Exit×LS
 |t=>((.exit 0),(Zfd n_a0) t)
def Zby(P:Program)(a1:Int)(n_a0:Nat)(a0:Array Value):Int×Int×Array Value->Option (Stp (Int×Int×Array Value) (Int×Int×Array Value))
 |(y0_1,y0_5,r0_0)=>bif decide (y0_5<(n_a0:Int)) then (bif (decide (0<=y0_5)&&decide (y0_5<(n_a0:Int))) then (some (.more ((i64.wrap (y0_1+(1:Int))),(i64.wrap (y0_5+(1:Int))),(r0_0.setIfInBounds ((y0_5).toNat*1) (.int .i64 (y0_1))))))
   else (none))
  else (some (.done (y0_1,y0_5,r0_0)))
noncomputable abbrev cKCuP19:=codeOf f19
theorem Zxh(N:Nat)(a1:Int)(n_a0:Nat)(a0:Array Value):∀t:Int×Int×Array Value,Uag PZ (mkΓ []) N (cAt cKCuP19 [1,0,1,0,0]) (pAt (Uaa cKCuP19 [([1,5],[0])]).1 [1,0,1,0]) [1,5] [0] (Zdl a1 n_a0 a0) ((Zfd n_a0) t)=mapS (Zfd n_a0) (Zjw n_a0) (Zby PZ a1 n_a0 a0 t):=by
 rintro⟨y0_1,y0_5,r0_0⟩;refine Eq.trans (b:=(bif decide (y0_5<(n_a0:Int)) then (bif (decide (0<=y0_5)&&decide (y0_5<(n_a0:Int))) then (some (.more ([.a (.i .i64 (i64.wrap (y0_1+(1:Int)))),.a (.i .i64 (i64.wrap (y0_5+(1:Int))))],[.sl .lent n_a0 (r0_0.setIfInBounds ((y0_5).toNat*1) (.int .i64 (y0_1))) 2])))
   else (none))
  else (some (.done ((.exit 0),([.a (.i .i64 (y0_1)),.a (.i .i64 (y0_5))],[.sl .lent n_a0 r0_0 2])))))) (by kernel_rfl) ?_
 simp only[Zby,Zao,Zap,Zam,Zan,Zfd,Zjw]
def Zfu(P:Program)(N:Nat)(a1:Int)(n_a0:Nat)(a0:Array Value)(z0_1:Int)(z0_5:Int)(q0_0:Array Value):Option (SV×Eff×Bool):=bif (Nat.blt 0 n_a0) then (some (.a (.i .i64 (z0_1)),.set 0 (.sl .lent n_a0 q0_0 2),true))
  else (none)
theorem Zp0(N:Nat)(a1:Int)(n_a0:Nat)(a0:Array Value)(z0_1:Int)(z0_5:Int)(q0_0:Array Value):(Uad 0 (kSeq (veC PZ (mkΓ []) N (cAt cKCuP19 [1,1]) (pAt (Uaa cKCuP19 [([1,5],[0])]).1 [1,1]) (SV×Eff×Bool)) (finK PZ [.sl .lent n_a0 a0 2] [.tmp 4]))) (.exit 0) (left (writes (cAt cKCuP19 [1,0,1,0,0])) [1,5] [0] (Zdl a1 n_a0 a0) ([.a (.i .i64 (z0_1)),.a (.i .i64 (z0_5))],[.sl .lent n_a0 q0_0 2]))=Zfu PZ N a1 n_a0 a0 z0_1 z0_5 q0_0:=by
 refine Eq.trans (b:=(bif (Nat.blt 0 n_a0) then (some (.a (.i .i64 (z0_1)),.set 0 (.sl .lent n_a0 q0_0 2),true))
  else (none))) (by kernel_rfl) ?_
 rfl
theorem Zya(N:Nat)(a1:Int)(n_a0:Nat)(a0:Array Value):Uaj (Uab (Uag PZ (mkΓ []) N (cAt cKCuP19 [1,0,1,0,0]) (pAt (Uaa cKCuP19 [([1,5],[0])]).1 [1,0,1,0]) [1,5] [0] (Zdl a1 n_a0 a0)) N ([.a (.i .i64 (a1)),.a (.i .i64 (0:Int))],[.sl .lent n_a0 a0 2])) (λe s=>(Uad 0 (kSeq (veC PZ (mkΓ []) N (cAt cKCuP19 [1,1]) (pAt (Uaa cKCuP19 [([1,5],[0])]).1 [1,1]) (SV×Eff×Bool)) (finK PZ [.sl .lent n_a0 a0 2] [.tmp 4]))) e (left (writes (cAt cKCuP19 [1,0,1,0,0])) [1,5] [0] (Zdl a1 n_a0 a0) s))=Uak (Uab (Zby PZ a1 n_a0 a0) N (a1,(0:Int),a0)) (λx=>Zfu PZ N a1 n_a0 a0 x.1 x.2.1 x.2.2):=by refine Zau (Zfd n_a0) (Zjw n_a0) _ _ (Zxh N a1 n_a0 a0) N (a1,(0:Int),a0) _ _ ?_;intro x;exact Zp0 N a1 n_a0 a0 x.1 x.2.1 x.2.2
theorem Zuu(N:Nat)(a1:Int)(n_a0:Nat)(a0:Array Value):ansV PZ (mkΓ []) N f19 [([1,5],[0])] [.l 0,.i .i64 (a1)] [.sl .lent n_a0 a0 2]=(Uak (Uab (Zby PZ a1 n_a0 a0) N (a1,(0:Int),a0)) (λx=>Zfu PZ N a1 n_a0 a0 x.1 x.2.1 x.2.2)):=by refine Eq.trans (b:=(Uaj (Uab (Uag PZ (mkΓ []) N (cAt cKCuP19 [1,0,1,0,0]) (pAt (Uaa cKCuP19 [([1,5],[0])]).1 [1,0,1,0]) [1,5] [0] (Zdl a1 n_a0 a0)) N ([.a (.i .i64 (a1)),.a (.i .i64 (0:Int))],[.sl .lent n_a0 a0 2])) (λe s=>(Uad 0 (kSeq (veC PZ (mkΓ []) N (cAt cKCuP19 [1,1]) (pAt (Uaa cKCuP19 [([1,5],[0])]).1 [1,1]) (SV×Eff×Bool)) (finK PZ [.sl .lent n_a0 a0 2] [.tmp 4]))) e (left (writes (cAt cKCuP19 [1,0,1,0,0])) [1,5] [0] (Zdl a1 n_a0 a0) s)))) (by kernel_rfl) ?_;simp only[Zya N a1 n_a0 a0]
theorem Zr0(a1:Int)(n_a0:Nat)(a0:Array Value)(h_a1:i64.min<=a1/\a1<=i64.max)(h_a0:a0.size=n_a0*(lay PZ 2).length/\(∀k,k<n_a0->WT PZ 2 (a0.extract (k*(lay PZ 2).length) (k*(lay PZ 2).length+(lay PZ 2).length)))/\n_a0<=9223372036854775807)(hc0:(Nat.beq n_a0 0)=false)(hg:(((Nat.ble n_a0 100000)&&(decide (0<=a1)&&decide (a1<=1000000))))=true):ansV PZ (mkΓ []) 18446744073709551616 f19 [([1,5],[0])] [.l 0,.i .i64 (a1)] [.sl .lent n_a0 a0 2]=some (.a (.i .i64 (a1+((n_a0*1:Nat):Int))),.set 0 (.sl .lent n_a0 (mkA (n_a0*1) a1) 2),true):=by
 rw[Q7,Q7]at hg;have hn:n_a0<=100000:=Nat.le_of_ble_eq_true hg.1;have hk0:0<=a1/\a1<=1000000:=⟨of_decide_eq_true hg.2.1,of_decide_eq_true hg.2.2⟩;have hm:(lay PZ 2).length=1:=by kernel_rfl
 obtain⟨s1,-,-⟩:=h_a0;rw[hm]at s1;have hs:(mkA (n_a0*1) a1).size=a0.size:=by rw[Ynm,s1]
 have hpos:Nat.blt 0 n_a0=true:=by
  have:n_a0≠0:=λh=>by rw[h]at hc0;cases hc0
  simp[Nat.blt];omega
 have h:=Zcu (g:=Zby PZ a1 n_a0 a0) (λi=>(a1+((i*1:Nat):Int),(i:Int),upto (mkA (n_a0*1) a1) a0 (i*1))) (m:=n_a0) (x:=(a1+((n_a0*1:Nat):Int),(n_a0:Int),upto (mkA (n_a0*1) a1) a0 (n_a0*1))) (N:=18446744073709551616) (λi hi=>by
  have h1:decide ((i:Int)<(n_a0:Int))=true:=Q3 (by omega);have h2:decide (0<=(i:Int))=true:=Q3 (by omega);have h4:i64.wrap (a1+((i*1:Nat):Int)+1)=a1+(((i+1)*1:Nat):Int):=by rw[IntWalk.i64_in _ (by omega)];omega
  have h5:i64.wrap ((i:Int)+1)=((i+1:Nat):Int):=by rw[IntWalk.i64_in _ (by omega)];omega
  have h6:(upto (mkA (n_a0*1) a1) a0 (i*1)).setIfInBounds (i*1) (.int .i64 (a1+((i*1:Nat):Int)))=upto (mkA (n_a0*1) a1) a0 ((i+1)*1):=by rw[show (i+1)*1=i*1+1 by omega];exact Zlq hs (mkA_at (by omega))
  simp only[Zby,h1,h2,h4,h5,h6,Q9,jA,Q1]) (by
  have h1:decide ((n_a0:Int)<(n_a0:Int))=false:=Q4 (by omega);simp only[Zby,h1,Q2]) (by omega)
 refine(Zuu 18446744073709551616 a1 n_a0 a0).trans ?_;have hz:upto (mkA (n_a0*1) a1) a0 0=a0:=Zi4 hs;have hl:upto (mkA (n_a0*1) a1) a0 (n_a0*1)=mkA (n_a0*1) a1:=Zlr hs (Ynm _ _);have h0:a1+(((0*1:Nat)):Int)=a1:=by omega
 have h':Uab (Zby PZ a1 n_a0 a0) 18446744073709551616 (a1,(0:Int),a0)=some (a1+((n_a0*1:Nat):Int),(n_a0:Int),mkA (n_a0*1) a1):=by
  have h2:=h;simp only[Nat.zero_mul,hz,hl]at h2;have e:a1+((0:Nat):Int)=a1:=by omega
  rw[e]at h2;exact h2
 rw[h'];simp only[Uak,Zfu,hpos,Q1]
theorem Zqv(a1:Int)(n_a0:Nat)(a0:Array Value)(h_a1:i64.min<=a1/\a1<=i64.max)(h_a0:a0.size=n_a0*(lay PZ 2).length/\(∀k,k<n_a0->WT PZ 2 (a0.extract (k*(lay PZ 2).length) (k*(lay PZ 2).length+(lay PZ 2).length)))/\n_a0<=9223372036854775807)(hc0:(Nat.beq n_a0 0)=true)(hg:(true)=true):ansV PZ (mkΓ []) 1000 f19 [([1,5],[])] [.l 0,.i .i64 (a1)] [.sl .lent n_a0 a0 2]=some (.a (.i .i64 (a1)),.none,true):=by obtain rfl:n_a0=0:=Nat.eq_of_beq_eq_true hc0;kernel_rfl
def Zip:SCon:=λargs h=>match args,h with
 |[.l 0,.i .i64 a1],[.sl .lent n_a0 a0 2]=>.two (Nat.beq n_a0 0) (.one (some (.a (.i .i64 (a1)),.none,true))) (.one (some (.a (.i .i64 (a1+((n_a0*1:Nat):Int))),.set 0 (.sl .lent n_a0 (mkA (n_a0*1) a1) 2),((Nat.ble n_a0 100000)&&(decide (0<=a1)&&decide (a1<=1000000))))))
 |_,_=>.one none
theorem Zrf:EntX PZ 19:=Zah (fn:=f19)
theorem Zvb:Uac (md F) PZ 19 (λargs h=>Uah (Zip args h)):=by
 intro ρ h w args vals r e hn hr hA hH;dsimp only at hr;unfold Zip at hr;split at hr
 ·rename_i a1 n_a0 a0
  simp only[Uah]at hr;cases hc0:(Nat.beq n_a0 0)
  ·rw[hc0]at hr
   simp only[Uah,Q1,Q2]at hr;obtain⟨rfl,rfl,hg2⟩:=BQi hr;exact((ansY (N:=18446744073709551616) mKn f19 [([1,5],[0])])) ρ _ w _ vals _ _ hn ((Zr0 a1 n_a0 a0 (hA.rng 1 rfl) (hH.slw 0 rfl) hc0 hg2)) hA hH
  ·rw[hc0]at hr
   simp only[Uah,Q1,Q2]at hr;obtain⟨rfl,rfl,hg2⟩:=BQi hr;exact((ansY (N:=1000) mKn f19 [([1,5],[])])) ρ _ w _ vals _ _ hn ((Zqv a1 n_a0 a0 (hA.rng 1 rfl) (hH.slw 0 rfl) hc0 hg2)) hA hH
 ·simp only[Uah]at hr
  cases hr
def Zcs(a1:Int)(b_a0:Option (Option Addr))(n_a0:Nat)(a0:Array Value):St:=(⟨.a (.l 0) :: .a (.i .i64 (a1)) :: .a (.u) :: .a (.u) :: .a (.i .i64 (0:Int)) :: .a (.i .i64 (0:Int))::us 15 ([]),[.sl (.came b_a0) n_a0 a0 2],[]⟩:St)
def Zdr:Int×Int×Int->LS
 |(y0_1,y0_4,y0_5)=>([.a (.i .i64 (y0_1)),.a (.i .i64 (y0_4)),.a (.i .i64 (y0_5))],[])
def Zkn:(Stp (Int×Int×Int) (Int×Int×Int))->Exit×LS
 |.more t=>(.ret,Zdr t)
 |.done t=>((.exit 0),Zdr t)
def Zb0(P:Program)(a1:Int)(b_a0:Option (Option Addr))(n_a0:Nat)(a0:Array Value):Int×Int×Int->Option (Stp (Int×Int×Int) (Stp (Int×Int×Int) (Int×Int×Int)))
 |(y0_1,y0_4,y0_5)=>bif decide (y0_5<(n_a0:Int)) then (bif (decide (0<=y0_5)&&decide (y0_5<(n_a0:Int))) then (bif ((num a0 ((y0_5).toNat*1)) != y0_1) then (some (.done (.more (y0_1,(-1:Int),y0_5))))
    else (some (.more ((i64.wrap (y0_1+(1:Int))),y0_4,(i64.wrap (y0_5+(1:Int)))))))
   else (none))
  else (some (.done (.done (y0_1,y0_4,y0_5))))
noncomputable abbrev cKCuP20:=codeOf f20
theorem Zx9(N:Nat)(a1:Int)(b_a0:Option (Option Addr))(n_a0:Nat)(a0:Array Value):∀t:Int×Int×Int,Uag PZ (mkΓ []) N (cAt cKCuP20 [1,0,1,0,0]) (pAt (Uaa cKCuP20 [([1,4,5],[])]).1 [1,0,1,0]) [1,4,5] [] (Zcs a1 b_a0 n_a0 a0) (Zdr t)=mapS Zdr Zkn (Zb0 PZ a1 b_a0 n_a0 a0 t):=by
 rintro⟨y0_1,y0_4,y0_5⟩;refine Eq.trans (b:=(bif decide (y0_5<(n_a0:Int)) then (bif (decide (0<=y0_5)&&decide (y0_5<(n_a0:Int))) then (bif ((num a0 ((y0_5).toNat*1)) != y0_1) then (some (.done (.ret,([.a (.i .i64 (y0_1)),.a (.i .i64 (-1:Int)),.a (.i .i64 (y0_5))],[]))))
    else (some (.more ([.a (.i .i64 (i64.wrap (y0_1+(1:Int)))),.a (.i .i64 (y0_4)),.a (.i .i64 (i64.wrap (y0_5+(1:Int))))],[]))))
   else (none))
  else (some (.done ((.exit 0),([.a (.i .i64 (y0_1)),.a (.i .i64 (y0_4)),.a (.i .i64 (y0_5))],[])))))) (by kernel_rfl) ?_
 simp only[Zb0,Zao,Zap,Zam,Zan,Zdr,Zkn]
def Ziw(P:Program)(N:Nat)(a1:Int)(b_a0:Option (Option Addr))(n_a0:Nat)(a0:Array Value)(z0_1:Int)(z0_4:Int)(z0_5:Int):Option (SV×Eff×Bool):=some (.a (.i .i64 (z0_4)),.none,true)
theorem Zpy(N:Nat)(a1:Int)(b_a0:Option (Option Addr))(n_a0:Nat)(a0:Array Value)(z0_1:Int)(z0_4:Int)(z0_5:Int):(Uad 0 (kSeq (veC PZ (mkΓ []) N (cAt cKCuP20 [1,1]) (pAt (Uaa cKCuP20 [([1,4,5],[])]).1 [1,1]) (SV×Eff×Bool)) (finK PZ [.sl (.came b_a0) n_a0 a0 2] [.tmp 4]))) .ret (left (writes (cAt cKCuP20 [1,0,1,0,0])) [1,4,5] [] (Zcs a1 b_a0 n_a0 a0) ([.a (.i .i64 (z0_1)),.a (.i .i64 (z0_4)),.a (.i .i64 (z0_5))],[]))=Ziw PZ N a1 b_a0 n_a0 a0 z0_1 z0_4 z0_5:=by refine Eq.trans (b:=(some (.a (.i .i64 (z0_4)),.none,true))) (by kernel_rfl) ?_;rfl
def Zio(P:Program)(N:Nat)(a1:Int)(b_a0:Option (Option Addr))(n_a0:Nat)(a0:Array Value)(z0_1:Int)(z0_4:Int)(z0_5:Int):Option (SV×Eff×Bool):=some (.a (.i .i64 (z0_1)),.none,true)
theorem Zp5(N:Nat)(a1:Int)(b_a0:Option (Option Addr))(n_a0:Nat)(a0:Array Value)(z0_1:Int)(z0_4:Int)(z0_5:Int):(Uad 0 (kSeq (veC PZ (mkΓ []) N (cAt cKCuP20 [1,1]) (pAt (Uaa cKCuP20 [([1,4,5],[])]).1 [1,1]) (SV×Eff×Bool)) (finK PZ [.sl (.came b_a0) n_a0 a0 2] [.tmp 4]))) (.exit 0) (left (writes (cAt cKCuP20 [1,0,1,0,0])) [1,4,5] [] (Zcs a1 b_a0 n_a0 a0) ([.a (.i .i64 (z0_1)),.a (.i .i64 (z0_4)),.a (.i .i64 (z0_5))],[]))=Zio PZ N a1 b_a0 n_a0 a0 z0_1 z0_4 z0_5:=by refine Eq.trans (b:=(some (.a (.i .i64 (z0_1)),.none,true))) (by kernel_rfl) ?_;rfl
theorem Zyq(N:Nat)(a1:Int)(b_a0:Option (Option Addr))(n_a0:Nat)(a0:Array Value):Uaj (Uab (Uag PZ (mkΓ []) N (cAt cKCuP20 [1,0,1,0,0]) (pAt (Uaa cKCuP20 [([1,4,5],[])]).1 [1,0,1,0]) [1,4,5] [] (Zcs a1 b_a0 n_a0 a0)) N ([.a (.i .i64 (a1)),.a (.i .i64 (0:Int)),.a (.i .i64 (0:Int))],[])) (λe s=>(Uad 0 (kSeq (veC PZ (mkΓ []) N (cAt cKCuP20 [1,1]) (pAt (Uaa cKCuP20 [([1,4,5],[])]).1 [1,1]) (SV×Eff×Bool)) (finK PZ [.sl (.came b_a0) n_a0 a0 2] [.tmp 4]))) e (left (writes (cAt cKCuP20 [1,0,1,0,0])) [1,4,5] [] (Zcs a1 b_a0 n_a0 a0) s))=Uak (Uab (Zb0 PZ a1 b_a0 n_a0 a0) N (a1,(0:Int),(0:Int))) (st2 (λx=>Ziw PZ N a1 b_a0 n_a0 a0 x.1 x.2.1 x.2.2) (λx=>Zio PZ N a1 b_a0 n_a0 a0 x.1 x.2.1 x.2.2)):=by
 refine Zau Zdr Zkn _ _ (Zx9 N a1 b_a0 n_a0 a0) N (a1,(0:Int),(0:Int)) _ _ ?_;intro x;cases x with
 |more x=>exact Zpy N a1 b_a0 n_a0 a0 x.1 x.2.1 x.2.2
 |done x=>exact Zp5 N a1 b_a0 n_a0 a0 x.1 x.2.1 x.2.2
theorem Zvo(N:Nat)(a1:Int)(b_a0:Option (Option Addr))(n_a0:Nat)(a0:Array Value):ansV PZ (mkΓ []) N f20 [([1,4,5],[])] [.l 0,.i .i64 (a1)] [.sl (.came b_a0) n_a0 a0 2]=(Uak (Uab (Zb0 PZ a1 b_a0 n_a0 a0) N (a1,(0:Int),(0:Int))) (st2 (λx=>Ziw PZ N a1 b_a0 n_a0 a0 x.1 x.2.1 x.2.2) (λx=>Zio PZ N a1 b_a0 n_a0 a0 x.1 x.2.1 x.2.2))):=by refine Eq.trans (b:=(Uaj (Uab (Uag PZ (mkΓ []) N (cAt cKCuP20 [1,0,1,0,0]) (pAt (Uaa cKCuP20 [([1,4,5],[])]).1 [1,0,1,0]) [1,4,5] [] (Zcs a1 b_a0 n_a0 a0)) N ([.a (.i .i64 (a1)),.a (.i .i64 (0:Int)),.a (.i .i64 (0:Int))],[])) (λe s=>(Uad 0 (kSeq (veC PZ (mkΓ []) N (cAt cKCuP20 [1,1]) (pAt (Uaa cKCuP20 [([1,4,5],[])]).1 [1,1]) (SV×Eff×Bool)) (finK PZ [.sl (.came b_a0) n_a0 a0 2] [.tmp 4]))) e (left (writes (cAt cKCuP20 [1,0,1,0,0])) [1,4,5] [] (Zcs a1 b_a0 n_a0 a0) s)))) (by kernel_rfl) ?_;simp only[Zyq N a1 b_a0 n_a0 a0]
theorem Zt7(a1:Int)(b_a0:Option (Option Addr))(n_a0:Nat)(a0:Array Value)(h_a1:i64.min<=a1/\a1<=i64.max)(h_a0:a0.size=n_a0*(lay PZ 2).length/\(∀k,k<n_a0->WT PZ 2 (a0.extract (k*(lay PZ 2).length) (k*(lay PZ 2).length+(lay PZ 2).length)))/\n_a0<=9223372036854775807)(hg:(((Nat.ble n_a0 100000)&&((decide (0<=a1)&&decide (a1<=1000000))&&Uai a0 (mkA (n_a0*1) a1))))=true):ansV PZ (mkΓ []) 18446744073709551616 f20 [([1,4,5],[])] [.l 0,.i .i64 (a1)] [.sl (.came b_a0) n_a0 a0 2]=some (.a (.i .i64 (a1+((n_a0*1:Nat):Int))),.none,true):=by
 rw[Q7,Q7,Q7]at hg;have hn:n_a0<=100000:=Nat.le_of_ble_eq_true hg.1;have hk0:0<=a1/\a1<=1000000:=⟨of_decide_eq_true hg.2.1.1,of_decide_eq_true hg.2.1.2⟩;have hA:=Zhq.1 hg.2.2;have hnum:∀i,i<n_a0*1->(num a0 i != a1+(i:Int))=false:=λi hi=>by rw[hA,mkA_num hi];exact bne_self_eq_false _
 have h:=Zcu (g:=Zb0 PZ a1 b_a0 n_a0 a0) (λi=>(a1+((i*1:Nat):Int),(0:Int),(i:Int))) (m:=n_a0) (x:=.done (a1+((n_a0*1:Nat):Int),(0:Int),(n_a0:Int))) (N:=18446744073709551616) (λi hi=>by
  have h1:decide ((i:Int)<(n_a0:Int))=true:=Q3 (by omega);have h2:decide (0<=(i:Int))=true:=Q3 (by omega);have h4:i64.wrap (a1+((i*1:Nat):Int)+1)=a1+(((i+1)*1:Nat):Int):=by rw[IntWalk.i64_in _ (by omega)];omega
  have h5:i64.wrap ((i:Int)+1)=((i+1:Nat):Int):=by rw[IntWalk.i64_in _ (by omega)];omega
  have h6:=hnum (i*1) (by omega);simp only[Zb0,h1,h2,h4,h5,h6,Q9,jA,Q1,Q2]) (by
  have h1:decide ((n_a0:Int)<(n_a0:Int))=false:=Q4 (by omega);simp only[Zb0,h1,Q2]) (by omega)
 refine(Zvo 18446744073709551616 a1 b_a0 n_a0 a0).trans ?_;have h':Uab (Zb0 PZ a1 b_a0 n_a0 a0) 18446744073709551616 (a1,(0:Int),(0:Int))=some (.done (a1+((n_a0*1:Nat):Int),(0:Int),(n_a0:Int))):=by
  have h2:=h;have e:a1+((0*1:Nat):Int)=a1:=by omega
  simp only[e]at h2;exact h2
 rw[h'];rfl
def Zjm:Con:=λargs h=>match args,h with
 |[.l 0,.i .i64 a1],[.sl (.came b_a0) n_a0 a0 2]=>some (.a (.i .i64 (a1+((n_a0*1:Nat):Int))),.none,((Nat.ble n_a0 100000)&&((decide (0<=a1)&&decide (a1<=1000000))&&Uai a0 (mkA (n_a0*1) a1))))
 |_,_=>none
theorem Zsn:EntX PZ 20:=Zah (fn:=f20)
theorem Zy2:Uac (md F) PZ 20 Zjm:=(ansY (N:=18446744073709551616) mKn f20 [([1,4,5],[])]).of (by
 intro ρ h w args vals r e hA hH hr;unfold Zjm at hr;split at hr
 ·rename_i a1 b_a0 n_a0 a0
  obtain⟨rfl,rfl,hg2⟩:=BQi hr;exact Zt7 a1 b_a0 n_a0 a0 (hA.rng 1 rfl) (hH.slw 0 rfl) hg2
 ·cases hr)
theorem Yak(N:Nat)(a0 a1:Array Value):ansV PZ (mkΓ []) N f40 [] [.g a0 70,.g a1 70] []=(bif ((num a0 0) != (num a1 0)) then (some (.a (.b (false)),.none,true))
  else (bif ((num a0 1) != (num a1 1)) then (some (.a (.b (false)),.none,true))
   else (some (.a (.b (true)),.none,true)))):=by kernel_rfl
theorem Zxk(a0 a1:Array Value)(h_a0:WT PZ 70 a0)(h_a1:WT PZ 70 a1)(hg:(true)=true):ansV PZ (mkΓ []) 1000 f40 [] [.g a0 70,.g a1 70] []=some (.a (.b (Uai a0 a1)),.none,true):=by
 have hz:a0.size=2:=by rw[h_a0.layLen];kernel_rfl
 have hy:a1.size=2:=by rw[h_a1.layLen];kernel_rfl
 refine(Yak 1000 a0 a1).trans ?_;cases hb:Uai a0 a1
 ·have hne:=Ymp.1 hb
  cases h0:(num a0 0 != num a1 0)
  ·skip
   cases h1:(num a0 1 != num a1 1)
   ·skip
    exfalso;refine hne (Zhy λi=> ?_)
    by_cases c0:i=0
    ·subst c0
     rw[(h_a0.int (k:=.i8) (o:=0) (by kernel_rfl)).1,(h_a1.int (k:=.i8) (o:=0) (by kernel_rfl)).1,num_eq h0]
    by_cases c1:i=1
    ·subst c1
     rw[(h_a0.int (k:=.i8) (o:=1) (by kernel_rfl)).1,(h_a1.int (k:=.i8) (o:=1) (by kernel_rfl)).1,num_eq h1]
    rw[Array.getElem?_eq_none (by omega),Array.getElem?_eq_none (by omega)]
   ·rfl
  ·rfl
 ·rw[Zhq.1 hb]
  simp only[bne_self_eq_false,Q2,Zs2,Bool.not_true]
def Zbc:Con:=λargs h=>match args,h with
 |[.g a0 70,.g a1 70],[]=>some (.a (.b (Uai a0 a1)),.none,true)
 |_,_=>none
theorem Zvx:EntX PZ 40:=Zah (fn:=f40)
theorem Ycp:Uac (md F) PZ 40 Zbc:=(ansY (N:=1000) mKn f40 []).of (by
 intro ρ h w args vals r e hA hH hr;unfold Zbc at hr;split at hr
 ·rename_i a0 a1
  obtain⟨rfl,rfl,hg2⟩:=BQi hr;exact Zxk a0 a1 (hA.wt 0 rfl) (hA.wt 1 rfl) hg2
 ·cases hr)
def Zeq(b_a0:Option (Option Addr))(n_a0:Nat)(a0:Array Value)(b_a1:Option (Option Addr))(n_a1:Nat)(a1:Array Value):St:=(⟨.a (.l 0) :: .a (.l 1) :: .a (.u) :: .a (.u) :: .a (.b (false)) :: .a (.i .i64 (0:Int)) :: .a (.l 0) :: .a (.i .i64 (n_a0:Int)) :: .a (.l 1) :: .a (.i .i64 (n_a1:Int)) :: .a (.b (((n_a0:Int) != (n_a1:Int))))::us 16 ([]),[.sl (.came b_a0) n_a0 a0 70,.sl (.came b_a1) n_a1 a1 70],[]⟩:St)
def Zfx:Bool×Int->LS
 |(y0_4,y0_5)=>([.a (.b (y0_4)),.a (.i .i64 (y0_5))],[])
def Znn:(Stp (Bool×Int) (Bool×Int))->Exit×LS
 |.more t=>(.ret,Zfx t)
 |.done t=>((.exit 0),Zfx t)
def Zdj(P:Program)(b_a0:Option (Option Addr))(n_a0:Nat)(a0:Array Value)(b_a1:Option (Option Addr))(n_a1:Nat)(a1:Array Value):Bool×Int->Option (Stp (Bool×Int) (Stp (Bool×Int) (Bool×Int)))
 |(y0_4,y0_5)=>bif decide (y0_5<(n_a0:Int)) then (bif (decide (0<=y0_5)&&decide (y0_5<(n_a0:Int))) then (bif (decide (0<=y0_5)&&decide (y0_5<(n_a1:Int))) then (bif (!(Uai (a0.extract ((y0_5).toNat*2) (((y0_5).toNat*2)+2)) (a1.extract ((y0_5).toNat*2) (((y0_5).toNat*2)+2)))) then (some (.done (.more (false,y0_5))))
     else (some (.more (y0_4,(i64.wrap (y0_5+(1:Int)))))))
    else (none))
   else (none))
  else (some (.done (.done (y0_4,y0_5))))
noncomputable abbrev cKCuP14:=codeOf f14
theorem Ye0(N:Nat)(b_a0:Option (Option Addr))(n_a0:Nat)(a0:Array Value)(b_a1:Option (Option Addr))(n_a1:Nat)(a1:Array Value):∀t:Bool×Int,Uag PZ (mkΓ [(40,con Zbc)]) N (cAt cKCuP14 [1,1,0,1,0,0]) (pAt (Uaa cKCuP14 [([4,5],[])]).1 [1,1,0,1,0]) [4,5] [] (Zeq b_a0 n_a0 a0 b_a1 n_a1 a1) (Zfx t)=mapS Zfx Znn (Zdj PZ b_a0 n_a0 a0 b_a1 n_a1 a1 t):=by
 rintro⟨y0_4,y0_5⟩;refine Eq.trans (b:=(bif decide (y0_5<(n_a0:Int)) then (bif (decide (0<=y0_5)&&decide (y0_5<(n_a0:Int))) then (bif (decide (0<=y0_5)&&decide (y0_5<(n_a1:Int))) then (bif (!(Uai (a0.extract ((y0_5).toNat*2) (((y0_5).toNat*2)+2)) (a1.extract ((y0_5).toNat*2) (((y0_5).toNat*2)+2)))) then (some (.done (.ret,([.a (.b (false)),.a (.i .i64 (y0_5))],[]))))
     else (some (.more ([.a (.b (y0_4)),.a (.i .i64 (i64.wrap (y0_5+(1:Int))))],[]))))
    else (none))
   else (none))
  else (some (.done ((.exit 0),([.a (.b (y0_4)),.a (.i .i64 (y0_5))],[])))))) (by kernel_rfl) ?_
 simp only[Zdj,Zao,Zap,Zam,Zan,Zfx,Znn]
def Zlc(P:Program)(N:Nat)(b_a0:Option (Option Addr))(n_a0:Nat)(a0:Array Value)(b_a1:Option (Option Addr))(n_a1:Nat)(a1:Array Value)(z0_4:Bool)(z0_5:Int):Option (SV×Eff×Bool):=some (.a (.b (z0_4)),.none,true)
theorem Zt3(N:Nat)(b_a0:Option (Option Addr))(n_a0:Nat)(a0:Array Value)(b_a1:Option (Option Addr))(n_a1:Nat)(a1:Array Value)(z0_4:Bool)(z0_5:Int):(Uad 0 (kSeq (veC PZ (mkΓ [(40,con Zbc)]) N (cAt cKCuP14 [1,1,1]) (pAt (Uaa cKCuP14 [([4,5],[])]).1 [1,1,1]) (SV×Eff×Bool)) (finK PZ [.sl (.came b_a0) n_a0 a0 70,.sl (.came b_a1) n_a1 a1 70] [.tmp 4]))) .ret (left (writes (cAt cKCuP14 [1,1,0,1,0,0])) [4,5] [] (Zeq b_a0 n_a0 a0 b_a1 n_a1 a1) ([.a (.b (z0_4)),.a (.i .i64 (z0_5))],[]))=Zlc PZ N b_a0 n_a0 a0 b_a1 n_a1 a1 z0_4 z0_5:=by refine Eq.trans (b:=(some (.a (.b (z0_4)),.none,true))) (by kernel_rfl) ?_;rfl
def Zk5(P:Program)(N:Nat)(b_a0:Option (Option Addr))(n_a0:Nat)(a0:Array Value)(b_a1:Option (Option Addr))(n_a1:Nat)(a1:Array Value)(z0_4:Bool)(z0_5:Int):Option (SV×Eff×Bool):=some (.a (.b (true)),.none,true)
theorem Ztb(N:Nat)(b_a0:Option (Option Addr))(n_a0:Nat)(a0:Array Value)(b_a1:Option (Option Addr))(n_a1:Nat)(a1:Array Value)(z0_4:Bool)(z0_5:Int):(Uad 0 (kSeq (veC PZ (mkΓ [(40,con Zbc)]) N (cAt cKCuP14 [1,1,1]) (pAt (Uaa cKCuP14 [([4,5],[])]).1 [1,1,1]) (SV×Eff×Bool)) (finK PZ [.sl (.came b_a0) n_a0 a0 70,.sl (.came b_a1) n_a1 a1 70] [.tmp 4]))) (.exit 0) (left (writes (cAt cKCuP14 [1,1,0,1,0,0])) [4,5] [] (Zeq b_a0 n_a0 a0 b_a1 n_a1 a1) ([.a (.b (z0_4)),.a (.i .i64 (z0_5))],[]))=Zk5 PZ N b_a0 n_a0 a0 b_a1 n_a1 a1 z0_4 z0_5:=by refine Eq.trans (b:=(some (.a (.b (true)),.none,true))) (by kernel_rfl) ?_;rfl
theorem Yf1(N:Nat)(b_a0:Option (Option Addr))(n_a0:Nat)(a0:Array Value)(b_a1:Option (Option Addr))(n_a1:Nat)(a1:Array Value):Uaj (Uab (Uag PZ (mkΓ [(40,con Zbc)]) N (cAt cKCuP14 [1,1,0,1,0,0]) (pAt (Uaa cKCuP14 [([4,5],[])]).1 [1,1,0,1,0]) [4,5] [] (Zeq b_a0 n_a0 a0 b_a1 n_a1 a1)) N ([.a (.b (false)),.a (.i .i64 (0:Int))],[])) (λe s=>(Uad 0 (kSeq (veC PZ (mkΓ [(40,con Zbc)]) N (cAt cKCuP14 [1,1,1]) (pAt (Uaa cKCuP14 [([4,5],[])]).1 [1,1,1]) (SV×Eff×Bool)) (finK PZ [.sl (.came b_a0) n_a0 a0 70,.sl (.came b_a1) n_a1 a1 70] [.tmp 4]))) e (left (writes (cAt cKCuP14 [1,1,0,1,0,0])) [4,5] [] (Zeq b_a0 n_a0 a0 b_a1 n_a1 a1) s))=Uak (Uab (Zdj PZ b_a0 n_a0 a0 b_a1 n_a1 a1) N (false,(0:Int))) (st2 (λx=>Zlc PZ N b_a0 n_a0 a0 b_a1 n_a1 a1 x.1 x.2) (λx=>Zk5 PZ N b_a0 n_a0 a0 b_a1 n_a1 a1 x.1 x.2)):=by
 refine Zau Zfx Znn _ _ (Ye0 N b_a0 n_a0 a0 b_a1 n_a1 a1) N (false,(0:Int)) _ _ ?_;intro x;cases x with
 |more x=>exact Zt3 N b_a0 n_a0 a0 b_a1 n_a1 a1 x.1 x.2
 |done x=>exact Ztb N b_a0 n_a0 a0 b_a1 n_a1 a1 x.1 x.2
theorem Yba(N:Nat)(b_a0:Option (Option Addr))(n_a0:Nat)(a0:Array Value)(b_a1:Option (Option Addr))(n_a1:Nat)(a1:Array Value):ansV PZ (mkΓ [(40,con Zbc)]) N f14 [([4,5],[])] [.l 0,.l 1] [.sl (.came b_a0) n_a0 a0 70,.sl (.came b_a1) n_a1 a1 70]=(bif ((n_a0:Int) != (n_a1:Int)) then (some (.a (.b (false)),.none,true))
  else (Uak (Uab (Zdj PZ b_a0 n_a0 a0 b_a1 n_a1 a1) N (false,(0:Int))) (st2 (λx=>Zlc PZ N b_a0 n_a0 a0 b_a1 n_a1 a1 x.1 x.2) (λx=>Zk5 PZ N b_a0 n_a0 a0 b_a1 n_a1 a1 x.1 x.2)))):=by
 refine Eq.trans (b:=(bif ((n_a0:Int) != (n_a1:Int)) then (some (.a (.b (false)),.none,true))
  else (Uaj (Uab (Uag PZ (mkΓ [(40,con Zbc)]) N (cAt cKCuP14 [1,1,0,1,0,0]) (pAt (Uaa cKCuP14 [([4,5],[])]).1 [1,1,0,1,0]) [4,5] [] (Zeq b_a0 n_a0 a0 b_a1 n_a1 a1)) N ([.a (.b (false)),.a (.i .i64 (0:Int))],[])) (λe s=>(Uad 0 (kSeq (veC PZ (mkΓ [(40,con Zbc)]) N (cAt cKCuP14 [1,1,1]) (pAt (Uaa cKCuP14 [([4,5],[])]).1 [1,1,1]) (SV×Eff×Bool)) (finK PZ [.sl (.came b_a0) n_a0 a0 70,.sl (.came b_a1) n_a1 a1 70] [.tmp 4]))) e (left (writes (cAt cKCuP14 [1,1,0,1,0,0])) [4,5] [] (Zeq b_a0 n_a0 a0 b_a1 n_a1 a1) s))))) (by kernel_rfl) ?_
 simp only[Yf1 N b_a0 n_a0 a0 b_a1 n_a1 a1]
theorem Yaa(b_a0:Option (Option Addr))(n_a0:Nat)(a0:Array Value)(b_a1:Option (Option Addr))(n_a1:Nat)(a1:Array Value)(h_a0:a0.size=n_a0*(lay PZ 70).length/\(∀k,k<n_a0->WT PZ 70 (a0.extract (k*(lay PZ 70).length) (k*(lay PZ 70).length+(lay PZ 70).length)))/\n_a0<=9223372036854775807)(h_a1:a1.size=n_a1*(lay PZ 70).length/\(∀k,k<n_a1->WT PZ 70 (a1.extract (k*(lay PZ 70).length) (k*(lay PZ 70).length+(lay PZ 70).length)))/\n_a1<=9223372036854775807)(hg:(true)=true):ansV PZ (mkΓ [(40,con Zbc)]) 18446744073709551616 f14 [([4,5],[])] [.l 0,.l 1] [.sl (.came b_a0) n_a0 a0 70,.sl (.came b_a1) n_a1 a1 70]=some (.a (.b ((decide (n_a0=n_a1)&&Uai a0 a1))),.none,true):=by
 have hm:(lay PZ 70).length=2:=by kernel_rfl
 obtain⟨s1,s2,s3⟩:=h_a0;obtain⟨t1,t2,t3⟩:=h_a1;rw[hm]at s1 s2 t1 t2;have hq:(lay PZ 70)[0]?=some 0:=by kernel_rfl
 refine(Yba 18446744073709551616 b_a0 n_a0 a0 b_a1 n_a1 a1).trans ?_
 by_cases hl:n_a0=n_a1
 case neg=>
  rw[Q4 hl,show ((n_a0:Int) != (n_a1:Int))=true from bne_iff_ne.2 (by omega)];rfl
 subst hl;rw[Q3 rfl,show ((n_a0:Int) != (n_a0:Int))=false from bne_self_eq_false _];simp only[Q2,Bool.true_and];have hb:Uai a0 a1=true ↔ ∀k,k<n_a0->(λk=>Uai (a0.extract (k*2) (k*2+2)) (a1.extract (k*2) (k*2+2))) k=true:=by
  constructor
  ·intro h k hk
   rw[Zhq.1 h];exact Zs2 _
  ·intro h
   refine Zhq.2 ?_;exact Ye2 (n:=n_a0) (m:=2) (by omega) s1 t1 (λk hk=>Zhq.1 (h k hk))
 refine(Zs9 (g:=Zdj PZ b_a0 n_a0 a0 b_a1 n_a0 a1) (λk=>(false,(k:Int))) (λk=>Uai (a0.extract (k*2) (k*2+2)) (a1.extract (k*2) (k*2+2))) n_a0 (N:=18446744073709551616) (xd:=.done (false,(n_a0:Int))) (by omega) (λk hk hp=>by
  have h1:decide ((k:Int)<(n_a0:Int))=true:=Q3 (by omega);have h0:decide (0<=(k:Int))=true:=Q3 (by omega);have h3:i64.wrap ((k:Int)+1)=((k+1:Nat):Int):=by rw[IntWalk.i64_in _ (by omega)];omega
  have hp':Uai (a0.extract (k*2) (k*2+2)) (a1.extract (k*2) (k*2+2))=true:=hp;simp only[Zdj,h1,h0,jA,Q9,Q1,h3,hp',Bool.not_true,Q2]) (by
  have h1:decide ((n_a0:Int)<(n_a0:Int))=false:=Q4 (by omega);simp only[Zdj,h1,Q2]) (Uai a0 a1) hb (some (.a (.b true),.none,true)) (some (.a (.b false),.none,true)) rfl (λk hk hp=>by
  refine⟨.more (false,(k:Int)),?_,rfl⟩;have h1:decide ((k:Int)<(n_a0:Int))=true:=Q3 (by omega);have h0:decide (0<=(k:Int))=true:=Q3 (by omega);have hp':Uai (a0.extract (k*2) (k*2+2)) (a1.extract (k*2) (k*2+2))=false:=hp;simp only[Zdj,h1,h0,jA,Q9,Q1,hp',Bool.not_false])).trans ?_
 cases Uai a0 a1<;>rfl
def Zmq:Con:=λargs h=>match args,h with
 |[.l 0,.l 1],[.sl (.came b_a0) n_a0 a0 70,.sl (.came b_a1) n_a1 a1 70]=>some (.a (.b ((decide (n_a0=n_a1)&&Uai a0 a1))),.none,true)
 |_,_=>none
theorem Zxr:EntX PZ 14:=Zah (fn:=f14)
theorem Yfk:Uac (md F) PZ 14 Zmq:=(ansY (N:=18446744073709551616) (mKc (Zae Ycp) Zvx mKn) f14 [([4,5],[])]).of (by
 intro ρ h w args vals r e hA hH hr;unfold Zmq at hr;split at hr
 ·rename_i b_a0 n_a0 a0 b_a1 n_a1 a1
  obtain⟨rfl,rfl,hg2⟩:=BQi hr;exact Yaa b_a0 n_a0 a0 b_a1 n_a1 a1 (hH.slw 0 rfl) (hH.slw 1 rfl) hg2
 ·cases hr)
def Zeg(a1:Int)(n_a0:Nat)(a0:Array Value):St:=(⟨.a (.l 0) :: .a (.i .i64 (a1)) :: .a (.u) :: .a (.u) :: .a (.i .i64 (0:Int)) :: .a (.i .i64 (0:Int))::us 23 ([]),[.sl .lent n_a0 a0 70],[]⟩:St)
def Zf9(n_a0:Nat):Int×Int×Array Value->LS
 |(y0_1,y0_5,r0_0)=>([.a (.i .i64 (y0_1)),.a (.i .i64 (y0_5))],[.sl .lent n_a0 r0_0 70])
def Zk6(n_a0:Nat):Int×Int×Array Value->Exit×LS
 |t=>((.exit 0),(Zf9 n_a0) t)
def Zcd(P:Program)(a1:Int)(n_a0:Nat)(a0:Array Value):Int×Int×Array Value->Option (Stp (Int×Int×Array Value) (Int×Int×Array Value))
 |(y0_1,y0_5,r0_0)=>bif decide (y0_5<(n_a0:Int)) then (bif (decide (0<=y0_5)&&decide (y0_5<(n_a0:Int))) then (bif (decide (0<=y0_5)&&decide (y0_5<(n_a0:Int))) then (some (.more ((i64.wrap ((i64.wrap (y0_1+(1:Int)))+(1:Int))),(i64.wrap (y0_5+(1:Int))),((r0_0.setIfInBounds (((y0_5).toNat*2)+0) (.int .i8 (IntKind.i8.wrap y0_1))).setIfInBounds (((y0_5).toNat*2)+1) (.int .i8 (IntKind.i8.wrap (i64.wrap (y0_1+(1:Int)))))))))
    else (none))
   else (none))
  else (some (.done (y0_1,y0_5,r0_0)))
noncomputable abbrev cKCuP18:=codeOf f18
theorem Zzq(N:Nat)(a1:Int)(n_a0:Nat)(a0:Array Value):∀t:Int×Int×Array Value,Uag PZ (mkΓ []) N (cAt cKCuP18 [1,0,1,0,0]) (pAt (Uaa cKCuP18 [([1,5],[0])]).1 [1,0,1,0]) [1,5] [0] (Zeg a1 n_a0 a0) ((Zf9 n_a0) t)=mapS (Zf9 n_a0) (Zk6 n_a0) (Zcd PZ a1 n_a0 a0 t):=by
 rintro⟨y0_1,y0_5,r0_0⟩;refine Eq.trans (b:=(bif decide (y0_5<(n_a0:Int)) then (bif (decide (0<=y0_5)&&decide (y0_5<(n_a0:Int))) then (bif (decide (0<=y0_5)&&decide (y0_5<(n_a0:Int))) then (some (.more ([.a (.i .i64 (i64.wrap ((i64.wrap (y0_1+(1:Int)))+(1:Int)))),.a (.i .i64 (i64.wrap (y0_5+(1:Int))))],[.sl .lent n_a0 ((r0_0.setIfInBounds (((y0_5).toNat*2)+0) (.int .i8 (IntKind.i8.wrap y0_1))).setIfInBounds (((y0_5).toNat*2)+1) (.int .i8 (IntKind.i8.wrap (i64.wrap (y0_1+(1:Int)))))) 70])))
    else (none))
   else (none))
  else (some (.done ((.exit 0),([.a (.i .i64 (y0_1)),.a (.i .i64 (y0_5))],[.sl .lent n_a0 r0_0 70])))))) (by kernel_rfl) ?_
 simp only[Zcd,Zao,Zap,Zam,Zan,Zf9,Zk6]
def Zgi(P:Program)(N:Nat)(a1:Int)(n_a0:Nat)(a0:Array Value)(z0_1:Int)(z0_5:Int)(q0_0:Array Value):Option (SV×Eff×Bool):=bif (Nat.blt 0 n_a0) then (some (.a (.i .i64 (z0_1)),.set 0 (.sl .lent n_a0 q0_0 70),true))
  else (none)
theorem Zqj(N:Nat)(a1:Int)(n_a0:Nat)(a0:Array Value)(z0_1:Int)(z0_5:Int)(q0_0:Array Value):(Uad 0 (kSeq (veC PZ (mkΓ []) N (cAt cKCuP18 [1,1]) (pAt (Uaa cKCuP18 [([1,5],[0])]).1 [1,1]) (SV×Eff×Bool)) (finK PZ [.sl .lent n_a0 a0 70] [.tmp 4]))) (.exit 0) (left (writes (cAt cKCuP18 [1,0,1,0,0])) [1,5] [0] (Zeg a1 n_a0 a0) ([.a (.i .i64 (z0_1)),.a (.i .i64 (z0_5))],[.sl .lent n_a0 q0_0 70]))=Zgi PZ N a1 n_a0 a0 z0_1 z0_5 q0_0:=by
 refine Eq.trans (b:=(bif (Nat.blt 0 n_a0) then (some (.a (.i .i64 (z0_1)),.set 0 (.sl .lent n_a0 q0_0 70),true))
  else (none))) (by kernel_rfl) ?_
 rfl
theorem Zze(N:Nat)(a1:Int)(n_a0:Nat)(a0:Array Value):Uaj (Uab (Uag PZ (mkΓ []) N (cAt cKCuP18 [1,0,1,0,0]) (pAt (Uaa cKCuP18 [([1,5],[0])]).1 [1,0,1,0]) [1,5] [0] (Zeg a1 n_a0 a0)) N ([.a (.i .i64 (a1)),.a (.i .i64 (0:Int))],[.sl .lent n_a0 a0 70])) (λe s=>(Uad 0 (kSeq (veC PZ (mkΓ []) N (cAt cKCuP18 [1,1]) (pAt (Uaa cKCuP18 [([1,5],[0])]).1 [1,1]) (SV×Eff×Bool)) (finK PZ [.sl .lent n_a0 a0 70] [.tmp 4]))) e (left (writes (cAt cKCuP18 [1,0,1,0,0])) [1,5] [0] (Zeg a1 n_a0 a0) s))=Uak (Uab (Zcd PZ a1 n_a0 a0) N (a1,(0:Int),a0)) (λx=>Zgi PZ N a1 n_a0 a0 x.1 x.2.1 x.2.2):=by refine Zau (Zf9 n_a0) (Zk6 n_a0) _ _ (Zzq N a1 n_a0 a0) N (a1,(0:Int),a0) _ _ ?_;intro x;exact Zqj N a1 n_a0 a0 x.1 x.2.1 x.2.2
theorem Zwr(N:Nat)(a1:Int)(n_a0:Nat)(a0:Array Value):ansV PZ (mkΓ []) N f18 [([1,5],[0])] [.l 0,.i .i64 (a1)] [.sl .lent n_a0 a0 70]=(Uak (Uab (Zcd PZ a1 n_a0 a0) N (a1,(0:Int),a0)) (λx=>Zgi PZ N a1 n_a0 a0 x.1 x.2.1 x.2.2)):=by refine Eq.trans (b:=(Uaj (Uab (Uag PZ (mkΓ []) N (cAt cKCuP18 [1,0,1,0,0]) (pAt (Uaa cKCuP18 [([1,5],[0])]).1 [1,0,1,0]) [1,5] [0] (Zeg a1 n_a0 a0)) N ([.a (.i .i64 (a1)),.a (.i .i64 (0:Int))],[.sl .lent n_a0 a0 70])) (λe s=>(Uad 0 (kSeq (veC PZ (mkΓ []) N (cAt cKCuP18 [1,1]) (pAt (Uaa cKCuP18 [([1,5],[0])]).1 [1,1]) (SV×Eff×Bool)) (finK PZ [.sl .lent n_a0 a0 70] [.tmp 4]))) e (left (writes (cAt cKCuP18 [1,0,1,0,0])) [1,5] [0] (Zeg a1 n_a0 a0) s)))) (by kernel_rfl) ?_;simp only[Zze N a1 n_a0 a0]
theorem Zts(a1:Int)(n_a0:Nat)(a0:Array Value)(h_a1:i64.min<=a1/\a1<=i64.max)(h_a0:a0.size=n_a0*(lay PZ 70).length/\(∀k,k<n_a0->WT PZ 70 (a0.extract (k*(lay PZ 70).length) (k*(lay PZ 70).length+(lay PZ 70).length)))/\n_a0<=9223372036854775807)(hc0:(Nat.beq n_a0 0)=false)(hg:(((Nat.ble n_a0 2000000)&&(decide (0<=a1)&&decide (a1<=1000000))))=true):ansV PZ (mkΓ []) 18446744073709551616 f18 [([1,5],[0])] [.l 0,.i .i64 (a1)] [.sl .lent n_a0 a0 70]=some (.a (.i .i64 (a1+((n_a0*2:Nat):Int))),.set 0 (.sl .lent n_a0 (mk8 (n_a0*2) a1) 70),true):=by
 rw[Q7,Q7]at hg;have hn:n_a0<=2000000:=Nat.le_of_ble_eq_true hg.1;have hk0:0<=a1/\a1<=1000000:=⟨of_decide_eq_true hg.2.1,of_decide_eq_true hg.2.2⟩;have hm:(lay PZ 70).length=2:=by kernel_rfl
 obtain⟨s1,-,-⟩:=h_a0;rw[hm]at s1;have hs:(mk8 (n_a0*2) a1).size=a0.size:=by rw[Ym0,s1]
 have hpos:Nat.blt 0 n_a0=true:=by
  have:n_a0≠0:=λh=>by rw[h]at hc0;cases hc0
  simp[Nat.blt];omega
 have h:=Zcu (g:=Zcd PZ a1 n_a0 a0) (λi=>(a1+((i*2:Nat):Int),(i:Int),upto (mk8 (n_a0*2) a1) a0 (i*2))) (m:=n_a0) (x:=(a1+((n_a0*2:Nat):Int),(n_a0:Int),upto (mk8 (n_a0*2) a1) a0 (n_a0*2))) (N:=18446744073709551616) (λi hi=>by
  have h1:decide ((i:Int)<(n_a0:Int))=true:=Q3 (by omega);have h2:decide (0<=(i:Int))=true:=Q3 (by omega);have h3:i64.wrap (a1+((i*2:Nat):Int)+1)=a1+((i*2+1:Nat):Int):=by rw[IntWalk.i64_in _ (by omega)];omega
  have h4:i64.wrap (a1+((i*2+1:Nat):Int)+1)=a1+(((i+1)*2:Nat):Int):=by rw[IntWalk.i64_in _ (by omega)];omega
  have h5:i64.wrap ((i:Int)+1)=((i+1:Nat):Int):=by rw[IntWalk.i64_in _ (by omega)];omega
  have h6:(upto (mk8 (n_a0*2) a1) a0 (i*2)).setIfInBounds (i*2+0) (.int .i8 (IntKind.i8.wrap (a1+((i*2:Nat):Int))))=upto (mk8 (n_a0*2) a1) a0 (i*2+1):=Zlq hs (mk8_at (by omega));have h7:(upto (mk8 (n_a0*2) a1) a0 (i*2+1)).setIfInBounds (i*2+1) (.int .i8 (IntKind.i8.wrap (a1+((i*2+1:Nat):Int))))=upto (mk8 (n_a0*2) a1) a0 ((i+1)*2):=by rw[show (i+1)*2=i*2+1+1 by omega];exact Zlq hs (mk8_at (by omega))
  simp only[Zcd,h1,h2,h3,h4,h5,h6,h7,Q9,jA,Q1]) (by
  have h1:decide ((n_a0:Int)<(n_a0:Int))=false:=Q4 (by omega);simp only[Zcd,h1,Q2]) (by omega)
 refine(Zwr 18446744073709551616 a1 n_a0 a0).trans ?_;have hz:upto (mk8 (n_a0*2) a1) a0 0=a0:=Zi4 hs;have hl:upto (mk8 (n_a0*2) a1) a0 (n_a0*2)=mk8 (n_a0*2) a1:=Zlr hs (Ym0 _ _);have h0:a1+(((0*2:Nat)):Int)=a1:=by omega
 have h':Uab (Zcd PZ a1 n_a0 a0) 18446744073709551616 (a1,(0:Int),a0)=some (a1+((n_a0*2:Nat):Int),(n_a0:Int),mk8 (n_a0*2) a1):=by
  have h2:=h;simp only[Nat.zero_mul,hz,hl]at h2;have e:a1+((0:Nat):Int)=a1:=by omega
  rw[e]at h2;exact h2
 rw[h'];simp only[Uak,Zgi,hpos,Q1]
theorem Ztc(a1:Int)(n_a0:Nat)(a0:Array Value)(h_a1:i64.min<=a1/\a1<=i64.max)(h_a0:a0.size=n_a0*(lay PZ 70).length/\(∀k,k<n_a0->WT PZ 70 (a0.extract (k*(lay PZ 70).length) (k*(lay PZ 70).length+(lay PZ 70).length)))/\n_a0<=9223372036854775807)(hc0:(Nat.beq n_a0 0)=true)(hg:(true)=true):ansV PZ (mkΓ []) 1000 f18 [([1,5],[])] [.l 0,.i .i64 (a1)] [.sl .lent n_a0 a0 70]=some (.a (.i .i64 (a1)),.none,true):=by obtain rfl:n_a0=0:=Nat.eq_of_beq_eq_true hc0;kernel_rfl
def Zjj:SCon:=λargs h=>match args,h with
 |[.l 0,.i .i64 a1],[.sl .lent n_a0 a0 70]=>.two (Nat.beq n_a0 0) (.one (some (.a (.i .i64 (a1)),.none,true))) (.one (some (.a (.i .i64 (a1+((n_a0*2:Nat):Int))),.set 0 (.sl .lent n_a0 (mk8 (n_a0*2) a1) 70),((Nat.ble n_a0 2000000)&&(decide (0<=a1)&&decide (a1<=1000000))))))
 |_,_=>.one none
theorem Zue:EntX PZ 18:=Zah (fn:=f18)
theorem Zwf:Uac (md F) PZ 18 (λargs h=>Uah (Zjj args h)):=by
 intro ρ h w args vals r e hn hr hA hH;dsimp only at hr;unfold Zjj at hr;split at hr
 ·rename_i a1 n_a0 a0
  simp only[Uah]at hr;cases hc0:(Nat.beq n_a0 0)
  ·rw[hc0]at hr
   simp only[Uah,Q1,Q2]at hr;obtain⟨rfl,rfl,hg2⟩:=BQi hr;exact((ansY (N:=18446744073709551616) mKn f18 [([1,5],[0])])) ρ _ w _ vals _ _ hn ((Zts a1 n_a0 a0 (hA.rng 1 rfl) (hH.slw 0 rfl) hc0 hg2)) hA hH
  ·rw[hc0]at hr
   simp only[Uah,Q1,Q2]at hr;obtain⟨rfl,rfl,hg2⟩:=BQi hr;exact((ansY (N:=1000) mKn f18 [([1,5],[])])) ρ _ w _ vals _ _ hn ((Ztc a1 n_a0 a0 (hA.rng 1 rfl) (hH.slw 0 rfl) hc0 hg2)) hA hH
 ·simp only[Uah]at hr
  cases hr
theorem Ya9(N:Nat)(a1:Int)(b_a0:Option (Option Addr))(n_a0:Nat)(a0:Array Value):ansV PZ (mkΓ []) N f9 [] [.l 0,.i .i64 (a1)] [.sl (.came b_a0) n_a0 a0 72]=(bif decide ((i64.wrap (a1 - (n_a0:Int)))<(0:Int)) then (some (.a (.i .i64 (-1:Int)),.none,true))
  else (some (.a (.i .i64 (i64.wrap (a1 - (n_a0:Int)))),.none,true))):=by kernel_rfl
def Zdh(a1:Int)(b_a0:Option (Option Addr))(n_a0:Nat)(a0:Array Value):Int:=(bif decide ((i64.wrap (a1 - (n_a0:Int)))<(0:Int)) then (-1:Int) else (i64.wrap (a1 - (n_a0:Int))))
theorem Yai(a1:Int)(b_a0:Option (Option Addr))(n_a0:Nat)(a0:Array Value)(h_a1:i64.min<=a1/\a1<=i64.max)(h_a0:a0.size=n_a0*(lay PZ 72).length/\(∀k,k<n_a0->WT PZ 72 (a0.extract (k*(lay PZ 72).length) (k*(lay PZ 72).length+(lay PZ 72).length)))/\n_a0<=9223372036854775807)(hg:(true)=true):ansV PZ (mkΓ []) 1000 f9 [] [.l 0,.i .i64 (a1)] [.sl (.came b_a0) n_a0 a0 72]=some (.a (.i .i64 (Zdh a1 b_a0 n_a0 a0)),.none,true):=by
 refine(Ya9 1000 a1 b_a0 n_a0 a0).trans ?_;unfold Zdh;revert hg;generalize (decide ((i64.wrap (a1 - (n_a0:Int)))<(0:Int)))=b2;intro hg;cases b2
 ·skip
  first | (simp only[Q1,Q2,BQ6];done)|rfl|exact(nomatch (hg:false=true))
 ·skip
  first | (simp only[Q1,Q2,BQ6];done)|rfl|exact(nomatch (hg:false=true))
def Zme:Con:=λargs h=>match args,h with
 |[.l 0,.i .i64 a1],[.sl (.came b_a0) n_a0 a0 72]=>some (.a (.i .i64 (Zdh a1 b_a0 n_a0 a0)),.none,true)
 |_,_=>none
theorem Zxw:EntX PZ 9:=Zah (fn:=f9)
theorem Yeg:Uac (md F) PZ 9 Zme:=(ansY (N:=1000) mKn f9 []).of (by
 intro ρ h w args vals r e hA hH hr;unfold Zme at hr;split at hr
 ·rename_i a1 b_a0 n_a0 a0
  obtain⟨rfl,rfl,hg2⟩:=BQi hr;exact Yai a1 b_a0 n_a0 a0 (hA.rng 1 rfl) (hH.slw 0 rfl) hg2
 ·cases hr)
end
end Go.Proofs.YtdfefaanfiheoaaGreatDoor
