/- The scores of finds: both sides. -/
import Derived.Test.YtdfefaanfiheoaaGreatDoorProg
import Derived.Test.YtdfefaanfiheoaaGreatDoorCuD
set_option linter.unusedVariables false
set_option linter.unusedSimpArgs false
open _root_.Nat renaming ble->jA
open _root_.Bool renaming and_self->jB
namespace Go.Proofs.YtdfefaanfiheoaaGreatDoor
open Tryz (f15 f16)
open Go.ChangeShapes Go.WideShapes Go.ChangeAt Go.RowKit Ve Vc
open Tryz renaming prog -> PZ
open IntKind (i64)
set_option maxRecDepth 100000
noncomputable section
variable {F:Vc.Fd}
def nusC(P:Program)(S:Array Value)(c b:Int)(D:Array Value):Nat->Array Value
 |0=>#[]
 |k+1=>nusC P S c b D k++#[.int .i64 (nuK P S c b D k)]
theorem Zo4(S:Array Value)(c b:Int)(D:Array Value):∀n,(nusC PZ S c b D n).size=n
 |0=>rfl
 |n+1=>by rw[nusC,Array.size_append,Zo4 S c b D n];rfl
theorem Yln(S:Array Value)(c b:Int)(D:Array Value):∀n k,k<n->(nusC PZ S c b D n)[k]?=some (.int .i64 (nuK PZ S c b D k))
 |0,k,hk=>by omega
 | n+1,k,hk=>by
  have hz:=Zo4 S c b D n;rw[nusC,Array.getElem?_append,hz]
  by_cases h:k<n
  ·rw[if_pos h];exact Yln S c b D n k h
  ·obtain rfl:k=n:=by omega
   rw[if_neg h,Nat.sub_self];rfl
theorem Yds:bytesOf PZ 2=8:=by kernel_rfl
theorem Zz6{T X:Type}{g:T->Option (Stp T X)}(F:Nat->T)(p:Nat->Bool)(n:Nat){N:Nat}(hN:n<N){xd xf:X}
  (hs:∀k,k<n->(∀j,j<k->p j=false)->p k=false->g (F k)=some (.more (F (k+1)))) (hf:∀k,k<n->p k=true->g (F k)=some (.done xf)) (hd:(∀j,j<n->p j=false)->g (F n)=some (.done xd)) :
  Uab g N (F 0)=some (bif ((List.range n).find? p).isSome then xf else xd):=by
 have key:∀m k,m+k=n->(∀j,j<k->p j=false)->∀q,Uab g (m+1+q) (F k)=some (bif ((List.range n).find? p).isSome then xf else xd):=by
  intro m
  induction m with
  | zero=>
   intro k hk hp q;obtain rfl:k=n:=by omega
   have:((List.range k).find? p).isSome=false:=by rw[Option.isSome_eq_false_iff,Option.isNone_iff_eq_none,List.find?_range_eq_none];intro i hi;simp[hp i hi]
   rw[this,show 0+1+q=q+1 by omega,Uab,hd hp];rfl
  | succ m ih=>
   intro k hk hp q;cases h:p k with
   | false=>
    rw[show m+1+1+q=(m+1+q)+1 by omega,Uab,hs k (by omega) hp h];exact ih (k+1) (by omega) (λj hj=>by
     by_cases e:j=k
     ·rw[e];exact h
     ·exact hp j (by omega)) q
   |true=>have:((List.range n).find? p).isSome=true:=List.find?_isSome.2 ⟨k,List.mem_range.2 (by omega),h⟩;rw[this,show m+1+1+q=(m+1+q)+1 by omega,Uab,hf k (by omega) h];rfl
 have:=key n 0 (by omega) (λj hj=>by omega) (N - n - 1);rw[show n+1+(N - n - 1)=N by omega]at this;exact this
def impN(a0:Array Value)(a1 a2:Int)(n_a3:Nat)(a3:Array Value):Nat:=(bif ((lisC a0 n_a3 a3 a1 a2) != (0:Int)) then 0 else bif (finZ PZ a0 a1 a2 a3 n_a3) then 0 else n_a3)
def impD(a0:Array Value)(a1 a2:Int)(n_a3:Nat)(a3:Array Value):Array Value:=(bif ((lisC a0 n_a3 a3 a1 a2) != (0:Int)) then (#[]:Array Value) else bif (finZ PZ a0 a1 a2 a3 n_a3) then (#[]:Array Value) else (nusC PZ a0 a1 a2 a3 n_a3))
def impE(a0:Array Value)(a1 a2:Int)(n_a3:Nat)(a3:Array Value):Int:=(bif ((lisC a0 n_a3 a3 a1 a2) != (0:Int)) then (lisC a0 n_a3 a3 a1 a2) else bif (finZ PZ a0 a1 a2 a3 n_a3) then 6 else 0)
theorem impN_le(a0:Array Value)(a1 a2:Int)(n_a3:Nat)(a3:Array Value):impN a0 a1 a2 n_a3 a3<=60:=by
 unfold impN;cases hl:((lisC a0 n_a3 a3 a1 a2) != (0:Int)) with
 |true=>exact Nat.zero_le _
 |false=>have h1:=(Uf7 (Ydd hl).1).2.1;cases (finZ PZ a0 a1 a2 a3 n_a3)<;>simp only[Q1,Q2]<;>omega
theorem Yqc(a0:Array Value)(a1 a2:Int)(n_a3:Nat)(a3:Array Value):(impD a0 a1 a2 n_a3 a3).size=impN a0 a1 a2 n_a3 a3*1:=by unfold impD impN;have:=Zo4 a0 a1 a2 a3 n_a3;cases ((lisC a0 n_a3 a3 a1 a2) != (0:Int))<;>cases (finZ PZ a0 a1 a2 a3 n_a3)<;>simp only[Q1,Q2,Nat.mul_one]<;>first|rfl|exact this
def Zba : Cons := (withM [("loop.example/g01300/impl.told", Zw9)] (mkΓ [(38, conG Zet), (42, con Zd5)]))
def Ze9(a0:Array Value)(a1 a2:Int)(g_e0 g_e1 g_e2 g_e3 g_e4:Addr)(b_a3:Option (Option Addr))(n_a3:Nat)(a3:Array Value):St:=(⟨.a (.g a0 37) :: .a (.i .i64 (a1)) :: .a (.i .i64 (a2)) :: .a (.l 5) :: .a (.w 6)::us 3 (.a (.v (.slice none 0 0)) :: .a (.i .i64 (0:Int)) :: .a (.w 13) :: .a (.i .i64 (Uc0 1 (spl (repC (zc PZ 37) 1) 0 a0.toList) n_a3 a3 (num (#[.int .i64 (a1),.int .i64 (a2),.slice none 0 0]:Array Value) 0) (num (#[.int .i64 (a1),.int .i64 (a2),.slice none 0 0]:Array Value) 1) true)) :: .a (.l 22)::us 4 (.a (.i .i64 (a1)) :: .a (.i .i64 (a2)) :: .a (.l 5) :: .a (.r #[.int .i64 (a1),.int .i64 (a2),.slice none 0 0] 74 [(2,5)]) :: .a (.r #[.int .i64 (a1),.int .i64 (a2),.slice none 0 0] 74 [(2,5)]) :: .a (.g a0 37) :: .a (.l 17) :: .a (.i .i64 (Uc0 1 (spl (repC (zc PZ 37) 1) 0 a0.toList) n_a3 a3 (num (#[.int .i64 (a1),.int .i64 (a2),.slice none 0 0]:Array Value) 0) (num (#[.int .i64 (a1),.int .i64 (a2),.slice none 0 0]:Array Value) 1) true)) :: .a (.i .i64 (Uc0 1 (spl (repC (zc PZ 37) 1) 0 a0.toList) n_a3 a3 (num (#[.int .i64 (a1),.int .i64 (a2),.slice none 0 0]:Array Value) 0) (num (#[.int .i64 (a1),.int .i64 (a2),.slice none 0 0]:Array Value) 1) true)) :: .a (.b (((Uc0 1 (spl (repC (zc PZ 37) 1) 0 a0.toList) n_a3 a3 (num (#[.int .i64 (a1),.int .i64 (a2),.slice none 0 0]:Array Value) 0) (num (#[.int .i64 (a1),.int .i64 (a2),.slice none 0 0]:Array Value) 1) true) != (0:Int)))) :: .a (.u) :: .a (.l 5) :: .a (.i .i64 (n_a3:Int)) :: .a (.l 22) :: .a (.r #[.int .i64 (a1),.int .i64 (a2),.slice none 0 0] 74 [(2,5)]) :: .a (.g a0 37) :: .a (.l 26) :: .a (.i .i64 (n_a3:Int)) :: .a (.i .i64 (0:Int))::us 18 ([]))),[.gl 0 185 g_e0 101973,.gl 1 185 g_e1 93330,.gl 3 185 g_e2 124718,.gl 2 185 g_e3 112315,.gl 4 185 g_e4 94254,.sl (.came b_a3) n_a3 a3 70,.row a0 37,.no,.no,.no,.no,.no,.no,.one (.r #[.int .i64 (a1),.int .i64 (a2),.slice none 0 0] 74 [(2,5)]) 74,.no,.no,.no,.sl .own 1 (spl (repC (zc PZ 37) 1) 0 a0.toList) 37,.no,.no,.no,.no,.sl .own ((n_a3:Int).toNat) (madeCells (zc PZ 2) ((n_a3:Int).toNat*1)) 2,.no,.no,.no,.sl .own n_a3 (scsC PZ a0 (num (#[.int .i64 (a1),.int .i64 (a2),.slice none 0 0]:Array Value) 0) (num (#[.int .i64 (a1),.int .i64 (a2),.slice none 0 0]:Array Value) 1) a3 n_a3) 77,.no,.no],[13]⟩:St)
def Zgv(n_a3:Nat):Int×Int×Array Value->LS
 |(y0_9,y0_35,r0_22)=>([.a (.i .i64 (y0_9)),.a (.i .i64 (y0_35))],[.sl .own ((n_a3:Int).toNat) r0_22 2])
def Zl0(n_a3:Nat):Int×Int×Array Value->Exit×LS
 |t=>((.exit 0),(Zgv n_a3) t)
def Zay(P:Program)(a0:Array Value)(a1 a2:Int)(g_e0 g_e1 g_e2 g_e3 g_e4:Addr)(b_a3:Option (Option Addr))(n_a3:Nat)(a3:Array Value):Int×Int×Array Value->Option (Stp (Int×Int×Array Value) ((Int×Int×Array Value)⊕(SV×Eff×Bool)))
 |(y0_9,y0_35,r0_22)=>bif decide (y0_35<(n_a3:Int)) then (bif (decide (0<=y0_35)&&decide (y0_35<(n_a3:Int))) then (bif (isSc (cel (scsC PZ a0 (num (#[.int .i64 (a1),.int .i64 (a2),.slice none 0 0]:Array Value) 0) (num (#[.int .i64 (a1),.int .i64 (a2),.slice none 0 0]:Array Value) 1) a3 n_a3) ((y0_35).toNat*1))) then (bif ((Ugd (cel (scsC PZ a0 (num (#[.int .i64 (a1),.int .i64 (a2),.slice none 0 0]:Array Value) 0) (num (#[.int .i64 (a1),.int .i64 (a2),.slice none 0 0]:Array Value) 1) a3 n_a3) ((y0_35).toNat*1))) != (0:Int)) then (some (.done (.inr (.t [.v (.slice none 0 0),.i .i64 (Ugd (cel (scsC PZ a0 (num (#[.int .i64 (a1),.int .i64 (a2),.slice none 0 0]:Array Value) 0) (num (#[.int .i64 (a1),.int .i64 (a2),.slice none 0 0]:Array Value) 1) a3 n_a3) ((y0_35).toNat*1)))],.none,true))))
     else (bif (decide (0<=y0_35)&&decide (y0_35<(((n_a3:Int).toNat):Int))) then (some (.more (y0_9,(i64.wrap (y0_35+(1:Int))),(r0_22.setIfInBounds ((y0_35).toNat*1) (.int .i64 (toldV (cel (scsC PZ a0 (num (#[.int .i64 (a1),.int .i64 (a2),.slice none 0 0]:Array Value) 0) (num (#[.int .i64 (a1),.int .i64 (a2),.slice none 0 0]:Array Value) 1) a3 n_a3) ((y0_35).toNat*1))))))))
      else (none)))
    else (none))
   else (none))
  else (some (.done (.inl (y0_9,y0_35,r0_22))))
noncomputable abbrev cKCuE16:=codeOf f16
theorem Ycc(N:Nat)(a0:Array Value)(a1 a2:Int)(g_e0 g_e1 g_e2 g_e3 g_e4:Addr)(b_a3:Option (Option Addr))(n_a3:Nat)(a3:Array Value):∀t:Int×Int×Array Value,Ugm PZ Zba N (cAt cKCuE16 [1,1,1,1,0,1,0,0]) (pAt (Uaa cKCuE16 [([4000000000,9,35],[22])]).1 [1,1,1,1,0,1,0]) [9,35] [22] (Ze9 a0 a1 a2 g_e0 g_e1 g_e2 g_e3 g_e4 b_a3 n_a3 a3) (Uad 0 (kSeq (veC PZ Zba N (cAt cKCuE16 [1,1,1,1,1]) (pAt (Uaa cKCuE16 [([4000000000,9,35],[22])]).1 [1,1,1,1,1]) (SV×Eff×Bool)) (finK PZ [.gl 0 185 g_e0 101973,.gl 1 185 g_e1 93330,.gl 3 185 g_e2 124718,.gl 2 185 g_e3 112315,.gl 4 185 g_e4 94254,.sl (.came b_a3) n_a3 a3 70] [.tmp 8,.tmp 9]))) ((Zgv n_a3) t)=mapS (Zgv n_a3) (eR (Zl0 n_a3)) (Zay PZ a0 a1 a2 g_e0 g_e1 g_e2 g_e3 g_e4 b_a3 n_a3 a3 t):=by
 rintro⟨y0_9,y0_35,r0_22⟩;refine Eq.trans (b:=(bif decide (y0_35<(n_a3:Int)) then (bif (decide (0<=y0_35)&&decide (y0_35<(n_a3:Int))) then (bif (isSc (cel (scsC PZ a0 (num (#[.int .i64 (a1),.int .i64 (a2),.slice none 0 0]:Array Value) 0) (num (#[.int .i64 (a1),.int .i64 (a2),.slice none 0 0]:Array Value) 1) a3 n_a3) ((y0_35).toNat*1))) then (bif ((Ugd (cel (scsC PZ a0 (num (#[.int .i64 (a1),.int .i64 (a2),.slice none 0 0]:Array Value) 0) (num (#[.int .i64 (a1),.int .i64 (a2),.slice none 0 0]:Array Value) 1) a3 n_a3) ((y0_35).toNat*1))) != (0:Int)) then (some (.done (.inr (.t [.v (.slice none 0 0),.i .i64 (Ugd (cel (scsC PZ a0 (num (#[.int .i64 (a1),.int .i64 (a2),.slice none 0 0]:Array Value) 0) (num (#[.int .i64 (a1),.int .i64 (a2),.slice none 0 0]:Array Value) 1) a3 n_a3) ((y0_35).toNat*1)))],.none,true))))
     else (bif (decide (0<=y0_35)&&decide (y0_35<(((n_a3:Int).toNat):Int))) then (some (.more ([.a (.i .i64 (y0_9)),.a (.i .i64 (i64.wrap (y0_35+(1:Int))))],[.sl .own ((n_a3:Int).toNat) (r0_22.setIfInBounds ((y0_35).toNat*1) (.int .i64 (toldV (cel (scsC PZ a0 (num (#[.int .i64 (a1),.int .i64 (a2),.slice none 0 0]:Array Value) 0) (num (#[.int .i64 (a1),.int .i64 (a2),.slice none 0 0]:Array Value) 1) a3 n_a3) ((y0_35).toNat*1))))) 2])))
      else (none)))
    else (none))
   else (none))
  else (some (.done (.inl ((.exit 0),([.a (.i .i64 (y0_9)),.a (.i .i64 (y0_35))],[.sl .own ((n_a3:Int).toNat) r0_22 2]))))))) (by kernel_rfl) ?_
 simp only[Zay,Zao,Zap,Zam,Zan,Zgv,Zl0,eR]
def Zkb(P:Program)(N:Nat)(a0:Array Value)(a1 a2:Int)(g_e0 g_e1 g_e2 g_e3 g_e4:Addr)(b_a3:Option (Option Addr))(n_a3:Nat)(a3:Array Value)(z0_9:Int)(z0_35:Int)(q0_22:Array Value):Option (SV×Eff×Bool):=some (.t [.x,.i .i64 (0:Int)],.newS (some 0) ((n_a3:Int).toNat) q0_22 2,true)
theorem Zq3(N:Nat)(a0:Array Value)(a1 a2:Int)(g_e0 g_e1 g_e2 g_e3 g_e4:Addr)(b_a3:Option (Option Addr))(n_a3:Nat)(a3:Array Value)(z0_9:Int)(z0_35:Int)(q0_22:Array Value):(Uad 0 (kSeq (veC PZ Zba N (cAt cKCuE16 [1,1,1,1,1]) (pAt (Uaa cKCuE16 [([4000000000,9,35],[22])]).1 [1,1,1,1,1]) (SV×Eff×Bool)) (finK PZ [.gl 0 185 g_e0 101973,.gl 1 185 g_e1 93330,.gl 3 185 g_e2 124718,.gl 2 185 g_e3 112315,.gl 4 185 g_e4 94254,.sl (.came b_a3) n_a3 a3 70] [.tmp 8,.tmp 9]))) (.exit 0) (left (writes (cAt cKCuE16 [1,1,1,1,0,1,0,0])) [9,35] [22] (Ze9 a0 a1 a2 g_e0 g_e1 g_e2 g_e3 g_e4 b_a3 n_a3 a3) ([.a (.i .i64 (z0_9)),.a (.i .i64 (z0_35))],[.sl .own ((n_a3:Int).toNat) q0_22 2]))=Zkb PZ N a0 a1 a2 g_e0 g_e1 g_e2 g_e3 g_e4 b_a3 n_a3 a3 z0_9 z0_35 q0_22:=by refine Eq.trans (b:=(some (.t [.x,.i .i64 (0:Int)],.newS (some 0) ((n_a3:Int).toNat) q0_22 2,true))) (by kernel_rfl) ?_;rfl
theorem Ycd(N:Nat)(a0:Array Value)(a1 a2:Int)(g_e0 g_e1 g_e2 g_e3 g_e4:Addr)(b_a3:Option (Option Addr))(n_a3:Nat)(a3:Array Value):Ub4 (Uab (Ugm PZ Zba N (cAt cKCuE16 [1,1,1,1,0,1,0,0]) (pAt (Uaa cKCuE16 [([4000000000,9,35],[22])]).1 [1,1,1,1,0,1,0]) [9,35] [22] (Ze9 a0 a1 a2 g_e0 g_e1 g_e2 g_e3 g_e4 b_a3 n_a3 a3) (Uad 0 (kSeq (veC PZ Zba N (cAt cKCuE16 [1,1,1,1,1]) (pAt (Uaa cKCuE16 [([4000000000,9,35],[22])]).1 [1,1,1,1,1]) (SV×Eff×Bool)) (finK PZ [.gl 0 185 g_e0 101973,.gl 1 185 g_e1 93330,.gl 3 185 g_e2 124718,.gl 2 185 g_e3 112315,.gl 4 185 g_e4 94254,.sl (.came b_a3) n_a3 a3 70] [.tmp 8,.tmp 9])))) N ([.a (.i .i64 (0:Int)),.a (.i .i64 (0:Int))],[.sl .own ((n_a3:Int).toNat) (madeCells (zc PZ 2) ((n_a3:Int).toNat*1)) 2])) (λe s=>(Uad 0 (kSeq (veC PZ Zba N (cAt cKCuE16 [1,1,1,1,1]) (pAt (Uaa cKCuE16 [([4000000000,9,35],[22])]).1 [1,1,1,1,1]) (SV×Eff×Bool)) (finK PZ [.gl 0 185 g_e0 101973,.gl 1 185 g_e1 93330,.gl 3 185 g_e2 124718,.gl 2 185 g_e3 112315,.gl 4 185 g_e4 94254,.sl (.came b_a3) n_a3 a3 70] [.tmp 8,.tmp 9]))) e (left (writes (cAt cKCuE16 [1,1,1,1,0,1,0,0])) [9,35] [22] (Ze9 a0 a1 a2 g_e0 g_e1 g_e2 g_e3 g_e4 b_a3 n_a3 a3) s))=Ugv (Uab (Zay PZ a0 a1 a2 g_e0 g_e1 g_e2 g_e3 g_e4 b_a3 n_a3 a3) N ((0:Int),(0:Int),(madeCells (zc PZ 2) ((n_a3:Int).toNat*1)))) (λx=>Zkb PZ N a0 a1 a2 g_e0 g_e1 g_e2 g_e3 g_e4 b_a3 n_a3 a3 x.1 x.2.1 x.2.2):=by refine Yht (Zgv n_a3) (Zl0 n_a3) _ _ (Ycc N a0 a1 a2 g_e0 g_e1 g_e2 g_e3 g_e4 b_a3 n_a3 a3) N ((0:Int),(0:Int),(madeCells (zc PZ 2) ((n_a3:Int).toNat*1))) _ _ ?_;intro x;exact Zq3 N a0 a1 a2 g_e0 g_e1 g_e2 g_e3 g_e4 b_a3 n_a3 a3 x.1 x.2.1 x.2.2
theorem Zk2(N:Nat)(a0:Array Value)(a1 a2:Int)(g_e0 g_e1 g_e2 g_e3 g_e4:Addr)(b_a3:Option (Option Addr))(n_a3:Nat)(a3:Array Value):ansV PZ Zba N f16 [([4000000000,9,35],[22])] [.g a0 37,.i .i64 (a1),.i .i64 (a2),.l 5] [.gl 0 185 g_e0 101973,.gl 1 185 g_e1 93330,.gl 3 185 g_e2 124718,.gl 2 185 g_e3 112315,.gl 4 185 g_e4 94254,.sl (.came b_a3) n_a3 a3 70]=(bif (jA 1 1&&jA 1 8) then (bif ((Uc0 1 (spl (repC (zc PZ 37) 1) 0 a0.toList) n_a3 a3 (num (#[.int .i64 (a1),.int .i64 (a2),.slice none 0 0]:Array Value) 0) (num (#[.int .i64 (a1),.int .i64 (a2),.slice none 0 0]:Array Value) 1) true) != (0:Int)) then (some (.t [.v (.slice none 0 0),.i .i64 (Uc0 1 (spl (repC (zc PZ 37) 1) 0 a0.toList) n_a3 a3 (num (#[.int .i64 (a1),.int .i64 (a2),.slice none 0 0]:Array Value) 0) (num (#[.int .i64 (a1),.int .i64 (a2),.slice none 0 0]:Array Value) 1) true)],.none,true))
   else (bif (decide (0<=(n_a3:Int))&&((n_a3:Int)==(n_a3:Int)&&decide ((bytesOf PZ 2:Int)*(n_a3:Int)<=281474976710656))) then (bif (vf a0 n_a3 a3&&(Zab (num (#[.int .i64 (a1),.int .i64 (a2),.slice none 0 0]:Array Value) 0) a0&&Zaa (num (#[.int .i64 (a1),.int .i64 (a2),.slice none 0 0]:Array Value) 1) 0 1)) then (Ugv (Uab (Zay PZ a0 a1 a2 g_e0 g_e1 g_e2 g_e3 g_e4 b_a3 n_a3 a3) N ((0:Int),(0:Int),(madeCells (zc PZ 2) ((n_a3:Int).toNat*1)))) (λx=>Zkb PZ N a0 a1 a2 g_e0 g_e1 g_e2 g_e3 g_e4 b_a3 n_a3 a3 x.1 x.2.1 x.2.2))
     else (none))
    else (none)))
  else (none)):=by
 refine Eq.trans (b:=(bif (jA 1 1&&jA 1 8) then (bif ((Uc0 1 (spl (repC (zc PZ 37) 1) 0 a0.toList) n_a3 a3 (num (#[.int .i64 (a1),.int .i64 (a2),.slice none 0 0]:Array Value) 0) (num (#[.int .i64 (a1),.int .i64 (a2),.slice none 0 0]:Array Value) 1) true) != (0:Int)) then (some (.t [.v (.slice none 0 0),.i .i64 (Uc0 1 (spl (repC (zc PZ 37) 1) 0 a0.toList) n_a3 a3 (num (#[.int .i64 (a1),.int .i64 (a2),.slice none 0 0]:Array Value) 0) (num (#[.int .i64 (a1),.int .i64 (a2),.slice none 0 0]:Array Value) 1) true)],.none,true))
   else (bif (decide (0<=(n_a3:Int))&&((n_a3:Int)==(n_a3:Int)&&decide ((bytesOf PZ 2:Int)*(n_a3:Int)<=281474976710656))) then (bif (vf a0 n_a3 a3&&(Zab (num (#[.int .i64 (a1),.int .i64 (a2),.slice none 0 0]:Array Value) 0) a0&&Zaa (num (#[.int .i64 (a1),.int .i64 (a2),.slice none 0 0]:Array Value) 1) 0 1)) then (Ub4 (Uab (Ugm PZ Zba N (cAt cKCuE16 [1,1,1,1,0,1,0,0]) (pAt (Uaa cKCuE16 [([4000000000,9,35],[22])]).1 [1,1,1,1,0,1,0]) [9,35] [22] (Ze9 a0 a1 a2 g_e0 g_e1 g_e2 g_e3 g_e4 b_a3 n_a3 a3) (Uad 0 (kSeq (veC PZ Zba N (cAt cKCuE16 [1,1,1,1,1]) (pAt (Uaa cKCuE16 [([4000000000,9,35],[22])]).1 [1,1,1,1,1]) (SV×Eff×Bool)) (finK PZ [.gl 0 185 g_e0 101973,.gl 1 185 g_e1 93330,.gl 3 185 g_e2 124718,.gl 2 185 g_e3 112315,.gl 4 185 g_e4 94254,.sl (.came b_a3) n_a3 a3 70] [.tmp 8,.tmp 9])))) N ([.a (.i .i64 (0:Int)),.a (.i .i64 (0:Int))],[.sl .own ((n_a3:Int).toNat) (madeCells (zc PZ 2) ((n_a3:Int).toNat*1)) 2])) (λe s=>(Uad 0 (kSeq (veC PZ Zba N (cAt cKCuE16 [1,1,1,1,1]) (pAt (Uaa cKCuE16 [([4000000000,9,35],[22])]).1 [1,1,1,1,1]) (SV×Eff×Bool)) (finK PZ [.gl 0 185 g_e0 101973,.gl 1 185 g_e1 93330,.gl 3 185 g_e2 124718,.gl 2 185 g_e3 112315,.gl 4 185 g_e4 94254,.sl (.came b_a3) n_a3 a3 70] [.tmp 8,.tmp 9]))) e (left (writes (cAt cKCuE16 [1,1,1,1,0,1,0,0])) [9,35] [22] (Ze9 a0 a1 a2 g_e0 g_e1 g_e2 g_e3 g_e4 b_a3 n_a3 a3) s)))
     else (none))
    else (none)))
  else (none))) (by kernel_rfl) ?_
 simp only[Ycd N a0 a1 a2 g_e0 g_e1 g_e2 g_e3 g_e4 b_a3 n_a3 a3]
theorem Zuz(a0:Array Value)(a1 a2:Int)(g_e0 g_e1 g_e2 g_e3 g_e4:Addr)(b_a3:Option (Option Addr))(n_a3:Nat)(a3:Array Value)(h_a0:WT PZ 37 a0)(h_a1:i64.min<=a1/\a1<=i64.max)(h_a2:i64.min<=a2/\a2<=i64.max)(h_a3:a3.size=n_a3*(lay PZ 70).length/\(∀k,k<n_a3->WT PZ 70 (a3.extract (k*(lay PZ 70).length) (k*(lay PZ 70).length+(lay PZ 70).length)))/\n_a3<=9223372036854775807)(hc0:(((lisC a0 n_a3 a3 a1 a2) != (0:Int)))=false)(hc1:((finZ PZ a0 a1 a2 a3 n_a3))=false)(hg:(true)=true):ansV PZ Zba 1000 f16 [([4000000000,9,35],[22])] [.g a0 37,.i .i64 (a1),.i .i64 (a2),.l 5] [.gl 0 185 g_e0 101973,.gl 1 185 g_e1 93330,.gl 3 185 g_e2 124718,.gl 2 185 g_e3 112315,.gl 4 185 g_e4 94254,.sl (.came b_a3) n_a3 a3 70]=some (.t [.x,.i .i64 (0:Int)],.newS (some 0) n_a3 (nusC PZ a0 a1 a2 a3 n_a3) 2,true):=by
 have hl:(lay PZ 70).length=2:=by kernel_rfl
 rw[hl]at h_a3;obtain⟨s1,s2,s3⟩:=h_a3;obtain⟨hv,o0,i0,t0⟩:=Ydd hc0;obtain⟨_,hn,_⟩:=Uf7 hv;refine(Zk2 1000 a0 a1 a2 g_e0 g_e1 g_e2 g_e3 g_e4 b_a3 n_a3 a3).trans ?_;obtain⟨n0,n1⟩:=Yqr a1 a2;rw[Yl5 h_a0,n0,n1,Yis (Yda h_a0),show (jA 1 1&&jA 1 8)=true from rfl];change (bif true then bif ((lisC a0 n_a3 a3 a1 a2) != (0:Int)) then _ else _ else _)=_;have g2:(decide (0<=(n_a3:Int))&&((n_a3:Int)==(n_a3:Int)&&decide ((bytesOf PZ 2:Int)*(n_a3:Int)<=281474976710656)))=true:=by rw[Yds,Q3 (show 0<=(n_a3:Int) by omega),beq_self_eq_true,Q3 (show ((8:Nat):Int)*(n_a3:Int)<=281474976710656 by omega)];rfl
 rw[hc0,g2,hv,i0,t0];simp only[jB,Q1,Q2,Q9];have hcz:=Zo4 a0 a1 a2 a3 n_a3;have hs:((nusC PZ a0 a1 a2 a3 n_a3)).size=(madeCells (zc PZ 2) (n_a3*1)).size:=by rw[hcz,size_madeCells];omega
 have hat:=Yln a0 a1 a2 a3 n_a3;have hcel:=λk (hk:k<n_a3)=>Yod a0 a1 a2 a3 hk
 have hR:∀(k:Nat) (s:Array Value),k<n_a3->Zay PZ a0 a1 a2 g_e0 g_e1 g_e2 g_e3 g_e4 b_a3 n_a3 a3 ((0:Int),(k:Int),s)=bif noK PZ a0 a1 a2 a3 k then some (.done (.inr (.t [.v (.slice none 0 0),.i .i64 6],.none,true))) else some (.more ((0:Int),((k+1:Nat):Int),s.setIfInBounds (k*1) (.int .i64 (nuK PZ a0 a1 a2 a3 k)))):=λk s hk=>by
  have h1:decide ((k:Int)<(n_a3:Int))=true:=Q3 (by omega);have h2:decide (0<=(k:Int))=true:=Q3 (by omega);have h3:i64.wrap ((k:Int)+1)=((k+1:Nat):Int):=by rw[w64 (by omega)];omega
  have hc:=hcel k hk;have hi:isSc (scV (noK PZ a0 a1 a2 a3 k) (nuK PZ a0 a1 a2 a3 k))=true:=sc_is (scN_in _ _);obtain⟨e1,e2⟩:=Yqn (noK PZ a0 a1 a2 a3 k) (nuK PZ a0 a1 a2 a3 k);simp only[Zay,n0,n1,h1,h2,h3,Q9,Nat.mul_one,hc,hi,e1,e2,jB,Q1];cases noK PZ a0 a1 a2 a3 k with
  |true=>simp only[Q1,show ((6:Int) != 0)=true from rfl]
  |false=>simp only[Q2,Q1,show ((0:Int) != 0)=false from rfl]
 generalize hZ:madeCells (zc PZ 2) (n_a3*1)=Z at hs|-
 generalize hW:(λk=>Value.int .i64 (nuK PZ a0 a1 a2 a3 k))=W;have hR':∀(k:Nat) (s:Array Value),k<n_a3->Zay PZ a0 a1 a2 g_e0 g_e1 g_e2 g_e3 g_e4 b_a3 n_a3 a3 ((0:Int),(k:Int),s)=bif noK PZ a0 a1 a2 a3 k then some (.done (.inr (.t [.v (.slice none 0 0),.i .i64 6],.none,true))) else some (.more ((0:Int),((k+1:Nat):Int),s.setIfInBounds (k*1) (W k))):=λk s hk=>by rw[<- hW];exact hR k s hk
 have hat':∀k,k<n_a3->((nusC PZ a0 a1 a2 a3 n_a3))[k]?=some (W k):=λk hk=>by rw[<- hW];exact hat k hk
 generalize (nusC PZ a0 a1 a2 a3 n_a3)=C at hs hcz hat'|-
 have l:=Zz6 (g:=Zay PZ a0 a1 a2 g_e0 g_e1 g_e2 g_e3 g_e4 b_a3 n_a3 a3) (λk=>((0:Int),(k:Int),upto C Z k)) (noK PZ a0 a1 a2 a3) n_a3 (N:=1000) (xd:=.inl ((0:Int),(n_a3:Int),upto C Z n_a3)) (xf:=.inr (.t [.v (.slice none 0 0),.i .i64 6],.none,true)) (by omega) (λk hk _ hp=>by
  rw[hR' k _ hk,hp,Q2,Nat.mul_one,Zlq hs (hat' k hk)]) (λk hk hp=>by rw[hR' k _ hk,hp,Q1]) (λ_=>by
  have h1:decide ((n_a3:Int)<(n_a3:Int))=false:=Q4 (by omega);simp only[Zay,h1,Q2])
 rw[Zlr hs hcz,Zi4 hs]at l;have l':Uab (Zay PZ a0 a1 a2 g_e0 g_e1 g_e2 g_e3 g_e4 b_a3 n_a3 a3) 1000 ((0:Int),(0:Int),Z)=some (bif (finZ PZ a0 a1 a2 a3 n_a3) then .inr (.t [.v (.slice none 0 0),.i .i64 6],.none,true) else .inl ((0:Int),(n_a3:Int),C)):=l;rw[l',hc1];rfl
theorem Zvl(a0:Array Value)(a1 a2:Int)(g_e0 g_e1 g_e2 g_e3 g_e4:Addr)(b_a3:Option (Option Addr))(n_a3:Nat)(a3:Array Value)(h_a0:WT PZ 37 a0)(h_a1:i64.min<=a1/\a1<=i64.max)(h_a2:i64.min<=a2/\a2<=i64.max)(h_a3:a3.size=n_a3*(lay PZ 70).length/\(∀k,k<n_a3->WT PZ 70 (a3.extract (k*(lay PZ 70).length) (k*(lay PZ 70).length+(lay PZ 70).length)))/\n_a3<=9223372036854775807)(hc0:(((lisC a0 n_a3 a3 a1 a2) != (0:Int)))=false)(hc1:((finZ PZ a0 a1 a2 a3 n_a3))=true)(hg:(true)=true):ansV PZ Zba 1000 f16 [([4000000000,9,35],[22])] [.g a0 37,.i .i64 (a1),.i .i64 (a2),.l 5] [.gl 0 185 g_e0 101973,.gl 1 185 g_e1 93330,.gl 3 185 g_e2 124718,.gl 2 185 g_e3 112315,.gl 4 185 g_e4 94254,.sl (.came b_a3) n_a3 a3 70]=some (.t [.v (.slice none 0 0),.i .i64 (6:Int)],.none,true):=by
 have hl:(lay PZ 70).length=2:=by kernel_rfl
 rw[hl]at h_a3;obtain⟨s1,s2,s3⟩:=h_a3;obtain⟨hv,o0,i0,t0⟩:=Ydd hc0;obtain⟨_,hn,_⟩:=Uf7 hv;refine(Zk2 1000 a0 a1 a2 g_e0 g_e1 g_e2 g_e3 g_e4 b_a3 n_a3 a3).trans ?_;obtain⟨n0,n1⟩:=Yqr a1 a2;rw[Yl5 h_a0,n0,n1,Yis (Yda h_a0),show (jA 1 1&&jA 1 8)=true from rfl];change (bif true then bif ((lisC a0 n_a3 a3 a1 a2) != (0:Int)) then _ else _ else _)=_;have g2:(decide (0<=(n_a3:Int))&&((n_a3:Int)==(n_a3:Int)&&decide ((bytesOf PZ 2:Int)*(n_a3:Int)<=281474976710656)))=true:=by rw[Yds,Q3 (show 0<=(n_a3:Int) by omega),beq_self_eq_true,Q3 (show ((8:Nat):Int)*(n_a3:Int)<=281474976710656 by omega)];rfl
 rw[hc0,g2,hv,i0,t0];simp only[jB,Q1,Q2,Q9];have hcz:=Zo4 a0 a1 a2 a3 n_a3;have hs:((nusC PZ a0 a1 a2 a3 n_a3)).size=(madeCells (zc PZ 2) (n_a3*1)).size:=by rw[hcz,size_madeCells];omega
 have hat:=Yln a0 a1 a2 a3 n_a3;have hcel:=λk (hk:k<n_a3)=>Yod a0 a1 a2 a3 hk
 have hR:∀(k:Nat) (s:Array Value),k<n_a3->Zay PZ a0 a1 a2 g_e0 g_e1 g_e2 g_e3 g_e4 b_a3 n_a3 a3 ((0:Int),(k:Int),s)=bif noK PZ a0 a1 a2 a3 k then some (.done (.inr (.t [.v (.slice none 0 0),.i .i64 6],.none,true))) else some (.more ((0:Int),((k+1:Nat):Int),s.setIfInBounds (k*1) (.int .i64 (nuK PZ a0 a1 a2 a3 k)))):=λk s hk=>by
  have h1:decide ((k:Int)<(n_a3:Int))=true:=Q3 (by omega);have h2:decide (0<=(k:Int))=true:=Q3 (by omega);have h3:i64.wrap ((k:Int)+1)=((k+1:Nat):Int):=by rw[w64 (by omega)];omega
  have hc:=hcel k hk;have hi:isSc (scV (noK PZ a0 a1 a2 a3 k) (nuK PZ a0 a1 a2 a3 k))=true:=sc_is (scN_in _ _);obtain⟨e1,e2⟩:=Yqn (noK PZ a0 a1 a2 a3 k) (nuK PZ a0 a1 a2 a3 k);simp only[Zay,n0,n1,h1,h2,h3,Q9,Nat.mul_one,hc,hi,e1,e2,jB,Q1];cases noK PZ a0 a1 a2 a3 k with
  |true=>simp only[Q1,show ((6:Int) != 0)=true from rfl]
  |false=>simp only[Q2,Q1,show ((0:Int) != 0)=false from rfl]
 generalize hZ:madeCells (zc PZ 2) (n_a3*1)=Z at hs|-
 generalize hW:(λk=>Value.int .i64 (nuK PZ a0 a1 a2 a3 k))=W;have hR':∀(k:Nat) (s:Array Value),k<n_a3->Zay PZ a0 a1 a2 g_e0 g_e1 g_e2 g_e3 g_e4 b_a3 n_a3 a3 ((0:Int),(k:Int),s)=bif noK PZ a0 a1 a2 a3 k then some (.done (.inr (.t [.v (.slice none 0 0),.i .i64 6],.none,true))) else some (.more ((0:Int),((k+1:Nat):Int),s.setIfInBounds (k*1) (W k))):=λk s hk=>by rw[<- hW];exact hR k s hk
 have hat':∀k,k<n_a3->((nusC PZ a0 a1 a2 a3 n_a3))[k]?=some (W k):=λk hk=>by rw[<- hW];exact hat k hk
 generalize (nusC PZ a0 a1 a2 a3 n_a3)=C at hs hcz hat'|-
 have l:=Zz6 (g:=Zay PZ a0 a1 a2 g_e0 g_e1 g_e2 g_e3 g_e4 b_a3 n_a3 a3) (λk=>((0:Int),(k:Int),upto C Z k)) (noK PZ a0 a1 a2 a3) n_a3 (N:=1000) (xd:=.inl ((0:Int),(n_a3:Int),upto C Z n_a3)) (xf:=.inr (.t [.v (.slice none 0 0),.i .i64 6],.none,true)) (by omega) (λk hk _ hp=>by
  rw[hR' k _ hk,hp,Q2,Nat.mul_one,Zlq hs (hat' k hk)]) (λk hk hp=>by rw[hR' k _ hk,hp,Q1]) (λ_=>by
  have h1:decide ((n_a3:Int)<(n_a3:Int))=false:=Q4 (by omega);simp only[Zay,h1,Q2])
 rw[Zlr hs hcz,Zi4 hs]at l;have l':Uab (Zay PZ a0 a1 a2 g_e0 g_e1 g_e2 g_e3 g_e4 b_a3 n_a3 a3) 1000 ((0:Int),(0:Int),Z)=some (bif (finZ PZ a0 a1 a2 a3 n_a3) then .inr (.t [.v (.slice none 0 0),.i .i64 6],.none,true) else .inl ((0:Int),(n_a3:Int),C)):=l;rw[l',hc1];rfl
theorem Zu5(a0:Array Value)(a1 a2:Int)(g_e0 g_e1 g_e2 g_e3 g_e4:Addr)(b_a3:Option (Option Addr))(n_a3:Nat)(a3:Array Value)(h_a0:WT PZ 37 a0)(h_a1:i64.min<=a1/\a1<=i64.max)(h_a2:i64.min<=a2/\a2<=i64.max)(h_a3:a3.size=n_a3*(lay PZ 70).length/\(∀k,k<n_a3->WT PZ 70 (a3.extract (k*(lay PZ 70).length) (k*(lay PZ 70).length+(lay PZ 70).length)))/\n_a3<=9223372036854775807)(hc0:(((lisC a0 n_a3 a3 a1 a2) != (0:Int)))=true)(hg:(true)=true):ansV PZ Zba 1000 f16 [([4000000000,9,35],[22])] [.g a0 37,.i .i64 (a1),.i .i64 (a2),.l 5] [.gl 0 185 g_e0 101973,.gl 1 185 g_e1 93330,.gl 3 185 g_e2 124718,.gl 2 185 g_e3 112315,.gl 4 185 g_e4 94254,.sl (.came b_a3) n_a3 a3 70]=some (.t [.v (.slice none 0 0),.i .i64 (lisC a0 n_a3 a3 a1 a2)],.none,true):=by refine(Zk2 1000 a0 a1 a2 g_e0 g_e1 g_e2 g_e3 g_e4 b_a3 n_a3 a3).trans ?_;obtain⟨n0,n1⟩:=Yqr a1 a2;rw[Yl5 h_a0,n0,n1,Yis (Yda h_a0),show (jA 1 1&&jA 1 8)=true from rfl];change (bif true then bif ((lisC a0 n_a3 a3 a1 a2) != (0:Int)) then _ else _ else _)=_;rw[hc0];rfl
def Zhk:SCon:=λargs h=>match args,h with
 |[.g a0 37,.i .i64 a1,.i .i64 a2,.l 5],[.gl 0 185 g_e0 101973,.gl 1 185 g_e1 93330,.gl 3 185 g_e2 124718,.gl 2 185 g_e3 112315,.gl 4 185 g_e4 94254,.sl (.came b_a3) n_a3 a3 70]=>.two (((lisC a0 n_a3 a3 a1 a2) != (0:Int))) (.one (some (.t [.x,.i .i64 (lisC a0 n_a3 a3 a1 a2)],.newS (some 0) 0 (#[]:Array Value) 2,true))) (.two ((finZ PZ a0 a1 a2 a3 n_a3)) (.one (some (.t [.x,.i .i64 (6:Int)],.newS (some 0) 0 (#[]:Array Value) 2,true))) (.one (some (.t [.x,.i .i64 (0:Int)],.newS (some 0) n_a3 (nusC PZ a0 a1 a2 a3 n_a3) 2,true))))
 |_,_=>.one none
theorem Zvy:EntX PZ 16:=Zah (fn:=f16)
theorem Yav:Uac (md F) PZ 16 (λargs h=>Uah (Zhk args h)):=by
 intro ρ h w args vals r e hn hr hA hH;dsimp only at hr;unfold Zhk at hr;split at hr
 ·rename_i a0 a1 a2 g_e0 g_e1 g_e2 g_e3 g_e4 b_a3 n_a3 a3
  simp only[Uah]at hr;cases hc0:(((lisC a0 n_a3 a3 a1 a2) != (0:Int)))
  ·rw[hc0]at hr
   simp only[Uah,Q1,Q2]at hr;cases hc1:((finZ PZ a0 a1 a2 a3 n_a3))
   ·rw[hc1]at hr
    simp only[Uah,Q1,Q2]at hr;obtain⟨rfl,rfl,hg2⟩:=BQi hr
    exact ((ansY (N := 1000) (Yei (m := [("loop.example/g01300/impl.told", Zw9)]) (λ q hq => by simp only [List.mem_cons, List.not_mem_nil, or_false] at hq; subst hq; first | exact Yir) (mKc (Zid Zfs) Zd1 (mKc (Zae Zem) Zdf mKn))) f16 [([4000000000, 9, 35], [22])])) ρ _ w _ vals _ _ hn ((Zuz a0 a1 a2 g_e0 g_e1 g_e2 g_e3 g_e4 b_a3 n_a3 a3 (hA.wt 0 rfl) (hA.rng 1 rfl) (hA.rng 2 rfl) (hH.slw 5 rfl) hc0 hc1 hg2)) hA hH
   ·rw[hc1]at hr
    simp only[Uah,Q1,Q2]at hr;obtain⟨rfl,rfl,hg2⟩:=BQi hr
    exact (Uac.nil (ansY (N := 1000) (Yei (m := [("loop.example/g01300/impl.told", Zw9)]) (λ q hq => by simp only [List.mem_cons, List.not_mem_nil, or_false] at hq; subst hq; first | exact Yir) (mKc (Zid Zfs) Zd1 (mKc (Zae Zem) Zdf mKn))) f16 [([4000000000, 9, 35], [22])]) 0 2) ρ _ w _ vals _ _ hn (congrArg (nilN 0 2) (Zvl a0 a1 a2 g_e0 g_e1 g_e2 g_e3 g_e4 b_a3 n_a3 a3 (hA.wt 0 rfl) (hA.rng 1 rfl) (hA.rng 2 rfl) (hH.slw 5 rfl) hc0 hc1 hg2)) hA hH
  ·rw[hc0]at hr
   simp only[Uah,Q1,Q2]at hr;obtain⟨rfl,rfl,hg2⟩:=BQi hr
   exact (Uac.nil (ansY (N := 1000) (Yei (m := [("loop.example/g01300/impl.told", Zw9)]) (λ q hq => by simp only [List.mem_cons, List.not_mem_nil, or_false] at hq; subst hq; first | exact Yir) (mKc (Zid Zfs) Zd1 (mKc (Zae Zem) Zdf mKn))) f16 [([4000000000, 9, 35], [22])]) 0 2) ρ _ w _ vals _ _ hn (congrArg (nilN 0 2) (Zu5 a0 a1 a2 g_e0 g_e1 g_e2 g_e3 g_e4 b_a3 n_a3 a3 (hA.wt 0 rfl) (hA.rng 1 rfl) (hA.rng 2 rfl) (hH.slw 5 rfl) hc0 hg2)) hA hH
 ·simp only[Uah]at hr
  cases hr
def Zli:Con:=λargs h=>match args,h with
 |[.g a0 37,.i .i64 a1,.i .i64 a2,.l 5],[.gl 0 185 g_e0 101973,.gl 1 185 g_e1 93330,.gl 3 185 g_e2 124718,.gl 2 185 g_e3 112315,.gl 4 185 g_e4 94254,.sl (.came b_a3) n_a3 a3 70]=>some (.t [.x,.i .i64 (impE a0 a1 a2 n_a3 a3)],.newS (some 0) (impN a0 a1 a2 n_a3 a3) (impD a0 a1 a2 n_a3 a3) 2,true)
 |_,_=>none
theorem Ybs:Uac (md F) PZ 16 Zli:=Uac.of Yav (by
 intro ρ h w args vals r e hA hH hr;unfold Zli at hr;split at hr
 ·rename_i a0 a1 a2 g_e0 g_e1 g_e2 g_e3 g_e4 b_a3 n_a3 a3
  obtain⟨rfl,rfl,hg2⟩:=BQi hr
  show Uah (Zhk _ _)=_
  unfold Zhk;simp only[Uah];unfold impN impD impE;cases ((lisC a0 n_a3 a3 a1 a2) != (0:Int))<;>cases (finZ PZ a0 a1 a2 a3 n_a3)<;>simp only[Q1,Q2]
 ·cases hr)
def Zbn:Cons:=(mkΓ [(34,con Zj3),(41,con Znc)])
def Zez(a0:Array Value)(a1 a2:Int)(b_a3:Option (Option Addr))(n_a3:Nat)(a3:Array Value):St:=(⟨.a (.g a0 37) :: .a (.i .i64 (a1)) :: .a (.i .i64 (a2)) :: .a (.l 0) :: .a (.w 1)::us 3 (.a (.v (.slice none 0 0)) :: .a (.i .i64 (0:Int)) :: .a (.i .i64 (bif vf a0 n_a3 a3 then Zas a1 a2 true a0 else 1)) :: .a (.l 6) :: .a (.i .i64 (0:Int)) :: .a (.u) :: .a (.u) :: .a (.i .i64 (a1)) :: .a (.i .i64 (a2)) :: .a (.l 0) :: .a (.i .i64 (bif vf a0 n_a3 a3 then Zas a1 a2 true a0 else 1)) :: .a (.i .i64 (bif vf a0 n_a3 a3 then Zas a1 a2 true a0 else 1)) :: .a (.b (((bif vf a0 n_a3 a3 then Zas a1 a2 true a0 else 1) != (0:Int)))) :: .a (.u) :: .a (.u) :: .a (.l 4)::us 24 ([])),[.sl (.came b_a3) n_a3 a3 70,.row a0 37,.no,.no,.sp,.no,.sl .own 0 (#[]:Array Value) 2],[4]⟩:St)
def Zgs:Int×Int×Nat×Array Value->LS
 |(y0_9,y0_12,m0_11,y0_11)=>([.a (.i .i64 (y0_9)),.a (.i .i64 (y0_12)),.a (.l 6)],[.sl .own m0_11 y0_11 2])
def Zl6:Int×Int×Nat×Array Value->Exit×LS
 |t=>((.exit 0),Zgs t)
def Zb9(P:Program)(a0:Array Value)(a1 a2:Int)(b_a3:Option (Option Addr))(n_a3:Nat)(a3:Array Value):Int×Int×Nat×Array Value->Option (Stp (Int×Int×Nat×Array Value) ((Int×Int×Nat×Array Value)⊕(SV×Eff×Bool)))
 |(y0_9,y0_12,m0_11,y0_11)=>bif decide (y0_12<(n_a3:Int)) then (bif (decide (0<=y0_12)&&decide (y0_12<(n_a3:Int))) then (bif ((okS a0&&(Zab a1 a0&&Zaa a2 0 1))&&(Zaa (num (a3.extract ((y0_12).toNat*2) (((y0_12).toNat*2)+2)) 1) 1 14&&(decide (0<=num (a3.extract ((y0_12).toNat*2) (((y0_12).toNat*2)+2)) 0)&&decide (num (a3.extract ((y0_12).toNat*2) (((y0_12).toNat*2)+2)) 0<36)))) then (bif (!((!((num (inH PZ a0 a1 a2 (num (a3.extract ((y0_12).toNat*2) (((y0_12).toNat*2)+2)) 1).toNat) (num (a3.extract ((y0_12).toNat*2) (((y0_12).toNat*2)+2)) 0).toNat)==(0:Int))))) then (some (.done (.inr (.t [.x,.i .i64 (6:Int)],.newS (some 0) 0 (#[]:Array Value) 2,true))))
     else (bif (jA ((m0_11+1)*bytesOf PZ 2) 140737488355328) then (some (.more (y0_9,(i64.wrap (y0_12+(1:Int))),(m0_11+1),(y0_11++(#[.int .i64 (bif ((num (inH PZ a0 a1 a2 (num (a3.extract ((y0_12).toNat*2) (((y0_12).toNat*2)+2)) 1).toNat) (num (a3.extract ((y0_12).toNat*2) (((y0_12).toNat*2)+2)) 0).toNat)==(0:Int)) then 0 else scN (num (inH PZ a0 a1 a2 (num (a3.extract ((y0_12).toNat*2) (((y0_12).toNat*2)+2)) 1).toNat) (num (a3.extract ((y0_12).toNat*2) (((y0_12).toNat*2)+2)) 0).toNat) (num (a3.extract ((y0_12).toNat*2) (((y0_12).toNat*2)+2)) 1))]:Array Value)))))
      else (none)))
    else (none))
   else (none))
  else (some (.done (.inl (y0_9,y0_12,m0_11,y0_11))))
noncomputable abbrev cKCuE15:=codeOf f15
theorem Yc2(N:Nat)(a0:Array Value)(a1 a2:Int)(b_a3:Option (Option Addr))(n_a3:Nat)(a3:Array Value):∀t:Int×Int×Nat×Array Value,Ufh PZ Zbn N (cAt cKCuE15 [1,1,1,0,1,0,0]) (pAt (Uaa cKCuE15 [([4000000000,9,12],[1000011,2])]).1 [1,1,1,0,1,0]) [9,12] [] 11 2 6 (Zez a0 a1 a2 b_a3 n_a3 a3) (Uad 0 (kSeq (veC PZ Zbn N (cAt cKCuE15 [1,1,1,1]) (pAt (Uaa cKCuE15 [([4000000000,9,12],[1000011,2])]).1 [1,1,1,1]) (SV×Eff×Bool)) (finK PZ [.sl (.came b_a3) n_a3 a3 70] [.tmp 8,.tmp 9]))) (Zgs t)=mapS Zgs (eR Zl6) (Zb9 PZ a0 a1 a2 b_a3 n_a3 a3 t):=by
 rintro⟨y0_9,y0_12,m0_11,y0_11⟩;refine Eq.trans (b:=(bif decide (y0_12<(n_a3:Int)) then (bif (decide (0<=y0_12)&&decide (y0_12<(n_a3:Int))) then (bif ((okS a0&&(Zab a1 a0&&Zaa a2 0 1))&&(Zaa (num (a3.extract ((y0_12).toNat*2) (((y0_12).toNat*2)+2)) 1) 1 14&&(decide (0<=num (a3.extract ((y0_12).toNat*2) (((y0_12).toNat*2)+2)) 0)&&decide (num (a3.extract ((y0_12).toNat*2) (((y0_12).toNat*2)+2)) 0<36)))) then (bif (!((!((num (inH PZ a0 a1 a2 (num (a3.extract ((y0_12).toNat*2) (((y0_12).toNat*2)+2)) 1).toNat) (num (a3.extract ((y0_12).toNat*2) (((y0_12).toNat*2)+2)) 0).toNat)==(0:Int))))) then (some (.done (.inr (.t [.x,.i .i64 (6:Int)],.newS (some 0) 0 (#[]:Array Value) 2,true))))
     else (bif (jA ((m0_11+1)*bytesOf PZ 2) 140737488355328) then (some (.more ([.a (.i .i64 (y0_9)),.a (.i .i64 (i64.wrap (y0_12+(1:Int)))),.a (.l 6)],[.sl .own (m0_11+1) (y0_11++(#[.int .i64 (bif ((num (inH PZ a0 a1 a2 (num (a3.extract ((y0_12).toNat*2) (((y0_12).toNat*2)+2)) 1).toNat) (num (a3.extract ((y0_12).toNat*2) (((y0_12).toNat*2)+2)) 0).toNat)==(0:Int)) then 0 else scN (num (inH PZ a0 a1 a2 (num (a3.extract ((y0_12).toNat*2) (((y0_12).toNat*2)+2)) 1).toNat) (num (a3.extract ((y0_12).toNat*2) (((y0_12).toNat*2)+2)) 0).toNat) (num (a3.extract ((y0_12).toNat*2) (((y0_12).toNat*2)+2)) 1))]:Array Value)) 2])))
      else (none)))
    else (none))
   else (none))
  else (some (.done (.inl ((.exit 0),([.a (.i .i64 (y0_9)),.a (.i .i64 (y0_12)),.a (.l 6)],[.sl .own m0_11 y0_11 2]))))))) (by kernel_rfl) ?_
 simp only[Zb9,Zao,Zap,Zam,Zan,Zgs,Zl6,eR]
def Zkg(P:Program)(N:Nat)(a0:Array Value)(a1 a2:Int)(b_a3:Option (Option Addr))(n_a3:Nat)(a3:Array Value)(z0_9:Int)(z0_12:Int)(p0_11:Nat)(z0_11:Array Value):Option (SV×Eff×Bool):=some (.t [.x,.i .i64 (0:Int)],.newS (some 0) p0_11 z0_11 2,true)
theorem Zr8(N:Nat)(a0:Array Value)(a1 a2:Int)(b_a3:Option (Option Addr))(n_a3:Nat)(a3:Array Value)(z0_9:Int)(z0_12:Int)(p0_11:Nat)(z0_11:Array Value):(Uad 0 (kSeq (veC PZ Zbn N (cAt cKCuE15 [1,1,1,1]) (pAt (Uaa cKCuE15 [([4000000000,9,12],[1000011,2])]).1 [1,1,1,1]) (SV×Eff×Bool)) (finK PZ [.sl (.came b_a3) n_a3 a3 70] [.tmp 8,.tmp 9]))) (.exit 0) (left (writes (cAt cKCuE15 [1,1,1,0,1,0,0])) [9,12,11] [6] (Zez a0 a1 a2 b_a3 n_a3 a3) ([.a (.i .i64 (z0_9)),.a (.i .i64 (z0_12)),.a (.l 6)],[.sl .own p0_11 z0_11 2]))=Zkg PZ N a0 a1 a2 b_a3 n_a3 a3 z0_9 z0_12 p0_11 z0_11:=by refine Eq.trans (b:=(some (.t [.x,.i .i64 (0:Int)],.newS (some 0) p0_11 z0_11 2,true))) (by kernel_rfl) ?_;rfl
theorem Ycv(N:Nat)(a0:Array Value)(a1 a2:Int)(b_a3:Option (Option Addr))(n_a3:Nat)(a3:Array Value):Ub4 (Uab (Ufh PZ Zbn N (cAt cKCuE15 [1,1,1,0,1,0,0]) (pAt (Uaa cKCuE15 [([4000000000,9,12],[1000011,2])]).1 [1,1,1,0,1,0]) [9,12] [] 11 2 6 (Zez a0 a1 a2 b_a3 n_a3 a3) (Uad 0 (kSeq (veC PZ Zbn N (cAt cKCuE15 [1,1,1,1]) (pAt (Uaa cKCuE15 [([4000000000,9,12],[1000011,2])]).1 [1,1,1,1]) (SV×Eff×Bool)) (finK PZ [.sl (.came b_a3) n_a3 a3 70] [.tmp 8,.tmp 9])))) N ([.a (.i .i64 (0:Int)),.a (.i .i64 (0:Int)),.a (.l 6)],[.sl .own 0 (#[]:Array Value) 2])) (λe s=>(Uad 0 (kSeq (veC PZ Zbn N (cAt cKCuE15 [1,1,1,1]) (pAt (Uaa cKCuE15 [([4000000000,9,12],[1000011,2])]).1 [1,1,1,1]) (SV×Eff×Bool)) (finK PZ [.sl (.came b_a3) n_a3 a3 70] [.tmp 8,.tmp 9]))) e (left (writes (cAt cKCuE15 [1,1,1,0,1,0,0])) [9,12,11] [6] (Zez a0 a1 a2 b_a3 n_a3 a3) s))=Ugv (Uab (Zb9 PZ a0 a1 a2 b_a3 n_a3 a3) N ((0:Int),(0:Int),0,(#[]:Array Value))) (λx=>Zkg PZ N a0 a1 a2 b_a3 n_a3 a3 x.1 x.2.1 x.2.2.1 x.2.2.2):=by refine Yht Zgs Zl6 _ _ (Yc2 N a0 a1 a2 b_a3 n_a3 a3) N ((0:Int),(0:Int),0,(#[]:Array Value)) _ _ ?_;intro x;exact Zr8 N a0 a1 a2 b_a3 n_a3 a3 x.1 x.2.1 x.2.2.1 x.2.2.2
theorem Zy7(N:Nat)(a0:Array Value)(a1 a2:Int)(b_a3:Option (Option Addr))(n_a3:Nat)(a3:Array Value):ansV PZ Zbn N f15 [([4000000000,9,12],[1000011,2])] [.g a0 37,.i .i64 (a1),.i .i64 (a2),.l 0] [.sl (.came b_a3) n_a3 a3 70]=(bif ((bif vf a0 n_a3 a3 then Zas a1 a2 true a0 else 1) != (0:Int)) then (some (.t [.x,.i .i64 (bif vf a0 n_a3 a3 then Zas a1 a2 true a0 else 1)],.newS (some 0) 0 (#[]:Array Value) 2,true))
  else (Ugv (Uab (Zb9 PZ a0 a1 a2 b_a3 n_a3 a3) N ((0:Int),(0:Int),0,(#[]:Array Value))) (λx=>Zkg PZ N a0 a1 a2 b_a3 n_a3 a3 x.1 x.2.1 x.2.2.1 x.2.2.2))):=by
 refine Eq.trans (b:=(bif ((bif vf a0 n_a3 a3 then Zas a1 a2 true a0 else 1) != (0:Int)) then (some (.t [.x,.i .i64 (bif vf a0 n_a3 a3 then Zas a1 a2 true a0 else 1)],.newS (some 0) 0 (#[]:Array Value) 2,true))
  else (Ub4 (Uab (Ufh PZ Zbn N (cAt cKCuE15 [1,1,1,0,1,0,0]) (pAt (Uaa cKCuE15 [([4000000000,9,12],[1000011,2])]).1 [1,1,1,0,1,0]) [9,12] [] 11 2 6 (Zez a0 a1 a2 b_a3 n_a3 a3) (Uad 0 (kSeq (veC PZ Zbn N (cAt cKCuE15 [1,1,1,1]) (pAt (Uaa cKCuE15 [([4000000000,9,12],[1000011,2])]).1 [1,1,1,1]) (SV×Eff×Bool)) (finK PZ [.sl (.came b_a3) n_a3 a3 70] [.tmp 8,.tmp 9])))) N ([.a (.i .i64 (0:Int)),.a (.i .i64 (0:Int)),.a (.l 6)],[.sl .own 0 (#[]:Array Value) 2])) (λe s=>(Uad 0 (kSeq (veC PZ Zbn N (cAt cKCuE15 [1,1,1,1]) (pAt (Uaa cKCuE15 [([4000000000,9,12],[1000011,2])]).1 [1,1,1,1]) (SV×Eff×Bool)) (finK PZ [.sl (.came b_a3) n_a3 a3 70] [.tmp 8,.tmp 9]))) e (left (writes (cAt cKCuE15 [1,1,1,0,1,0,0])) [9,12,11] [6] (Zez a0 a1 a2 b_a3 n_a3 a3) s))))) (by kernel_rfl) ?_
 simp only[Ycv N a0 a1 a2 b_a3 n_a3 a3]
theorem Zv7(a0:Array Value)(a1 a2:Int)(b_a3:Option (Option Addr))(n_a3:Nat)(a3:Array Value)(h_a0:WT PZ 37 a0)(h_a1:i64.min<=a1/\a1<=i64.max)(h_a2:i64.min<=a2/\a2<=i64.max)(h_a3:a3.size=n_a3*(lay PZ 70).length/\(∀k,k<n_a3->WT PZ 70 (a3.extract (k*(lay PZ 70).length) (k*(lay PZ 70).length+(lay PZ 70).length)))/\n_a3<=9223372036854775807)(hg:(true)=true):ansV PZ Zbn 1000 f15 [([4000000000,9,12],[1000011,2])] [.g a0 37,.i .i64 (a1),.i .i64 (a2),.l 0] [.sl (.came b_a3) n_a3 a3 70]=some (.t [.x,.i .i64 (impE a0 a1 a2 n_a3 a3)],.newS (some 0) (impN a0 a1 a2 n_a3 a3) (impD a0 a1 a2 n_a3 a3) 2,true):=by
 have hl:(lay PZ 70).length=2:=by kernel_rfl
 rw[hl]at h_a3;obtain⟨s1,s2,s3⟩:=h_a3;unfold impN impD impE;refine(Zy7 1000 a0 a1 a2 b_a3 n_a3 a3).trans ?_;change (bif ((lisC a0 n_a3 a3 a1 a2) != (0:Int)) then _ else _)=_;cases hc0:((lisC a0 n_a3 a3 a1 a2) != (0:Int)) with
 |true=>rfl
 | false=>
  obtain⟨hv,o0,i0,t0⟩:=Ydd hc0;obtain⟨_,hn,_⟩:=Uf7 hv;have hh:=Yjm hv s2;simp only[Q2];have hcz:=Zo4 a0 a1 a2 a3;have l:=Zz6 (g:=Zb9 PZ a0 a1 a2 b_a3 n_a3 a3) (λk=>((0:Int),(k:Int),k,nusC PZ a0 a1 a2 a3 k)) (noK PZ a0 a1 a2 a3) n_a3 (N:=1000) (xd:=.inl ((0:Int),(n_a3:Int),n_a3,(nusC PZ a0 a1 a2 a3 n_a3))) (xf:=.inr (.t [.x,.i .i64 6],.newS (some 0) 0 (#[]:Array Value) 2,true)) (by omega) (λk hk _ hp=>by
   obtain⟨p3,p4,p5,p6⟩:=hh k hk;have h1:decide ((k:Int)<(n_a3:Int))=true:=Q3 (by omega);have h2:decide (0<=(k:Int))=true:=Q3 (by omega);have h3:i64.wrap ((k:Int)+1)=((k+1:Nat):Int):=by rw[w64 (by omega)];omega
   have g4:=Q3 p4;have g5:=Q3 p5;have g6:jA ((k+1)*bytesOf PZ 2) 140737488355328=true:=Nat.ble_eq_true_of_le (by rw[Yds];omega);unfold noK ptK at hp;simp only[Zb9,h1,h2,h3,o0,i0,t0,p3,g4,g5,g6,hp,nusC,nuK,ptK,Q9,jB,Bool.not_true,Bool.not_false,Q1,Q2]) (λk hk hp=>by
   obtain⟨p3,p4,p5,p6⟩:=hh k hk;have h1:decide ((k:Int)<(n_a3:Int))=true:=Q3 (by omega);have h2:decide (0<=(k:Int))=true:=Q3 (by omega);have h3:i64.wrap ((k:Int)+1)=((k+1:Nat):Int):=by rw[w64 (by omega)];omega
   have g4:=Q3 p4;have g5:=Q3 p5;unfold noK ptK at hp;simp only[Zb9,h1,h2,o0,i0,t0,p3,g4,g5,hp,Q9,jB,Bool.not_true,Bool.not_false,Q1,Q2]) (λ_=>by
   have h1:decide ((n_a3:Int)<(n_a3:Int))=false:=Q4 (by omega);simp only[Zb9,h1,Q2])
  have l':Uab (Zb9 PZ a0 a1 a2 b_a3 n_a3 a3) 1000 ((0:Int),(0:Int),0,(#[]:Array Value))=some (bif (finZ PZ a0 a1 a2 a3 n_a3) then .inr (.t [.x,.i .i64 6],.newS (some 0) 0 (#[]:Array Value) 2,true) else .inl ((0:Int),(n_a3:Int),n_a3,(nusC PZ a0 a1 a2 a3 n_a3))):=l;rw[l'];cases (finZ PZ a0 a1 a2 a3 n_a3)<;>rfl
def Zk7:Con:=λargs h=>match args,h with
 |[.g a0 37,.i .i64 a1,.i .i64 a2,.l 0],[.sl (.came b_a3) n_a3 a3 70]=>some (.t [.x,.i .i64 (impE a0 a1 a2 n_a3 a3)],.newS (some 0) (impN a0 a1 a2 n_a3 a3) (impD a0 a1 a2 n_a3 a3) 2,true)
 |_,_=>none
theorem Zuq:EntX PZ 15:=Zah (fn:=f15)
theorem Ybz:Uac (md F) PZ 15 Zk7:=(ansY (N:=1000) (mKc (Zae Zzt) Ztx (mKc (Zae Ygc) Zzg mKn)) f15 [([4000000000,9,12],[1000011,2])]).of (by
 intro ρ h w args vals r e hA hH hr;unfold Zk7 at hr;split at hr
 ·rename_i a0 a1 a2 b_a3 n_a3 a3
  obtain⟨rfl,rfl,hg2⟩:=BQi hr;exact Zv7 a0 a1 a2 b_a3 n_a3 a3 (hA.wt 0 rfl) (hA.rng 1 rfl) (hA.rng 2 rfl) (hH.slw 0 rfl) hg2
 ·cases hr)
end
end Go.Proofs.YtdfefaanfiheoaaGreatDoor
