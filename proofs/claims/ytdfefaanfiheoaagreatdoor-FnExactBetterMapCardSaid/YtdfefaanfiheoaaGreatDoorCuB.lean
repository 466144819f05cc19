/- The score of a find, and of several. -/
import Derived.Test.YtdfefaanfiheoaaGreatDoorProg
import Derived.Test.YtdfefaanfiheoaaGreatDoorCuA
import Derived.Test.YtdfefaanfiheoaaGreatDoorCuL
set_option linter.unusedVariables false
set_option linter.unusedSimpArgs false
namespace Go.Proofs.YtdfefaanfiheoaaGreatDoor
open Tryz (f43 f58 f62 f63 f64 f90 f146 f147)
open Go.ChangeShapes Go.WideShapes Go.ChangeAt Go.RowKit Ve Vc
open Tryz renaming prog -> PZ
open IntKind (i64)
set_option maxRecDepth 100000
noncomputable section
variable {F:Vc.Fd}
def scV (z:Bool) (n:Int):Value:=.iface (bif z then 129 else 127) (bif z then .agg #[] else .int .i64 n)
def isSc (y:Value):Bool:=(Ubd 127 y&&okI .i64 127 y)||(Ubd 129 y&&Uc8 129 y)
def noSc (y:Value):Bool:=Ubd 129 y
theorem Ypx {y:Value} (h:isSc y=true):(∃ n,y = .iface 127 (.int .i64 n)/\i64.min<=n/\n<=i64.max)\/y = .iface 129 (.agg #[]):=by
 unfold isSc at h
 match y,h with
 | .iface t p,h=>
  simp only [Ubd,okI,Uc8] at h
  cases h1:Nat.beq t 127 with
  | true=>
   obtain rfl:=Nat.eq_of_beq_eq_true h1
   have e2:Nat.beq 127 129=false:=by decide
   simp only [h1,e2,Q1,Bool.true_and,Bool.false_and,Bool.or_false] at h
   split at h
   case h_2=>cases h
   rename_i k n
   simp only [Q7,decide_eq_true_eq] at h
   obtain ⟨hk,h2,h3⟩:=h
   obtain rfl:=kbeq hk
   exact .inl ⟨n,rfl,h2,h3⟩
  | false=>
   simp only [h1,Q2,Bool.false_and,Bool.false_or,Q7] at h
   obtain ⟨h2,h3⟩:=h
   obtain rfl:=Nat.eq_of_beq_eq_true h2
   simp only [h2,Q1] at h3
   split at h3
   case h_2=>cases h3
   rename_i D
   obtain rfl:D=#[]:=Array.eq_empty_of_size_eq_zero (Nat.eq_of_beq_eq_true h3)
   exact .inr rfl
theorem sc_is {z:Bool} {n:Int} (h:i64.min<=n/\n<=i64.max):isSc (scV z n)=true:=by
 cases z with
 | true=>rfl
 | false=>
  unfold isSc scV
  simp only [Q2,Ubd,okI,Q3 h.1,Q3 h.2]
  rfl
theorem sc_no (z:Bool) (n:Int):noSc (scV z n)=z:=by cases z<;>rfl
theorem sc_pay (n:Int):payI (scV false n)=n:=rfl
def Udf (y:Value):Int:=bif noSc y then 0 else payI y
def Ub1 (y:Value):Int:=bif noSc y then 6 else 0
def Zv6:Con:=λ args h=>match args with
 | [.v y]=>some (.t [.i .i64 (Udf y),.i .i64 (Ub1 y)],.none,isSc y)
 | _=>none
theorem Zth (N:Nat) (a0:Int):ansV PZ (mkΓ []) N f146 [] [.i .i64 (a0)] []=(some (.t [.i .i64 (a0),.i .i64 (0:Int)],.none,true)):=by kernel_rfl
theorem Zqr (a0:Int) (h_a0:i64.min<=a0/\a0<=i64.max) (hg:(true)=true):ansV PZ (mkΓ []) 1000 f146 [] [.i .i64 (a0)] []=some (.t [.i .i64 (a0),.i .i64 (0:Int)],.none,true):=by
 refine (Zth 1000 a0).trans ?_
 rfl
def Zl9:Con:=λ args h=>match args,h with
 | [.i .i64 a0],[]=>some (.t [.i .i64 (a0),.i .i64 (0:Int)],.none,true)
 | _,_=>none
theorem Zvb:Uac (md F) PZ 146 Zl9:=(ansY (N:=1000) mKn f146 []).of (by
 intro ρ h w args vals r e hA hH hr
 unfold Zl9 at hr
 split at hr
 ·rename_i a0
  obtain ⟨rfl,rfl,hg2⟩:=BQi hr
  exact Zqr a0 (hA.rng 0 rfl) hg2
 ·cases hr)
theorem Zrt (N:Nat) (a0:Array Value):ansV PZ (mkΓ []) N f147 [] [.g a0 129] []=(some (.t [.i .i64 (0:Int),.i .i64 (6:Int)],.none,true)):=by kernel_rfl
theorem Zqf (a0:Array Value) (h_a0:WT PZ 129 a0) (hg:(true)=true):ansV PZ (mkΓ []) 1000 f147 [] [.g a0 129] []=some (.t [.i .i64 (0:Int),.i .i64 (6:Int)],.none,true):=by
 refine (Zrt 1000 a0).trans ?_
 rfl
def Zk9:Con:=λ args h=>match args,h with
 | [.g a0 129],[]=>some (.t [.i .i64 (0:Int),.i .i64 (6:Int)],.none,true)
 | _,_=>none
theorem Zsy:Uac (md F) PZ 147 Zk9:=(ansY (N:=1000) mKn f147 []).of (by
 intro ρ h w args vals r e hA hH hr
 unfold Zk9 at hr
 split at hr
 ·rename_i a0
  obtain ⟨rfl,rfl,hg2⟩:=BQi hr
  exact Zqf a0 (hA.wt 0 rfl) hg2
 ·cases hr)
theorem Ylm (n : Int) : ∀ w es, (callMethod (.iface 127 (.int .i64 n)) "loop.example/g01300/impl.told" (#[] : Array Value)).runT PZ w es = (.ok (.enter 146 #[.int .i64 n]) w, es) := λ w es => by kernel_rfl
theorem Yqn : ∀ w es, (callMethod (.iface 129 (.agg #[])) "loop.example/g01300/impl.told" (#[] : Array Value)).runT PZ w es = (.ok (.enter 147 #[.agg #[]]) w, es) := λ w es => by kernel_rfl
theorem Ypo {z : Value} {r : Next} {v : World} (h : ∀ w es, (callMethod z "loop.example/g01300/impl.told" (#[] : Array Value)).runT PZ w es = (.ok r w, es)) : Tr PZ (callMethod z "loop.example/g01300/impl.told" (#[] : Array Value)) v r v := Ylf h
theorem Ym6 : Ue5 (md F) PZ "loop.example/g01300/impl.told" Zv6 := by
 intro ρ h v z args vals r ef hr hA hH
 cases args with
 | cons q l=>cases hr
 | nil=>
  obtain rfl:vals=[]:=List.eq_nil_of_length_eq_zero hA.1.symm
  obtain ⟨rfl,hg0⟩:=Q6 (Q5 hr)
  obtain ⟨rfl,hg1⟩:=Q6 hg0
  rcases Ypx hg1 with ⟨n,rfl,h1,h2⟩ | rfl
  ·exact ⟨146,#[.int .i64 n],Ypo (Ylm n),Zae Zvb ρ h v [.i .i64 n] [.int .i64 n] _ _ rfl ⟨rfl,λ i y v h3 h4=>by
    match i with
    | 0=>cases h3;cases h4;exact ⟨rfl,h1,h2⟩
    | i+1=>cases h3⟩ hH⟩
  ·exact ⟨147,#[.agg #[]],Ypo Yqn,Zae Zsy ρ h v [.g #[] 129] [.agg #[]] _ _ rfl ⟨rfl,λ i y v h3 h4=>by
    match i with
    | 0=>cases h3;cases h4;exact ⟨rfl,by kernel_rfl,λ _ h=>by cases h⟩
    | i+1=>cases h3⟩ hH⟩
theorem Zuq (N:Nat) (a0:Int):ansV PZ (mkΓ []) N f90 [] [.i .i64 (a0)] []=(some (.a (.b ((a0 != a0))),.none,true)):=by kernel_rfl
theorem Ztx (a0:Int) (h_a0:i64.min<=a0/\a0<=i64.max) (hg:(true)=true):ansV PZ (mkΓ []) 1000 f90 [] [.i .i64 (a0)] []=some (.a (.b ((a0 != a0))),.none,true):=by
 refine (Zuq 1000 a0).trans ?_
 rfl
def Zga:Con:=λ args h=>match args,h with
 | [.i .i64 a0],[]=>some (.a (.b ((a0 != a0))),.none,true)
 | _,_=>none
theorem Zrf:EntX PZ 90:=Zah (fn:=f90)
theorem Zxm:Uac (md F) PZ 90 Zga:=(ansY (N:=1000) mKn f90 []).of (by
 intro ρ h w args vals r e hA hH hr
 unfold Zga at hr
 split at hr
 ·rename_i a0
  obtain ⟨rfl,rfl,hg2⟩:=BQi hr
  exact Ztx a0 (hA.rng 0 rfl) hg2
 ·cases hr)
theorem Zr4 (N:Nat) (a0 a1:Int):ansV PZ (mkΓ [(90,con Zga)]) N f64 [] [.i .i64 (a0),.i .i64 (a1)] []=(bif (a0 != a0) then (bif (a1 != a1) then (some (.a (.i .i64 (0:Int)),.none,true))
      else (some (.a (.i .i64 (-1:Int)),.none,true)))
    else (bif (a1 != a1) then (some (.a (.i .i64 (1:Int)),.none,true))
      else (bif decide (a0<a1) then (some (.a (.i .i64 (-1:Int)),.none,true))
        else (bif decide (a0 > a1) then (some (.a (.i .i64 (1:Int)),.none,true))
          else (some (.a (.i .i64 (0:Int)),.none,true)))))):=by kernel_rfl
def Za1 (a0 a1:Int):Int:=(bif (a0 != a0) then (bif (a1 != a1) then (0:Int) else (-1:Int)) else (bif (a1 != a1) then (1:Int) else (bif decide (a0<a1) then (-1:Int) else (bif decide (a0 > a1) then (1:Int) else (0:Int)))))
theorem Zqb (a0 a1:Int) (h_a0:i64.min<=a0/\a0<=i64.max) (h_a1:i64.min<=a1/\a1<=i64.max) (hg:(true)=true):ansV PZ (mkΓ [(90,con Zga)]) 1000 f64 [] [.i .i64 (a0),.i .i64 (a1)] []=some (.a (.i .i64 (Za1 a0 a1)),.none,true):=by
 refine (Zr4 1000 a0 a1).trans ?_
 unfold Za1
 revert hg
 generalize ((a0 != a0))=b2
 intro hg
 cases b2
 ·skip
  revert hg
  generalize ((a1 != a1))=b4
  intro hg
  cases b4
  ·skip
   revert hg
   generalize (decide (a0<a1))=b6
   intro hg
   cases b6
   ·skip
    revert hg
    generalize (decide (a0 > a1))=b8
    intro hg
    cases b8
    ·skip
     first | (simp only [Q1,Q2,BQ6];done) | rfl | exact (nomatch (hg:false=true))
    ·skip
     first | (simp only [Q1,Q2,BQ6];done) | rfl | exact (nomatch (hg:false=true))
   ·skip
    first | (simp only [Q1,Q2,BQ6];done) | rfl | exact (nomatch (hg:false=true))
  ·skip
   first | (simp only [Q1,Q2,BQ6];done) | rfl | exact (nomatch (hg:false=true))
 ·skip
  revert hg
  generalize ((a1 != a1))=b4
  intro hg
  cases b4
  ·skip
   first | (simp only [Q1,Q2,BQ6];done) | rfl | exact (nomatch (hg:false=true))
  ·skip
   first | (simp only [Q1,Q2,BQ6];done) | rfl | exact (nomatch (hg:false=true))
def Zhp:Con:=λ args h=>match args,h with
 | [.i .i64 a0,.i .i64 a1],[]=>some (.a (.i .i64 (Za1 a0 a1)),.none,true)
 | _,_=>none
theorem Zpk:EntX PZ 64:=Zah (fn:=f64)
theorem Ztg:Uac (md F) PZ 64 Zhp:=(ansY (N:=1000) (mKc (Zae Zxm) Zrf mKn) f64 []).of (by
 intro ρ h w args vals r e hA hH hr
 unfold Zhp at hr
 split at hr
 ·rename_i a0 a1
  obtain ⟨rfl,rfl,hg2⟩:=BQi hr
  exact Zqb a0 a1 (hA.rng 0 rfl) (hA.rng 1 rfl) hg2
 ·cases hr)
def Zl8 : Cons := (withM [("loop.example/g01300/impl.told", Zv6)] (mkΓ [(64, con Zhp)]))
theorem Zp3 (N:Nat) (a0 a1:Value):ansV PZ Zl8 N f43 [] [.v (a0),.v (a1)] []=(bif (isSc a0) then (bif (isSc a1) then (bif ((Ub1 a0) != (Ub1 a1)) then (some (.a (.i .i64 (Za1 (Ub1 a1) (Ub1 a0))),.none,true))
    else (some (.a (.i .i64 (Za1 (Udf a0) (Udf a1))),.none,true)))
   else (none))
  else (none)):=by kernel_rfl
def Zay (a0 a1:Value):Int:=(bif ((Ub1 a0) != (Ub1 a1)) then (Za1 (Ub1 a1) (Ub1 a0)) else (Za1 (Udf a0) (Udf a1)))
theorem Zo1 (a0 a1:Value)  (hg:((bif (isSc a0) then (isSc a1) else false))=true):ansV PZ Zl8 1000 f43 [] [.v (a0),.v (a1)] []=some (.a (.i .i64 (Zay a0 a1)),.none,true):=by
 refine (Zp3 1000 a0 a1).trans ?_
 unfold Zay
 revert hg
 generalize ((isSc a0))=b2
 intro hg
 cases b2
 ·skip
  first | exact (nomatch (hg:false=true)) | (simp only [Q1,Q2,BQ6];done) | rfl
 ·skip
  revert hg
  generalize ((isSc a1))=b4
  intro hg
  cases b4
  ·skip
   first | exact (nomatch (hg:false=true)) | (simp only [Q1,Q2,BQ6];done) | rfl
  ·skip
   revert hg
   generalize (((Ub1 a0) != (Ub1 a1)))=b6
   intro hg
   cases b6
   ·skip
    first | (simp only [Q1,Q2,BQ6];done) | rfl | exact (nomatch (hg:false=true))
   ·skip
    first | (simp only [Q1,Q2,BQ6];done) | rfl | exact (nomatch (hg:false=true))
def Zg2:Con:=λ args h=>match args,h with
 | [.v a0,.v a1],[]=>some (.a (.i .i64 (Zay a0 a1)),.none,(bif (isSc a0) then (isSc a1) else false))
 | _,_=>none
theorem Zoh:EntX PZ 43:=Zah (fn:=f43)
theorem Zr8 : Uac (md F) PZ 43 Zg2 := (ansY (N := 1000) (Yjp (m := [("loop.example/g01300/impl.told", Zv6)]) (λ q hq => by simp only [List.mem_cons, List.not_mem_nil, or_false] at hq; subst hq; first | exact Ym6) (mKc (Zae Ztg) Zpk mKn)) f43 []).of (by
 intro ρ h w args vals r e hA hH hr
 unfold Zg2 at hr
 split at hr
 ·rename_i a0 a1
  obtain ⟨rfl,rfl,hg2⟩:=BQi hr
  exact Zo1 a0 a1  hg2
 ·cases hr)
def Zdh (b_a0:Option (Option Addr)) (n_a0:Nat) (a0:Array Value):St:=(⟨.a (.l 0) :: .a (.u) :: .a (.i .i64 (0:Int)) :: .a (.i .i64 (0:Int)) :: .a (.u) :: .a (.u) :: .a (.l 0) :: .a (.i .i64 (n_a0:Int)) :: .a (.i .i64 (0:Int))::us 10 ([]),[.sl (.came b_a0) n_a0 a0 70],[]⟩:St)
def Ze8:Int×Int->LS
 | (y0_3,y0_8)=>([.a (.i .i64 (y0_3)),.a (.i .i64 (y0_8))],[])
def Zjz:Int×Int->Exit×LS
 | t=>((.exit 0),Ze8 t)
def Zbx (P:Program) (b_a0:Option (Option Addr)) (n_a0:Nat) (a0:Array Value):Int×Int->Option (Stp (Int×Int) (Int×Int))
 | (y0_3,y0_8)=>bif decide (y0_8<(n_a0:Int)) then (bif (decide (0≤y0_8)&&decide (y0_8<(n_a0:Int))) then (some (.more ((bif decide ((i64.wrap (num (a0.extract ((y0_8).toNat*2) (((y0_8).toNat*2)+2)) 1)) > y0_3) then (i64.wrap (num (a0.extract ((y0_8).toNat*2) (((y0_8).toNat*2)+2)) 1)) else y0_3),(i64.wrap (y0_8+(1:Int))))))
   else (none))
  else (some (.done (y0_3,y0_8)))
noncomputable abbrev cKCuB62:=codeOf f62
theorem Zx0 (N:Nat) (b_a0:Option (Option Addr)) (n_a0:Nat) (a0:Array Value):∀ t:Int×Int,Uag PZ (mkΓ []) N (cAt cKCuB62 [1,1,0,1,0,0]) (pAt (Uaa cKCuB62 [([3,8],[])]).1 [1,1,0,1,0]) [3,8] [] (Zdh b_a0 n_a0 a0) (Ze8 t)=mapS Ze8 Zjz (Zbx PZ b_a0 n_a0 a0 t):=by
 rintro ⟨y0_3,y0_8⟩
 refine Eq.trans (b:=(bif decide (y0_8<(n_a0:Int)) then (bif (decide (0<=y0_8)&&decide (y0_8<(n_a0:Int))) then (some (.more ([.a (.i .i64 (bif decide ((i64.wrap (num (a0.extract ((y0_8).toNat*2) (((y0_8).toNat*2)+2)) 1)) > y0_3) then (i64.wrap (num (a0.extract ((y0_8).toNat*2) (((y0_8).toNat*2)+2)) 1)) else y0_3)),.a (.i .i64 (i64.wrap (y0_8+(1:Int))))],[])))
   else (none))
  else (some (.done ((.exit 0),([.a (.i .i64 (y0_3)),.a (.i .i64 (y0_8))],[])))))) (by kernel_rfl) ?_
 simp only [Zbx,Zar,Zap,Zas,Zaq,Ze8,Zjz]
def Zim (P:Program) (N:Nat) (b_a0:Option (Option Addr)) (n_a0:Nat) (a0:Array Value) (z0_3:Int) (z0_8:Int):Option (SV×Eff×Bool):=some (.a (.i .i64 (z0_3)),.none,true)
theorem Zpf (N:Nat) (b_a0:Option (Option Addr)) (n_a0:Nat) (a0:Array Value) (z0_3:Int) (z0_8:Int):(Uad 0 (kSeq (veC PZ (mkΓ []) N (cAt cKCuB62 [1,1,1]) (pAt (Uaa cKCuB62 [([3,8],[])]).1 [1,1,1]) (SV×Eff×Bool)) (finK PZ [.sl (.came b_a0) n_a0 a0 70] [.tmp 2]))) (.exit 0) (left (writes (cAt cKCuB62 [1,1,0,1,0,0])) [3,8] [] (Zdh b_a0 n_a0 a0) ([.a (.i .i64 (z0_3)),.a (.i .i64 (z0_8))],[]))=Zim PZ N b_a0 n_a0 a0 z0_3 z0_8:=by
 refine Eq.trans (b:=(some (.a (.i .i64 (z0_3)),.none,true))) (by kernel_rfl) ?_
 rfl
theorem Zxf (N:Nat) (b_a0:Option (Option Addr)) (n_a0:Nat) (a0:Array Value):Uah (Uab (Uag PZ (mkΓ []) N (cAt cKCuB62 [1,1,0,1,0,0]) (pAt (Uaa cKCuB62 [([3,8],[])]).1 [1,1,0,1,0]) [3,8] [] (Zdh b_a0 n_a0 a0)) N ([.a (.i .i64 (0:Int)),.a (.i .i64 (0:Int))],[])) (λ e s=>(Uad 0 (kSeq (veC PZ (mkΓ []) N (cAt cKCuB62 [1,1,1]) (pAt (Uaa cKCuB62 [([3,8],[])]).1 [1,1,1]) (SV×Eff×Bool)) (finK PZ [.sl (.came b_a0) n_a0 a0 70] [.tmp 2]))) e (left (writes (cAt cKCuB62 [1,1,0,1,0,0])) [3,8] [] (Zdh b_a0 n_a0 a0) s))=Uai (Uab (Zbx PZ b_a0 n_a0 a0) N ((0:Int),(0:Int))) (λ x=>Zim PZ N b_a0 n_a0 a0 x.1 x.2):=by
 refine Zau Ze8 Zjz _ _ (Zx0 N b_a0 n_a0 a0) N ((0:Int),(0:Int)) _ _ ?_
 intro x;exact Zpf N b_a0 n_a0 a0 x.1 x.2
theorem Zuv (N:Nat) (b_a0:Option (Option Addr)) (n_a0:Nat) (a0:Array Value):ansV PZ (mkΓ []) N f62 [([3,8],[])] [.l 0] [.sl (.came b_a0) n_a0 a0 70]=(Uai (Uab (Zbx PZ b_a0 n_a0 a0) N ((0:Int),(0:Int))) (λ x=>Zim PZ N b_a0 n_a0 a0 x.1 x.2)):=by
 refine Eq.trans (b:=(Uah (Uab (Uag PZ (mkΓ []) N (cAt cKCuB62 [1,1,0,1,0,0]) (pAt (Uaa cKCuB62 [([3,8],[])]).1 [1,1,0,1,0]) [3,8] [] (Zdh b_a0 n_a0 a0)) N ([.a (.i .i64 (0:Int)),.a (.i .i64 (0:Int))],[])) (λ e s=>(Uad 0 (kSeq (veC PZ (mkΓ []) N (cAt cKCuB62 [1,1,1]) (pAt (Uaa cKCuB62 [([3,8],[])]).1 [1,1,1]) (SV×Eff×Bool)) (finK PZ [.sl (.came b_a0) n_a0 a0 70] [.tmp 2]))) e (left (writes (cAt cKCuB62 [1,1,0,1,0,0])) [3,8] [] (Zdh b_a0 n_a0 a0) s)))) (by kernel_rfl) ?_
 simp only [Zxf N b_a0 n_a0 a0]
theorem one_le {x:Int} (h:0<=x) (h0:(x==0)=false):decide (1<=x)=true:=Q3 (by
 have:x≠0:=λ e=>by subst e;exact nomatch h0
 omega)
def latF (a:Array Value) (s:Int) (k:Nat):Int:=bif decide (i64.wrap (num (a.extract (k*2) (k*2+2)) 1) > s) then i64.wrap (num (a.extract (k*2) (k*2+2)) 1) else s
def latV (a:Array Value) (n:Nat):Int:=folds (latF a) 0 n
theorem lat_mono (a:Array Value) (s:Int) (k:Nat):s<=latF a s k/\i64.wrap (num (a.extract (k*2) (k*2+2)) 1)<=latF a s k:=by
 unfold latF
 cases h:decide (i64.wrap (num (a.extract (k*2) (k*2+2)) 1) > s) with
 | true=>have:=of_decide_eq_true h;simp only [Q1];omega
 | false=>have:=of_decide_eq_false h;simp only [Q2];omega
theorem lat_le (a:Array Value):∀ n k,k<n->i64.wrap (num (a.extract (k*2) (k*2+2)) 1)<=latV a n
 | 0,k,hk=>by omega
 | n+1,k,hk=>by
  have e:latV a (n+1)=latF a (latV a n) n:=Zcv _ _ _
  obtain ⟨h1,h2⟩:=lat_mono a (latV a n) n
  by_cases h:k<n
  ·have:=lat_le a n k h;omega
  ·obtain rfl:k=n:=by omega
   omega
theorem lat_in (a:Array Value):∀ n,(∀ k,k<n->1<=i64.wrap (num (a.extract (k*2) (k*2+2)) 1)/\i64.wrap (num (a.extract (k*2) (k*2+2)) 1)<=14)->0<=latV a n/\latV a n<=14
 | 0,_=>by
  have e:latV a 0=0:=rfl
  omega
 | n+1,h=>by
  have ih:=lat_in a n (λ k hk=>h k (by omega))
  have e:latV a (n+1)=latF a (latV a n) n:=Zcv _ _ _
  have hn:=h n (by omega)
  rw [e]
  unfold latF
  cases decide (i64.wrap (num (a.extract (n*2) (n*2+2)) 1) > latV a n) with
  | true=>simp only [Q1];omega
  | false=>simp only [Q2];omega
theorem Zs0 (b_a0:Option (Option Addr)) (n_a0:Nat) (a0:Array Value) (h_a0:a0.size=n_a0*(lay PZ 70).length/\(∀ k,k<n_a0->WT PZ 70 (a0.extract (k*(lay PZ 70).length) (k*(lay PZ 70).length+(lay PZ 70).length)))/\n_a0<=9223372036854775807) (hg:(Nat.ble n_a0 60)=true):ansV PZ (mkΓ []) 1000 f62 [([3,8],[])] [.l 0] [.sl (.came b_a0) n_a0 a0 70]=some (.a (.i .i64 (latV a0 n_a0)),.none,true):=by
 have hn:n_a0<=60:=Nat.le_of_ble_eq_true hg
 refine (Zuv 1000 b_a0 n_a0 a0).trans ?_
 have h:=Zhz (g:=Zbx PZ b_a0 n_a0 a0) (λ (s:Int) k=>(s,(k:Int))) (latF a0) (m:=n_a0) (t:=(0:Int)) (x:=(latV a0 n_a0,(n_a0:Int))) (N:=1000) (λ k s hk _=>by
  have h1:decide ((k:Int)<(n_a0:Int))=true:=Q3 (by omega)
  have h0:decide (0<=(k:Int))=true:=Q3 (by omega)
  have h3:i64.wrap ((k:Int)+1)=((k+1:Nat):Int):=by rw [w64 (by omega)];omega
  simp only [Zbx,h1,h0,h3,latF,Q9,Bool.and_self,Q1]) (by
  have h1:decide ((n_a0:Int)<(n_a0:Int))=false:=Q4 (by omega)
  simp only [Zbx,h1,Q2]
  rfl) (by omega)
 have h':Uab (Zbx PZ b_a0 n_a0 a0) 1000 ((0:Int),(0:Int))=some (latV a0 n_a0,(n_a0:Int)):=h
 rw [h']
 rfl
def Zi4:Con:=λ args h=>match args,h with
 | [.l 0],[.sl (.came b_a0) n_a0 a0 70]=>some (.a (.i .i64 (latV a0 n_a0)),.none,Nat.ble n_a0 60)
 | _,_=>none
theorem Zq8:EntX PZ 62:=Zah (fn:=f62)
theorem Zxw:Uac (md F) PZ 62 Zi4:=(ansY (N:=1000) mKn f62 [([3,8],[])]).of (by
 intro ρ h w args vals r e hA hH hr
 unfold Zi4 at hr
 split at hr
 ·rename_i b_a0 n_a0 a0
  obtain ⟨rfl,rfl,hg2⟩:=BQi hr
  exact Zs0 b_a0 n_a0 a0 (hH.slw 0 rfl) hg2
 ·cases hr)
def Znl:Cons:=(mkΓ [(88,con Zhj),(89,con Zob)])
theorem Zsc (N:Nat) (a1:Array Value) (b_a0:Option (Option Addr)) (n_a0:Nat) (a0:Array Value):ansV PZ Znl N f63 [] [.l 0,.g a1 70] [.sl (.came b_a0) n_a0 a0 105]=(bif (Zaa (num a1 1) 1 14&&(decide (num a1 1<(n_a0:Int))&&(decide (0<=num a1 0)&&decide (num a1 0<36)))) then (bif ((prtV a0 a1)==(0:Int)) then (some (.a (.v (.iface 129 (.agg #[]))),.none,true))
   else (bif decide (1<=(prtV a0 a1)) then (bif decide (1<=(12:Int)) then (some (.a (.v (.iface 127 (.int .i64 (i64.wrap ((lg (prtV a0 a1)) - (i64.wrap ((i64.wrap (num a1 1))*(lg (12:Int))))))))),.none,true))
     else (none))
    else (none)))
  else (none)):=by kernel_rfl
def scN (p h:Int):Int:=i64.wrap (lg p - i64.wrap (h*lg (12:Int)))
theorem Zp8 (a1:Array Value) (b_a0:Option (Option Addr)) (n_a0:Nat) (a0:Array Value) (h_a1:WT PZ 70 a1) (h_a0:a0.size=n_a0*(lay PZ 105).length/\(∀ k,k<n_a0->WT PZ 105 (a0.extract (k*(lay PZ 105).length) (k*(lay PZ 105).length+(lay PZ 105).length)))/\n_a0<=9223372036854775807) (hg:(((Zaa (num a1 1) 1 14&&(decide (num a1 1<(n_a0:Int))&&(decide (0<=num a1 0)&&decide (num a1 0<36))))&&decide (0<=(prtV a0 a1))))=true):ansV PZ Znl 1000 f63 [] [.l 0,.g a1 70] [.sl (.came b_a0) n_a0 a0 105]=some (.a (.v ((scV ((prtV a0 a1)==(0:Int)) (scN (prtV a0 a1) (num a1 1))))),.none,true):=by
 obtain ⟨z,e0,e1,_,_⟩:=Zru h_a1
 rw [Q7] at hg
 obtain ⟨q1,q2⟩:=hg
 refine (Zsc 1000 a1 b_a0 n_a0 a0).trans ?_
 rw [q1,e1]
 generalize (prtV a0 a1)=p at q2|-
 cases hp:(p==(0:Int)) with
 | true=>rfl
 | false=>
  have h1:=one_le (of_decide_eq_true q2) hp
  rw [h1]
  rfl
def Zhh:Con:=λ args h=>match args,h with
 | [.l 0,.g a1 70],[.sl (.came b_a0) n_a0 a0 105]=>some (.a (.v ((scV ((prtV a0 a1)==(0:Int)) (scN (prtV a0 a1) (num a1 1))))),.none,((Zaa (num a1 1) 1 14&&(decide (num a1 1<(n_a0:Int))&&(decide (0<=num a1 0)&&decide (num a1 0<36))))&&decide (0<=(prtV a0 a1))))
 | _,_=>none
theorem Zpm:EntX PZ 63:=Zah (fn:=f63)
theorem Zs3:Uac (md F) PZ 63 Zhh:=(ansY (N:=1000) (mKc (Zae Ztm) Zpa (mKc (Zae Yh8) Ya7 mKn)) f63 []).of (by
 intro ρ h w args vals r e hA hH hr
 unfold Zhh at hr
 split at hr
 ·rename_i a1 b_a0 n_a0 a0
  obtain ⟨rfl,rfl,hg2⟩:=BQi hr
  exact Zp8 a1 b_a0 n_a0 a0 (hA.wt 1 rfl) (hH.slw 0 rfl) hg2
 ·cases hr)
def Zf8 (b_a0:Option (Option Addr)) (n_a0:Nat) (a0:Array Value):St:=(⟨.a (.l 0) :: .a (.u) :: .a (.v (.nilIface)) :: .a (.i .i64 (0:Int))::us 4 (.a (.l 0) :: .a (.i .i64 (n_a0:Int)) :: .a (.i .i64 (0:Int))::us 18 ([])),[.sl (.came b_a0) n_a0 a0 77],[]⟩:St)
def Zhq:Value×Int×Int->LS
 | (y0_2,y0_3,y0_10)=>([.a (.v (y0_2)),.a (.i .i64 (y0_3)),.a (.i .i64 (y0_10))],[])
def Zpi:(Stp (Value×Int×Int) (Value×Int×Int))->Exit×LS
 | .more t=>(.ret,Zhq t)
 | .done t=>((.exit 0),Zhq t)
def Zd0 (P : Program) (b_a0 : Option (Option Addr)) (n_a0 : Nat) (a0 : Array Value) : Value × Int × Int → Option (Stp (Value × Int × Int) (Stp (Value × Int × Int) (Value × Int × Int)))
 | (y0_2, y0_3, y0_10) => bif decide (y0_10 < (n_a0 : Int)) then (bif (decide (0 ≤ y0_10) && decide (y0_10 < (n_a0 : Int))) then (bif (okI .i64 127 (cel a0 ((y0_10).toNat * 1))) then (bif Ubd 127 (cel a0 ((y0_10).toNat * 1)) then (some (.more (y0_2, (i64.wrap (y0_3 + (bif Ubd 127 (cel a0 ((y0_10).toNat * 1)) then payI (cel a0 ((y0_10).toNat * 1)) else 0))), (i64.wrap (y0_10 + (1 : Int))))))
     else (bif (Uc8 129 (cel a0 ((y0_10).toNat*1))) then (bif Ubd 129 (cel a0 ((y0_10).toNat*1)) then (some (.done (.more (.iface 129 (.agg #[]),y0_3,y0_10))))
       else (some (.more (y0_2,y0_3,(i64.wrap (y0_10+(1:Int)))))))
      else (none)))
    else (none))
   else (none))
  else (some (.done (.done (y0_2,y0_3,y0_10))))
noncomputable abbrev cKCuB58:=codeOf f58
theorem Yik (N:Nat) (b_a0:Option (Option Addr)) (n_a0:Nat) (a0:Array Value):∀ t:Value×Int×Int,Uag PZ (mkΓ []) N (cAt cKCuB58 [1,1,0,1,0,0]) (pAt (Uaa cKCuB58 [([2,3,10],[])]).1 [1,1,0,1,0]) [2,3,10] [] (Zf8 b_a0 n_a0 a0) (Zhq t)=mapS Zhq Zpi (Zd0 PZ b_a0 n_a0 a0 t):=by
 rintro ⟨y0_2,y0_3,y0_10⟩
 refine Eq.trans (b:=(bif decide (y0_10<(n_a0:Int)) then (bif (decide (0<=y0_10)&&decide (y0_10<(n_a0:Int))) then (bif (okI .i64 127 (cel a0 ((y0_10).toNat*1))) then (bif Ubd 127 (cel a0 ((y0_10).toNat*1)) then (some (.more ([.a (.v (y0_2)),.a (.i .i64 (i64.wrap (y0_3+(bif Ubd 127 (cel a0 ((y0_10).toNat*1)) then payI (cel a0 ((y0_10).toNat*1)) else 0)))),.a (.i .i64 (i64.wrap (y0_10+(1:Int))))],[])))
     else (bif (Uc8 129 (cel a0 ((y0_10).toNat*1))) then (bif Ubd 129 (cel a0 ((y0_10).toNat*1)) then (some (.done (.ret,([.a (.v (.iface 129 (.agg #[]))),.a (.i .i64 (y0_3)),.a (.i .i64 (y0_10))],[]))))
       else (some (.more ([.a (.v (y0_2)),.a (.i .i64 (y0_3)),.a (.i .i64 (i64.wrap (y0_10+(1:Int))))],[]))))
      else (none)))
    else (none))
   else (none))
  else (some (.done ((.exit 0),([.a (.v (y0_2)),.a (.i .i64 (y0_3)),.a (.i .i64 (y0_10))],[])))))) (by kernel_rfl) ?_
 simp only [Zd0,Zar,Zap,Zas,Zaq,Zhq,Zpi]
def Zms (P:Program) (N:Nat) (b_a0:Option (Option Addr)) (n_a0:Nat) (a0:Array Value) (z0_2:Value) (z0_3:Int) (z0_10:Int):Option (SV×Eff×Bool):=some (.a (.v (z0_2)),.none,true)
theorem Zvi (N:Nat) (b_a0:Option (Option Addr)) (n_a0:Nat) (a0:Array Value) (z0_2:Value) (z0_3:Int) (z0_10:Int):(Uad 0 (kSeq (veC PZ (mkΓ []) N (cAt cKCuB58 [1,1,1]) (pAt (Uaa cKCuB58 [([2,3,10],[])]).1 [1,1,1]) (SV×Eff×Bool)) (finK PZ [.sl (.came b_a0) n_a0 a0 77] [.tmp 2]))) .ret (left (writes (cAt cKCuB58 [1,1,0,1,0,0])) [2,3,10] [] (Zf8 b_a0 n_a0 a0) ([.a (.v (z0_2)),.a (.i .i64 (z0_3)),.a (.i .i64 (z0_10))],[]))=Zms PZ N b_a0 n_a0 a0 z0_2 z0_3 z0_10:=by
 refine Eq.trans (b:=(some (.a (.v (z0_2)),.none,true))) (by kernel_rfl) ?_
 rfl
def Zm1 (P:Program) (N:Nat) (b_a0:Option (Option Addr)) (n_a0:Nat) (a0:Array Value) (z0_2:Value) (z0_3:Int) (z0_10:Int):Option (SV×Eff×Bool):=some (.a (.v (.iface 127 (.int .i64 (z0_3)))),.none,true)
theorem Zw0 (N:Nat) (b_a0:Option (Option Addr)) (n_a0:Nat) (a0:Array Value) (z0_2:Value) (z0_3:Int) (z0_10:Int):(Uad 0 (kSeq (veC PZ (mkΓ []) N (cAt cKCuB58 [1,1,1]) (pAt (Uaa cKCuB58 [([2,3,10],[])]).1 [1,1,1]) (SV×Eff×Bool)) (finK PZ [.sl (.came b_a0) n_a0 a0 77] [.tmp 2]))) (.exit 0) (left (writes (cAt cKCuB58 [1,1,0,1,0,0])) [2,3,10] [] (Zf8 b_a0 n_a0 a0) ([.a (.v (z0_2)),.a (.i .i64 (z0_3)),.a (.i .i64 (z0_10))],[]))=Zm1 PZ N b_a0 n_a0 a0 z0_2 z0_3 z0_10:=by
 refine Eq.trans (b:=(some (.a (.v (.iface 127 (.int .i64 (z0_3)))),.none,true))) (by kernel_rfl) ?_
 rfl
theorem Yhe (N:Nat) (b_a0:Option (Option Addr)) (n_a0:Nat) (a0:Array Value):Uah (Uab (Uag PZ (mkΓ []) N (cAt cKCuB58 [1,1,0,1,0,0]) (pAt (Uaa cKCuB58 [([2,3,10],[])]).1 [1,1,0,1,0]) [2,3,10] [] (Zf8 b_a0 n_a0 a0)) N ([.a (.v ((.nilIface))),.a (.i .i64 (0:Int)),.a (.i .i64 (0:Int))],[])) (λ e s=>(Uad 0 (kSeq (veC PZ (mkΓ []) N (cAt cKCuB58 [1,1,1]) (pAt (Uaa cKCuB58 [([2,3,10],[])]).1 [1,1,1]) (SV×Eff×Bool)) (finK PZ [.sl (.came b_a0) n_a0 a0 77] [.tmp 2]))) e (left (writes (cAt cKCuB58 [1,1,0,1,0,0])) [2,3,10] [] (Zf8 b_a0 n_a0 a0) s))=Uai (Uab (Zd0 PZ b_a0 n_a0 a0) N ((.nilIface),(0:Int),(0:Int))) (st2 (λ x=>Zms PZ N b_a0 n_a0 a0 x.1 x.2.1 x.2.2) (λ x=>Zm1 PZ N b_a0 n_a0 a0 x.1 x.2.1 x.2.2)):=by
 refine Zau Zhq Zpi _ _ (Yik N b_a0 n_a0 a0) N ((.nilIface),(0:Int),(0:Int)) _ _ ?_
 intro x
 cases x with
 | more x=>exact Zvi N b_a0 n_a0 a0 x.1 x.2.1 x.2.2
 | done x=>exact Zw0 N b_a0 n_a0 a0 x.1 x.2.1 x.2.2
theorem Ygb (N:Nat) (b_a0:Option (Option Addr)) (n_a0:Nat) (a0:Array Value):ansV PZ (mkΓ []) N f58 [([2,3,10],[])] [.l 0] [.sl (.came b_a0) n_a0 a0 77]=(Uai (Uab (Zd0 PZ b_a0 n_a0 a0) N ((.nilIface),(0:Int),(0:Int))) (st2 (λ x=>Zms PZ N b_a0 n_a0 a0 x.1 x.2.1 x.2.2) (λ x=>Zm1 PZ N b_a0 n_a0 a0 x.1 x.2.1 x.2.2))):=by
 refine Eq.trans (b:=(Uah (Uab (Uag PZ (mkΓ []) N (cAt cKCuB58 [1,1,0,1,0,0]) (pAt (Uaa cKCuB58 [([2,3,10],[])]).1 [1,1,0,1,0]) [2,3,10] [] (Zf8 b_a0 n_a0 a0)) N ([.a (.v ((.nilIface))),.a (.i .i64 (0:Int)),.a (.i .i64 (0:Int))],[])) (λ e s=>(Uad 0 (kSeq (veC PZ (mkΓ []) N (cAt cKCuB58 [1,1,1]) (pAt (Uaa cKCuB58 [([2,3,10],[])]).1 [1,1,1]) (SV×Eff×Bool)) (finK PZ [.sl (.came b_a0) n_a0 a0 77] [.tmp 2]))) e (left (writes (cAt cKCuB58 [1,1,0,1,0,0])) [2,3,10] [] (Zf8 b_a0 n_a0 a0) s)))) (by kernel_rfl) ?_
 simp only [Yhe N b_a0 n_a0 a0]
def allSc (C:Array Value) (n:Nat):Bool:=(List.range n).all λ k=>isSc (cel C k)
def totF (C:Array Value) (s:Int) (k:Nat):Int:=i64.wrap (s+payI (cel C k))
def totZ (C:Array Value) (n:Nat):Bool:=((List.range n).find? λ k=>noSc (cel C k)).isSome
def totS (C:Array Value) (n:Nat):Int:=folds (totF C) 0 n
theorem Ynh {y:Value} (h:isSc y=true):okI .i64 127 y=true/\Uc8 129 y=true/\Ubd 127 y = !(noSc y)/\Ubd 129 y=noSc y:=by
 rcases Ypx h with ⟨n,rfl,h1,h2⟩ | rfl
 ·refine ⟨?_,rfl,rfl,rfl⟩
  simp only [okI,Q3 h1,Q3 h2]
  rfl
 ·exact ⟨rfl,rfl,rfl,rfl⟩
theorem Ydx (b_a0:Option (Option Addr)) (n_a0:Nat) (a0:Array Value) (h_a0:a0.size=n_a0*(lay PZ 77).length/\(∀ k,k<n_a0->WT PZ 77 (a0.extract (k*(lay PZ 77).length) (k*(lay PZ 77).length+(lay PZ 77).length)))/\n_a0<=9223372036854775807) (hg:((allSc a0 n_a0&&Nat.ble n_a0 60))=true):ansV PZ (mkΓ []) 1000 f58 [([2,3,10],[])] [.l 0] [.sl (.came b_a0) n_a0 a0 77]=some (.a (.v ((scV (totZ a0 n_a0) (totS a0 n_a0)))),.none,true):=by
 rw [Q7] at hg
 obtain ⟨q1,q2⟩:=hg
 have hn:n_a0<=60:=Nat.le_of_ble_eq_true q2
 have hs:∀ k,k<n_a0->isSc (cel a0 k)=true:=λ k hk=>List.all_eq_true.1 q1 k (List.mem_range.2 hk)
 refine (Ygb 1000 b_a0 n_a0 a0).trans ?_
 have l0:=Zm7 (g:=Zd0 PZ b_a0 n_a0 a0) (λ k=>(Value.nilIface,folds (totF a0) 0 k,(k:Int))) (λ k=>noSc (cel a0 k)) n_a0 (N:=1000) (xd:=.done (Value.nilIface,folds (totF a0) 0 n_a0,(n_a0:Int))) (by omega) (λ k=>.more (Value.iface 129 (.agg #[]),folds (totF a0) 0 k,(k:Int))) (λ k hk hp=>by
  have h1:decide ((k:Int)<(n_a0:Int))=true:=Q3 (by omega)
  have h2:decide (0<=(k:Int))=true:=Q3 (by omega)
  have h3:i64.wrap ((k:Int)+1)=((k+1:Nat):Int):=by rw [w64 (by omega)];omega
  obtain ⟨f1,f2,f3,f4⟩:=Ynh (hs k hk)
  rw [hp] at f3 f4
  have ef:folds (totF a0) 0 (k+1)=totF a0 (folds (totF a0) 0 k) k:=Zcv _ _ _
  rw [ef]
  simp only [Zd0,h1,h2,h3,Q9,Nat.mul_one,f1,f2,f3,f4,totF,Bool.and_self,Bool.not_false,Q1,Q2]) (λ k hk hp=>by
  have h1:decide ((k:Int)<(n_a0:Int))=true:=Q3 (by omega)
  have h2:decide (0<=(k:Int))=true:=Q3 (by omega)
  obtain ⟨f1,f2,f3,f4⟩:=Ynh (hs k hk)
  rw [hp] at f3 f4
  simp only [Zd0,h1,h2,Q9,Nat.mul_one,f1,f2,f3,f4,Bool.and_self,Bool.not_true,Q1,Q2]) (by
  have h1:decide ((n_a0:Int)<(n_a0:Int))=false:=Q4 (by omega)
  simp only [Zd0,h1,Q2])
 have l0':Uab (Zd0 PZ b_a0 n_a0 a0) 1000 (Value.nilIface,(0:Int),(0:Int))=some (match (List.range n_a0).find? (λ k=>noSc (cel a0 k)) with | some k=>.more (Value.iface 129 (.agg #[]),folds (totF a0) 0 k,(k:Int)) | none=>.done (Value.nilIface,folds (totF a0) 0 n_a0,(n_a0:Int))):=l0
 rw [l0']
 unfold totZ totS
 cases (List.range n_a0).find? (λ k=>noSc (cel a0 k))<;>rfl
def Zn1:Con:=λ args h=>match args,h with
 | [.l 0],[.sl (.came b_a0) n_a0 a0 77]=>some (.a (.v ((scV (totZ a0 n_a0) (totS a0 n_a0)))),.none,(allSc a0 n_a0&&Nat.ble n_a0 60))
 | _,_=>none
theorem Ybd:EntX PZ 58:=Zah (fn:=f58)
theorem Yhj:Uac (md F) PZ 58 Zn1:=(ansY (N:=1000) mKn f58 [([2,3,10],[])]).of (by
 intro ρ h w args vals r e hA hH hr
 unfold Zn1 at hr
 split at hr
 ·rename_i b_a0 n_a0 a0
  obtain ⟨rfl,rfl,hg2⟩:=BQi hr
  exact Ydx b_a0 n_a0 a0 (hH.slw 0 rfl) hg2
 ·cases hr)
end
end Go.Proofs.YtdfefaanfiheoaaGreatDoor
