/- An hour as it is asked, and exact sums, in company. -/
import Derived.Test.YtgllknjdblkhnaaGreatDoorProg
import Derived.Test.YtgllknjdblkhnaaGreatDoorCxE
set_option linter.unusedVariables false
set_option linter.unusedSimpArgs false
open _root_.Array renaming getElem?_setIfInBounds->jA,toList_setIfInBounds->jC
open _root_.Bool renaming not_true->jB
namespace Go.Proofs.YtgllknjdblkhnaaGreatDoor
open Tryz (f80 f82 f84 f85 f87 f88 f89 f90 f91)
open Go.ChangeShapes Go.WideShapes Go.ChangeAt Go.RowKit Ve Vc
open Tryz renaming prog -> PZ
open IntKind (i64)
set_option maxRecDepth 100000
noncomputable section
variable {mn:Md}
theorem Ybp(N:Nat)(a1 a2:Int)(a0:Array Value):ansV PZ (mkΓ [(37,con Zdh)]) N f84 [] [.w 0,.i .i64 a1,.i .i64 a2] [.row a0 38]=(bif (a2==(1:Int)) then (bif (!((Zaa ((a1).tmod (6:Int)) (0:Int) (i64.wrap ((i64.wrap (num a0 0)) - (1:Int)))))) then (some (.a (.i .i64 (-1:Int)),.none,true)) else (bif (!((Zaa (i64.wrap ((i64.wrap ((a1).tdiv (6:Int))) - (1:Int))) (0:Int) (i64.wrap ((i64.wrap (num a0 1)) - (1:Int)))))) then (some (.a (.i .i64 (-1:Int)),.none,true)) else (some (.a (.i .i64 (i64.wrap (((a1).tmod (6:Int))+(i64.wrap ((6:Int)*(i64.wrap ((i64.wrap ((a1).tdiv (6:Int))) - (1:Int)))))))),.none,true)))) else (bif (a2==(2:Int)) then (bif (!((Zaa (i64.wrap (((a1).tmod (6:Int))+(1:Int))) (0:Int) (i64.wrap ((i64.wrap (num a0 0)) - (1:Int)))))) then (some (.a (.i .i64 (-1:Int)),.none,true)) else (bif (!((Zaa (i64.wrap ((a1).tdiv (6:Int))) (0:Int) (i64.wrap ((i64.wrap (num a0 1)) - (1:Int)))))) then (some (.a (.i .i64 (-1:Int)),.none,true)) else (some (.a (.i .i64 (i64.wrap ((i64.wrap (((a1).tmod (6:Int))+(1:Int)))+(i64.wrap ((6:Int)*(i64.wrap ((a1).tdiv (6:Int)))))))),.none,true)))) else (bif (a2==(3:Int)) then (bif (!((Zaa ((a1).tmod (6:Int)) (0:Int) (i64.wrap ((i64.wrap (num a0 0)) - (1:Int)))))) then (some (.a (.i .i64 (-1:Int)),.none,true)) else (bif (!((Zaa (i64.wrap ((i64.wrap ((a1).tdiv (6:Int)))+(1:Int))) (0:Int) (i64.wrap ((i64.wrap (num a0 1)) - (1:Int)))))) then (some (.a (.i .i64 (-1:Int)),.none,true)) else (some (.a (.i .i64 (i64.wrap (((a1).tmod (6:Int))+(i64.wrap ((6:Int)*(i64.wrap ((i64.wrap ((a1).tdiv (6:Int)))+(1:Int)))))))),.none,true)))) else (bif (a2==(4:Int)) then (bif (!((Zaa (i64.wrap (((a1).tmod (6:Int)) - (1:Int))) (0:Int) (i64.wrap ((i64.wrap (num a0 0)) - (1:Int)))))) then (some (.a (.i .i64 (-1:Int)),.none,true)) else (bif (!((Zaa (i64.wrap ((a1).tdiv (6:Int))) (0:Int) (i64.wrap ((i64.wrap (num a0 1)) - (1:Int)))))) then (some (.a (.i .i64 (-1:Int)),.none,true)) else (some (.a (.i .i64 (i64.wrap ((i64.wrap (((a1).tmod (6:Int)) - (1:Int)))+(i64.wrap ((6:Int)*(i64.wrap ((a1).tdiv (6:Int)))))))),.none,true)))) else (bif (!((Zaa ((a1).tmod (6:Int)) (0:Int) (i64.wrap ((i64.wrap (num a0 0)) - (1:Int)))))) then (some (.a (.i .i64 (-1:Int)),.none,true)) else (bif (!((Zaa (i64.wrap ((a1).tdiv (6:Int))) (0:Int) (i64.wrap ((i64.wrap (num a0 1)) - (1:Int)))))) then (some (.a (.i .i64 (-1:Int)),.none,true)) else (some (.a (.i .i64 (i64.wrap (((a1).tmod (6:Int))+(i64.wrap ((6:Int)*(i64.wrap ((a1).tdiv (6:Int)))))))),.none,true)))))))):=by kernel_rfl
def Zad(a1 a2:Int)(a0:Array Value):Int:=(bif (a2==(1:Int)) then (bif (!((Zaa ((a1).tmod (6:Int)) (0:Int) (i64.wrap ((i64.wrap (num a0 0)) - (1:Int)))))) then (-1:Int) else (bif (!((Zaa (i64.wrap ((i64.wrap ((a1).tdiv (6:Int))) - (1:Int))) (0:Int) (i64.wrap ((i64.wrap (num a0 1)) - (1:Int)))))) then (-1:Int) else (i64.wrap (((a1).tmod (6:Int))+(i64.wrap ((6:Int)*(i64.wrap ((i64.wrap ((a1).tdiv (6:Int))) - (1:Int))))))))) else (bif (a2==(2:Int)) then (bif (!((Zaa (i64.wrap (((a1).tmod (6:Int))+(1:Int))) (0:Int) (i64.wrap ((i64.wrap (num a0 0)) - (1:Int)))))) then (-1:Int) else (bif (!((Zaa (i64.wrap ((a1).tdiv (6:Int))) (0:Int) (i64.wrap ((i64.wrap (num a0 1)) - (1:Int)))))) then (-1:Int) else (i64.wrap ((i64.wrap (((a1).tmod (6:Int))+(1:Int)))+(i64.wrap ((6:Int)*(i64.wrap ((a1).tdiv (6:Int))))))))) else (bif (a2==(3:Int)) then (bif (!((Zaa ((a1).tmod (6:Int)) (0:Int) (i64.wrap ((i64.wrap (num a0 0)) - (1:Int)))))) then (-1:Int) else (bif (!((Zaa (i64.wrap ((i64.wrap ((a1).tdiv (6:Int)))+(1:Int))) (0:Int) (i64.wrap ((i64.wrap (num a0 1)) - (1:Int)))))) then (-1:Int) else (i64.wrap (((a1).tmod (6:Int))+(i64.wrap ((6:Int)*(i64.wrap ((i64.wrap ((a1).tdiv (6:Int)))+(1:Int))))))))) else (bif (a2==(4:Int)) then (bif (!((Zaa (i64.wrap (((a1).tmod (6:Int)) - (1:Int))) (0:Int) (i64.wrap ((i64.wrap (num a0 0)) - (1:Int)))))) then (-1:Int) else (bif (!((Zaa (i64.wrap ((a1).tdiv (6:Int))) (0:Int) (i64.wrap ((i64.wrap (num a0 1)) - (1:Int)))))) then (-1:Int) else (i64.wrap ((i64.wrap (((a1).tmod (6:Int)) - (1:Int)))+(i64.wrap ((6:Int)*(i64.wrap ((a1).tdiv (6:Int))))))))) else (bif (!((Zaa ((a1).tmod (6:Int)) (0:Int) (i64.wrap ((i64.wrap (num a0 0)) - (1:Int)))))) then (-1:Int) else (bif (!((Zaa (i64.wrap ((a1).tdiv (6:Int))) (0:Int) (i64.wrap ((i64.wrap (num a0 1)) - (1:Int)))))) then (-1:Int) else (i64.wrap (((a1).tmod (6:Int))+(i64.wrap ((6:Int)*(i64.wrap ((a1).tdiv (6:Int)))))))))))))
theorem Zz2(a1 a2:Int)(a0:Array Value)(h_a1:i64.min<=a1/\a1<=i64.max)(h_a2:i64.min<=a2/\a2<=i64.max)(h_a0:WT PZ 38 a0)(hg:(true)=true):ansV PZ (mkΓ [(37,con Zdh)]) 1000 f84 [] [.w 0,.i .i64 a1,.i .i64 a2] [.row a0 38]=some (.a (.i .i64 (Zad a1 a2 a0)),.none,true):=by
 refine(Ybp 1000 a1 a2 a0).trans ?_;unfold Zad;revert hg;generalize ((a2==(1:Int)))=b2;intro hg;cases b2
 ·skip
  revert hg;generalize ((a2==(2:Int)))=b4;intro hg;cases b4
  ·skip
   revert hg;generalize ((a2==(3:Int)))=b6;intro hg;cases b6
   ·skip
    revert hg;generalize ((a2==(4:Int)))=b8;intro hg;cases b8
    ·skip
     revert hg;generalize ((!((Zaa ((a1).tmod (6:Int)) (0:Int) (i64.wrap ((i64.wrap (num a0 0)) - (1:Int)))))))=b10;intro hg;cases b10
     ·skip
      revert hg;generalize ((!((Zaa (i64.wrap ((a1).tdiv (6:Int))) (0:Int) (i64.wrap ((i64.wrap (num a0 1)) - (1:Int)))))))=b12;intro hg;cases b12
      ·skip
       first|rfl|exact(nomatch (hg:false=true))
      ·skip
       first|rfl|exact(nomatch (hg:false=true))
     ·skip
      first|rfl|exact(nomatch (hg:false=true))
    ·skip
     revert hg;generalize ((!((Zaa (i64.wrap (((a1).tmod (6:Int)) - (1:Int))) (0:Int) (i64.wrap ((i64.wrap (num a0 0)) - (1:Int)))))))=b10;intro hg;cases b10
     ·skip
      revert hg;generalize ((!((Zaa (i64.wrap ((a1).tdiv (6:Int))) (0:Int) (i64.wrap ((i64.wrap (num a0 1)) - (1:Int)))))))=b12;intro hg;cases b12
      ·skip
       first|rfl|exact(nomatch (hg:false=true))
      ·skip
       first|rfl|exact(nomatch (hg:false=true))
     ·skip
      first|rfl|exact(nomatch (hg:false=true))
   ·skip
    revert hg;generalize ((!((Zaa ((a1).tmod (6:Int)) (0:Int) (i64.wrap ((i64.wrap (num a0 0)) - (1:Int)))))))=b8;intro hg;cases b8
    ·skip
     revert hg;generalize ((!((Zaa (i64.wrap ((i64.wrap ((a1).tdiv (6:Int)))+(1:Int))) (0:Int) (i64.wrap ((i64.wrap (num a0 1)) - (1:Int)))))))=b10;intro hg;cases b10
     ·skip
      first|rfl|exact(nomatch (hg:false=true))
     ·skip
      first|rfl|exact(nomatch (hg:false=true))
    ·skip
     first|rfl|exact(nomatch (hg:false=true))
  ·skip
   revert hg;generalize ((!((Zaa (i64.wrap (((a1).tmod (6:Int))+(1:Int))) (0:Int) (i64.wrap ((i64.wrap (num a0 0)) - (1:Int)))))))=b6;intro hg;cases b6
   ·skip
    revert hg;generalize ((!((Zaa (i64.wrap ((a1).tdiv (6:Int))) (0:Int) (i64.wrap ((i64.wrap (num a0 1)) - (1:Int)))))))=b8;intro hg;cases b8
    ·skip
     first|rfl|exact(nomatch (hg:false=true))
    ·skip
     first|rfl|exact(nomatch (hg:false=true))
   ·skip
    first|rfl|exact(nomatch (hg:false=true))
 ·skip
  revert hg;generalize ((!((Zaa ((a1).tmod (6:Int)) (0:Int) (i64.wrap ((i64.wrap (num a0 0)) - (1:Int)))))))=b4;intro hg;cases b4
  ·skip
   revert hg;generalize ((!((Zaa (i64.wrap ((i64.wrap ((a1).tdiv (6:Int))) - (1:Int))) (0:Int) (i64.wrap ((i64.wrap (num a0 1)) - (1:Int)))))))=b6;intro hg;cases b6
   ·skip
    first|rfl|exact(nomatch (hg:false=true))
   ·skip
    first|rfl|exact(nomatch (hg:false=true))
  ·skip
   first|rfl|exact(nomatch (hg:false=true))
def Zmq:Con:=λargs h=>match args,h with|[.w 0,.i .i64 a1,.i .i64 a2],[.row a0 38]=>some (.a (.i .i64 (Zad a1 a2 a0)),.none,true)|_,_=>none
theorem Zwp:EntX PZ 84:=Zak (fn:=f84)
theorem Yc8:Uac mn PZ 84 Zmq:=(ansY (N:=1000) (mKc (Zag Zk4) Zhl mKn) f84 []).of (by
 intro ρ h w args vals r e hA hH hr;unfold Zmq at hr;split at hr
 ·rename_i a1 a2 a0;obtain⟨rfl,rfl,hg2⟩:=BQi hr;exact Zz2 a1 a2 a0 (hA.rng 1 rfl) (hA.rng 2 rfl) (hH.wt 0 rfl) hg2
 ·cases hr)
theorem Ybf(N:Nat):ansV PZ (mkΓ []) N f85 [] [] []=(some (.a (.g #[.func (.func 87) #[] #[],.func (.func 88) #[] #[],.func (.func 89) #[] #[],.func (.func 90) #[] #[],.func (.func 91) #[] #[]] 164),.none,true)):=by kernel_rfl
theorem Yah  (hg:(true)=true):ansV PZ (mkΓ []) 1000 f85 [] [] []=some (.a (.g #[.func (.func 87) #[] #[],.func (.func 88) #[] #[],.func (.func 89) #[] #[],.func (.func 90) #[] #[],.func (.func 91) #[] #[]] 164),.none,true):=by refine(Ybf 1000 ).trans ?_;rfl
def Zmg:Con:=λargs h=>match args,h with|[],[]=>some (.a (.g #[.func (.func 87) #[] #[],.func (.func 88) #[] #[],.func (.func 89) #[] #[],.func (.func 90) #[] #[],.func (.func 91) #[] #[]] 164),.none,true)|_,_=>none
theorem Zws:EntX PZ 85:=Zak (fn:=f85)
theorem Yd9:Uac mn PZ 85 Zmg:=(ansY (N:=1000) mKn f85 []).of (by
 intro ρ h w args vals r e hA hH hr;unfold Zmg at hr;split at hr
 ·obtain⟨rfl,rfl,hg2⟩:=BQi hr;exact Yah hg2
 ·cases hr)
theorem Zvo(N:Nat)(a0:Array Value):ansV PZ (mkΓ []) N f87 [] [.g a0 148] []=(some (.a (.g a0 148),.none,true)):=by kernel_rfl
theorem Zun(a0:Array Value)(h_a0:WT PZ 148 a0)(hg:(true)=true):ansV PZ (mkΓ []) 1000 f87 [] [.g a0 148] []=some (.a (.g a0 148),.none,true):=by refine(Zvo 1000 a0).trans ?_;rfl
def Zj7:Con:=λargs h=>match args,h with|[.g a0 148],[]=>some (.a (.g a0 148),.none,true)|_,_=>none
theorem Zso:EntX PZ 87:=Zak (fn:=f87)
theorem Zyn:Uac mn PZ 87 Zj7:=(ansY (N:=1000) mKn f87 []).of (by
 intro ρ h w args vals r e hA hH hr;unfold Zj7 at hr;split at hr
 ·rename_i a0;obtain⟨rfl,rfl,hg2⟩:=BQi hr;exact Zun a0 (hA.wt 0 rfl) hg2
 ·cases hr)
theorem Ztz(N:Nat)(a0:Array Value):ansV PZ (mkΓ []) N f88 [] [.g a0 148] []=(some (.a (.g #[.int .i64 (num a0 0),.int .i64 (i64.wrap ((num a0 1) - (1:Int)))] 148),.none,true)):=by kernel_rfl
theorem Zsc(a0:Array Value)(h_a0:WT PZ 148 a0)(hg:(true)=true):ansV PZ (mkΓ []) 1000 f88 [] [.g a0 148] []=some (.a (.g #[.int .i64 (num a0 0),.int .i64 (i64.wrap ((num a0 1) - (1:Int)))] 148),.none,true):=by refine(Ztz 1000 a0).trans ?_;rfl
def Zi2:Con:=λargs h=>match args,h with|[.g a0 148],[]=>some (.a (.g #[.int .i64 (num a0 0),.int .i64 (i64.wrap ((num a0 1) - (1:Int)))] 148),.none,true)|_,_=>none
theorem Zrf:EntX PZ 88:=Zak (fn:=f88)
theorem Zu7:Uac mn PZ 88 Zi2:=(ansY (N:=1000) mKn f88 []).of (by
 intro ρ h w args vals r e hA hH hr;unfold Zi2 at hr;split at hr
 ·rename_i a0;obtain⟨rfl,rfl,hg2⟩:=BQi hr;exact Zsc a0 (hA.wt 0 rfl) hg2
 ·cases hr)
theorem Zvm(N:Nat)(a0:Array Value):ansV PZ (mkΓ []) N f89 [] [.g a0 148] []=(some (.a (.g #[.int .i64 (i64.wrap ((num a0 0)+(1:Int))),.int .i64 (num a0 1)] 148),.none,true)):=by kernel_rfl
theorem Zub(a0:Array Value)(h_a0:WT PZ 148 a0)(hg:(true)=true):ansV PZ (mkΓ []) 1000 f89 [] [.g a0 148] []=some (.a (.g #[.int .i64 (i64.wrap ((num a0 0)+(1:Int))),.int .i64 (num a0 1)] 148),.none,true):=by refine(Zvm 1000 a0).trans ?_;rfl
def Zj8:Con:=λargs h=>match args,h with|[.g a0 148],[]=>some (.a (.g #[.int .i64 (i64.wrap ((num a0 0)+(1:Int))),.int .i64 (num a0 1)] 148),.none,true)|_,_=>none
theorem Zru:EntX PZ 89:=Zak (fn:=f89)
theorem Zxf:Uac mn PZ 89 Zj8:=(ansY (N:=1000) mKn f89 []).of (by
 intro ρ h w args vals r e hA hH hr;unfold Zj8 at hr;split at hr
 ·rename_i a0;obtain⟨rfl,rfl,hg2⟩:=BQi hr;exact Zub a0 (hA.wt 0 rfl) hg2
 ·cases hr)
theorem Zug(N:Nat)(a0:Array Value):ansV PZ (mkΓ []) N f90 [] [.g a0 148] []=(some (.a (.g #[.int .i64 (num a0 0),.int .i64 (i64.wrap ((num a0 1)+(1:Int)))] 148),.none,true)):=by kernel_rfl
theorem Zta(a0:Array Value)(h_a0:WT PZ 148 a0)(hg:(true)=true):ansV PZ (mkΓ []) 1000 f90 [] [.g a0 148] []=some (.a (.g #[.int .i64 (num a0 0),.int .i64 (i64.wrap ((num a0 1)+(1:Int)))] 148),.none,true):=by refine(Zug 1000 a0).trans ?_;rfl
def Zi7:Con:=λargs h=>match args,h with|[.g a0 148],[]=>some (.a (.g #[.int .i64 (num a0 0),.int .i64 (i64.wrap ((num a0 1)+(1:Int)))] 148),.none,true)|_,_=>none
theorem Zrj:EntX PZ 90:=Zak (fn:=f90)
theorem Zva:Uac mn PZ 90 Zi7:=(ansY (N:=1000) mKn f90 []).of (by
 intro ρ h w args vals r e hA hH hr;unfold Zi7 at hr;split at hr
 ·rename_i a0;obtain⟨rfl,rfl,hg2⟩:=BQi hr;exact Zta a0 (hA.wt 0 rfl) hg2
 ·cases hr)
theorem Zvf(N:Nat)(a0:Array Value):ansV PZ (mkΓ []) N f91 [] [.g a0 148] []=(some (.a (.g #[.int .i64 (i64.wrap ((num a0 0) - (1:Int))),.int .i64 (num a0 1)] 148),.none,true)):=by kernel_rfl
theorem Zt6(a0:Array Value)(h_a0:WT PZ 148 a0)(hg:(true)=true):ansV PZ (mkΓ []) 1000 f91 [] [.g a0 148] []=some (.a (.g #[.int .i64 (i64.wrap ((num a0 0) - (1:Int))),.int .i64 (num a0 1)] 148),.none,true):=by refine(Zvf 1000 a0).trans ?_;rfl
def Zjx:Con:=λargs h=>match args,h with|[.g a0 148],[]=>some (.a (.g #[.int .i64 (i64.wrap ((num a0 0) - (1:Int))),.int .i64 (num a0 1)] 148),.none,true)|_,_=>none
theorem Zry:EntX PZ 91:=Zak (fn:=f91)
theorem Zyt:Uac mn PZ 91 Zjx:=(ansY (N:=1000) mKn f91 []).of (by
 intro ρ h w args vals r e hA hH hr;unfold Zjx at hr;split at hr
 ·rename_i a0;obtain⟨rfl,rfl,hg2⟩:=BQi hr;exact Zt6 a0 (hA.wt 0 rfl) hg2
 ·cases hr)
theorem Yd7(N:Nat)(a0 a1:Int):ansV PZ (mkΓ []) N f80 [] [.i .i64 a0,.i .i64 a1] []=(some (.a (.i .i64 (((i64.wrap (a0+a1))).tmod (2:Int))),.none,true)):=by kernel_rfl
theorem Ybj(a0 a1:Int)(h_a0:i64.min<=a0/\a0<=i64.max)(h_a1:i64.min<=a1/\a1<=i64.max)(hg:(true)=true):ansV PZ (mkΓ []) 1000 f80 [] [.i .i64 a0,.i .i64 a1] []=some (.a (.i .i64 (((i64.wrap (a0+a1))).tmod (2:Int))),.none,true):=by refine(Yd7 1000 a0 a1).trans ?_;rfl
def Zm5:Con:=λargs h=>match args,h with|[.i .i64 a0,.i .i64 a1],[]=>some (.a (.i .i64 (((i64.wrap (a0+a1))).tmod (2:Int))),.none,true)|_,_=>none
theorem Zzt:EntX PZ 80:=Zak (fn:=f80)
theorem Yfe:Uac mn PZ 80 Zm5:=(ansY (N:=1000) mKn f80 []).of (by
 intro ρ h w args vals r e hA hH hr;unfold Zm5 at hr;split at hr
 ·rename_i a0 a1;obtain⟨rfl,rfl,hg2⟩:=BQi hr;exact Ybj a0 a1 (hA.rng 0 rfl) (hA.rng 1 rfl) hg2
 ·cases hr)
def chW(S:Array Value)(t c:Int)(w:Nat):Int:=i64.wrap (num S (((3+(t.toNat*180))+(c.toNat*5))+w))
def gw(S:Array Value)(k:Nat):Nat->Int
 |0=>(k:Int)
 |1=>bif decide (6<=k) then (k:Int) - 6 else -1
 |2=>bif decide (((k % 6:Nat):Int)+1<num S 0) then (k:Int)+1 else -1
 |3=>bif decide (((k / 6:Nat):Int)+1<num S 1) then (k:Int)+6 else -1
 |_=>bif decide (1<=k % 6) then (k:Int) - 1 else -1
theorem w64{n:Int}(h: -1000<=n/\n<=1000):i64.wrap n=n:=IntWalk.i64_in n (by omega)
theorem in_eq(n lo hi:Int):Zaa n lo hi=decide (lo<=n/\n<=hi):=by
 unfold Zaa
 by_cases h1:lo<=n
 ·rw[Q3 (show n>=lo from h1)]
  by_cases h2:n<=hi
  ·rw[Q3 h2,Q3 (And.intro h1 h2)];rfl
  ·rw[Q4 h2,Q4 (show ¬(lo<=n/\n<=hi) from λh=>h2 h.2)];rfl
 ·rw[Q4 (show ¬n>=lo from h1),Q4 (show ¬(lo<=n/\n<=hi) from λh=>h1 h.1)];rfl
theorem Ymq{w h:Int}{k:Nat}(hi:inC w h k=true):((k % 6:Nat):Int)<w/\((k / 6:Nat):Int)<h:=by unfold inC at hi;simp only[Q7,decide_eq_true_eq]at hi;exact hi
theorem xy{k:Nat}(hk:k<36):((k:Int)).tmod 6=((k % 6:Nat):Int)/\((k:Int)).tdiv 6=((k / 6:Nat):Int):=by
 constructor
 ·rw[Int.tmod_eq_emod_of_nonneg (by omega)];omega
 ·rw[Int.tdiv_eq_ediv_of_nonneg (by omega)];omega
theorem Ycz{S:Array Value}(h0:1<=num S 0/\num S 0<=6/\1<=num S 1/\num S 1<=6){k:Nat}(hk:k<36)(hi:inC (num S 0) (num S 1) k=true)(w:Nat)(hw:w<5):Zad (k:Int) (w:Int) S=gw S k w:=by
 obtain⟨a1,a2,a3,a4⟩:=h0;obtain⟨hx,hy⟩:=Ymq hi;obtain⟨ex,ey⟩:=xy hk;have hxl:k % 6<6:=Nat.mod_lt _ (by omega);have hyl:k / 6<6:=by omega
 have hk6:k=6*(k / 6)+k % 6:=by omega
 unfold Zad;simp only[in_eq,ex,ey];rw[w64 (n:=num S 0) (by omega),w64 (n:=num S 1) (by omega),w64 (n:=num S 0 - 1) (by omega),w64 (n:=num S 1 - 1) (by omega),w64 (n:=((k / 6:Nat):Int)) (by omega),w64 (n:=((k / 6:Nat):Int) - 1) (by omega),w64 (n:=((k / 6:Nat):Int)+1) (by omega),w64 (n:=((k % 6:Nat):Int) - 1) (by omega),w64 (n:=((k % 6:Nat):Int)+1) (by omega),w64 (n:=6*((k / 6:Nat):Int)) (by omega),w64 (n:=6*(((k / 6:Nat):Int) - 1)) (by omega),w64 (n:=6*(((k / 6:Nat):Int)+1)) (by omega)];have b0:decide (0<=((k % 6:Nat):Int)/\((k % 6:Nat):Int)<=num S 0 - 1)=true:=Q3 (by omega);have b1:decide (0<=((k / 6:Nat):Int)/\((k / 6:Nat):Int)<=num S 1 - 1)=true:=Q3 (by omega);generalize hX:k % 6=X at *;generalize hY:k / 6=Y at *
 match w,hw with
 |0,_=>
  show (bif ((0:Int)==1) then _ else (bif ((0:Int)==2) then _ else (bif ((0:Int)==3) then _ else (bif ((0:Int)==4) then _ else _))))=_
  simp only[show ((0:Int)==1)=false from rfl,show ((0:Int)==2)=false from rfl,show ((0:Int)==3)=false from rfl,show ((0:Int)==4)=false from rfl,Q2,b0,b1,jB];rw[w64 (by omega)];show _=(k:Int);omega
 | 1,_=>
  simp only[show (((1:Nat):Int)==1)=true from rfl,Q1,b0,jB,Q2];unfold gw
  by_cases c:1<=Y
  ·rw[Q3 (show 0<=((Y:Nat):Int) - 1/\((Y:Nat):Int) - 1<=num S 1 - 1 by omega),Q3 (show 6<=k by omega)];simp only[jB,Q2,Q1];rw[w64 (by omega)];omega
  ·rw[Q4 (show ¬(0<=((Y:Nat):Int) - 1/\((Y:Nat):Int) - 1<=num S 1 - 1) by omega),Q4 (show ¬6<=k by omega)];rfl
 | 2,_=>
  simp only[show (((2:Nat):Int)==1)=false from rfl,show (((2:Nat):Int)==2)=true from rfl,Q1,b1,jB,Q2];unfold gw;rw[hX]
  by_cases c:((X:Nat):Int)+1<num S 0
  ·rw[Q3 (show 0<=((X:Nat):Int)+1/\((X:Nat):Int)+1<=num S 0 - 1 by omega),Q3 c];simp only[jB,Q2,Q1];rw[w64 (by omega)];omega
  ·rw[Q4 (show ¬(0<=((X:Nat):Int)+1/\((X:Nat):Int)+1<=num S 0 - 1) by omega),Q4 c];rfl
 | 3,_=>
  simp only[show (((3:Nat):Int)==1)=false from rfl,show (((3:Nat):Int)==2)=false from rfl,show (((3:Nat):Int)==3)=true from rfl,Q1,b0,jB,Q2];unfold gw;rw[hY]
  by_cases c:((Y:Nat):Int)+1<num S 1
  ·rw[Q3 (show 0<=((Y:Nat):Int)+1/\((Y:Nat):Int)+1<=num S 1 - 1 by omega),Q3 c];simp only[jB,Q2,Q1];rw[w64 (by omega)];omega
  ·rw[Q4 (show ¬(0<=((Y:Nat):Int)+1/\((Y:Nat):Int)+1<=num S 1 - 1) by omega),Q4 c];rfl
 | 4,_=>
  simp only[show (((4:Nat):Int)==1)=false from rfl,show (((4:Nat):Int)==2)=false from rfl,show (((4:Nat):Int)==3)=false from rfl,show (((4:Nat):Int)==4)=true from rfl,Q1,b1,jB,Q2];unfold gw;rw[hX]
  by_cases c:1<=X
  ·rw[Q3 (show 0<=((X:Nat):Int) - 1/\((X:Nat):Int) - 1<=num S 0 - 1 by omega),Q3 c];simp only[jB,Q2,Q1];rw[w64 (by omega)];omega
  ·rw[Q4 (show ¬(0<=((X:Nat):Int) - 1/\((X:Nat):Int) - 1<=num S 0 - 1) by omega),Q4 c];rfl
theorem Ycc{S:Array Value}(h0:1<=num S 0/\num S 0<=6/\1<=num S 1/\num S 1<=6){k:Nat}(hk:k<36)(hi:inC (num S 0) (num S 1) k=true)(w:Nat)(hw:w<5)(hn:gw S k w ≠ -1):0<=gw S k w/\gw S k w<36:=by
 obtain⟨hx,hy⟩:=Ymq hi;obtain⟨a1,a2,a3,a4⟩:=h0;have hk6:k=6*(k / 6)+k % 6:=by omega
 match w,hw with
 |0,_=>exact⟨by show 0<=(k:Int);omega,by show (k:Int)<36;omega⟩
 |1,_=>
  unfold gw at hn|-
  by_cases c:6<=k
  ·simp only[c,decide_true,Q1];omega
  ·simp[c]at hn
 |2,_=>
  unfold gw at hn|-
  by_cases c:((k % 6:Nat):Int)+1<num S 0
  ·simp only[Q3 c,Q1];omega
  ·simp only[Q4 c,Q2]at hn;exact absurd rfl hn
 |3,_=>
  unfold gw at hn|-
  by_cases c:((k / 6:Nat):Int)+1<num S 1
  ·simp only[Q3 c,Q1];omega
  ·simp only[Q4 c,Q2]at hn;exact absurd rfl hn
 |4,_=>
  unfold gw at hn|-
  by_cases c:1<=k % 6
  ·simp only[c,decide_true,Q1];omega
  ·simp[c]at hn
def Zdi:Cons:=(mkΓ [(39,con Zii),(84,con Zmq)])
def Zgv(a0 a1:Array Value)(y0_7:Int)(r0_22:Array Value):St:=(⟨.a (.w 0)::.a (.w 1)::.a (.u)::.a (.u)::.a (.w 2)::.a (.w 22)::.a (.i .i8 (((IntKind.i8.wrap ((num a1 0)+(num a1 1)))).tmod (2:Int)))::.a (.i .i64 y0_7)::.a (.i .i64 0)::.a (.x)::.a (.x)::.a (.w 1)::.a (.w 1)::.a (.p 1 (0) 22)::.a (.i .i8 (num a1 0))::.a (.w 1)::.a (.w 1)::.a (.p 1 (1) 22)::.a (.i .i8 (num a1 1))::.a (.i .i8 (IntKind.i8.wrap ((num a1 1)+(1:Int))))::.a (.w 1)::.a (.w 1)::.a (.p 1 (2) 2)::.a (.i .i64 (num a1 2))::.a (.w 1)::.a (.w 1)::.a (.p 1 (39) 2)::.a (.i .i64 (num a1 39))::.a (.i .i64 (i64.wrap ((num a1 39)*(12:Int))))::.a (.g (((((zc PZ 144).setIfInBounds 0 (.int .i8 (num a1 0))).setIfInBounds 1 (.int .i8 (IntKind.i8.wrap ((num a1 1)+(1:Int))))).setIfInBounds 2 (.int .i64 (num a1 2))).setIfInBounds 39 (.int .i64 (i64.wrap ((num a1 39)*(12:Int))))) 144)::.a (.w 1)::.a (.w 1)::.a (.p 1 (0) 22)::.a (.i .i8 (num a1 0))::.a (.w 1)::.a (.w 1)::.a (.p 1 (1) 22)::.a (.i .i8 (num a1 1))::.a (.i .i8 (IntKind.i8.wrap ((num a1 0)+(num a1 1))))::.a (.i .i8 (((IntKind.i8.wrap ((num a1 0)+(num a1 1)))).tmod (2:Int)))::.a (.i .i64 y0_7)::.a (.b (decide (y0_7<(36:Int))))::.a (.x)::.a (.x)::.a (.w 0)::.a (.i .i64 y0_7)::.a (.b ((Zae y0_7 a0)))::.a (.b ((!((Zae y0_7 a0)))))::xs 55 (.a (.u)::[]),[.row a0 38,.row a1 144,.row (zc PZ 144) 144,.no,.no,.no,.no,.no,.no,.no,.no,.no,.no,.no,.no,.no,.no,.no,.no,.no,.no,.no,.row r0_22 144,.no,.no,.no,.no,.no,.no,.no,.no,.no,.no,.no,.no],[22]⟩:St)
def Zfi:Int×Array Value->LS
 |(y1_8,r1_22)=>([.a (.i .i64 y1_8)],[.row r1_22 144])
def Zil:Int×Array Value->Exit×LS
 |t=>((.exit 2),Zfi t)
def Zdm(P:Program)(a0 a1:Array Value)(y0_7:Int)(r0_22:Array Value):Int×Array Value->Option (Stp (Int×Array Value) (Int×Array Value))
 |(y1_8,r1_22)=>bif decide (y1_8<(5:Int)) then (bif (decide (0<=y0_7)&&decide (y0_7<36)) then (bif (decide (0<=(((IntKind.i8.wrap ((num a1 0)+(num a1 1)))).tmod (2:Int)))&&decide ((((IntKind.i8.wrap ((num a1 0)+(num a1 1)))).tmod (2:Int))<2)) then (bif (decide (0<=y0_7)&&decide (y0_7<36)) then (bif (decide (0<=y1_8)&&decide (y1_8<5)) then (bif decide ((Zad y0_7 y1_8 a0)<(0:Int)) then (some (.more ((i64.wrap (y1_8+(1:Int))),(r1_22.setIfInBounds 39 (.int .i64 (i64.wrap ((num r1_22 39)+(i64.wrap ((num a1 (3+((y0_7).toNat*1)))*(i64.wrap (num a0 (((3+((((IntKind.i8.wrap ((num a1 0)+(num a1 1)))).tmod (2:Int)).toNat*180))+((y0_7).toNat*5))+((y1_8).toNat*1))))))))))))) else (bif (decide (0<=(Zad y0_7 y1_8 a0))&&decide ((Zad y0_7 y1_8 a0)<36)) then (bif (decide (0<=(Zad y0_7 y1_8 a0))&&decide ((Zad y0_7 y1_8 a0)<36)) then (some (.more ((i64.wrap (y1_8+(1:Int))),(r1_22.setIfInBounds (3+((Zad y0_7 y1_8 a0).toNat*1)) (.int .i64 (i64.wrap ((num r1_22 (3+((Zad y0_7 y1_8 a0).toNat*1)))+(i64.wrap ((num a1 (3+((y0_7).toNat*1)))*(i64.wrap (num a0 (((3+((((IntKind.i8.wrap ((num a1 0)+(num a1 1)))).tmod (2:Int)).toNat*180))+((y0_7).toNat*5))+((y1_8).toNat*1))))))))))))) else (none)) else (none))) else (none)) else (none)) else (none)) else (none)) else (some (.done (y1_8,r1_22)))
noncomputable abbrev cKCmA82:=codeOf f82
def Uc1:=(Uaa cKCmA82 [([7],[22]),([8],[22])]).1
theorem Zm9(N:Nat)(a0 a1:Array Value)(y0_7:Int)(r0_22:Array Value):∀t:Int×Array Value,Ual PZ Zdi N (cAt cKCmA82 [1,1,1,0,1,0,0,1,0,0,1,1,0,0]) (pAt Uc1 [1,1,1,0,1,0,1,0,1,1,0]) [8] [22] (Zgv a0 a1 y0_7 r0_22) (Zfi t)=mapS Zfi Zil (Zdm PZ a0 a1 y0_7 r0_22 t):=by
 rintro⟨y1_8,r1_22⟩
 conv=>rhs;simp only[Zdm,Zax,Zay,Zaw,Zaz,Zfi,Zil]
 kernel_rfl
def Zgz(a0 a1:Array Value):St:=(⟨.a (.w 0)::.a (.w 1)::.a (.u)::.a (.u)::.a (.w 2)::.a (.w 22)::.a (.i .i8 (((IntKind.i8.wrap ((num a1 0)+(num a1 1)))).tmod (2:Int)))::.a (.i .i64 0)::us 3 (.a (.w 1)::.a (.w 1)::.a (.p 1 (0) 22)::.a (.i .i8 (num a1 0))::.a (.w 1)::.a (.w 1)::.a (.p 1 (1) 22)::.a (.i .i8 (num a1 1))::.a (.i .i8 (IntKind.i8.wrap ((num a1 1)+(1:Int))))::.a (.w 1)::.a (.w 1)::.a (.p 1 (2) 2)::.a (.i .i64 (num a1 2))::.a (.w 1)::.a (.w 1)::.a (.p 1 (39) 2)::.a (.i .i64 (num a1 39))::.a (.i .i64 (i64.wrap ((num a1 39)*(12:Int))))::.a (.g (((((zc PZ 144).setIfInBounds 0 (.int .i8 (num a1 0))).setIfInBounds 1 (.int .i8 (IntKind.i8.wrap ((num a1 1)+(1:Int))))).setIfInBounds 2 (.int .i64 (num a1 2))).setIfInBounds 39 (.int .i64 (i64.wrap ((num a1 39)*(12:Int))))) 144)::.a (.w 1)::.a (.w 1)::.a (.p 1 (0) 22)::.a (.i .i8 (num a1 0))::.a (.w 1)::.a (.w 1)::.a (.p 1 (1) 22)::.a (.i .i8 (num a1 1))::.a (.i .i8 (IntKind.i8.wrap ((num a1 0)+(num a1 1))))::.a (.i .i8 (((IntKind.i8.wrap ((num a1 0)+(num a1 1)))).tmod (2:Int)))::us 64 ([])),[.row a0 38,.row a1 144,.row (zc PZ 144) 144,.no,.no,.no,.no,.no,.no,.no,.no,.no,.no,.no,.no,.no,.no,.no,.no,.no,.no,.no,.row (((((zc PZ 144).setIfInBounds 0 (.int .i8 (num a1 0))).setIfInBounds 1 (.int .i8 (IntKind.i8.wrap ((num a1 1)+(1:Int))))).setIfInBounds 2 (.int .i64 (num a1 2))).setIfInBounds 39 (.int .i64 (i64.wrap ((num a1 39)*(12:Int))))) 144,.no,.no,.no,.no,.no,.no,.no,.no,.no,.no,.no,.no],[22]⟩:St)
def Zdk:Int×Array Value->LS
 |(y0_7,r0_22)=>([.a (.i .i64 y0_7)],[.row r0_22 144])
def Zfg:Int×Array Value->Exit×LS
 |t=>((.exit 0),Zdk t)
def Zgr(P:Program)(N:Nat)(a0 a1:Array Value)(y0_7:Int)(r0_22:Array Value)(z1_8:Int)(q1_22:Array Value):Option (Stp (Int×Array Value) (Int×Array Value)):=some (.more ((i64.wrap (y0_7+(1:Int))),q1_22))
def Ugq(N:Nat):=(Uad 2 (Uad 1 (kSeq (veC PZ Zdi N (cAt cKCmA82 [1,1,1,0,1,0,0,1,1]) (pAt Uc1 [1,1,1,0,1,0,1,1]) (Stp LS (Exit×LS))) (Uc6 35 [7] [22]))))
theorem Ztw(N:Nat)(a0 a1:Array Value)(y0_7:Int)(r0_22:Array Value)(z1_8:Int)(q1_22:Array Value):(Ugq N) (.exit 2) (left (writes (cAt cKCmA82 [1,1,1,0,1,0,0,1,0,0,1,1,0,0])) [8] [22] (Zgv a0 a1 y0_7 r0_22) ([.a (.i .i64 z1_8)],[.row q1_22 144]))=mapS Zdk Zfg (Zgr PZ N a0 a1 y0_7 r0_22 z1_8 q1_22):=by
 conv=>rhs;simp only[Zgr,Zax,Zay,Zaw,Zaz,Zdk,Zfg]
 kernel_rfl
theorem Ydo(N:Nat)(a0 a1:Array Value)(y0_7:Int)(r0_22:Array Value):Uah (Uab (Ual PZ Zdi N (cAt cKCmA82 [1,1,1,0,1,0,0,1,0,0,1,1,0,0]) (pAt Uc1 [1,1,1,0,1,0,1,0,1,1,0]) [8] [22] (Zgv a0 a1 y0_7 r0_22)) N ([.a (.i .i64 0)],[.row r0_22 144])) (λe s=>(Ugq N) e (left (writes (cAt cKCmA82 [1,1,1,0,1,0,0,1,0,0,1,1,0,0])) [8] [22] (Zgv a0 a1 y0_7 r0_22) s))=mapS Zdk Zfg (Uao (Uab (Zdm PZ a0 a1 y0_7 r0_22) N ((0:Int),r0_22)) (λx=>Zgr PZ N a0 a1 y0_7 r0_22 x.1 x.2)):=by
 rw[Zpq Zdk Zfg]
 first
 |(have h:=Za2 (α:=Stp LS (Exit×LS)) Zfi Zil _ _ (Zm9 N a0 a1 y0_7 r0_22) N ((0:Int),r0_22);refine h _ _ ?_)
 |(have h:=Za2 (α:=Stp BS (Exit×BS)) Zfi Zil _ _ (Zm9 N a0 a1 y0_7 r0_22) N ((0:Int),r0_22);refine h _ _ ?_)
 |(have h:=Za2 (α:=Stp LS ((Exit×LS)⊕(SV×Eff×Bool))) Zfi Zil _ _ (Zm9 N a0 a1 y0_7 r0_22) N ((0:Int),r0_22);refine h _ _ ?_)
 intro x;exact Ztw N a0 a1 y0_7 r0_22 x.1 x.2
def Zdq(P:Program)(N:Nat)(a0 a1:Array Value):Int×Array Value->Option (Stp (Int×Array Value) (Int×Array Value))
 |(y0_7,r0_22)=>bif decide (y0_7<(36:Int)) then (bif (Zbg y0_7 a0) then (bif (!((Zae y0_7 a0))) then (bif (decide (0<=y0_7)&&decide (y0_7<36)) then (bif (decide (0<=y0_7)&&decide (y0_7<36)) then (bif (decide (0<=y0_7)&&decide (y0_7<36)) then (some (.more ((i64.wrap (y0_7+(1:Int))),(r0_22.setIfInBounds (3+((y0_7).toNat*1)) (.int .i64 (i64.wrap ((num r0_22 (3+((y0_7).toNat*1)))+(i64.wrap ((num a1 (3+((y0_7).toNat*1)))*(12:Int)))))))))) else (none)) else (none)) else (none)) else (Uao (Uab (Zdm P a0 a1 y0_7 r0_22) N ((0:Int),r0_22)) (λx=>Zgr P N a0 a1 y0_7 r0_22 x.1 x.2))) else (none)) else (some (.done (y0_7,r0_22)))
theorem Ydx(N:Nat)(a0 a1:Array Value):∀t:Int×Array Value,Ual PZ Zdi N (cAt cKCmA82 [1,1,1,0,1,0,0]) (pAt Uc1 [1,1,1,0,1,0]) [7] [22] (Zgz a0 a1) (Zdk t)=mapS Zdk Zfg (Zdq PZ N a0 a1 t):=by
 rintro⟨y0_7,r0_22⟩
 conv=>rhs;simp only[<- Ydo N a0 a1 y0_7 r0_22,Zdq,Zax,Zay,Zaw,Zaz,Zdk,Zfg]
 kernel_rfl
def Zl0(P:Program)(N:Nat)(a0 a1:Array Value)(z0_7:Int)(q0_22:Array Value):Option (SV×Eff×Bool):=some (.a (.g q0_22 144),.none,true)
def Ug4(N:Nat)(a0 a1:Array Value):=(Uad 0 (kSeq (veC PZ Zdi N (cAt cKCmA82 [1,1,1,1]) (pAt Uc1 [1,1,1,1]) (SV×Eff×Bool)) (finK PZ [.row a0 38,.row a1 144] [.cell 4 144])))
theorem Zuv(N:Nat)(a0 a1:Array Value)(z0_7:Int)(q0_22:Array Value):(Ug4 N a0 a1) (.exit 0) (left (writes (cAt cKCmA82 [1,1,1,0,1,0,0])) [7] [22] (Zgz a0 a1) ([.a (.i .i64 z0_7)],[.row q0_22 144]))=Zl0 PZ N a0 a1 z0_7 q0_22:=by kernel_rfl
theorem Ydb(N:Nat)(a0 a1:Array Value):Uah (Uab (Ual PZ Zdi N (cAt cKCmA82 [1,1,1,0,1,0,0]) (pAt Uc1 [1,1,1,0,1,0]) [7] [22] (Zgz a0 a1)) N ([.a (.i .i64 0)],[.row (((((zc PZ 144).setIfInBounds 0 (.int .i8 (num a1 0))).setIfInBounds 1 (.int .i8 (IntKind.i8.wrap ((num a1 1)+(1:Int))))).setIfInBounds 2 (.int .i64 (num a1 2))).setIfInBounds 39 (.int .i64 (i64.wrap ((num a1 39)*(12:Int))))) 144])) (λe s=>(Ug4 N a0 a1) e (left (writes (cAt cKCmA82 [1,1,1,0,1,0,0])) [7] [22] (Zgz a0 a1) s))=Uao (Uab (Zdq PZ N a0 a1) N ((0:Int),(((((zc PZ 144).setIfInBounds 0 (.int .i8 (num a1 0))).setIfInBounds 1 (.int .i8 (IntKind.i8.wrap ((num a1 1)+(1:Int))))).setIfInBounds 2 (.int .i64 (num a1 2))).setIfInBounds 39 (.int .i64 (i64.wrap ((num a1 39)*(12:Int))))))) (λx=>Zl0 PZ N a0 a1 x.1 x.2):=by refine Za2 Zdk Zfg _ _ (Ydx N a0 a1) N ((0:Int),(((((zc PZ 144).setIfInBounds 0 (.int .i8 (num a1 0))).setIfInBounds 1 (.int .i8 (IntKind.i8.wrap ((num a1 1)+(1:Int))))).setIfInBounds 2 (.int .i64 (num a1 2))).setIfInBounds 39 (.int .i64 (i64.wrap ((num a1 39)*(12:Int)))))) _ _ ?_;intro x;exact Zuv N a0 a1 x.1 x.2
theorem Ybw(N:Nat)(a0 a1:Array Value):ansV PZ Zdi N f82 [([7],[22]),([8],[22])] [.w 0,.w 1] [.row a0 38,.row a1 144]=(Uao (Uab (Zdq PZ N a0 a1) N ((0:Int),(((((zc PZ 144).setIfInBounds 0 (.int .i8 (num a1 0))).setIfInBounds 1 (.int .i8 (IntKind.i8.wrap ((num a1 1)+(1:Int))))).setIfInBounds 2 (.int .i64 (num a1 2))).setIfInBounds 39 (.int .i64 (i64.wrap ((num a1 39)*(12:Int))))))) (λx=>Zl0 PZ N a0 a1 x.1 x.2)):=by
 conv=>rhs;simp only[<- Ydb N a0 a1]
 kernel_rfl
theorem dec2{a b:Int}(h1:0<=a)(h2:a<b):(decide (0<=a)&&decide (a<b))=true:=by rw[Q3 h1,Q3 h2];rfl
def adN(r:Array Value)(i:Nat)(m:Int):Array Value:=r.setIfInBounds i (.int .i64 (i64.wrap (num r i+m)))
def tdS(X:Array Value):Int:=(IntKind.i8.wrap (num X 0+num X 1)).tmod 2
def muF(S X:Array Value)(t:Int)(k w:Nat):Int:=i64.wrap (num X (3+k*1)*chW S t (k:Int) w)
def wayF(S X:Array Value)(t:Int)(k:Nat)(r:Array Value)(w:Nat):Array Value:=bif decide (Zad (k:Int) (w:Int) S<0) then adN r 39 (muF S X t k w) else adN r (3+(Zad (k:Int) (w:Int) S).toNat*1) (muF S X t k w)
def Ucs(S X:Array Value)(t:Int)(r:Array Value)(k:Nat):Array Value:=bif Zae (k:Int) S then folds (wayF S X t k) r 5 else adN r (3+k*1) (i64.wrap (num X (3+k*1)*12))
def Ubs(P:Program)(X:Array Value):Array Value:=((((zc P 144).setIfInBounds 0 (.int .i8 (num X 0))).setIfInBounds 1 (.int .i8 (IntKind.i8.wrap (num X 1+1)))).setIfInBounds 2 (.int .i64 (num X 2))).setIfInBounds 39 (.int .i64 (i64.wrap (num X 39*12)))
def Ubr(P:Program)(S X:Array Value):Array Value:=folds (Ucs S X (tdS X)) (Ubs P X) 36
theorem Yf6{S:Array Value}(h0:1<=num S 0/\num S 0<=6/\1<=num S 1/\num S 1<=6){k:Nat}(hk:k<36)(hi:inC (num S 0) (num S 1) k=true){w:Nat}(hw:w<5)(hn:¬Zad (k:Int) (w:Int) S<0):0<=Zad (k:Int) (w:Int) S/\Zad (k:Int) (w:Int) S<36:=by
 rw[Ycz h0 hk hi w hw]at hn|-
 exact Ycc h0 hk hi w hw (by omega)
theorem Zzh(a0 a1:Array Value)(h_a0:WT PZ 38 a0)(h_a1:WT PZ 144 a1)(hg:((okS a0&&(decide (0<=tdS a1)&&decide (tdS a1<2))))=true):ansV PZ Zdi 1000 f82 [([7],[22]),([8],[22])] [.w 0,.w 1] [.row a0 38,.row a1 144]=some (.a (.g (Ubr PZ a0 a1) 144),.none,true):=by
 rw[Q7]at hg;obtain⟨hok,ht⟩:=hg;have hdm:=Zqr hok;refine(Ybw 1000 a0 a1).trans ?_;have hT:(IntKind.i8.wrap (num a1 0+num a1 1)).tmod 2=tdS a1:=rfl;have h:=Zkf (g:=Zdq PZ 1000 a0 a1) (λr k=>((k:Int),r)) (Ucs a0 a1 (tdS a1)) (m:=36) (t:=Ubs PZ a1) (x:=((36:Int),Ubr PZ a0 a1)) (N:=1000) (λk s hk _=>by
  have h1:decide ((k:Int)<36)=true:=Q3 (by omega);have h0:decide (0<=(k:Int))=true:=Q3 (by omega);have h3:i64.wrap ((k:Int)+1)=((k+1:Nat):Int):=by rw[w64 (by omega)];omega
  obtain⟨w1,w2⟩:=Zuy h_a0 hk;unfold Ucs;cases hw:Zae (k:Int) a0 with
  |false=>simp only[Zdq,h1,h0,h3,w1,hw,Q9,Bool.and_self,Bool.not_false,Q1,Q2];rfl
  | true=>
   rw[hw]at w2;have hi:inC (num a0 0) (num a0 1) k=true:=(Bool.and_eq_true_iff.1 w2.symm).1;have hin:=Zkf (g:=Zdm PZ a0 a1 (k:Int) s) (λr w=>((w:Int),r)) (wayF a0 a1 (tdS a1) k) (m:=5) (t:=s) (x:=((5:Int),folds (wayF a0 a1 (tdS a1) k) s 5)) (N:=1000) (λw r hw5 _=>by
    have e1:decide ((w:Int)<5)=true:=Q3 (by omega);have e0:decide (0<=(w:Int))=true:=Q3 (by omega);have e3:i64.wrap ((w:Int)+1)=((w+1:Nat):Int):=by rw[w64 (by omega)];omega
    have e4:i64.wrap (num a1 (3+k*1)*i64.wrap (num a0 (3+(tdS a1).toNat*180+k*5+w*1)))=muF a0 a1 (tdS a1) k w:=by unfold muF chW;rw[Q9,Nat.mul_one w]
    unfold wayF
    by_cases hg:Zad (k:Int) (w:Int) a0<0
    ·simp only[Zdm,e1,e0,e3,h1,h0,hT,ht,Q9,Bool.and_self,Q1,Q3 hg,e4];rfl
    ·obtain⟨r1,r2⟩:=Yf6 hdm hk hi hw5 hg;simp only[Zdm,e1,e0,e3,h1,h0,hT,ht,Q9,Bool.and_self,Q1,Q2,Q4 hg,dec2 r1 r2,e4];rfl) (by
    have e1:decide (((5:Nat):Int)<5)=false:=by decide
    simp only[Zdm,e1,Q2];rfl) (by omega)
   have hin':Uab (Zdm PZ a0 a1 (k:Int) s) 1000 ((0:Int),s)=some ((5:Int),folds (wayF a0 a1 (tdS a1) k) s 5):=hin;simp only[Zdq,h1,w1,hw,jB,Q1,Q2,hin',Uao,Zgr,h3]) (by
  have h1:decide (((36:Nat):Int)<36)=false:=by decide
  simp only[Zdq,h1,Q2];rfl) (by omega)
 have h':Uab (Zdq PZ 1000 a0 a1) 1000 ((0:Int),Ubs PZ a1)=some ((36:Int),Ubr PZ a0 a1):=h;unfold Ubs at h';rw[h'];rfl
def Zmn:Con:=λargs h=>match args,h with|[.w 0,.w 1],[.row a0 38,.row a1 144]=>some (.a (.g (Ubr PZ a0 a1) 144),.none,(okS a0&&(decide (0<=tdS a1)&&decide (tdS a1<2))))|_,_=>none
theorem Zyb:EntX PZ 82:=Zak (fn:=f82)
theorem Yc0:Uac mn PZ 82 Zmn:=(ansY (N:=1000) (mKc (Zag Zo0) Zl2 (mKc (Zag Yc8) Zwp mKn)) f82 [([7],[22]),([8],[22])]).of (by
 intro ρ h w args vals r e hA hH hr;unfold Zmn at hr;split at hr
 ·rename_i a0 a1;obtain⟨rfl,rfl,hg2⟩:=BQi hr;exact Zzh a0 a1 (hH.wt 0 rfl) (hH.wt 1 rfl) hg2
 ·cases hr)
def sumI(f:Nat->Int):Nat->Int
 |0=>0
 |n+1=>sumI f n+f n
theorem Zlt{f g:Nat->Int}:∀n,(∀k,k<n->f k=g k)->sumI f n=sumI g n
 |0,_=>rfl
 |n+1,h=>by rw[sumI,sumI,Zlt n λk hk=>h k (by omega),h n (by omega)]
theorem Yhu(f g:Nat->Int):∀n,sumI (λk=>f k+g k) n=sumI f n+sumI g n
 |0=>rfl
 |n+1=>by rw[sumI,sumI,sumI,Yhu f g n];omega
theorem Zy8:∀n,sumI (λ_=>0) n=0
 |0=>rfl
 |n+1=>by rw[sumI,Zy8 n];rfl
theorem Ydp(f:Nat->Nat->Int)(m:Nat):∀n,sumI (λk=>sumI (λw=>f k w) m) n=sumI (λw=>sumI (λk=>f k w) n) m
 |0=>by show (0:Int)=_;exact(Zy8 m).symm
 |n+1=>by
  rw[sumI,Ydp f m n];exact(Yhu _ _ m).symm
def cg(a b:Int):Prop:=∃q:Int,a=b+18446744073709551616*q
theorem cg.refl(a:Int):cg a a:=⟨0,by omega⟩
theorem cg.of{a b:Int}(h:a=b):cg a b:=h ▸ .refl a
theorem cg.trans{a b c:Int}(h:cg a b)(k:cg b c):cg a c:=by obtain⟨q,h⟩:=h;obtain⟨p,k⟩:=k;exact⟨q+p,by omega⟩
theorem cg.symm{a b:Int}(h:cg a b):cg b a:=by obtain⟨q,h⟩:=h;exact⟨-q,by omega⟩
theorem cg.add{a b c d:Int}(h:cg a b)(k:cg c d):cg (a+c) (b+d):=by obtain⟨q,h⟩:=h;obtain⟨p,k⟩:=k;exact⟨q+p,by omega⟩
theorem Zo5(x:Int):cg (i64.wrap x) x:=⟨(i64.wrap x - x) / 18446744073709551616,by rw[IntKind.wrap_i64];omega⟩
theorem cg_eq{a b:Int}(h:cg a b)(ha: -9223372036854775808<=a/\a<=9223372036854775807)(hb: -9223372036854775808<=b/\b<=9223372036854775807):a=b:=by obtain⟨q,h⟩:=h;omega
theorem Ypw{r:Array Value}(hz:r.size=40){i j:Nat}(hj:j<40)(m:Int):cg (num (adN r i m) j) (num r j+if i=j then m else 0):=by
 by_cases h:i=j
 ·subst h;rw[if_pos rfl];have:num (adN r i m) i=i64.wrap (num r i+m):=by unfold adN num;rw[jA,if_pos rfl,if_pos (by omega)]
  rw[this];exact Zo5 _
 ·rw[if_neg h];refine .of ?_;unfold adN num;rw[jA,if_neg h];omega
theorem Zy3(r:Array Value)(i:Nat)(m:Int):(adN r i m).size=r.size:=by unfold adN;simp
theorem Ygx{f:Array Value->Nat->Array Value}{j:Nat}{c:Nat->Int}:∀(n:Nat) {r:Array Value},r.size=40->(∀k s,k<n->s.size=40->(f s k).size=40/\cg (num (f s k) j) (num s j+c k))->(folds f r n).size=40/\cg (num (folds f r n) j) (num r j+sumI c n)
 |0,r,hz,_=>⟨hz,.of (by show num r j=num r j+0;omega)⟩
 |n+1,r,hz,h=>by
  obtain⟨h1,h2⟩:=Ygx n hz λk s hk=>h k s (by omega)
  obtain⟨h3,h4⟩:=h n (folds f r n) (by omega) h1;rw[Ze7];refine⟨h3,h4.trans ?_⟩;rw[sumI,<- Int.add_assoc];exact h2.add (.refl _)
def Uek(g:Int):Nat:=if g<0 then 39 else 3+g.toNat*1
theorem wayF_cg(S X:Array Value)(t:Int)(k:Nat){r:Array Value}(hz:r.size=40)(w:Nat){j:Nat}(hj:j<40):(wayF S X t k r w).size=40/\cg (num (wayF S X t k r w) j) (num r j+if Uek (Zad (k:Int) (w:Int) S)=j then muF S X t k w else 0):=by
 unfold wayF Uek
 by_cases h:Zad (k:Int) (w:Int) S<0
 ·rw[Q3 h,Q1,if_pos h];exact⟨by rw[Zy3];exact hz,Ypw hz hj _⟩
 ·rw[Q4 h,Q2,if_neg h];exact⟨by rw[Zy3];exact hz,Ypw hz hj _⟩
theorem cellF_cg(S X:Array Value)(t:Int){r:Array Value}(hz:r.size=40)(k:Nat){j:Nat}(hj:j<40):(Ucs S X t r k).size=40/\cg (num (Ucs S X t r k) j) (num r j+if Zae (k:Int) S=true then sumI (λw=>if Uek (Zad (k:Int) (w:Int) S)=j then muF S X t k w else 0) 5 else if 3+k*1=j then num X (3+k*1)*12 else 0):=by
 unfold Ucs;cases hw:Zae (k:Int) S with
 |true=>rw[Q1,if_pos rfl];exact Ygx 5 hz λw s _ hs=>wayF_cg S X t k hs w hj
 |false=>
  rw[Q2,if_neg (by simp)];refine⟨by rw[Zy3];exact hz,(Ypw hz hj _).trans ((cg.refl _).add ?_)⟩;split
  ·exact Zo5 _
  ·exact .refl _
theorem Yk0:(zc PZ 144).size=40/\∀j,2<=j->j<40->num (zc PZ 144) j=0:=by
 have hc:(List.range 40).all (λj=>decide (j<2)||(num (zc PZ 144) j==0))=true:=by kernel_rfl
 refine⟨by kernel_rfl,λj h2 hj=> ?_⟩;have:=List.all_eq_true.1 hc j (List.mem_range.2 hj);rw[Bool.or_eq_true,decide_eq_true_eq,beq_iff_eq]at this;omega
theorem Ymj{r:Array Value}{i j:Nat}(m:Int)(h:i≠j):num (adN r i m) j=num r j:=by unfold adN num;rw[jA,if_neg h]
theorem Ynf{Q:Array Value->Prop}(hQ:∀r i m,Q r->Q (adN r i m))(S X:Array Value)(t:Int)(r:Array Value)(k:Nat)(h:Q r):Q (Ucs S X t r k):=by unfold Ucs;cases Zae (k:Int) S with|false=>exact hQ _ _ _ h|true=>refine Zjl (λ_ r=>Q r) h (λw s _ hs=> ?_) 5 (Nat.le_refl _);unfold wayF;cases decide (Zad (k:Int) (w:Int) S<0)<;>exact hQ _ _ _ hs
theorem wayF_low(S X:Array Value)(t:Int)(k:Nat)(r:Array Value)(w j:Nat)(hj:j<3):num (wayF S X t k r w) j=num r j:=by unfold wayF;cases decide (Zad (k:Int) (w:Int) S<0)<;>exact Ymj _ (by omega)
theorem Zyu(S X:Array Value){j:Nat}(hj:j<3):num (Ubr PZ S X) j=num (Ubs PZ X) j:=by unfold Ubr;refine Zjl (λ_ (r:Array Value)=>num r j=num (Ubs PZ X) j) rfl (λk s _ hs=> ?_) 36 (Nat.le_refl _);refine Eq.trans ?_ hs;unfold Ucs;cases Zae (k:Int) S with|false=>exact Ymj _ (by omega)|true=>exact Zjl (λ_ (r:Array Value)=>num r j=num s j) rfl (λw r _ hr=>(wayF_low S X _ k r w j hj).trans hr) 5 (Nat.le_refl _)
theorem Zsj(X:Array Value):num (Ubs PZ X) 0=num X 0/\num (Ubs PZ X) 1=IntKind.i8.wrap (num X 1+1)/\∀i,i<36->num (Ubs PZ X) (3+i)=0:=by
 have hz:(zc PZ 144).size=40:=by kernel_rfl
 have hc:(List.range 36).all (λk=>match (zc PZ 144)[3+k]? with|some (.int .i64 0)=>true|_=>false)=true:=by kernel_rfl
 unfold Ubs;refine⟨?_,?_,λi hi=> ?_⟩
 ·unfold num;rw[jA,if_neg (by omega),jA,if_neg (by omega),jA,if_neg (by omega),jA,if_pos rfl,if_pos (by omega)]
 ·unfold num;rw[jA,if_neg (by omega),jA,if_neg (by omega),jA,if_pos rfl,if_pos (by simp;omega)]
 ·unfold num;rw[jA,if_neg (by omega),jA,if_neg (by omega),jA,if_neg (by omega),jA,if_neg (by omega)];have:=List.all_eq_true.1 hc i (List.mem_range.2 hi);split at this
  ·rename_i e;rw[e]
  ·cases this
theorem wt_adN{r:Array Value}{i:Nat}{m:Int}(h:WT PZ 144 r)(hi:(lay PZ 144)[i]?=some 3):WT PZ 144 (adN r i m):=by
 have hz:=h.layLen;unfold adN;constructor
 ·rw[jC,List.map_set,h.1];refine List.ext_getElem? λj=> ?_
  by_cases hij:i=j
  ·subst hij;rw[List.getElem?_set_self (List.getElem?_eq_some_iff.1 hi).1,hi];rfl
  ·rw[List.getElem?_set_ne hij]
 ·intro v hv;rw[jC]at hv;rcases List.mem_or_eq_of_mem_set hv with h1|rfl
  ·exact h.2 v h1
  ·exact Zhx .i64 _
theorem Ygi:(List.range 40).all (λi=>decide (i<3)||(match (lay PZ 144)[i]? with|some 3=>true|_=>false))=true/\(lay PZ 144).length=40:=⟨by kernel_rfl,by kernel_rfl⟩
theorem Yqc{r:Array Value}{i:Nat}{m:Int}(h:WT PZ 144 r)(h3:3<=i):WT PZ 144 (adN r i m):=by
 by_cases hi:i<40
 ·refine wt_adN h ?_;have:=List.all_eq_true.1 Ygi.1 i (List.mem_range.2 hi);rw[Bool.or_eq_true,decide_eq_true_eq]at this;rcases this with h|h
  ·omega
  ·split at h
   ·assumption
   ·cases h
 ·have:adN r i m=r:=by
   unfold adN;refine Array.ext_getElem? λj=> ?_
   rw[jA];have hz:r.size=40:=by rw[h.layLen];exact Ygi.2
   by_cases hij:i=j
   ·subst hij;rw[if_pos rfl,if_neg (by omega),Array.getElem?_eq_none (by omega)]
   ·rw[if_neg hij]
  rw[this];exact h
theorem Zwx{i:Nat}(h2:2<=i)(h:i<40):(lay PZ 144)[i]?=some 3:=by
 have hc:(List.range 40).all (λi=>decide (i<2)||(match (lay PZ 144)[i]? with|some 3=>true|_=>false))=true:=by kernel_rfl
 have:=List.all_eq_true.1 hc i (List.mem_range.2 h);rw[Bool.or_eq_true,decide_eq_true_eq]at this;rcases this with h|h
 ·omega
 ·split at h
  ·assumption
  ·cases h
theorem Yip:(lay PZ 144)[0]?=some (kN .i8)/\(lay PZ 144)[1]?=some (kN .i8):=⟨by kernel_rfl,by kernel_rfl⟩
theorem Zo4{r:Array Value}(h:WT PZ 144 r){i:Nat}{k:IntKind}{n:Int}(hi:(lay PZ 144)[i]?=some (kN k))(hn:k.min<=n/\n<=k.max):WT PZ 144 (r.setIfInBounds i (.int k n)):=by
 constructor
 ·rw[jC,List.map_set,h.1];refine List.ext_getElem? λj=> ?_
  by_cases hij:i=j
  ·subst hij;rw[List.getElem?_set_self (List.getElem?_eq_some_iff.1 hi).1,hi];rfl
  ·rw[List.getElem?_set_ne hij]
 ·intro v hv;rw[jC]at hv;rcases List.mem_or_eq_of_mem_set hv with h1|rfl
  ·exact h.2 v h1
  ·exact hn
theorem Ycq{S X:Array Value}(hX:WT PZ 144 X):WT PZ 144 (Ubr PZ S X):=by
 have x0:=(hX.int (o:=0) (k:=.i8) Yip.1).2;have x2:=(hX.int (o:=2) (k:=.i64) (Zwx (by omega) (by omega))).2;have h0:WT PZ 144 (Ubs PZ X):=by unfold Ubs;exact Zo4 (k:=.i64) (Zo4 (k:=.i64) (Zo4 (k:=.i8) (Zo4 (k:=.i8) (WT.zero (by kernel_rfl)) Yip.1 x0) Yip.2 (Zhx .i8 _)) (Zwx (by omega) (by omega)) x2) (Zwx (by omega) (by omega)) (Zhx .i64 _)
 unfold Ubr;refine Zjl (λ_ r=>WT PZ 144 r) h0 (λk r _ h=> ?_) 36 (Nat.le_refl _);unfold Ucs;cases Zae (k:Int) S
 ·exact Yqc h (by omega)
 ·refine Zjl (λ_ r=>WT PZ 144 r) h (λw r _ h=> ?_) 5 (Nat.le_refl _);unfold wayF;cases decide (Zad (k:Int) (w:Int) S<0)<;>exact Yqc h (by omega)
theorem Zef(r:Array Value)(i:Nat)(k:IntKind)(n:Int)(j:Nat):num (r.setIfInBounds i (.int k n)) j=if i=j/\i<r.size then n else num r j:=by
 unfold num;rw[jA]
 by_cases hij:i=j
 ·subst hij
  by_cases hlt:i<r.size
  ·rw[if_pos rfl,if_pos hlt,if_pos ⟨rfl,hlt⟩]
  ·rw[if_pos rfl,if_neg hlt,if_neg (λh=>hlt h.2),Array.getElem?_eq_none (by omega)]
 ·rw[if_neg hij,if_neg (λh=>hij h.1)]
theorem Ym8{S X:Array Value}(hz:(Ubs PZ X).size=40){j:Nat}(hj:j<40):cg (num (Ubr PZ S X) j) (num (Ubs PZ X) j+sumI (λk=>if Zae (k:Int) S=true then sumI (λw=>if Uek (Zad (k:Int) (w:Int) S)=j then muF S X (tdS X) k w else 0) 5 else if 3+k*1=j then num X (3+k*1)*12 else 0) 36):=by unfold Ubr;exact(Ygx 36 hz λk s _ hs=>cellF_cg S X (tdS X) hs k hj).2
theorem Ygg(X:Array Value):(Ubs PZ X).size=40/\∀j,2<=j->j<40->cg (num (Ubs PZ X) j) (if j=2 then num X 2 else if j=39 then num X 39*12 else 0):=by
 have hz:(zc PZ 144).size=40:=Yk0.1;refine⟨by unfold Ubs;simp[hz],λj h2 hj=> ?_⟩
 by_cases e2:j=2
 ·subst e2;rw[if_pos rfl];unfold Ubs;rw[Zef,if_neg (by omega),Zef,if_pos ⟨rfl,by simp[hz]⟩];exact .refl _
 ·rw[if_neg e2]
  by_cases e9:j=39
  ·subst e9;rw[if_pos rfl];unfold Ubs;rw[Zef,if_pos ⟨rfl,by simp[hz]⟩];exact Zo5 _
  ·rw[if_neg e9];have:=(Zsj X).2.2 (j - 3) (by omega);rw[show 3+(j - 3)=j by omega]at this;exact .of this
theorem Zqn{f:Nat->Int}:∀n,(∀k,k<n->0<=f k)->0<=sumI f n
 |0,_=>Int.le_refl _
 |n+1,h=>by
  have h1:=Zqn n λk hk=>h k (by omega)
  have h2:=h n (by omega);rw[sumI];omega
theorem Zx9{f:Nat->Int}{i:Nat}:∀n,i<n->(∀k,k<n->0<=f k)->f i<=sumI f n
 |0,hi,_=>by omega
 | n+1,hi,h=>by
  rw[sumI]
  by_cases e:i=n
  ·subst e;have:=Zqn i λk hk=>h k (by omega)
   omega
  ·have h1:=Zx9 (f:=f) (i:=i) n (by omega) λk hk=>h k (by omega)
   have h2:=h n (by omega);omega
theorem Ygo(c:Int)(f:Nat->Int):∀n,sumI (λk=>c*f k) n=c*sumI f n
 |0=>(Int.mul_zero c).symm
 |n+1=>by rw[sumI,sumI,Ygo c f n,Int.mul_add]
theorem Zyq(m:Int){d o:Nat}:∀n,sumI (λi=>if d=o+i then m else 0) n=if o<=d/\d<o+n then m else 0
 |0=>by rw[if_neg (by omega)];rfl
 | n+1=>by
  rw[sumI,Zyq m n]
  by_cases h:d=o+n
  ·rw[if_pos h,if_neg (by omega),if_pos (by omega)];omega
  ·rw[if_neg h]
   by_cases h2:o<=d/\d<o+n
   ·rw[if_pos h2,if_pos (by omega)];omega
   ·rw[if_neg h2,if_neg (by omega)];rfl
theorem Ym0{a:Array Value}{f:Nat->Int}(hf:∀w,w<5->num a (w*1)=f w/\0<=f w/\f w<=255):∀n,n<=5->sumW a n=sumI f n/\0<=sumI f n/\sumI f n<=255*n
 |0,_=>⟨rfl,Int.le_refl _,Int.le_refl _⟩
 |n+1,hn=>by
  obtain⟨h1,h2,h3⟩:=Ym0 hf n (by omega);obtain⟨q1,q2,q3⟩:=hf n (by omega);rw[sumW,sumI,h1,q1,w64 (n:=f n) (by omega),IntWalk.i64_in _ (by omega)];refine⟨rfl,by omega,by omega⟩
def chP(S:Array Value)(t k w:Nat):Int:=num S (3+t*180+k*5+w)
theorem ch_sum{S:Array Value}(hS:WT PZ 38 S)(hok:okS S=true){t k:Nat}(ht:t<2)(hk:k<36)(hw:(inC (num S 0) (num S 1) k && !(bitI (num S 2) k))=true):sumI (chP S t k) 5=12/\∀w,w<5->0<=chP S t k w/\chP S t k w<=12:=by
 have hr:∀w,w<5->0<=chP S t k w/\chP S t k w<=255:=λw hw=>by
  have:=(sea_u8 hS (i:=t*180+k*5+w) (by omega)).2;unfold chP;rw[show 3+t*180+k*5+w=3+(t*180+k*5+w) by omega];exact this
 have hf:=okS_fit hok ht hk;unfold fitS at hf;rw[hw,Q1]at hf;have hs:=(Ym0 (a:=chR S t k) (f:=chP S t k) (λw hw=>⟨by unfold chR chP;rw[num_sub (by omega),Nat.mul_one],hr w hw⟩) 5 (Nat.le_refl _)).1;have h12:sumI (chP S t k) 5=12:=by rw[<- hs];exact eq_of_beq hf
 refine⟨h12,λw hw=>⟨(hr w hw).1,?_⟩⟩;rw[<- h12];exact Zx9 (f:=chP S t k) 5 hw λq hq=>(hr q hq).1
def Mass(X:Array Value)(T:Int):Prop:=(∀i,i<37->0<=num X (3+i))/\sumI (λi=>num X (3+i)) 37=T
theorem Mass.le{X:Array Value}{T:Int}(h:Mass X T){i:Nat}(hi:i<37):0<=num X (3+i)/\num X (3+i)<=T:=⟨h.1 i hi,by rw[<- h.2];exact Zx9 (f:=λi=>num X (3+i)) 37 hi h.1⟩
def Ucv(S X:Array Value)(j k:Nat):Int:=if Zae (k:Int) S=true then sumI (λw=>if Uek (Zad (k:Int) (w:Int) S)=j then muF S X (tdS X) k w else 0) 5 else if 3+k*1=j then num X (3+k*1)*12 else 0
theorem cell_sum{S X:Array Value}(hS:WT PZ 38 S)(hok:okS S=true){T:Int}(hM:Mass X T)(hT:T*12<=9223372036854775807){t:Nat}(ht:t<2)(htd:tdS X=(t:Int)){k:Nat}(hk:k<36):(∀j,0<=Ucv S X j k)/\sumI (λi=>Ucv S X (3+i) k) 37=12*num X (3+k):=by
 obtain⟨x0,x1⟩:=hM.le (i:=k) (by omega);have hwet:=(Zuy hS hk).2;unfold Ucv;cases hw:Zae (k:Int) S with
 | false=>
  simp only[Bool.false_eq_true,if_false];refine⟨λj=> ?_,?_⟩
  ·split
   ·rw[show 3+k*1=3+k by omega];omega
   ·exact Int.le_refl _
  ·rw[Zyq (num X (3+k*1)*12) (d:=3+k*1) (o:=3) 37,if_pos (by omega),show 3+k*1=3+k by omega,Int.mul_comm]
 | true=>
  rw[hw]at hwet;obtain⟨c1,c2⟩:=ch_sum hS hok ht hk hwet.symm;have hi:inC (num S 0) (num S 1) k=true:=(Bool.and_eq_true_iff.1 hwet.symm).1;have hmu:∀w,w<5->muF S X (tdS X) k w=num X (3+k)*chP S t k w/\0<=num X (3+k)*chP S t k w:=λw hw5=>by
   obtain⟨d1,d2⟩:=c2 w hw5;have hp:0<=num X (3+k)*chP S t k w:=Int.mul_nonneg x0 d1;have hq:num X (3+k)*chP S t k w<=T*12:=Int.mul_le_mul x1 d2 d1 (by omega);refine⟨?_,hp⟩;unfold muF chW;rw[htd,Q9,Q9,show 3+k*1=3+k by omega];have e:num S (((3+(t*180))+(k*5))+w)=chP S t k w:=rfl;rw[e,w64 (n:=chP S t k w) (by omega),IntWalk.i64_in _ (by omega)]
  simp only[if_true];refine⟨λj=>Zqn 5 λw hw5=> ?_,?_⟩
  ·split
   ·rw[(hmu w hw5).1];exact(hmu w hw5).2
   ·exact Int.le_refl _
  ·rw[Ydp (λi w=>if Uek (Zad (k:Int) (w:Int) S)=3+i then muF S X (tdS X) k w else 0) 5 37];refine(Zlt 5 (g:=λw=>num X (3+k)*chP S t k w) λw hw5=> ?_).trans ?_
   ·rw[Zyq (muF S X (tdS X) k w) (d:=Uek (Zad (k:Int) (w:Int) S)) (o:=3) 37,if_pos,(hmu w hw5).1];unfold Uek
    by_cases hg:Zad (k:Int) (w:Int) S<0
    ·rw[if_pos hg];omega
    ·rw[if_neg hg];obtain⟨r1,r2⟩:=Yf6 (Zqr hok) hk hi hw5 hg;omega
   ·rw[Ygo,c1,Int.mul_comm]
theorem Ypk{S X:Array Value}(hS:WT PZ 38 S)(hX:WT PZ 144 X)(hok:okS S=true){T:Int}(hM:Mass X T)(hT:T*12<=9223372036854775807){t:Nat}(ht:t<2)(htd:tdS X=(t:Int)):
  Mass (Ubr PZ S X) (12*T)/\∀k:Nat,k<36->Zae (k:Int) S=false->12*num X (3+k)<=num (Ubr PZ S X) (3+k):=by
 obtain⟨i1,i2⟩:=Ygg X;have o1:0<=num X 39/\num X 39<=T:=hM.le (i:=36) (by omega);have hcell:=λk hk=>cell_sum hS hok hM hT ht htd (k:=k) hk
 have hsum:sumI (λi=>(if 39=3+i then num X 39*12 else 0)+sumI (λk=>Ucv S X (3+i) k) 36) 37=12*T:=by rw[Yhu,Zyq (num X 39*12) (d:=39) (o:=3) 37,if_pos (by omega),Ydp (λi k=>Ucv S X (3+i) k) 36 37,Zlt 36 (g:=λk=>12*num X (3+k)) λk hk=>(hcell k hk).2,Ygo,<- hM.2];have e37:sumI (λi=>num X (3+i)) 37=sumI (λi=>num X (3+i)) 36+num X 39:=rfl;rw[e37,Int.mul_add];omega
 have hnn:∀i,i<37->0<=(if 39=3+i then num X 39*12 else 0)+sumI (λk=>Ucv S X (3+i) k) 36:=λi hi=>by
  have h1:=Zqn (f:=λk=>Ucv S X (3+i) k) 36 λk hk=>(hcell k hk).1 (3+i)
  split
  ·have:=o1.1;omega
  ·omega
 have hval:∀i,i<37->num (Ubr PZ S X) (3+i)=(if 39=3+i then num X 39*12 else 0)+sumI (λk=>Ucv S X (3+i) k) 36:=λi hi=>by
  have hw:=(Ycq (S:=S) hX).int (o:=3+i) (k:=.i64) (Zwx (by omega) (by omega));have hle:(if 39=3+i then num X 39*12 else 0)+sumI (λk=>Ucv S X (3+i) k) 36<=12*T:=by rw[<- hsum];exact Zx9 (f:=λi=>(if 39=3+i then num X 39*12 else 0)+sumI (λk=>Ucv S X (3+i) k) 36) 37 hi hnn
  have:=hnn i hi;refine cg_eq ((Ym8 i1 (j:=3+i) (by omega)).trans (((i2 (3+i) (by omega) (by omega)).add (.refl _)).trans (.of ?_))) hw.2 (by omega);rw[if_neg (show ¬3+i=2 by omega)]
  by_cases e:3+i=39
  ·rw[if_pos e,if_pos e.symm];rfl
  ·rw[if_neg e,if_neg (λh=>e h.symm)];rfl
 refine⟨⟨λi hi=>by rw[hval i hi];exact hnn i hi,?_⟩,λk hk hd=> ?_⟩
 ·rw[<- hsum];exact Zlt 37 hval
 ·rw[hval k (by omega)];have h1:=Zx9 (f:=λq=>Ucv S X (3+k) q) (i:=k) 36 hk λq hq=>(hcell q hq).1 (3+k)
  have h2:Ucv S X (3+k) k=num X (3+k)*12:=by unfold Ucv;rw[hd,if_neg (by simp),if_pos (by omega),show 3+k*1=3+k by omega]
  rw[if_neg (show ¬39=3+k by omega)];omega
def Ua1(P:Program)(S X:Array Value):Nat->Array Value
 |0=>X
 |n+1=>Ubr P S (Ua1 P S X n)
theorem drift_wt{S X:Array Value}(hX:WT PZ 144 X)(n:Nat):WT PZ 144 (Ua1 PZ S X n):=by induction n with|zero=>exact hX|succ n ih=>rw[Ua1];exact Ycq ih
theorem Yj1{S X:Array Value}(hb:0<=num X 0/\num X 0<2)(hh:0<=num X 1/\num X 1<=14):∀n,n<=14->num (Ua1 PZ S X n) 0=num X 0/\num (Ua1 PZ S X n) 1=num X 1+n
 |0,_=>⟨rfl,by simp[Ua1]⟩
 | n+1,hn=>by
  obtain⟨h1,h2⟩:=Yj1 hb hh n (by omega);obtain⟨e1,e2,_⟩:=Zsj (Ua1 PZ S X n);constructor
  ·rw[Ua1,Zyu _ _ (by omega),e1,h1]
  ·rw[Ua1,Zyu _ _ (by omega),e2,h2];have:IntKind.i8.wrap (num X 1+(n:Int)+1)=num X 1+(n:Int)+1:=IntWalk.i8_in _ (by omega);rw[this];omega
theorem Ymi{S X:Array Value}(hb:0<=num X 0/\num X 0<2)(hh:0<=num X 1/\num X 1<=14){n:Nat}(hn:n<=14):tdS (Ua1 PZ S X n)=(num X 0+num X 1+n) % 2:=by
 obtain⟨h1,h2⟩:=Yj1 (S:=S) hb hh n hn;unfold tdS;rw[h1,h2];have:IntKind.i8.wrap (num X 0+(num X 1+(n:Int)))=num X 0+num X 1+(n:Int):=by rw[IntWalk.i8_in _ (by omega)];omega
 rw[this,Int.tmod_eq_emod_of_nonneg (by omega)]
end
end Go.Proofs.YtgllknjdblkhnaaGreatDoor
