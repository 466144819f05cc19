/- Where the ways of a cell lead, in company. -/
import Derived.Test.YtefjogahegolbaaDoorProg
import Derived.Test.YtefjogahegolbaaDoorCxE
set_option linter.unusedVariables false
set_option linter.unusedSimpArgs false
open _root_.Bool renaming not_true->jA
namespace Go.Proofs.YtefjogahegolbaaDoor
open Tryd (f78 f80 f83 f84 f85 f86 f87 f88 f89)
open Go.ChangeShapes Go.WideShapes Go.ChangeAt Go.RowKit Ve Vc
open Tryd (prog)
open IntKind (i64)
set_option maxRecDepth 100000
noncomputable section
variable {mn:Md}
theorem Zwh(N:Nat)(a1 a2:Int)(a0:Array Value):ansV prog (mkΓ [(44,con Zdf)]) N f84 [] [.w 0,.i .i64 a1,.i .i64 a2] [.row a0 35]=(bif (a2==(1:Int)) then (bif (!((Zaa ((a1).tmod (6:Int)) (0:Int) (i64.wrap ((i64.wrap (num a0 0)) - (1:Int)))))) then (some (.a (.i .i64 (-1:Int)),.none,true)) else (bif (!((Zaa (i64.wrap ((i64.wrap ((a1).tdiv (6:Int))) - (1:Int))) (0:Int) (i64.wrap ((i64.wrap (num a0 1)) - (1:Int)))))) then (some (.a (.i .i64 (-1:Int)),.none,true)) else (some (.a (.i .i64 (i64.wrap (((a1).tmod (6:Int))+(i64.wrap ((6:Int)*(i64.wrap ((i64.wrap ((a1).tdiv (6:Int))) - (1:Int)))))))),.none,true)))) else (bif (a2==(2:Int)) then (bif (!((Zaa (i64.wrap (((a1).tmod (6:Int))+(1:Int))) (0:Int) (i64.wrap ((i64.wrap (num a0 0)) - (1:Int)))))) then (some (.a (.i .i64 (-1:Int)),.none,true)) else (bif (!((Zaa (i64.wrap ((a1).tdiv (6:Int))) (0:Int) (i64.wrap ((i64.wrap (num a0 1)) - (1:Int)))))) then (some (.a (.i .i64 (-1:Int)),.none,true)) else (some (.a (.i .i64 (i64.wrap ((i64.wrap (((a1).tmod (6:Int))+(1:Int)))+(i64.wrap ((6:Int)*(i64.wrap ((a1).tdiv (6:Int)))))))),.none,true)))) else (bif (a2==(3:Int)) then (bif (!((Zaa ((a1).tmod (6:Int)) (0:Int) (i64.wrap ((i64.wrap (num a0 0)) - (1:Int)))))) then (some (.a (.i .i64 (-1:Int)),.none,true)) else (bif (!((Zaa (i64.wrap ((i64.wrap ((a1).tdiv (6:Int)))+(1:Int))) (0:Int) (i64.wrap ((i64.wrap (num a0 1)) - (1:Int)))))) then (some (.a (.i .i64 (-1:Int)),.none,true)) else (some (.a (.i .i64 (i64.wrap (((a1).tmod (6:Int))+(i64.wrap ((6:Int)*(i64.wrap ((i64.wrap ((a1).tdiv (6:Int)))+(1:Int)))))))),.none,true)))) else (bif (a2==(4:Int)) then (bif (!((Zaa (i64.wrap (((a1).tmod (6:Int)) - (1:Int))) (0:Int) (i64.wrap ((i64.wrap (num a0 0)) - (1:Int)))))) then (some (.a (.i .i64 (-1:Int)),.none,true)) else (bif (!((Zaa (i64.wrap ((a1).tdiv (6:Int))) (0:Int) (i64.wrap ((i64.wrap (num a0 1)) - (1:Int)))))) then (some (.a (.i .i64 (-1:Int)),.none,true)) else (some (.a (.i .i64 (i64.wrap ((i64.wrap (((a1).tmod (6:Int)) - (1:Int)))+(i64.wrap ((6:Int)*(i64.wrap ((a1).tdiv (6:Int)))))))),.none,true)))) else (bif (!((Zaa ((a1).tmod (6:Int)) (0:Int) (i64.wrap ((i64.wrap (num a0 0)) - (1:Int)))))) then (some (.a (.i .i64 (-1:Int)),.none,true)) else (bif (!((Zaa (i64.wrap ((a1).tdiv (6:Int))) (0:Int) (i64.wrap ((i64.wrap (num a0 1)) - (1:Int)))))) then (some (.a (.i .i64 (-1:Int)),.none,true)) else (some (.a (.i .i64 (i64.wrap (((a1).tmod (6:Int))+(i64.wrap ((6:Int)*(i64.wrap ((a1).tdiv (6:Int)))))))),.none,true)))))))):=by kernel_rfl
def Zai(a1 a2:Int)(a0:Array Value):Int:=(bif (a2==(1:Int)) then (bif (!((Zaa ((a1).tmod (6:Int)) (0:Int) (i64.wrap ((i64.wrap (num a0 0)) - (1:Int)))))) then (-1:Int) else (bif (!((Zaa (i64.wrap ((i64.wrap ((a1).tdiv (6:Int))) - (1:Int))) (0:Int) (i64.wrap ((i64.wrap (num a0 1)) - (1:Int)))))) then (-1:Int) else (i64.wrap (((a1).tmod (6:Int))+(i64.wrap ((6:Int)*(i64.wrap ((i64.wrap ((a1).tdiv (6:Int))) - (1:Int))))))))) else (bif (a2==(2:Int)) then (bif (!((Zaa (i64.wrap (((a1).tmod (6:Int))+(1:Int))) (0:Int) (i64.wrap ((i64.wrap (num a0 0)) - (1:Int)))))) then (-1:Int) else (bif (!((Zaa (i64.wrap ((a1).tdiv (6:Int))) (0:Int) (i64.wrap ((i64.wrap (num a0 1)) - (1:Int)))))) then (-1:Int) else (i64.wrap ((i64.wrap (((a1).tmod (6:Int))+(1:Int)))+(i64.wrap ((6:Int)*(i64.wrap ((a1).tdiv (6:Int))))))))) else (bif (a2==(3:Int)) then (bif (!((Zaa ((a1).tmod (6:Int)) (0:Int) (i64.wrap ((i64.wrap (num a0 0)) - (1:Int)))))) then (-1:Int) else (bif (!((Zaa (i64.wrap ((i64.wrap ((a1).tdiv (6:Int)))+(1:Int))) (0:Int) (i64.wrap ((i64.wrap (num a0 1)) - (1:Int)))))) then (-1:Int) else (i64.wrap (((a1).tmod (6:Int))+(i64.wrap ((6:Int)*(i64.wrap ((i64.wrap ((a1).tdiv (6:Int)))+(1:Int))))))))) else (bif (a2==(4:Int)) then (bif (!((Zaa (i64.wrap (((a1).tmod (6:Int)) - (1:Int))) (0:Int) (i64.wrap ((i64.wrap (num a0 0)) - (1:Int)))))) then (-1:Int) else (bif (!((Zaa (i64.wrap ((a1).tdiv (6:Int))) (0:Int) (i64.wrap ((i64.wrap (num a0 1)) - (1:Int)))))) then (-1:Int) else (i64.wrap ((i64.wrap (((a1).tmod (6:Int)) - (1:Int)))+(i64.wrap ((6:Int)*(i64.wrap ((a1).tdiv (6:Int))))))))) else (bif (!((Zaa ((a1).tmod (6:Int)) (0:Int) (i64.wrap ((i64.wrap (num a0 0)) - (1:Int)))))) then (-1:Int) else (bif (!((Zaa (i64.wrap ((a1).tdiv (6:Int))) (0:Int) (i64.wrap ((i64.wrap (num a0 1)) - (1:Int)))))) then (-1:Int) else (i64.wrap (((a1).tmod (6:Int))+(i64.wrap ((6:Int)*(i64.wrap ((a1).tdiv (6:Int)))))))))))))
theorem Zvf(a1 a2:Int)(a0:Array Value)(h_a1:i64.min<=a1/\a1<=i64.max)(h_a2:i64.min<=a2/\a2<=i64.max)(h_a0:WT prog 35 a0)(hg:(true)=true):ansV prog (mkΓ [(44,con Zdf)]) 1000 f84 [] [.w 0,.i .i64 a1,.i .i64 a2] [.row a0 35]=some (.a (.i .i64 (Zai a1 a2 a0)),.none,true):=by
 refine(Zwh 1000 a1 a2 a0).trans ?_;unfold Zai;revert hg;generalize ((a2==(1:Int)))=b2;intro hg;cases b2
 ·skip
  revert hg;generalize ((a2==(2:Int)))=b4;intro hg;cases b4
  ·skip
   revert hg;generalize ((a2==(3:Int)))=b6;intro hg;cases b6
   ·skip
    revert hg;generalize ((a2==(4:Int)))=b8;intro hg;cases b8
    ·skip
     revert hg;generalize ((!((Zaa ((a1).tmod (6:Int)) (0:Int) (i64.wrap ((i64.wrap (num a0 0)) - (1:Int)))))))=b10;intro hg;cases b10
     ·skip
      revert hg;generalize ((!((Zaa (i64.wrap ((a1).tdiv (6:Int))) (0:Int) (i64.wrap ((i64.wrap (num a0 1)) - (1:Int)))))))=b12;intro hg;cases b12
      ·skip
       first|rfl|exact(nomatch (hg:false=true))
      ·skip
       first|rfl|exact(nomatch (hg:false=true))
     ·skip
      first|rfl|exact(nomatch (hg:false=true))
    ·skip
     revert hg;generalize ((!((Zaa (i64.wrap (((a1).tmod (6:Int)) - (1:Int))) (0:Int) (i64.wrap ((i64.wrap (num a0 0)) - (1:Int)))))))=b10;intro hg;cases b10
     ·skip
      revert hg;generalize ((!((Zaa (i64.wrap ((a1).tdiv (6:Int))) (0:Int) (i64.wrap ((i64.wrap (num a0 1)) - (1:Int)))))))=b12;intro hg;cases b12
      ·skip
       first|rfl|exact(nomatch (hg:false=true))
      ·skip
       first|rfl|exact(nomatch (hg:false=true))
     ·skip
      first|rfl|exact(nomatch (hg:false=true))
   ·skip
    revert hg;generalize ((!((Zaa ((a1).tmod (6:Int)) (0:Int) (i64.wrap ((i64.wrap (num a0 0)) - (1:Int)))))))=b8;intro hg;cases b8
    ·skip
     revert hg;generalize ((!((Zaa (i64.wrap ((i64.wrap ((a1).tdiv (6:Int)))+(1:Int))) (0:Int) (i64.wrap ((i64.wrap (num a0 1)) - (1:Int)))))))=b10;intro hg;cases b10
     ·skip
      first|rfl|exact(nomatch (hg:false=true))
     ·skip
      first|rfl|exact(nomatch (hg:false=true))
    ·skip
     first|rfl|exact(nomatch (hg:false=true))
  ·skip
   revert hg;generalize ((!((Zaa (i64.wrap (((a1).tmod (6:Int))+(1:Int))) (0:Int) (i64.wrap ((i64.wrap (num a0 0)) - (1:Int)))))))=b6;intro hg;cases b6
   ·skip
    revert hg;generalize ((!((Zaa (i64.wrap ((a1).tdiv (6:Int))) (0:Int) (i64.wrap ((i64.wrap (num a0 1)) - (1:Int)))))))=b8;intro hg;cases b8
    ·skip
     first|rfl|exact(nomatch (hg:false=true))
    ·skip
     first|rfl|exact(nomatch (hg:false=true))
   ·skip
    first|rfl|exact(nomatch (hg:false=true))
 ·skip
  revert hg;generalize ((!((Zaa ((a1).tmod (6:Int)) (0:Int) (i64.wrap ((i64.wrap (num a0 0)) - (1:Int)))))))=b4;intro hg;cases b4
  ·skip
   revert hg;generalize ((!((Zaa (i64.wrap ((i64.wrap ((a1).tdiv (6:Int))) - (1:Int))) (0:Int) (i64.wrap ((i64.wrap (num a0 1)) - (1:Int)))))))=b6;intro hg;cases b6
   ·skip
    first|rfl|exact(nomatch (hg:false=true))
   ·skip
    first|rfl|exact(nomatch (hg:false=true))
  ·skip
   first|rfl|exact(nomatch (hg:false=true))
def Zju:Con:=λargs h=>match args,h with|[.w 0,.i .i64 a1,.i .i64 a2],[.row a0 35]=>some (.a (.i .i64 (Zai a1 a2 a0)),.none,true)|_,_=>none
theorem Zte:EntX prog 84:=Zal (fn:=f84)
theorem Zyn:Uad mn prog 84 Zju:=(ansY (N:=1000) (mKc (Zah Zkd) Zhm mKn) f84 []).of (by
 intro ρ h w args vals r e hA hH hr;unfold Zju at hr;split at hr
 ·rename_i a1 a2 a0;obtain⟨rfl,rfl,hg2⟩:=BQi hr;exact Zvf a1 a2 a0 (hA.rng 1 rfl) (hA.rng 2 rfl) (hH.wt 0 rfl) hg2
 ·cases hr)
theorem Zws(N:Nat):ansV prog (mkΓ []) N f83 [] [] []=(some (.a (.g #[.func (.func 85) #[] #[],.func (.func 86) #[] #[],.func (.func 87) #[] #[],.func (.func 88) #[] #[],.func (.func 89) #[] #[]] 136),.none,true)):=by kernel_rfl
theorem Zvo  (hg:(true)=true):ansV prog (mkΓ []) 1000 f83 [] [] []=some (.a (.g #[.func (.func 85) #[] #[],.func (.func 86) #[] #[],.func (.func 87) #[] #[],.func (.func 88) #[] #[],.func (.func 89) #[] #[]] 136),.none,true):=by refine(Zws 1000 ).trans ?_;rfl
def Zkc:Con:=λargs h=>match args,h with|[],[]=>some (.a (.g #[.func (.func 85) #[] #[],.func (.func 86) #[] #[],.func (.func 87) #[] #[],.func (.func 88) #[] #[],.func (.func 89) #[] #[]] 136),.none,true)|_,_=>none
theorem Zs7:EntX prog 83:=Zal (fn:=f83)
theorem Zyg:Uad mn prog 83 Zkc:=(ansY (N:=1000) mKn f83 []).of (by
 intro ρ h w args vals r e hA hH hr;unfold Zkc at hr;split at hr
 ·obtain⟨rfl,rfl,hg2⟩:=BQi hr;exact Zvo hg2
 ·cases hr)
theorem Zra(N:Nat)(a0:Array Value):ansV prog (mkΓ []) N f85 [] [.g a0 95] []=(some (.a (.g a0 95),.none,true)):=by kernel_rfl
theorem Zqa(a0:Array Value)(h_a0:WT prog 95 a0)(hg:(true)=true):ansV prog (mkΓ []) 1000 f85 [] [.g a0 95] []=some (.a (.g a0 95),.none,true):=by refine(Zra 1000 a0).trans ?_;rfl
def Zh1:Con:=λargs h=>match args,h with|[.g a0 95],[]=>some (.a (.g a0 95),.none,true)|_,_=>none
theorem Zol:EntX prog 85:=Zal (fn:=f85)
theorem Zsk:Uad mn prog 85 Zh1:=(ansY (N:=1000) mKn f85 []).of (by
 intro ρ h w args vals r e hA hH hr;unfold Zh1 at hr;split at hr
 ·rename_i a0;obtain⟨rfl,rfl,hg2⟩:=BQi hr;exact Zqa a0 (hA.wt 0 rfl) hg2
 ·cases hr)
theorem Zp7(N:Nat)(a0:Array Value):ansV prog (mkΓ []) N f86 [] [.g a0 95] []=(some (.a (.g #[.int .i64 (num a0 0),.int .i64 (i64.wrap ((num a0 1) - (1:Int)))] 95),.none,true)):=by kernel_rfl
theorem Zoj(a0:Array Value)(h_a0:WT prog 95 a0)(hg:(true)=true):ansV prog (mkΓ []) 1000 f86 [] [.g a0 95] []=some (.a (.g #[.int .i64 (num a0 0),.int .i64 (i64.wrap ((num a0 1) - (1:Int)))] 95),.none,true):=by refine(Zp7 1000 a0).trans ?_;rfl
def Zhb:Con:=λargs h=>match args,h with|[.g a0 95],[]=>some (.a (.g #[.int .i64 (num a0 0),.int .i64 (i64.wrap ((num a0 1) - (1:Int)))] 95),.none,true)|_,_=>none
theorem Zns:EntX prog 86:=Zal (fn:=f86)
theorem Zr0:Uad mn prog 86 Zhb:=(ansY (N:=1000) mKn f86 []).of (by
 intro ρ h w args vals r e hA hH hr;unfold Zhb at hr;split at hr
 ·rename_i a0;obtain⟨rfl,rfl,hg2⟩:=BQi hr;exact Zoj a0 (hA.wt 0 rfl) hg2
 ·cases hr)
theorem Zrh(N:Nat)(a0:Array Value):ansV prog (mkΓ []) N f87 [] [.g a0 95] []=(some (.a (.g #[.int .i64 (i64.wrap ((num a0 0)+(1:Int))),.int .i64 (num a0 1)] 95),.none,true)):=by kernel_rfl
theorem Zqs(a0:Array Value)(h_a0:WT prog 95 a0)(hg:(true)=true):ansV prog (mkΓ []) 1000 f87 [] [.g a0 95] []=some (.a (.g #[.int .i64 (i64.wrap ((num a0 0)+(1:Int))),.int .i64 (num a0 1)] 95),.none,true):=by refine(Zrh 1000 a0).trans ?_;rfl
def Zhx:Con:=λargs h=>match args,h with|[.g a0 95],[]=>some (.a (.g #[.int .i64 (i64.wrap ((num a0 0)+(1:Int))),.int .i64 (num a0 1)] 95),.none,true)|_,_=>none
theorem Zn7:EntX prog 87:=Zal (fn:=f87)
theorem Zt0:Uad mn prog 87 Zhx:=(ansY (N:=1000) mKn f87 []).of (by
 intro ρ h w args vals r e hA hH hr;unfold Zhx at hr;split at hr
 ·rename_i a0;obtain⟨rfl,rfl,hg2⟩:=BQi hr;exact Zqs a0 (hA.wt 0 rfl) hg2
 ·cases hr)
theorem Zqk(N:Nat)(a0:Array Value):ansV prog (mkΓ []) N f88 [] [.g a0 95] []=(some (.a (.g #[.int .i64 (num a0 0),.int .i64 (i64.wrap ((num a0 1)+(1:Int)))] 95),.none,true)):=by kernel_rfl
theorem Zoc(a0:Array Value)(h_a0:WT prog 95 a0)(hg:(true)=true):ansV prog (mkΓ []) 1000 f88 [] [.g a0 95] []=some (.a (.g #[.int .i64 (num a0 0),.int .i64 (i64.wrap ((num a0 1)+(1:Int)))] 95),.none,true):=by refine(Zqk 1000 a0).trans ?_;rfl
def Zg6:Con:=λargs h=>match args,h with|[.g a0 95],[]=>some (.a (.g #[.int .i64 (num a0 0),.int .i64 (i64.wrap ((num a0 1)+(1:Int)))] 95),.none,true)|_,_=>none
theorem Znq:EntX prog 88:=Zal (fn:=f88)
theorem Zrg:Uad mn prog 88 Zg6:=(ansY (N:=1000) mKn f88 []).of (by
 intro ρ h w args vals r e hA hH hr;unfold Zg6 at hr;split at hr
 ·rename_i a0;obtain⟨rfl,rfl,hg2⟩:=BQi hr;exact Zoc a0 (hA.wt 0 rfl) hg2
 ·cases hr)
theorem Zq5(N:Nat)(a0:Array Value):ansV prog (mkΓ []) N f89 [] [.g a0 95] []=(some (.a (.g #[.int .i64 (i64.wrap ((num a0 0) - (1:Int))),.int .i64 (num a0 1)] 95),.none,true)):=by kernel_rfl
theorem Zqg(a0:Array Value)(h_a0:WT prog 95 a0)(hg:(true)=true):ansV prog (mkΓ []) 1000 f89 [] [.g a0 95] []=some (.a (.g #[.int .i64 (i64.wrap ((num a0 0) - (1:Int))),.int .i64 (num a0 1)] 95),.none,true):=by refine(Zq5 1000 a0).trans ?_;rfl
def Zhy:Con:=λargs h=>match args,h with|[.g a0 95],[]=>some (.a (.g #[.int .i64 (i64.wrap ((num a0 0) - (1:Int))),.int .i64 (num a0 1)] 95),.none,true)|_,_=>none
theorem Zn9:EntX prog 89:=Zal (fn:=f89)
theorem Zta:Uad mn prog 89 Zhy:=(ansY (N:=1000) mKn f89 []).of (by
 intro ρ h w args vals r e hA hH hr;unfold Zhy at hr;split at hr
 ·rename_i a0;obtain⟨rfl,rfl,hg2⟩:=BQi hr;exact Zqg a0 (hA.wt 0 rfl) hg2
 ·cases hr)
theorem Zym(N:Nat)(a0 a1:Int):ansV prog (mkΓ []) N f78 [] [.i .i64 a0,.i .i64 a1] []=(some (.a (.i .i64 (((i64.wrap (a0+a1))).tmod (2:Int))),.none,true)):=by kernel_rfl
theorem Zw5(a0 a1:Int)(h_a0:i64.min<=a0/\a0<=i64.max)(h_a1:i64.min<=a1/\a1<=i64.max)(hg:(true)=true):ansV prog (mkΓ []) 1000 f78 [] [.i .i64 a0,.i .i64 a1] []=some (.a (.i .i64 (((i64.wrap (a0+a1))).tmod (2:Int))),.none,true):=by refine(Zym 1000 a0 a1).trans ?_;rfl
def Zk0:Con:=λargs h=>match args,h with|[.i .i64 a0,.i .i64 a1],[]=>some (.a (.i .i64 (((i64.wrap (a0+a1))).tmod (2:Int))),.none,true)|_,_=>none
theorem Zui:EntX prog 78:=Zal (fn:=f78)
theorem Yad:Uad mn prog 78 Zk0:=(ansY (N:=1000) mKn f78 []).of (by
 intro ρ h w args vals r e hA hH hr;unfold Zk0 at hr;split at hr
 ·rename_i a0 a1;obtain⟨rfl,rfl,hg2⟩:=BQi hr;exact Zw5 a0 a1 (hA.rng 0 rfl) (hA.rng 1 rfl) hg2
 ·cases hr)
def chW(S:Array Value)(t c:Int)(w:Nat):Int:=i64.wrap (num S (((3+(t.toNat*180))+(c.toNat*5))+w))
def gw(S:Array Value)(k:Nat):Nat->Int
 |0=>(k:Int)
 |1=>bif decide (6<=k) then (k:Int) - 6 else -1
 |2=>bif decide (((k % 6:Nat):Int)+1<num S 0) then (k:Int)+1 else -1
 |3=>bif decide (((k / 6:Nat):Int)+1<num S 1) then (k:Int)+6 else -1
 |_=>bif decide (1<=k % 6) then (k:Int) - 1 else -1
theorem w64{n:Int}(h: -1000<=n/\n<=1000):i64.wrap n=n:=IntWalk.i64_in n (by omega)
theorem in_eq(n lo hi:Int):Zaa n lo hi=decide (lo<=n/\n<=hi):=by
 unfold Zaa
 by_cases h1:lo<=n
 ·rw[Q3 (show n>=lo from h1)]
  by_cases h2:n<=hi
  ·rw[Q3 h2,Q3 (And.intro h1 h2)];rfl
  ·rw[Q4 h2,Q4 (show ¬(lo<=n/\n<=hi) from λh=>h2 h.2)];rfl
 ·rw[Q4 (show ¬n>=lo from h1),Q4 (show ¬(lo<=n/\n<=hi) from λh=>h1 h.1)];rfl
theorem Yg7{w h:Int}{k:Nat}(hi:inC w h k=true):((k % 6:Nat):Int)<w/\((k / 6:Nat):Int)<h:=by unfold inC at hi;simp only[Q7,decide_eq_true_eq]at hi;exact hi
theorem xy{k:Nat}(hk:k<36):((k:Int)).tmod 6=((k % 6:Nat):Int)/\((k:Int)).tdiv 6=((k / 6:Nat):Int):=by
 constructor
 ·rw[Int.tmod_eq_emod_of_nonneg (by omega)];omega
 ·rw[Int.tdiv_eq_ediv_of_nonneg (by omega)];omega
theorem Zy7{S:Array Value}(h0:1<=num S 0/\num S 0<=6/\1<=num S 1/\num S 1<=6){k:Nat}(hk:k<36)(hi:inC (num S 0) (num S 1) k=true)(w:Nat)(hw:w<5):Zai (k:Int) (w:Int) S=gw S k w:=by
 obtain⟨a1,a2,a3,a4⟩:=h0;obtain⟨hx,hy⟩:=Yg7 hi;obtain⟨ex,ey⟩:=xy hk;have hxl:k % 6<6:=Nat.mod_lt _ (by omega);have hyl:k / 6<6:=by omega
 have hk6:k=6*(k / 6)+k % 6:=by omega
 unfold Zai;simp only[in_eq,ex,ey];rw[w64 (n:=num S 0) (by omega),w64 (n:=num S 1) (by omega),w64 (n:=num S 0 - 1) (by omega),w64 (n:=num S 1 - 1) (by omega),w64 (n:=((k / 6:Nat):Int)) (by omega),w64 (n:=((k / 6:Nat):Int) - 1) (by omega),w64 (n:=((k / 6:Nat):Int)+1) (by omega),w64 (n:=((k % 6:Nat):Int) - 1) (by omega),w64 (n:=((k % 6:Nat):Int)+1) (by omega),w64 (n:=6*((k / 6:Nat):Int)) (by omega),w64 (n:=6*(((k / 6:Nat):Int) - 1)) (by omega),w64 (n:=6*(((k / 6:Nat):Int)+1)) (by omega)];have b0:decide (0<=((k % 6:Nat):Int)/\((k % 6:Nat):Int)<=num S 0 - 1)=true:=Q3 (by omega);have b1:decide (0<=((k / 6:Nat):Int)/\((k / 6:Nat):Int)<=num S 1 - 1)=true:=Q3 (by omega);generalize hX:k % 6=X at *;generalize hY:k / 6=Y at *
 match w,hw with
 |0,_=>
  show (bif ((0:Int)==1) then _ else (bif ((0:Int)==2) then _ else (bif ((0:Int)==3) then _ else (bif ((0:Int)==4) then _ else _))))=_
  simp only[show ((0:Int)==1)=false from rfl,show ((0:Int)==2)=false from rfl,show ((0:Int)==3)=false from rfl,show ((0:Int)==4)=false from rfl,Q2,b0,b1,jA];rw[w64 (by omega)];show _=(k:Int);omega
 | 1,_=>
  simp only[show (((1:Nat):Int)==1)=true from rfl,Q1,b0,jA,Q2];unfold gw
  by_cases c:1<=Y
  ·rw[Q3 (show 0<=((Y:Nat):Int) - 1/\((Y:Nat):Int) - 1<=num S 1 - 1 by omega),Q3 (show 6<=k by omega)];simp only[jA,Q2,Q1];rw[w64 (by omega)];omega
  ·rw[Q4 (show ¬(0<=((Y:Nat):Int) - 1/\((Y:Nat):Int) - 1<=num S 1 - 1) by omega),Q4 (show ¬6<=k by omega)];rfl
 | 2,_=>
  simp only[show (((2:Nat):Int)==1)=false from rfl,show (((2:Nat):Int)==2)=true from rfl,Q1,b1,jA,Q2];unfold gw;rw[hX]
  by_cases c:((X:Nat):Int)+1<num S 0
  ·rw[Q3 (show 0<=((X:Nat):Int)+1/\((X:Nat):Int)+1<=num S 0 - 1 by omega),Q3 c];simp only[jA,Q2,Q1];rw[w64 (by omega)];omega
  ·rw[Q4 (show ¬(0<=((X:Nat):Int)+1/\((X:Nat):Int)+1<=num S 0 - 1) by omega),Q4 c];rfl
 | 3,_=>
  simp only[show (((3:Nat):Int)==1)=false from rfl,show (((3:Nat):Int)==2)=false from rfl,show (((3:Nat):Int)==3)=true from rfl,Q1,b0,jA,Q2];unfold gw;rw[hY]
  by_cases c:((Y:Nat):Int)+1<num S 1
  ·rw[Q3 (show 0<=((Y:Nat):Int)+1/\((Y:Nat):Int)+1<=num S 1 - 1 by omega),Q3 c];simp only[jA,Q2,Q1];rw[w64 (by omega)];omega
  ·rw[Q4 (show ¬(0<=((Y:Nat):Int)+1/\((Y:Nat):Int)+1<=num S 1 - 1) by omega),Q4 c];rfl
 | 4,_=>
  simp only[show (((4:Nat):Int)==1)=false from rfl,show (((4:Nat):Int)==2)=false from rfl,show (((4:Nat):Int)==3)=false from rfl,show (((4:Nat):Int)==4)=true from rfl,Q1,b1,jA,Q2];unfold gw;rw[hX]
  by_cases c:1<=X
  ·rw[Q3 (show 0<=((X:Nat):Int) - 1/\((X:Nat):Int) - 1<=num S 0 - 1 by omega),Q3 c];simp only[jA,Q2,Q1];rw[w64 (by omega)];omega
  ·rw[Q4 (show ¬(0<=((X:Nat):Int) - 1/\((X:Nat):Int) - 1<=num S 0 - 1) by omega),Q4 c];rfl
theorem Zxq{S:Array Value}(h0:1<=num S 0/\num S 0<=6/\1<=num S 1/\num S 1<=6){k:Nat}(hk:k<36)(hi:inC (num S 0) (num S 1) k=true)(w:Nat)(hw:w<5)(hn:gw S k w ≠ -1):0<=gw S k w/\gw S k w<36:=by
 obtain⟨hx,hy⟩:=Yg7 hi;obtain⟨a1,a2,a3,a4⟩:=h0;have hk6:k=6*(k / 6)+k % 6:=by omega
 match w,hw with
 |0,_=>exact⟨by show 0<=(k:Int);omega,by show (k:Int)<36;omega⟩
 |1,_=>
  unfold gw at hn|-
  by_cases c:6<=k
  ·simp only[c,decide_true,Q1];omega
  ·simp[c]at hn
 |2,_=>
  unfold gw at hn|-
  by_cases c:((k % 6:Nat):Int)+1<num S 0
  ·simp only[Q3 c,Q1];omega
  ·simp only[Q4 c,Q2]at hn;exact absurd rfl hn
 |3,_=>
  unfold gw at hn|-
  by_cases c:((k / 6:Nat):Int)+1<num S 1
  ·simp only[Q3 c,Q1];omega
  ·simp only[Q4 c,Q2]at hn;exact absurd rfl hn
 |4,_=>
  unfold gw at hn|-
  by_cases c:1<=k % 6
  ·simp only[c,decide_true,Q1];omega
  ·simp[c]at hn
def Zf0:Cons:=(mkΓ [(54,con Zg0),(55,con Zhp),(70,con Zii),(83,con Zkc),(85,con Zh1),(86,con Zhb),(87,con Zhx),(88,con Zg6),(89,con Zhy)])
def toP(c:Int):Nat->Array Value
 |0=>#[.int .i64 (c.tmod 6),.int .i64 (i64.wrap (c.tdiv 6))]
 |1=>#[.int .i64 (c.tmod 6),.int .i64 (i64.wrap (i64.wrap (c.tdiv 6) - 1))]
 |2=>#[.int .i64 (i64.wrap (c.tmod 6+1)),.int .i64 (i64.wrap (c.tdiv 6))]
 |3=>#[.int .i64 (c.tmod 6),.int .i64 (i64.wrap (i64.wrap (c.tdiv 6)+1))]
 |_=>#[.int .i64 (i64.wrap (c.tmod 6 - 1)),.int .i64 (i64.wrap (c.tdiv 6))]
def Ua3(S:Array Value)(c:Int)(w:Nat):Int:=bif Zas S (toP c w) then i64.wrap (num (toP c w) 0+i64.wrap (6*num (toP c w) 1)) else -1
theorem Zuh(a0:Array Value)(a1 a2:Int)(h_a0:WT prog 35 a0)(h_a1:i64.min<=a1/\a1<=i64.max)(h_a2:i64.min<=a2/\a2<=i64.max)(hg:((decide (0<=a2)&&decide (a2<5)))=true):ansV prog Zf0 1000 f80 [] [.g a0 35,.i .i64 a1,.i .i64 a2] []=some (.a (.i .i64 (Ua3 a0 a1 a2.toNat)),.none,true):=by
 simp only[Q7,decide_eq_true_eq]at hg;obtain⟨h0,h5⟩:=hg;obtain⟨w,rfl⟩:=Int.eq_ofNat_of_zero_le h0
 match w,h5 with
 |0,_=>
  have h:ansV prog Zf0 1000 f80 [] [.g a0 35,.i .i64 a1,.i .i64 ((0:Nat):Int)] []=(bif (!(Zas a0 (toP a1 0))) then (some (.a (.i .i64 (-1:Int)),.none,true)) else (some (.a (.i .i64 (i64.wrap (num (toP a1 0) 0+i64.wrap (6*num (toP a1 0) 1)))),.none,true))):=by kernel_rfl
  refine h.trans ?_;rw[Q9];unfold Ua3;cases Zas a0 (toP a1 0)<;>rfl
 |1,_=>
  have h:ansV prog Zf0 1000 f80 [] [.g a0 35,.i .i64 a1,.i .i64 ((1:Nat):Int)] []=(bif (!(Zas a0 (toP a1 1))) then (some (.a (.i .i64 (-1:Int)),.none,true)) else (some (.a (.i .i64 (i64.wrap (num (toP a1 1) 0+i64.wrap (6*num (toP a1 1) 1)))),.none,true))):=by kernel_rfl
  refine h.trans ?_;rw[Q9];unfold Ua3;cases Zas a0 (toP a1 1)<;>rfl
 |2,_=>
  have h:ansV prog Zf0 1000 f80 [] [.g a0 35,.i .i64 a1,.i .i64 ((2:Nat):Int)] []=(bif (!(Zas a0 (toP a1 2))) then (some (.a (.i .i64 (-1:Int)),.none,true)) else (some (.a (.i .i64 (i64.wrap (num (toP a1 2) 0+i64.wrap (6*num (toP a1 2) 1)))),.none,true))):=by kernel_rfl
  refine h.trans ?_;rw[Q9];unfold Ua3;cases Zas a0 (toP a1 2)<;>rfl
 |3,_=>
  have h:ansV prog Zf0 1000 f80 [] [.g a0 35,.i .i64 a1,.i .i64 ((3:Nat):Int)] []=(bif (!(Zas a0 (toP a1 3))) then (some (.a (.i .i64 (-1:Int)),.none,true)) else (some (.a (.i .i64 (i64.wrap (num (toP a1 3) 0+i64.wrap (6*num (toP a1 3) 1)))),.none,true))):=by kernel_rfl
  refine h.trans ?_;rw[Q9];unfold Ua3;cases Zas a0 (toP a1 3)<;>rfl
 |4,_=>
  have h:ansV prog Zf0 1000 f80 [] [.g a0 35,.i .i64 a1,.i .i64 ((4:Nat):Int)] []=(bif (!(Zas a0 (toP a1 4))) then (some (.a (.i .i64 (-1:Int)),.none,true)) else (some (.a (.i .i64 (i64.wrap (num (toP a1 4) 0+i64.wrap (6*num (toP a1 4) 1)))),.none,true))):=by kernel_rfl
  refine h.trans ?_;rw[Q9];unfold Ua3;cases Zas a0 (toP a1 4)<;>rfl
 |_+5,h=>omega
def Zjz:Con:=λargs h=>match args,h with|[.g a0 35,.i .i64 a1,.i .i64 a2],[]=>some (.a (.i .i64 (Ua3 a0 a1 a2.toNat)),.none,(decide (0<=a2)&&decide (a2<5)))|_,_=>none
theorem Zs8:EntX prog 80:=Zal (fn:=f80)
theorem Zza:Uad mn prog 80 Zjz:=(ansY (N:=1000) (mKc (Zah Znm) Zkn (mKc (Zah Zot) Zlj (mKc (Zah Zq3) Zme (mKc (Zah Zyg) Zs7 (mKc (Zah Zsk) Zol (mKc (Zah Zr0) Zns (mKc (Zah Zt0) Zn7 (mKc (Zah Zrg) Znq (mKc (Zah Zta) Zn9 mKn))))))))) f80 []).of (by
 intro ρ h w args vals r e hA hH hr;unfold Zjz at hr;split at hr
 ·rename_i a0 a1 a2;obtain⟨rfl,rfl,hg2⟩:=BQi hr;exact Zuh a0 a1 a2 (hA.wt 0 rfl) (hA.rng 1 rfl) (hA.rng 2 rfl) hg2
 ·cases hr)
theorem Zsh{S:Array Value}(h0:1<=num S 0/\num S 0<=6/\1<=num S 1/\num S 1<=6)(x y:Int)(hx: -10<=x/\x<=10)(hy: -10<=y/\y<=10):Zas S #[.int .i64 x,.int .i64 y]=decide (0<=x/\x<num S 0/\0<=y/\y<num S 1):=by
 show (bif decide (x>=0) then (bif decide (x<i64.wrap (num S 0)) then (bif decide (y>=0) then decide (y<i64.wrap (num S 1)) else false) else false) else false)=_
 rw[w64 (n:=num S 0) (by omega),w64 (n:=num S 1) (by omega)]
 by_cases h1:0<=x
 ·rw[Q3 (show x>=0 from h1)]
  by_cases h2:x<num S 0
  ·rw[Q3 h2]
   by_cases h3:0<=y
   ·rw[Q3 (show y>=0 from h3),Q1,Q1,Q1];exact decide_eq_decide.2 ⟨λh=>⟨h1,h2,h3,h⟩,λh=>h.2.2.2⟩
   ·rw[Q4 (show ¬y>=0 from h3),Q4 (show ¬(0<=x/\x<num S 0/\0<=y/\y<num S 1) by omega)];rfl
  ·rw[Q4 h2,Q4 (show ¬(0<=x/\x<num S 0/\0<=y/\y<num S 1) by omega)];rfl
 ·rw[Q4 (show ¬x>=0 from h1),Q4 (show ¬(0<=x/\x<num S 0/\0<=y/\y<num S 1) by omega)];rfl
theorem Ykk{S:Array Value}(h0:1<=num S 0/\num S 0<=6/\1<=num S 1/\num S 1<=6){k:Nat}(hk:k<36)(hi:inC (num S 0) (num S 1) k=true)(w:Nat)(hw:w<5):Ua3 S (k:Int) w=gw S k w:=by
 obtain⟨hx,hy⟩:=Yg7 hi;obtain⟨ex,ey⟩:=xy hk;have hxl:k % 6<6:=Nat.mod_lt _ (by omega);have hyl:k / 6<6:=by omega
 have hk6:k=6*(k / 6)+k % 6:=by omega
 unfold Ua3
 match w,hw with
 |0,_=>
  simp only[toP];rw[ex,ey,w64 (n:=((k / 6:Nat):Int)) (by omega),Zsh h0 _ _ (by omega) (by omega),Q3 (by omega)]
  show i64.wrap (((k % 6:Nat):Int)+i64.wrap (6*((k / 6:Nat):Int)))=(k:Int)
  rw[w64 (n:=6*((k / 6:Nat):Int)) (by omega),w64 (by omega)];omega
 | 1,_=>
  simp only[toP,gw];rw[ex,ey,w64 (n:=((k / 6:Nat):Int)) (by omega),w64 (n:=((k / 6:Nat):Int) - 1) (by omega),Zsh h0 _ _ (by omega) (by omega)]
  by_cases c:6<=k
  ·rw[Q3 (show 0<=((k % 6:Nat):Int)/\((k % 6:Nat):Int)<num S 0/\0<=((k / 6:Nat):Int) - 1/\((k / 6:Nat):Int) - 1<num S 1 by omega),Q3 c]
   show i64.wrap (((k % 6:Nat):Int)+i64.wrap (6*(((k / 6:Nat):Int) - 1)))=(k:Int) - 6
   rw[w64 (n:=6*(((k / 6:Nat):Int) - 1)) (by omega),w64 (by omega)];omega
  ·rw[Q4 (show ¬(0<=((k % 6:Nat):Int)/\((k % 6:Nat):Int)<num S 0/\0<=((k / 6:Nat):Int) - 1/\((k / 6:Nat):Int) - 1<num S 1) by omega),Q4 c];rfl
 | 2,_=>
  simp only[toP,gw];rw[ex,ey,w64 (n:=((k / 6:Nat):Int)) (by omega),w64 (n:=((k % 6:Nat):Int)+1) (by omega),Zsh h0 _ _ (by omega) (by omega)]
  by_cases c:((k % 6:Nat):Int)+1<num S 0
  ·rw[Q3 (show 0<=((k % 6:Nat):Int)+1/\((k % 6:Nat):Int)+1<num S 0/\0<=((k / 6:Nat):Int)/\((k / 6:Nat):Int)<num S 1 by omega),Q3 c]
   show i64.wrap (((k % 6:Nat):Int)+1+i64.wrap (6*((k / 6:Nat):Int)))=(k:Int)+1
   rw[w64 (n:=6*((k / 6:Nat):Int)) (by omega),w64 (by omega)];omega
  ·rw[Q4 (show ¬(0<=((k % 6:Nat):Int)+1/\((k % 6:Nat):Int)+1<num S 0/\0<=((k / 6:Nat):Int)/\((k / 6:Nat):Int)<num S 1) by omega),Q4 c];rfl
 | 3,_=>
  simp only[toP,gw];rw[ex,ey,w64 (n:=((k / 6:Nat):Int)) (by omega),w64 (n:=((k / 6:Nat):Int)+1) (by omega),Zsh h0 _ _ (by omega) (by omega)]
  by_cases c:((k / 6:Nat):Int)+1<num S 1
  ·rw[Q3 (show 0<=((k % 6:Nat):Int)/\((k % 6:Nat):Int)<num S 0/\0<=((k / 6:Nat):Int)+1/\((k / 6:Nat):Int)+1<num S 1 by omega),Q3 c]
   show i64.wrap (((k % 6:Nat):Int)+i64.wrap (6*(((k / 6:Nat):Int)+1)))=(k:Int)+6
   rw[w64 (n:=6*(((k / 6:Nat):Int)+1)) (by omega),w64 (by omega)];omega
  ·rw[Q4 (show ¬(0<=((k % 6:Nat):Int)/\((k % 6:Nat):Int)<num S 0/\0<=((k / 6:Nat):Int)+1/\((k / 6:Nat):Int)+1<num S 1) by omega),Q4 c];rfl
 | 4,_=>
  simp only[toP,gw];rw[ex,ey,w64 (n:=((k / 6:Nat):Int)) (by omega),w64 (n:=((k % 6:Nat):Int) - 1) (by omega),Zsh h0 _ _ (by omega) (by omega)]
  by_cases c:1<=k % 6
  ·rw[Q3 (show 0<=((k % 6:Nat):Int) - 1/\((k % 6:Nat):Int) - 1<num S 0/\0<=((k / 6:Nat):Int)/\((k / 6:Nat):Int)<num S 1 by omega),Q3 c]
   show i64.wrap (((k % 6:Nat):Int) - 1+i64.wrap (6*((k / 6:Nat):Int)))=(k:Int) - 1
   rw[w64 (n:=6*((k / 6:Nat):Int)) (by omega),w64 (by omega)];omega
  ·rw[Q4 (show ¬(0<=((k % 6:Nat):Int) - 1/\((k % 6:Nat):Int) - 1<num S 0/\0<=((k / 6:Nat):Int)/\((k / 6:Nat):Int)<num S 1) by omega),Q4 c];rfl
end
end Go.Proofs.YtefjogahegolbaaDoor
