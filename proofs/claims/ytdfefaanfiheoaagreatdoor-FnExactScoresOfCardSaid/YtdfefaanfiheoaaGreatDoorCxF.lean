/- Where the ways of a cell lead, in company. -/
import Derived.Test.YtdfefaanfiheoaaGreatDoorProg
import Derived.Test.YtdfefaanfiheoaaGreatDoorCxE
set_option linter.unusedVariables false
set_option linter.unusedSimpArgs false
open _root_.Bool renaming not_true->jA
namespace Go.Proofs.YtdfefaanfiheoaaGreatDoor
open Tryz (f121 f122 f123 f124 f125 f126 f127 f128 f129)
open Go.ChangeShapes Go.WideShapes Go.ChangeAt Go.RowKit Ve Vc
open Tryz renaming prog -> PZ
open IntKind (i64)
set_option maxRecDepth 100000
noncomputable section
variable {mn:Md}
theorem Yct(N:Nat)(a1 a2:Int)(a0:Array Value):ansV PZ (mkΓ [(47,con Zb4)]) N f123 [] [.w 0,.i .i64 (a1),.i .i64 (a2)] [.row a0 37]=(bif (a2==(1:Int)) then (bif (!((Zaa ((a1).tmod (6:Int)) (0:Int) (i64.wrap ((i64.wrap (num a0 0)) - (1:Int)))))) then (some (.a (.i .i64 (-1:Int)),.none,true))
      else (bif (!((Zaa (i64.wrap ((i64.wrap ((a1).tdiv (6:Int))) - (1:Int))) (0:Int) (i64.wrap ((i64.wrap (num a0 1)) - (1:Int)))))) then (some (.a (.i .i64 (-1:Int)),.none,true))
        else (some (.a (.i .i64 (i64.wrap (((a1).tmod (6:Int))+(i64.wrap ((6:Int)*(i64.wrap ((i64.wrap ((a1).tdiv (6:Int))) - (1:Int)))))))),.none,true))))
    else (bif (a2==(2:Int)) then (bif (!((Zaa (i64.wrap (((a1).tmod (6:Int))+(1:Int))) (0:Int) (i64.wrap ((i64.wrap (num a0 0)) - (1:Int)))))) then (some (.a (.i .i64 (-1:Int)),.none,true))
        else (bif (!((Zaa (i64.wrap ((a1).tdiv (6:Int))) (0:Int) (i64.wrap ((i64.wrap (num a0 1)) - (1:Int)))))) then (some (.a (.i .i64 (-1:Int)),.none,true))
          else (some (.a (.i .i64 (i64.wrap ((i64.wrap (((a1).tmod (6:Int))+(1:Int)))+(i64.wrap ((6:Int)*(i64.wrap ((a1).tdiv (6:Int)))))))),.none,true))))
      else (bif (a2==(3:Int)) then (bif (!((Zaa ((a1).tmod (6:Int)) (0:Int) (i64.wrap ((i64.wrap (num a0 0)) - (1:Int)))))) then (some (.a (.i .i64 (-1:Int)),.none,true))
          else (bif (!((Zaa (i64.wrap ((i64.wrap ((a1).tdiv (6:Int)))+(1:Int))) (0:Int) (i64.wrap ((i64.wrap (num a0 1)) - (1:Int)))))) then (some (.a (.i .i64 (-1:Int)),.none,true))
            else (some (.a (.i .i64 (i64.wrap (((a1).tmod (6:Int))+(i64.wrap ((6:Int)*(i64.wrap ((i64.wrap ((a1).tdiv (6:Int)))+(1:Int)))))))),.none,true))))
        else (bif (a2==(4:Int)) then (bif (!((Zaa (i64.wrap (((a1).tmod (6:Int)) - (1:Int))) (0:Int) (i64.wrap ((i64.wrap (num a0 0)) - (1:Int)))))) then (some (.a (.i .i64 (-1:Int)),.none,true))
            else (bif (!((Zaa (i64.wrap ((a1).tdiv (6:Int))) (0:Int) (i64.wrap ((i64.wrap (num a0 1)) - (1:Int)))))) then (some (.a (.i .i64 (-1:Int)),.none,true))
              else (some (.a (.i .i64 (i64.wrap ((i64.wrap (((a1).tmod (6:Int)) - (1:Int)))+(i64.wrap ((6:Int)*(i64.wrap ((a1).tdiv (6:Int)))))))),.none,true))))
          else (bif (!((Zaa ((a1).tmod (6:Int)) (0:Int) (i64.wrap ((i64.wrap (num a0 0)) - (1:Int)))))) then (some (.a (.i .i64 (-1:Int)),.none,true))
            else (bif (!((Zaa (i64.wrap ((a1).tdiv (6:Int))) (0:Int) (i64.wrap ((i64.wrap (num a0 1)) - (1:Int)))))) then (some (.a (.i .i64 (-1:Int)),.none,true))
              else (some (.a (.i .i64 (i64.wrap (((a1).tmod (6:Int))+(i64.wrap ((6:Int)*(i64.wrap ((a1).tdiv (6:Int)))))))),.none,true)))))))):=by kernel_rfl
def Zaf(a1 a2:Int)(a0:Array Value):Int:=(bif (a2==(1:Int)) then (bif (!((Zaa ((a1).tmod (6:Int)) (0:Int) (i64.wrap ((i64.wrap (num a0 0)) - (1:Int)))))) then (-1:Int) else (bif (!((Zaa (i64.wrap ((i64.wrap ((a1).tdiv (6:Int))) - (1:Int))) (0:Int) (i64.wrap ((i64.wrap (num a0 1)) - (1:Int)))))) then (-1:Int) else (i64.wrap (((a1).tmod (6:Int))+(i64.wrap ((6:Int)*(i64.wrap ((i64.wrap ((a1).tdiv (6:Int))) - (1:Int))))))))) else (bif (a2==(2:Int)) then (bif (!((Zaa (i64.wrap (((a1).tmod (6:Int))+(1:Int))) (0:Int) (i64.wrap ((i64.wrap (num a0 0)) - (1:Int)))))) then (-1:Int) else (bif (!((Zaa (i64.wrap ((a1).tdiv (6:Int))) (0:Int) (i64.wrap ((i64.wrap (num a0 1)) - (1:Int)))))) then (-1:Int) else (i64.wrap ((i64.wrap (((a1).tmod (6:Int))+(1:Int)))+(i64.wrap ((6:Int)*(i64.wrap ((a1).tdiv (6:Int))))))))) else (bif (a2==(3:Int)) then (bif (!((Zaa ((a1).tmod (6:Int)) (0:Int) (i64.wrap ((i64.wrap (num a0 0)) - (1:Int)))))) then (-1:Int) else (bif (!((Zaa (i64.wrap ((i64.wrap ((a1).tdiv (6:Int)))+(1:Int))) (0:Int) (i64.wrap ((i64.wrap (num a0 1)) - (1:Int)))))) then (-1:Int) else (i64.wrap (((a1).tmod (6:Int))+(i64.wrap ((6:Int)*(i64.wrap ((i64.wrap ((a1).tdiv (6:Int)))+(1:Int))))))))) else (bif (a2==(4:Int)) then (bif (!((Zaa (i64.wrap (((a1).tmod (6:Int)) - (1:Int))) (0:Int) (i64.wrap ((i64.wrap (num a0 0)) - (1:Int)))))) then (-1:Int) else (bif (!((Zaa (i64.wrap ((a1).tdiv (6:Int))) (0:Int) (i64.wrap ((i64.wrap (num a0 1)) - (1:Int)))))) then (-1:Int) else (i64.wrap ((i64.wrap (((a1).tmod (6:Int)) - (1:Int)))+(i64.wrap ((6:Int)*(i64.wrap ((a1).tdiv (6:Int))))))))) else (bif (!((Zaa ((a1).tmod (6:Int)) (0:Int) (i64.wrap ((i64.wrap (num a0 0)) - (1:Int)))))) then (-1:Int) else (bif (!((Zaa (i64.wrap ((a1).tdiv (6:Int))) (0:Int) (i64.wrap ((i64.wrap (num a0 1)) - (1:Int)))))) then (-1:Int) else (i64.wrap (((a1).tmod (6:Int))+(i64.wrap ((6:Int)*(i64.wrap ((a1).tdiv (6:Int)))))))))))))
theorem Zz4(a1 a2:Int)(a0:Array Value)(h_a1:i64.min<=a1/\a1<=i64.max)(h_a2:i64.min<=a2/\a2<=i64.max)(h_a0:WT PZ 37 a0)(hg:(true)=true):ansV PZ (mkΓ [(47,con Zb4)]) 1000 f123 [] [.w 0,.i .i64 (a1),.i .i64 (a2)] [.row a0 37]=some (.a (.i .i64 (Zaf a1 a2 a0)),.none,true):=by
 refine(Yct 1000 a1 a2 a0).trans ?_;unfold Zaf;revert hg;generalize ((a2==(1:Int)))=b2;intro hg;cases b2
 ·skip
  revert hg;generalize ((a2==(2:Int)))=b4;intro hg;cases b4
  ·skip
   revert hg;generalize ((a2==(3:Int)))=b6;intro hg;cases b6
   ·skip
    revert hg;generalize ((a2==(4:Int)))=b8;intro hg;cases b8
    ·skip
     revert hg;generalize ((!((Zaa ((a1).tmod (6:Int)) (0:Int) (i64.wrap ((i64.wrap (num a0 0)) - (1:Int)))))))=b10;intro hg;cases b10
     ·skip
      revert hg;generalize ((!((Zaa (i64.wrap ((a1).tdiv (6:Int))) (0:Int) (i64.wrap ((i64.wrap (num a0 1)) - (1:Int)))))))=b12;intro hg;cases b12
      ·skip
       first | (simp only[Q1,Q2,BQ6];done)|rfl|exact(nomatch (hg:false=true))
      ·skip
       first | (simp only[Q1,Q2,BQ6];done)|rfl|exact(nomatch (hg:false=true))
     ·skip
      first | (simp only[Q1,Q2,BQ6];done)|rfl|exact(nomatch (hg:false=true))
    ·skip
     revert hg;generalize ((!((Zaa (i64.wrap (((a1).tmod (6:Int)) - (1:Int))) (0:Int) (i64.wrap ((i64.wrap (num a0 0)) - (1:Int)))))))=b10;intro hg;cases b10
     ·skip
      revert hg;generalize ((!((Zaa (i64.wrap ((a1).tdiv (6:Int))) (0:Int) (i64.wrap ((i64.wrap (num a0 1)) - (1:Int)))))))=b12;intro hg;cases b12
      ·skip
       first | (simp only[Q1,Q2,BQ6];done)|rfl|exact(nomatch (hg:false=true))
      ·skip
       first | (simp only[Q1,Q2,BQ6];done)|rfl|exact(nomatch (hg:false=true))
     ·skip
      first | (simp only[Q1,Q2,BQ6];done)|rfl|exact(nomatch (hg:false=true))
   ·skip
    revert hg;generalize ((!((Zaa ((a1).tmod (6:Int)) (0:Int) (i64.wrap ((i64.wrap (num a0 0)) - (1:Int)))))))=b8;intro hg;cases b8
    ·skip
     revert hg;generalize ((!((Zaa (i64.wrap ((i64.wrap ((a1).tdiv (6:Int)))+(1:Int))) (0:Int) (i64.wrap ((i64.wrap (num a0 1)) - (1:Int)))))))=b10;intro hg;cases b10
     ·skip
      first | (simp only[Q1,Q2,BQ6];done)|rfl|exact(nomatch (hg:false=true))
     ·skip
      first | (simp only[Q1,Q2,BQ6];done)|rfl|exact(nomatch (hg:false=true))
    ·skip
     first | (simp only[Q1,Q2,BQ6];done)|rfl|exact(nomatch (hg:false=true))
  ·skip
   revert hg;generalize ((!((Zaa (i64.wrap (((a1).tmod (6:Int))+(1:Int))) (0:Int) (i64.wrap ((i64.wrap (num a0 0)) - (1:Int)))))))=b6;intro hg;cases b6
   ·skip
    revert hg;generalize ((!((Zaa (i64.wrap ((a1).tdiv (6:Int))) (0:Int) (i64.wrap ((i64.wrap (num a0 1)) - (1:Int)))))))=b8;intro hg;cases b8
    ·skip
     first | (simp only[Q1,Q2,BQ6];done)|rfl|exact(nomatch (hg:false=true))
    ·skip
     first | (simp only[Q1,Q2,BQ6];done)|rfl|exact(nomatch (hg:false=true))
   ·skip
    first | (simp only[Q1,Q2,BQ6];done)|rfl|exact(nomatch (hg:false=true))
 ·skip
  revert hg;generalize ((!((Zaa ((a1).tmod (6:Int)) (0:Int) (i64.wrap ((i64.wrap (num a0 0)) - (1:Int)))))))=b4;intro hg;cases b4
  ·skip
   revert hg;generalize ((!((Zaa (i64.wrap ((i64.wrap ((a1).tdiv (6:Int))) - (1:Int))) (0:Int) (i64.wrap ((i64.wrap (num a0 1)) - (1:Int)))))))=b6;intro hg;cases b6
   ·skip
    first | (simp only[Q1,Q2,BQ6];done)|rfl|exact(nomatch (hg:false=true))
   ·skip
    first | (simp only[Q1,Q2,BQ6];done)|rfl|exact(nomatch (hg:false=true))
  ·skip
   first | (simp only[Q1,Q2,BQ6];done)|rfl|exact(nomatch (hg:false=true))
def Zl5:Con:=λargs h=>match args,h with
 |[.w 0,.i .i64 a1,.i .i64 a2],[.row a0 37]=>some (.a (.i .i64 (Zaf a1 a2 a0)),.none,true)
 |_,_=>none
theorem Zy1:EntX PZ 123:=Zah (fn:=f123)
theorem Ydt:Uac mn PZ 123 Zl5:=(ansY (N:=1000) (mKc (Zae Zkw) Zgx mKn) f123 []).of (by
 intro ρ h w args vals r e hA hH hr;unfold Zl5 at hr;split at hr
 ·rename_i a1 a2 a0
  obtain⟨rfl,rfl,hg2⟩:=BQi hr;exact Zz4 a1 a2 a0 (hA.rng 1 rfl) (hA.rng 2 rfl) (hH.wt 0 rfl) hg2
 ·cases hr)
theorem Yc3(N:Nat):ansV PZ (mkΓ []) N f124 [] [] []=(some (.a (.g #[.func (.func 125) #[] #[],.func (.func 126) #[] #[],.func (.func 127) #[] #[],.func (.func 128) #[] #[],.func (.func 129) #[] #[]] 182),.none,true)):=by kernel_rfl
theorem Zz7  (hg:(true)=true):ansV PZ (mkΓ []) 1000 f124 [] [] []=some (.a (.g #[.func (.func 125) #[] #[],.func (.func 126) #[] #[],.func (.func 127) #[] #[],.func (.func 128) #[] #[],.func (.func 129) #[] #[]] 182),.none,true):=by refine(Yc3 1000 ).trans ?_;rfl
def Zmc:Con:=λargs h=>match args,h with
 |[],[]=>some (.a (.g #[.func (.func 125) #[] #[],.func (.func 126) #[] #[],.func (.func 127) #[] #[],.func (.func 128) #[] #[],.func (.func 129) #[] #[]] 182),.none,true)
 |_,_=>none
theorem Zyc:EntX PZ 124:=Zah (fn:=f124)
theorem Yd7:Uac mn PZ 124 Zmc:=(ansY (N:=1000) mKn f124 []).of (by
 intro ρ h w args vals r e hA hH hr;unfold Zmc at hr;split at hr
 ·obtain⟨rfl,rfl,hg2⟩:=BQi hr
  exact Zz7 hg2
 ·cases hr)
theorem Zu6(N:Nat)(a0:Array Value):ansV PZ (mkΓ []) N f125 [] [.g a0 151] []=(some (.a (.g a0 151),.none,true)):=by kernel_rfl
theorem Ztg(a0:Array Value)(h_a0:WT PZ 151 a0)(hg:(true)=true):ansV PZ (mkΓ []) 1000 f125 [] [.g a0 151] []=some (.a (.g a0 151),.none,true):=by refine(Zu6 1000 a0).trans ?_;rfl
def Zjg:Con:=λargs h=>match args,h with
 |[.g a0 151],[]=>some (.a (.g a0 151),.none,true)
 |_,_=>none
theorem Zr7:EntX PZ 125:=Zah (fn:=f125)
theorem Zxu:Uac mn PZ 125 Zjg:=(ansY (N:=1000) mKn f125 []).of (by
 intro ρ h w args vals r e hA hH hr;unfold Zjg at hr;split at hr
 ·rename_i a0
  obtain⟨rfl,rfl,hg2⟩:=BQi hr;exact Ztg a0 (hA.wt 0 rfl) hg2
 ·cases hr)
theorem Ztz(N:Nat)(a0:Array Value):ansV PZ (mkΓ []) N f126 [] [.g a0 151] []=(some (.a (.g #[.int .i64 (num a0 0),.int .i64 (i64.wrap ((num a0 1) - (1:Int)))] 151),.none,true)):=by kernel_rfl
theorem Zsf(a0:Array Value)(h_a0:WT PZ 151 a0)(hg:(true)=true):ansV PZ (mkΓ []) 1000 f126 [] [.g a0 151] []=some (.a (.g #[.int .i64 (num a0 0),.int .i64 (i64.wrap ((num a0 1) - (1:Int)))] 151),.none,true):=by refine(Ztz 1000 a0).trans ?_;rfl
def Ziq:Con:=λargs h=>match args,h with
 |[.g a0 151],[]=>some (.a (.g #[.int .i64 (num a0 0),.int .i64 (i64.wrap ((num a0 1) - (1:Int)))] 151),.none,true)
 |_,_=>none
theorem Zqp:EntX PZ 126:=Zah (fn:=f126)
theorem Zuv:Uac mn PZ 126 Ziq:=(ansY (N:=1000) mKn f126 []).of (by
 intro ρ h w args vals r e hA hH hr;unfold Ziq at hr;split at hr
 ·rename_i a0
  obtain⟨rfl,rfl,hg2⟩:=BQi hr;exact Zsf a0 (hA.wt 0 rfl) hg2
 ·cases hr)
theorem Zup(N:Nat)(a0:Array Value):ansV PZ (mkΓ []) N f127 [] [.g a0 151] []=(some (.a (.g #[.int .i64 (i64.wrap ((num a0 0)+(1:Int))),.int .i64 (num a0 1)] 151),.none,true)):=by kernel_rfl
theorem Ztd(a0:Array Value)(h_a0:WT PZ 151 a0)(hg:(true)=true):ansV PZ (mkΓ []) 1000 f127 [] [.g a0 151] []=some (.a (.g #[.int .i64 (i64.wrap ((num a0 0)+(1:Int))),.int .i64 (num a0 1)] 151),.none,true):=by refine(Zup 1000 a0).trans ?_;rfl
def Zjo:Con:=λargs h=>match args,h with
 |[.g a0 151],[]=>some (.a (.g #[.int .i64 (i64.wrap ((num a0 0)+(1:Int))),.int .i64 (num a0 1)] 151),.none,true)
 |_,_=>none
theorem Zq7:EntX PZ 127:=Zah (fn:=f127)
theorem Zw0:Uac mn PZ 127 Zjo:=(ansY (N:=1000) mKn f127 []).of (by
 intro ρ h w args vals r e hA hH hr;unfold Zjo at hr;split at hr
 ·rename_i a0
  obtain⟨rfl,rfl,hg2⟩:=BQi hr;exact Ztd a0 (hA.wt 0 rfl) hg2
 ·cases hr)
theorem Ztu(N:Nat)(a0:Array Value):ansV PZ (mkΓ []) N f128 [] [.g a0 151] []=(some (.a (.g #[.int .i64 (num a0 0),.int .i64 (i64.wrap ((num a0 1)+(1:Int)))] 151),.none,true)):=by kernel_rfl
theorem Zrn(a0:Array Value)(h_a0:WT PZ 151 a0)(hg:(true)=true):ansV PZ (mkΓ []) 1000 f128 [] [.g a0 151] []=some (.a (.g #[.int .i64 (num a0 0),.int .i64 (i64.wrap ((num a0 1)+(1:Int)))] 151),.none,true):=by refine(Ztu 1000 a0).trans ?_;rfl
def Ziy:Con:=λargs h=>match args,h with
 |[.g a0 151],[]=>some (.a (.g #[.int .i64 (num a0 0),.int .i64 (i64.wrap ((num a0 1)+(1:Int)))] 151),.none,true)
 |_,_=>none
theorem Zqt:EntX PZ 128:=Zah (fn:=f128)
theorem Zv0:Uac mn PZ 128 Ziy:=(ansY (N:=1000) mKn f128 []).of (by
 intro ρ h w args vals r e hA hH hr;unfold Ziy at hr;split at hr
 ·rename_i a0
  obtain⟨rfl,rfl,hg2⟩:=BQi hr;exact Zrn a0 (hA.wt 0 rfl) hg2
 ·cases hr)
theorem Zuw(N:Nat)(a0:Array Value):ansV PZ (mkΓ []) N f129 [] [.g a0 151] []=(some (.a (.g #[.int .i64 (i64.wrap ((num a0 0) - (1:Int))),.int .i64 (num a0 1)] 151),.none,true)):=by kernel_rfl
theorem Ztl(a0:Array Value)(h_a0:WT PZ 151 a0)(hg:(true)=true):ansV PZ (mkΓ []) 1000 f129 [] [.g a0 151] []=some (.a (.g #[.int .i64 (i64.wrap ((num a0 0) - (1:Int))),.int .i64 (num a0 1)] 151),.none,true):=by refine(Zuw 1000 a0).trans ?_;rfl
def Zji:Con:=λargs h=>match args,h with
 |[.g a0 151],[]=>some (.a (.g #[.int .i64 (i64.wrap ((num a0 0) - (1:Int))),.int .i64 (num a0 1)] 151),.none,true)
 |_,_=>none
theorem Zru:EntX PZ 129:=Zah (fn:=f129)
theorem Zyf:Uac mn PZ 129 Zji:=(ansY (N:=1000) mKn f129 []).of (by
 intro ρ h w args vals r e hA hH hr;unfold Zji at hr;split at hr
 ·rename_i a0
  obtain⟨rfl,rfl,hg2⟩:=BQi hr;exact Ztl a0 (hA.wt 0 rfl) hg2
 ·cases hr)
theorem Ydm(N:Nat)(a0 a1:Int):ansV PZ (mkΓ []) N f121 [] [.i .i64 (a0),.i .i64 (a1)] []=(some (.a (.i .i64 (((i64.wrap (a0+a1))).tmod (2:Int))),.none,true)):=by kernel_rfl
theorem Ycu(a0 a1:Int)(h_a0:i64.min<=a0/\a0<=i64.max)(h_a1:i64.min<=a1/\a1<=i64.max)(hg:(true)=true):ansV PZ (mkΓ []) 1000 f121 [] [.i .i64 (a0),.i .i64 (a1)] []=some (.a (.i .i64 (((i64.wrap (a0+a1))).tmod (2:Int))),.none,true):=by refine(Ydm 1000 a0 a1).trans ?_;rfl
def Zna:Con:=λargs h=>match args,h with
 |[.i .i64 a0,.i .i64 a1],[]=>some (.a (.i .i64 (((i64.wrap (a0+a1))).tmod (2:Int))),.none,true)
 |_,_=>none
theorem Zzs:EntX PZ 121:=Zah (fn:=f121)
theorem Ygb:Uac mn PZ 121 Zna:=(ansY (N:=1000) mKn f121 []).of (by
 intro ρ h w args vals r e hA hH hr;unfold Zna at hr;split at hr
 ·rename_i a0 a1
  obtain⟨rfl,rfl,hg2⟩:=BQi hr;exact Ycu a0 a1 (hA.rng 0 rfl) (hA.rng 1 rfl) hg2
 ·cases hr)
def chW(S:Array Value)(t c:Int)(w:Nat):Int:=i64.wrap (num S (((3+(t.toNat*180))+(c.toNat*5))+w))
def gw(S:Array Value)(k:Nat):Nat->Int
 |0=>(k:Int)
 |1=>bif decide (6<=k) then (k:Int) - 6 else -1
 |2=>bif decide (((k % 6:Nat):Int)+1<num S 0) then (k:Int)+1 else -1
 |3=>bif decide (((k / 6:Nat):Int)+1<num S 1) then (k:Int)+6 else -1
 |_=>bif decide (1<=k % 6) then (k:Int) - 1 else -1
theorem w64{n:Int}(h: -1000<=n/\n<=1000):i64.wrap n=n:=IntWalk.i64_in n (by omega)
theorem in_eq(n lo hi:Int):Zaa n lo hi=decide (lo<=n/\n<=hi):=by
 unfold Zaa
 by_cases h1:lo<=n
 ·rw[Q3 (show n>=lo from h1)]
  by_cases h2:n<=hi
  ·rw[Q3 h2,Q3 (And.intro h1 h2)];rfl
  ·rw[Q4 h2,Q4 (show ¬(lo<=n/\n<=hi) from λh=>h2 h.2)];rfl
 ·rw[Q4 (show ¬n>=lo from h1),Q4 (show ¬(lo<=n/\n<=hi) from λh=>h1 h.1)];rfl
theorem Ym8{w h:Int}{k:Nat}(hi:inC w h k=true):((k % 6:Nat):Int)<w/\((k / 6:Nat):Int)<h:=by unfold inC at hi;simp only[Q7,decide_eq_true_eq]at hi;exact hi
theorem xy{k:Nat}(hk:k<36):((k:Int)).tmod 6=((k % 6:Nat):Int)/\((k:Int)).tdiv 6=((k / 6:Nat):Int):=by
 constructor
 ·rw[Int.tmod_eq_emod_of_nonneg (by omega)];omega
 ·rw[Int.tdiv_eq_ediv_of_nonneg (by omega)];omega
theorem Yed{S:Array Value}(h0:1<=num S 0/\num S 0<=6/\1<=num S 1/\num S 1<=6){k:Nat}(hk:k<36)(hi:inC (num S 0) (num S 1) k=true)(w:Nat)(hw:w<5):Zaf (k:Int) (w:Int) S=gw S k w:=by
 obtain⟨a1,a2,a3,a4⟩:=h0;obtain⟨hx,hy⟩:=Ym8 hi;obtain⟨ex,ey⟩:=xy hk;have hxl:k % 6<6:=Nat.mod_lt _ (by omega);have hyl:k / 6<6:=by omega
 have hk6:k=6*(k / 6)+k % 6:=by omega
 unfold Zaf;simp only[in_eq,ex,ey];rw[w64 (n:=num S 0) (by omega),w64 (n:=num S 1) (by omega),w64 (n:=num S 0 - 1) (by omega),w64 (n:=num S 1 - 1) (by omega),w64 (n:=((k / 6:Nat):Int)) (by omega),w64 (n:=((k / 6:Nat):Int) - 1) (by omega),w64 (n:=((k / 6:Nat):Int)+1) (by omega),w64 (n:=((k % 6:Nat):Int) - 1) (by omega),w64 (n:=((k % 6:Nat):Int)+1) (by omega),w64 (n:=6*((k / 6:Nat):Int)) (by omega),w64 (n:=6*(((k / 6:Nat):Int) - 1)) (by omega),w64 (n:=6*(((k / 6:Nat):Int)+1)) (by omega)];have b0:decide (0<=((k % 6:Nat):Int)/\((k % 6:Nat):Int)<=num S 0 - 1)=true:=Q3 (by omega);have b1:decide (0<=((k / 6:Nat):Int)/\((k / 6:Nat):Int)<=num S 1 - 1)=true:=Q3 (by omega);generalize hX:k % 6=X at *;generalize hY:k / 6=Y at *
 match w,hw with
 |0,_=>
  show (bif ((0:Int)==1) then _ else (bif ((0:Int)==2) then _ else (bif ((0:Int)==3) then _ else (bif ((0:Int)==4) then _ else _))))=_
  simp only[show ((0:Int)==1)=false from rfl,show ((0:Int)==2)=false from rfl,show ((0:Int)==3)=false from rfl,show ((0:Int)==4)=false from rfl,Q2,b0,b1,jA];rw[w64 (by omega)];show _=(k:Int);omega
 | 1,_=>
  simp only[show (((1:Nat):Int)==1)=true from rfl,Q1,b0,jA,Q2];unfold gw
  by_cases c:1<=Y
  ·rw[Q3 (show 0<=((Y:Nat):Int) - 1/\((Y:Nat):Int) - 1<=num S 1 - 1 by omega),Q3 (show 6<=k by omega)]
   simp only[jA,Q2,Q1];rw[w64 (by omega)];omega
  ·rw[Q4 (show ¬(0<=((Y:Nat):Int) - 1/\((Y:Nat):Int) - 1<=num S 1 - 1) by omega),Q4 (show ¬6<=k by omega)]
   rfl
 | 2,_=>
  simp only[show (((2:Nat):Int)==1)=false from rfl,show (((2:Nat):Int)==2)=true from rfl,Q1,b1,jA,Q2];unfold gw;rw[hX]
  by_cases c:((X:Nat):Int)+1<num S 0
  ·rw[Q3 (show 0<=((X:Nat):Int)+1/\((X:Nat):Int)+1<=num S 0 - 1 by omega),Q3 c]
   simp only[jA,Q2,Q1];rw[w64 (by omega)];omega
  ·rw[Q4 (show ¬(0<=((X:Nat):Int)+1/\((X:Nat):Int)+1<=num S 0 - 1) by omega),Q4 c]
   rfl
 | 3,_=>
  simp only[show (((3:Nat):Int)==1)=false from rfl,show (((3:Nat):Int)==2)=false from rfl,show (((3:Nat):Int)==3)=true from rfl,Q1,b0,jA,Q2];unfold gw;rw[hY]
  by_cases c:((Y:Nat):Int)+1<num S 1
  ·rw[Q3 (show 0<=((Y:Nat):Int)+1/\((Y:Nat):Int)+1<=num S 1 - 1 by omega),Q3 c]
   simp only[jA,Q2,Q1];rw[w64 (by omega)];omega
  ·rw[Q4 (show ¬(0<=((Y:Nat):Int)+1/\((Y:Nat):Int)+1<=num S 1 - 1) by omega),Q4 c]
   rfl
 | 4,_=>
  simp only[show (((4:Nat):Int)==1)=false from rfl,show (((4:Nat):Int)==2)=false from rfl,show (((4:Nat):Int)==3)=false from rfl,show (((4:Nat):Int)==4)=true from rfl,Q1,b1,jA,Q2];unfold gw;rw[hX]
  by_cases c:1<=X
  ·rw[Q3 (show 0<=((X:Nat):Int) - 1/\((X:Nat):Int) - 1<=num S 0 - 1 by omega),Q3 c]
   simp only[jA,Q2,Q1];rw[w64 (by omega)];omega
  ·rw[Q4 (show ¬(0<=((X:Nat):Int) - 1/\((X:Nat):Int) - 1<=num S 0 - 1) by omega),Q4 c]
   rfl
theorem Ydj{S:Array Value}(h0:1<=num S 0/\num S 0<=6/\1<=num S 1/\num S 1<=6){k:Nat}(hk:k<36)(hi:inC (num S 0) (num S 1) k=true)(w:Nat)(hw:w<5)(hn:gw S k w ≠ -1):0<=gw S k w/\gw S k w<36:=by
 obtain⟨hx,hy⟩:=Ym8 hi;obtain⟨a1,a2,a3,a4⟩:=h0;have hk6:k=6*(k / 6)+k % 6:=by omega
 match w,hw with
 |0,_=>exact⟨by show 0<=(k:Int);omega,by show (k:Int)<36;omega⟩
 |1,_=>
  unfold gw at hn|-
  by_cases c:6<=k
  ·simp only[c,decide_true,Q1];omega
  ·simp[c]at hn
 |2,_=>
  unfold gw at hn|-
  by_cases c:((k % 6:Nat):Int)+1<num S 0
  ·simp only[Q3 c,Q1];omega
  ·simp only[Q4 c,Q2]at hn;exact absurd rfl hn
 |3,_=>
  unfold gw at hn|-
  by_cases c:((k / 6:Nat):Int)+1<num S 1
  ·simp only[Q3 c,Q1];omega
  ·simp only[Q4 c,Q2]at hn;exact absurd rfl hn
 |4,_=>
  unfold gw at hn|-
  by_cases c:1<=k % 6
  ·simp only[c,decide_true,Q1];omega
  ·simp[c]at hn
def Zg8:Cons:=(mkΓ [(100,con Zie),(101,con Zi9),(119,con Zj1),(124,con Zmc),(125,con Zjg),(126,con Ziq),(127,con Zjo),(128,con Ziy),(129,con Zji)])
def toP(c:Int):Nat->Array Value
 |0=>#[.int .i64 (c.tmod 6),.int .i64 (i64.wrap (c.tdiv 6))]
 |1=>#[.int .i64 (c.tmod 6),.int .i64 (i64.wrap (i64.wrap (c.tdiv 6) - 1))]
 |2=>#[.int .i64 (i64.wrap (c.tmod 6+1)),.int .i64 (i64.wrap (c.tdiv 6))]
 |3=>#[.int .i64 (c.tmod 6),.int .i64 (i64.wrap (i64.wrap (c.tdiv 6)+1))]
 |_=>#[.int .i64 (i64.wrap (c.tmod 6 - 1)),.int .i64 (i64.wrap (c.tdiv 6))]
def Uav(S:Array Value)(c:Int)(w:Nat):Int:=bif Zat S (toP c w) then i64.wrap (num (toP c w) 0+i64.wrap (6*num (toP c w) 1)) else -1
theorem Zzm(a0:Array Value)(a1 a2:Int)(h_a0:WT PZ 37 a0)(h_a1:i64.min<=a1/\a1<=i64.max)(h_a2:i64.min<=a2/\a2<=i64.max)(hg:((decide (0<=a2)&&decide (a2<5)))=true):ansV PZ Zg8 1000 f122 [] [.g a0 37,.i .i64 (a1),.i .i64 (a2)] []=some (.a (.i .i64 (Uav a0 a1 a2.toNat)),.none,true):=by
 simp only[Q7,decide_eq_true_eq]at hg;obtain⟨h0,h5⟩:=hg;obtain⟨w,rfl⟩:=Int.eq_ofNat_of_zero_le h0
 match w,h5 with
 |0,_=>
  have h:ansV PZ Zg8 1000 f122 [] [.g a0 37,.i .i64 a1,.i .i64 ((0:Nat):Int)] []=(bif (!(Zat a0 (toP a1 0))) then (some (.a (.i .i64 (-1:Int)),.none,true)) else (some (.a (.i .i64 (i64.wrap (num (toP a1 0) 0+i64.wrap (6*num (toP a1 0) 1)))),.none,true))):=by kernel_rfl
  refine h.trans ?_;rw[Q9];unfold Uav;cases Zat a0 (toP a1 0)<;>rfl
 |1,_=>
  have h:ansV PZ Zg8 1000 f122 [] [.g a0 37,.i .i64 a1,.i .i64 ((1:Nat):Int)] []=(bif (!(Zat a0 (toP a1 1))) then (some (.a (.i .i64 (-1:Int)),.none,true)) else (some (.a (.i .i64 (i64.wrap (num (toP a1 1) 0+i64.wrap (6*num (toP a1 1) 1)))),.none,true))):=by kernel_rfl
  refine h.trans ?_;rw[Q9];unfold Uav;cases Zat a0 (toP a1 1)<;>rfl
 |2,_=>
  have h:ansV PZ Zg8 1000 f122 [] [.g a0 37,.i .i64 a1,.i .i64 ((2:Nat):Int)] []=(bif (!(Zat a0 (toP a1 2))) then (some (.a (.i .i64 (-1:Int)),.none,true)) else (some (.a (.i .i64 (i64.wrap (num (toP a1 2) 0+i64.wrap (6*num (toP a1 2) 1)))),.none,true))):=by kernel_rfl
  refine h.trans ?_;rw[Q9];unfold Uav;cases Zat a0 (toP a1 2)<;>rfl
 |3,_=>
  have h:ansV PZ Zg8 1000 f122 [] [.g a0 37,.i .i64 a1,.i .i64 ((3:Nat):Int)] []=(bif (!(Zat a0 (toP a1 3))) then (some (.a (.i .i64 (-1:Int)),.none,true)) else (some (.a (.i .i64 (i64.wrap (num (toP a1 3) 0+i64.wrap (6*num (toP a1 3) 1)))),.none,true))):=by kernel_rfl
  refine h.trans ?_;rw[Q9];unfold Uav;cases Zat a0 (toP a1 3)<;>rfl
 |4,_=>
  have h:ansV PZ Zg8 1000 f122 [] [.g a0 37,.i .i64 a1,.i .i64 ((4:Nat):Int)] []=(bif (!(Zat a0 (toP a1 4))) then (some (.a (.i .i64 (-1:Int)),.none,true)) else (some (.a (.i .i64 (i64.wrap (num (toP a1 4) 0+i64.wrap (6*num (toP a1 4) 1)))),.none,true))):=by kernel_rfl
  refine h.trans ?_;rw[Q9];unfold Uav;cases Zat a0 (toP a1 4)<;>rfl
 |_+5,h=>omega
def Zmf:Con:=λargs h=>match args,h with
 |[.g a0 37,.i .i64 a1,.i .i64 a2],[]=>some (.a (.i .i64 (Uav a0 a1 a2.toNat)),.none,(decide (0<=a2)&&decide (a2<5)))
 |_,_=>none
theorem Zwp:EntX PZ 122:=Zah (fn:=f122)
theorem Yel:Uac mn PZ 122 Zmf:=(ansY (N:=1000) (mKc (Zae Zqd) Znz (mKc (Zae Zsi) Zn6 (mKc (Zae Zuk) Zo6 (mKc (Zae Yd7) Zyc (mKc (Zae Zxu) Zr7 (mKc (Zae Zuv) Zqp (mKc (Zae Zw0) Zq7 (mKc (Zae Zv0) Zqt (mKc (Zae Zyf) Zru mKn))))))))) f122 []).of (by
 intro ρ h w args vals r e hA hH hr;unfold Zmf at hr;split at hr
 ·rename_i a0 a1 a2
  obtain⟨rfl,rfl,hg2⟩:=BQi hr;exact Zzm a0 a1 a2 (hA.wt 0 rfl) (hA.rng 1 rfl) (hA.rng 2 rfl) hg2
 ·cases hr)
theorem Zy0{S:Array Value}(h0:1<=num S 0/\num S 0<=6/\1<=num S 1/\num S 1<=6)(x y:Int)(hx: -10<=x/\x<=10)(hy: -10<=y/\y<=10):Zat S #[.int .i64 x,.int .i64 y]=decide (0<=x/\x<num S 0/\0<=y/\y<num S 1):=by
 show (bif decide (x>=0) then (bif decide (x<i64.wrap (num S 0)) then (bif decide (y>=0) then decide (y<i64.wrap (num S 1)) else false) else false) else false)=_
 rw[w64 (n:=num S 0) (by omega),w64 (n:=num S 1) (by omega)]
 by_cases h1:0<=x
 ·rw[Q3 (show x>=0 from h1)]
  by_cases h2:x<num S 0
  ·rw[Q3 h2]
   by_cases h3:0<=y
   ·rw[Q3 (show y>=0 from h3),Q1,Q1,Q1]
    exact decide_eq_decide.2 ⟨λh=>⟨h1,h2,h3,h⟩,λh=>h.2.2.2⟩
   ·rw[Q4 (show ¬y>=0 from h3),Q4 (show ¬(0<=x/\x<num S 0/\0<=y/\y<num S 1) by omega)];rfl
  ·rw[Q4 h2,Q4 (show ¬(0<=x/\x<num S 0/\0<=y/\y<num S 1) by omega)];rfl
 ·rw[Q4 (show ¬x>=0 from h1),Q4 (show ¬(0<=x/\x<num S 0/\0<=y/\y<num S 1) by omega)];rfl
theorem Yqy{S:Array Value}(h0:1<=num S 0/\num S 0<=6/\1<=num S 1/\num S 1<=6){k:Nat}(hk:k<36)(hi:inC (num S 0) (num S 1) k=true)(w:Nat)(hw:w<5):Uav S (k:Int) w=gw S k w:=by
 obtain⟨hx,hy⟩:=Ym8 hi;obtain⟨ex,ey⟩:=xy hk;have hxl:k % 6<6:=Nat.mod_lt _ (by omega);have hyl:k / 6<6:=by omega
 have hk6:k=6*(k / 6)+k % 6:=by omega
 unfold Uav
 match w,hw with
 |0,_=>
  simp only[toP];rw[ex,ey,w64 (n:=((k / 6:Nat):Int)) (by omega),Zy0 h0 _ _ (by omega) (by omega),Q3 (by omega)]
  show i64.wrap (((k % 6:Nat):Int)+i64.wrap (6*((k / 6:Nat):Int)))=(k:Int)
  rw[w64 (n:=6*((k / 6:Nat):Int)) (by omega),w64 (by omega)];omega
 | 1,_=>
  simp only[toP,gw];rw[ex,ey,w64 (n:=((k / 6:Nat):Int)) (by omega),w64 (n:=((k / 6:Nat):Int) - 1) (by omega),Zy0 h0 _ _ (by omega) (by omega)]
  by_cases c:6<=k
  ·rw[Q3 (show 0<=((k % 6:Nat):Int)/\((k % 6:Nat):Int)<num S 0/\0<=((k / 6:Nat):Int) - 1/\((k / 6:Nat):Int) - 1<num S 1 by omega),Q3 c]
   show i64.wrap (((k % 6:Nat):Int)+i64.wrap (6*(((k / 6:Nat):Int) - 1)))=(k:Int) - 6
   rw[w64 (n:=6*(((k / 6:Nat):Int) - 1)) (by omega),w64 (by omega)];omega
  ·rw[Q4 (show ¬(0<=((k % 6:Nat):Int)/\((k % 6:Nat):Int)<num S 0/\0<=((k / 6:Nat):Int) - 1/\((k / 6:Nat):Int) - 1<num S 1) by omega),Q4 c];rfl
 | 2,_=>
  simp only[toP,gw];rw[ex,ey,w64 (n:=((k / 6:Nat):Int)) (by omega),w64 (n:=((k % 6:Nat):Int)+1) (by omega),Zy0 h0 _ _ (by omega) (by omega)]
  by_cases c:((k % 6:Nat):Int)+1<num S 0
  ·rw[Q3 (show 0<=((k % 6:Nat):Int)+1/\((k % 6:Nat):Int)+1<num S 0/\0<=((k / 6:Nat):Int)/\((k / 6:Nat):Int)<num S 1 by omega),Q3 c]
   show i64.wrap (((k % 6:Nat):Int)+1+i64.wrap (6*((k / 6:Nat):Int)))=(k:Int)+1
   rw[w64 (n:=6*((k / 6:Nat):Int)) (by omega),w64 (by omega)];omega
  ·rw[Q4 (show ¬(0<=((k % 6:Nat):Int)+1/\((k % 6:Nat):Int)+1<num S 0/\0<=((k / 6:Nat):Int)/\((k / 6:Nat):Int)<num S 1) by omega),Q4 c];rfl
 | 3,_=>
  simp only[toP,gw];rw[ex,ey,w64 (n:=((k / 6:Nat):Int)) (by omega),w64 (n:=((k / 6:Nat):Int)+1) (by omega),Zy0 h0 _ _ (by omega) (by omega)]
  by_cases c:((k / 6:Nat):Int)+1<num S 1
  ·rw[Q3 (show 0<=((k % 6:Nat):Int)/\((k % 6:Nat):Int)<num S 0/\0<=((k / 6:Nat):Int)+1/\((k / 6:Nat):Int)+1<num S 1 by omega),Q3 c]
   show i64.wrap (((k % 6:Nat):Int)+i64.wrap (6*(((k / 6:Nat):Int)+1)))=(k:Int)+6
   rw[w64 (n:=6*(((k / 6:Nat):Int)+1)) (by omega),w64 (by omega)];omega
  ·rw[Q4 (show ¬(0<=((k % 6:Nat):Int)/\((k % 6:Nat):Int)<num S 0/\0<=((k / 6:Nat):Int)+1/\((k / 6:Nat):Int)+1<num S 1) by omega),Q4 c];rfl
 | 4,_=>
  simp only[toP,gw];rw[ex,ey,w64 (n:=((k / 6:Nat):Int)) (by omega),w64 (n:=((k % 6:Nat):Int) - 1) (by omega),Zy0 h0 _ _ (by omega) (by omega)]
  by_cases c:1<=k % 6
  ·rw[Q3 (show 0<=((k % 6:Nat):Int) - 1/\((k % 6:Nat):Int) - 1<num S 0/\0<=((k / 6:Nat):Int)/\((k / 6:Nat):Int)<num S 1 by omega),Q3 c]
   show i64.wrap (((k % 6:Nat):Int) - 1+i64.wrap (6*((k / 6:Nat):Int)))=(k:Int) - 1
   rw[w64 (n:=6*((k / 6:Nat):Int)) (by omega),w64 (by omega)];omega
  ·rw[Q4 (show ¬(0<=((k % 6:Nat):Int) - 1/\((k % 6:Nat):Int) - 1<num S 0/\0<=((k / 6:Nat):Int)/\((k / 6:Nat):Int)<num S 1) by omega),Q4 c];rfl
end
end Go.Proofs.YtdfefaanfiheoaaGreatDoor
