/- Records of what has stranded, in company; where and when a bottle is released. -/
import Derived.Test.YtdfefaanfiheoaaGreatDoorProg
import Derived.Test.YtdfefaanfiheoaaGreatDoorCxK
import Derived.Test.YtdfefaanfiheoaaGreatDoorCxEachLand
import Derived.Test.YtdfefaanfiheoaaGreatDoorIsX
set_option linter.unusedVariables false
set_option linter.unusedSimpArgs false
open _root_.Array renaming getElem?_setIfInBounds->jA
namespace Go.Proofs.YtdfefaanfiheoaaGreatDoor
open Tryz (f53 f56 f57 f59 f61 f74 f84 f85 f86 f95 f103 f108)
open Go.ChangeShapes Go.WideShapes Go.ChangeAt Go.RowKit Ve Vc
open Tryz renaming prog -> PZ
open IntKind (i64)
set_option maxRecDepth 100000
noncomputable section
variable {F:Vc.Fd}
def Zh2:Con:=ansV PZ (mkΓ [(79,conG isCon)]) 1000 f56 []
theorem Zif:EntX PZ 56:=Zah (fn:=f56)
theorem Zlp:Uac (md F) PZ 56 Zh2:=ansY (N:=1000) (mKc (Zid isCon_ok) Yme mKn) f56 []
theorem Yc7(N:Nat)(a0:Int):ansV PZ (mkΓ [(47,con Zb4)]) N f74 [] [.i .i64 (a0)] []=(some (.a (.b ((Zaa a0 (1:Int) (14:Int)))),.none,true)):=by kernel_rfl
theorem Zzf(a0:Int)(h_a0:i64.min<=a0/\a0<=i64.max)(hg:(true)=true):ansV PZ (mkΓ [(47,con Zb4)]) 1000 f74 [] [.i .i64 (a0)] []=some (.a (.b ((Zaa a0 (1:Int) (14:Int)))),.none,true):=by refine(Yc7 1000 a0).trans ?_;rfl
def Zlz:Con:=λargs h=>match args,h with
 |[.i .i64 a0],[]=>some (.a (.b ((Zaa a0 (1:Int) (14:Int)))),.none,true)
 |_,_=>none
theorem Zyy:EntX PZ 74:=Zah (fn:=f74)
theorem Ydq:Uac (md F) PZ 74 Zlz:=(ansY (N:=1000) (mKc (Zae Zkw) Zgx mKn) f74 []).of (by
 intro ρ h w args vals r e hA hH hr;unfold Zlz at hr;split at hr
 ·rename_i a0
  obtain⟨rfl,rfl,hg2⟩:=BQi hr;exact Zzf a0 (hA.rng 0 rfl) hg2
 ·cases hr)
theorem Ybt(N:Nat)(a0:Int):ansV PZ (mkΓ []) N f95 [] [.i .i64 (a0)] []=(bif decide (a0>=(1:Int)) then (some (.a (.b (decide (a0<=(14:Int)))),.none,true))
  else (some (.a (.b (false)),.none,true))):=by kernel_rfl
def Zf6(a0:Int):Bool:=(bif decide (a0>=(1:Int)) then decide (a0<=(14:Int)) else false)
theorem Zzb(a0:Int)(h_a0:i64.min<=a0/\a0<=i64.max)(hg:(true)=true):ansV PZ (mkΓ []) 1000 f95 [] [.i .i64 (a0)] []=some (.a (.b ((Zf6 a0))),.none,true):=by
 refine(Ybt 1000 a0).trans ?_;unfold Zf6;revert hg;generalize (decide (a0>=(1:Int)))=b2;intro hg;cases b2
 ·skip
  first | (simp only[Q1,Q2,BQ6];done)|rfl|exact(nomatch (hg:false=true))
 ·skip
  first | (simp only[Q1,Q2,BQ6];done)|rfl|exact(nomatch (hg:false=true))
def Zmi:Con:=λargs h=>match args,h with
 |[.i .i64 a0],[]=>some (.a (.b ((Zf6 a0))),.none,true)
 |_,_=>none
theorem Zyx:EntX PZ 95:=Zah (fn:=f95)
theorem Yeo:Uac (md F) PZ 95 Zmi:=(ansY (N:=1000) mKn f95 []).of (by
 intro ρ h w args vals r e hA hH hr;unfold Zmi at hr;split at hr
 ·rename_i a0
  obtain⟨rfl,rfl,hg2⟩:=BQi hr;exact Zzb a0 (hA.rng 0 rfl) hg2
 ·cases hr)
def Zuh:Cons:=(mkΓ [(51,con Zlu),(72,con Zbo),(73,con Zga),(75,con Zmj)])
theorem Ybn(N:Nat)(a1 a2:Int)(a3:Bool)(a0:Array Value):ansV PZ Zuh N f53 [] [.w 0,.i .i64 (a1),.i .i64 (a2),.b (a3)] [.row a0 37]=(bif (!((okS a0))) then (some (.a (.i .i64 (1:Int)),.none,true))
    else (bif (!((Zab a1 a0))) then (some (.a (.i .i64 (2:Int)),.none,true))
      else (bif (!((Zaa a2 (0:Int) (1:Int)))) then (some (.a (.i .i64 (2:Int)),.none,true))
        else (bif (!(a3)) then (some (.a (.i .i64 (2:Int)),.none,true))
          else (bif decide (0<=(IntKind.u64.wrap a1)) then (bif (Zag a1 a0) then (some (.a (.i .i64 (4:Int)),.none,true))
              else (some (.a (.i .i64 (0:Int)),.none,true)))
            else (none)))))):=by kernel_rfl
def Zas(a1 a2:Int)(a3:Bool)(a0:Array Value):Int:=(bif (!((okS a0))) then (1:Int) else (bif (!((Zab a1 a0))) then (2:Int) else (bif (!((Zaa a2 (0:Int) (1:Int)))) then (2:Int) else (bif (!(a3)) then (2:Int) else (bif (Zag a1 a0) then (4:Int) else (0:Int))))))
def Zf3(a1 a2:Int)(a3:Bool)(a0:Array Value):Bool:=(bif (!((okS a0))) then true else (bif (!((Zab a1 a0))) then true else (bif (!((Zaa a2 (0:Int) (1:Int)))) then true else (bif (!(a3)) then true else decide (0<=(IntKind.u64.wrap a1))))))
theorem Yac(a1 a2:Int)(a3:Bool)(a0:Array Value)(h_a1:i64.min<=a1/\a1<=i64.max)(h_a2:i64.min<=a2/\a2<=i64.max)(h_a0:WT PZ 37 a0)(hg:((Zf3 a1 a2 a3 a0))=true):ansV PZ Zuh 1000 f53 [] [.w 0,.i .i64 (a1),.i .i64 (a2),.b (a3)] [.row a0 37]=some (.a (.i .i64 (Zas a1 a2 a3 a0)),.none,true):=by
 refine(Ybn 1000 a1 a2 a3 a0).trans ?_;unfold Zf3 at hg;unfold Zas;revert hg;generalize ((!((okS a0))))=b2;intro hg;cases b2
 ·skip
  revert hg;generalize ((!((Zab a1 a0))))=b4;intro hg;cases b4
  ·skip
   revert hg;generalize ((!((Zaa a2 (0:Int) (1:Int)))))=b6;intro hg;cases b6
   ·skip
    revert hg;generalize ((!(a3)))=b8;intro hg;cases b8
    ·skip
     revert hg;generalize (decide (0<=(IntKind.u64.wrap a1)))=b10;intro hg;cases b10
     ·skip
      first|exact(nomatch (hg:false=true)) | (simp only[Q1,Q2,BQ6];done)|rfl
     ·skip
      revert hg;generalize ((Zag a1 a0))=b12;intro hg;cases b12
      ·skip
       first | (simp only[Q1,Q2,BQ6];done)|rfl|exact(nomatch (hg:false=true))
      ·skip
       first | (simp only[Q1,Q2,BQ6];done)|rfl|exact(nomatch (hg:false=true))
    ·skip
     first | (simp only[Q1,Q2,BQ6];done)|rfl|exact(nomatch (hg:false=true))
   ·skip
    first | (simp only[Q1,Q2,BQ6];done)|rfl|exact(nomatch (hg:false=true))
  ·skip
   first | (simp only[Q1,Q2,BQ6];done)|rfl|exact(nomatch (hg:false=true))
 ·skip
  first | (simp only[Q1,Q2,BQ6];done)|rfl|exact(nomatch (hg:false=true))
def Zl1:Con:=λargs h=>match args,h with
 |[.w 0,.i .i64 a1,.i .i64 a2,.b a3],[.row a0 37]=>some (.a (.i .i64 (Zas a1 a2 a3 a0)),.none,(Zf3 a1 a2 a3 a0))
 |_,_=>none
theorem Zw4:EntX PZ 53:=Zah (fn:=f53)
theorem Yf2:Uac (md F) PZ 53 Zl1:=(ansY (N:=1000) (mKc (Zae Zxi) Zqe (mKc (Zae Zkl) Zgt (mKc (Zae Zlv) Zh5 (mKc (Zae Yfd) Zx7 mKn)))) f53 []).of (by
 intro ρ h w args vals r e hA hH hr;unfold Zl1 at hr;split at hr
 ·rename_i a1 a2 a3 a0
  obtain⟨rfl,rfl,hg2⟩:=BQi hr;exact Yac a1 a2 a3 a0 (hA.rng 1 rfl) (hA.rng 2 rfl) (hH.wt 0 rfl) hg2
 ·cases hr)
theorem in_of{x a b:Int}(h:a<=x/\x<=b):Zaa x a b=true:=by unfold Zaa;rw[Q3 (show x>=a from h.1),Q3 h.2];rfl
theorem Zwx{S:Array Value}(hS:WT PZ 37 S){c:Int}(hc:0<=c/\c<=35):Zac S c=Zag c S:=by obtain⟨k,rfl⟩:=Int.eq_ofNat_of_zero_le hc.1;exact Yoc hS (by omega)
theorem Ynj(c:Int):decide (0<=IntKind.u64.wrap c)=true:=Q3 (Zgo .u64 _).1
theorem from_gd(c b:Int)(f:Bool)(S:Array Value):Zf3 c b f S=true:=by unfold Zf3;rw[Ynj];cases okS S<;>cases Zab c S<;>cases Zaa b 0 1<;>cases f<;>rfl
def rl(S:Array Value)(c b:Int)(f:Bool):Bool:=Zab c S&&(Zaa b 0 1&&f)
theorem Yrl(c b:Int)(f:Bool)(S:Array Value):Zas c b f S=bif okS S then (bif rl S c b f then (bif Zag c S then 4 else 0) else 2) else 1:=by unfold Zas rl;cases okS S<;>cases Zab c S<;>cases Zaa b 0 1<;>cases f<;>rfl
theorem Yrg{c b:Int}{f:Bool}{S:Array Value}(h:(Zas c b f S != (0:Int))=false):okS S=true/\Zab c S=true/\Zaa b 0 1=true/\f=true/\Zag c S=false:=by rw[Yrl]at h;unfold rl at h;cases h1:okS S<;>cases h2:Zab c S<;>cases h3:Zaa b 0 1<;>cases h4:f<;>cases h5:Zag c S<;>first|exact⟨rfl,rfl,rfl,rfl,rfl⟩ | (exfalso;subst h4;rw[h1,h2,h3,h5]at h;revert h;decide)
def Zeo:Cons:=(mkΓ [(80,con Zib),(81,con Zg0),(82,con Zmo),(83,con Zbd)])
theorem Zfh(N:Nat)(a0:Array Value)(a1 a2:Int)(a3:Bool)(g_e0 g_e1 g_e2 g_e3 g_e4:Addr):ansV PZ Zeo N f57 [] [.g a0 37,.i .i64 (a1),.i .i64 (a2),.b (a3)] [.gl 0 185 g_e0 101973,.gl 1 185 g_e1 93330,.gl 3 185 g_e2 124718,.gl 2 185 g_e3 112315,.gl 4 185 g_e4 94254]=(bif (!((okS a0))) then (some (.a (.e 0),.none,true))
    else (bif (!((Zal a0 a1))) then (some (.a (.e 1),.none,true))
      else (bif (!((Zci a2))) then (some (.a (.e 1),.none,true))
        else (bif (!(a3)) then (some (.a (.e 1),.none,true))
          else (bif decide (0<=a1) then (bif (Zac a0 a1) then (some (.a (.e 2),.none,true))
              else (some (.a (.v (.nilIface)),.none,true)))
            else (none)))))):=by kernel_rfl
theorem Zpp(a0:Array Value)(a1 a2:Int)(a3:Bool)(g_e0 g_e1 g_e2 g_e3 g_e4:Addr)(h_a0:WT PZ 37 a0)(h_a1:i64.min<=a1/\a1<=i64.max)(h_a2:i64.min<=a2/\a2<=i64.max)(hc0:(okS a0)=false)(hg:(true)=true):ansV PZ Zeo 1000 f57 [] [.g a0 37,.i .i64 (a1),.i .i64 (a2),.b (a3)] [.gl 0 185 g_e0 101973,.gl 1 185 g_e1 93330,.gl 3 185 g_e2 124718,.gl 2 185 g_e3 112315,.gl 4 185 g_e4 94254]=some (.a (.e 0),.none,true):=by refine(Zfh 1000 a0 a1 a2 a3 g_e0 g_e1 g_e2 g_e3 g_e4).trans ?_;simp only[hc0,Bool.not_false,Q1]
theorem Zpt(a0:Array Value)(a1 a2:Int)(a3:Bool)(g_e0 g_e1 g_e2 g_e3 g_e4:Addr)(h_a0:WT PZ 37 a0)(h_a1:i64.min<=a1/\a1<=i64.max)(h_a2:i64.min<=a2/\a2<=i64.max)(hc0:(okS a0)=true)(hc1:(rl a0 a1 a2 a3)=false)(hg:(true)=true):ansV PZ Zeo 1000 f57 [] [.g a0 37,.i .i64 (a1),.i .i64 (a2),.b (a3)] [.gl 0 185 g_e0 101973,.gl 1 185 g_e1 93330,.gl 3 185 g_e2 124718,.gl 2 185 g_e3 112315,.gl 4 185 g_e4 94254]=some (.a (.e 1),.none,true):=by
 refine(Zfh 1000 a0 a1 a2 a3 g_e0 g_e1 g_e2 g_e3 g_e4).trans ?_;have ht:Zci a2=Zaa a2 0 1:=Ymm a2;rw[Zqy,ht];unfold rl at hc1;rw[hc0];cases q1:Zab a1 a0 with
 |false=>rfl
 | true=>
  cases q2:Zaa a2 0 1 with
  |false=>rfl
  |true=>
   cases q3:a3 with
   |false=>rfl
   |true=>rw[q1,q2,q3]at hc1;cases hc1
theorem Zpv(a0:Array Value)(a1 a2:Int)(a3:Bool)(g_e0 g_e1 g_e2 g_e3 g_e4:Addr)(h_a0:WT PZ 37 a0)(h_a1:i64.min<=a1/\a1<=i64.max)(h_a2:i64.min<=a2/\a2<=i64.max)(hc0:(okS a0)=true)(hc1:(rl a0 a1 a2 a3)=true)(hc2:(Zag a1 a0)=false)(hg:(true)=true):ansV PZ Zeo 1000 f57 [] [.g a0 37,.i .i64 (a1),.i .i64 (a2),.b (a3)] [.gl 0 185 g_e0 101973,.gl 1 185 g_e1 93330,.gl 3 185 g_e2 124718,.gl 2 185 g_e3 112315,.gl 4 185 g_e4 94254]=some (.a (.v (.nilIface)),.none,true):=by refine(Zfh 1000 a0 a1 a2 a3 g_e0 g_e1 g_e2 g_e3 g_e4).trans ?_;have ht:Zci a2=Zaa a2 0 1:=Ymm a2;rw[Zqy,ht];unfold rl at hc1;simp only[Q7]at hc1;obtain⟨q1,q2,q3⟩:=hc1;have hr:=Zh7 q1;rw[hc0,q1,q2,q3,Zwx h_a0 hr,hc2,Q3 hr.1];rfl
theorem Zps(a0:Array Value)(a1 a2:Int)(a3:Bool)(g_e0 g_e1 g_e2 g_e3 g_e4:Addr)(h_a0:WT PZ 37 a0)(h_a1:i64.min<=a1/\a1<=i64.max)(h_a2:i64.min<=a2/\a2<=i64.max)(hc0:(okS a0)=true)(hc1:(rl a0 a1 a2 a3)=true)(hc2:(Zag a1 a0)=true)(hg:(true)=true):ansV PZ Zeo 1000 f57 [] [.g a0 37,.i .i64 (a1),.i .i64 (a2),.b (a3)] [.gl 0 185 g_e0 101973,.gl 1 185 g_e1 93330,.gl 3 185 g_e2 124718,.gl 2 185 g_e3 112315,.gl 4 185 g_e4 94254]=some (.a (.e 2),.none,true):=by refine(Zfh 1000 a0 a1 a2 a3 g_e0 g_e1 g_e2 g_e3 g_e4).trans ?_;have ht:Zci a2=Zaa a2 0 1:=Ymm a2;rw[Zqy,ht];unfold rl at hc1;simp only[Q7]at hc1;obtain⟨q1,q2,q3⟩:=hc1;have hr:=Zh7 q1;rw[hc0,q1,q2,q3,Zwx h_a0 hr,hc2,Q3 hr.1];rfl
def Za0:SCon:=λargs h=>match args,h with
 |[.g a0 37,.i .i64 a1,.i .i64 a2,.b a3],[.gl 0 185 g_e0 101973,.gl 1 185 g_e1 93330,.gl 3 185 g_e2 124718,.gl 2 185 g_e3 112315,.gl 4 185 g_e4 94254]=>.two (okS a0) (.two (rl a0 a1 a2 a3) (.two (Zag a1 a0) (.one (some (.a (.e 2),.none,true))) (.one (some (.a (.v (.nilIface)),.none,true)))) (.one (some (.a (.e 1),.none,true)))) (.one (some (.a (.e 0),.none,true)))
 |_,_=>.one none
theorem Zd6:EntX PZ 57:=Zah (fn:=f57)
theorem Zff:Uac (md F) PZ 57 (λargs h=>Uah (Za0 args h)):=by
 intro ρ h w args vals r e hn hr hA hH;dsimp only at hr;unfold Za0 at hr;split at hr
 ·rename_i a0 a1 a2 a3 g_e0 g_e1 g_e2 g_e3 g_e4
  simp only[Uah]at hr;cases hc0:(okS a0)
  ·rw[hc0]at hr
   simp only[Uah,Q1,Q2]at hr;obtain⟨rfl,rfl,hg2⟩:=BQi hr;exact((ansY (N:=1000) (mKc (Zae Zgu) Zel (mKc (Zae Zf5) Zdp (mKc (Zae Zjy) Zhn (mKc (Zae Zec) Zcf mKn)))) f57 [])) ρ _ w _ vals _ _ hn ((Zpp a0 a1 a2 a3 g_e0 g_e1 g_e2 g_e3 g_e4 (hA.wt 0 rfl) (hA.rng 1 rfl) (hA.rng 2 rfl) hc0 hg2)) hA hH
  ·rw[hc0]at hr
   simp only[Uah,Q1,Q2]at hr;cases hc1:(rl a0 a1 a2 a3)
   ·rw[hc1]at hr
    simp only[Uah,Q1,Q2]at hr;obtain⟨rfl,rfl,hg2⟩:=BQi hr;exact((ansY (N:=1000) (mKc (Zae Zgu) Zel (mKc (Zae Zf5) Zdp (mKc (Zae Zjy) Zhn (mKc (Zae Zec) Zcf mKn)))) f57 [])) ρ _ w _ vals _ _ hn ((Zpt a0 a1 a2 a3 g_e0 g_e1 g_e2 g_e3 g_e4 (hA.wt 0 rfl) (hA.rng 1 rfl) (hA.rng 2 rfl) hc0 hc1 hg2)) hA hH
   ·rw[hc1]at hr
    simp only[Uah,Q1,Q2]at hr;cases hc2:(Zag a1 a0)
    ·rw[hc2]at hr
     simp only[Uah,Q1,Q2]at hr;obtain⟨rfl,rfl,hg2⟩:=BQi hr;exact((ansY (N:=1000) (mKc (Zae Zgu) Zel (mKc (Zae Zf5) Zdp (mKc (Zae Zjy) Zhn (mKc (Zae Zec) Zcf mKn)))) f57 [])) ρ _ w _ vals _ _ hn ((Zpv a0 a1 a2 a3 g_e0 g_e1 g_e2 g_e3 g_e4 (hA.wt 0 rfl) (hA.rng 1 rfl) (hA.rng 2 rfl) hc0 hc1 hc2 hg2)) hA hH
    ·rw[hc2]at hr
     simp only[Uah,Q1,Q2]at hr;obtain⟨rfl,rfl,hg2⟩:=BQi hr;exact((ansY (N:=1000) (mKc (Zae Zgu) Zel (mKc (Zae Zf5) Zdp (mKc (Zae Zjy) Zhn (mKc (Zae Zec) Zcf mKn)))) f57 [])) ρ _ w _ vals _ _ hn ((Zps a0 a1 a2 a3 g_e0 g_e1 g_e2 g_e3 g_e4 (hA.wt 0 rfl) (hA.rng 1 rfl) (hA.rng 2 rfl) hc0 hc1 hc2 hg2)) hA hH
 ·simp only[Uah]at hr
  cases hr
theorem Zyg(N:Nat)(a1 a2 a3:Int)(a0:Array Value):ansV PZ (mkΓ [(113,con Zia)]) N f103 [] [.w 0,.i .i64 (a1),.i .i64 (a2),.i .i64 (a3)] [.row a0 37]=(bif (decide (0<=a1)&&decide (a1<36)) then (bif (okS a0&&((decide (0<=num ((((zc PZ 132).setIfInBounds 0 (.int .i8 (IntKind.i8.wrap a2))).setIfInBounds 2 (.int .i64 (1:Int))).setIfInBounds (3+((a1).toNat*1)) (.int .i64 (1:Int))) 0)&&decide (num ((((zc PZ 132).setIfInBounds 0 (.int .i8 (IntKind.i8.wrap a2))).setIfInBounds 2 (.int .i64 (1:Int))).setIfInBounds (3+((a1).toNat*1)) (.int .i64 (1:Int))) 0<2))&&((decide (0<=num ((((zc PZ 132).setIfInBounds 0 (.int .i8 (IntKind.i8.wrap a2))).setIfInBounds 2 (.int .i64 (1:Int))).setIfInBounds (3+((a1).toNat*1)) (.int .i64 (1:Int))) 1)&&decide (num ((((zc PZ 132).setIfInBounds 0 (.int .i8 (IntKind.i8.wrap a2))).setIfInBounds 2 (.int .i64 (1:Int))).setIfInBounds (3+((a1).toNat*1)) (.int .i64 (1:Int))) 1<=14))&&(decide (0<=a3)&&decide (a3<=14))))) then (some (.a (.g (Uar PZ a0 ((((zc PZ 132).setIfInBounds 0 (.int .i8 (IntKind.i8.wrap a2))).setIfInBounds 2 (.int .i64 (1:Int))).setIfInBounds (3+((a1).toNat*1)) (.int .i64 (1:Int))) a3.toNat) 132),.none,true))
   else (none))
  else (none)):=by kernel_rfl
def oneX(P:Program)(c b:Int):Array Value:=(((zc P 132).setIfInBounds 0 (.int .i8 (IntKind.i8.wrap b))).setIfInBounds 2 (.int .i64 1)).setIfInBounds (3+c.toNat*1) (.int .i64 1)
theorem Zwq{c b:Int}(hb:0<=b/\b<=1)(hc:0<=c/\c<=35):num (oneX PZ c b) 0=b/\num (oneX PZ c b) 1=0/\(oneX PZ c b).size=40/\∀i,i<36->num (oneX PZ c b) (3+i)=if i=c.toNat then 1 else 0:=by
 have hz:(zc PZ 132).size=40:=by kernel_rfl
 have hc0:(List.range 36).all (λk=>match (zc PZ 132)[3+k]? with|some (.int .i64 0)=>true|_=>false)=true:=by kernel_rfl
 have h1:(zc PZ 132)[1]?=some (.int .i8 0):=by kernel_rfl
 unfold oneX;refine⟨?_,?_,by simp[hz],λi hi=> ?_⟩
 ·unfold num;rw[jA,if_neg (by omega),jA,if_neg (by omega),jA,if_pos rfl,if_pos (by omega)]
  exact IntWalk.i8_in _ (by omega)
 ·unfold num;rw[jA,if_neg (by omega),jA,if_neg (by omega),jA,if_neg (by omega),h1]
 ·unfold num
  rw[jA]
  by_cases e:i=c.toNat
  ·rw[if_pos (by omega),if_pos (by simp;omega),if_pos e]
  ·rw[if_neg (by omega),if_neg e,jA,if_neg (by omega),jA,if_neg (by omega)]
   have:=List.all_eq_true.1 hc0 i (List.mem_range.2 hi);split at this
   ·rename_i e2;rw[e2]
   ·cases this
theorem Zvg(a1 a2 a3:Int)(a0:Array Value)(h_a1:i64.min<=a1/\a1<=i64.max)(h_a2:i64.min<=a2/\a2<=i64.max)(h_a3:i64.min<=a3/\a3<=i64.max)(h_a0:WT PZ 37 a0)(hg:((okS a0&&((Zab a1 a0&&Zaa a2 0 1)&&Zaa a3 0 14)))=true):ansV PZ (mkΓ [(113,con Zia)]) 1000 f103 [] [.w 0,.i .i64 (a1),.i .i64 (a2),.i .i64 (a3)] [.row a0 37]=some (.a (.g (Uar PZ a0 (oneX PZ a1 a2) a3.toNat) 132),.none,true):=by simp only[Q7]at hg;obtain⟨hok,⟨his,htd⟩,hhr⟩:=hg;have hc:=Zh7 his;have hb:=Zjb htd;have hh:=Zjb hhr;obtain⟨n0,n1,_,_⟩:=Zwq (c:=a1) (b:=a2) hb hc;refine(Zyg 1000 a1 a2 a3 a0).trans ?_;unfold oneX at n0 n1;rw[dec2 hc.1 (show a1<36 by omega),n0,n1,hok,dec2 hb.1 (show a2<2 by omega),Q3 hh.1,Q3 hh.2];rfl
def Zka:Con:=λargs h=>match args,h with
 |[.w 0,.i .i64 a1,.i .i64 a2,.i .i64 a3],[.row a0 37]=>some (.a (.g (Uar PZ a0 (oneX PZ a1 a2) a3.toNat) 132),.none,(okS a0&&((Zab a1 a0&&Zaa a2 0 1)&&Zaa a3 0 14)))
 |_,_=>none
theorem Zt2:EntX PZ 103:=Zah (fn:=f103)
theorem Zy5:Uac (md F) PZ 103 Zka:=(ansY (N:=1000) (mKc (Zae Ybx) Zvq mKn) f103 []).of (by
 intro ρ h w args vals r e hA hH hr;unfold Zka at hr;split at hr
 ·rename_i a1 a2 a3 a0
  obtain⟨rfl,rfl,hg2⟩:=BQi hr;exact Zvg a1 a2 a3 a0 (hA.rng 1 rfl) (hA.rng 2 rfl) (hA.rng 3 rfl) (hH.wt 0 rfl) hg2
 ·cases hr)
theorem Zzi(N:Nat)(a0 a1 a2:Int):ansV PZ (mkΓ []) N f85 [] [.i .i64 (a0),.i .i64 (a1),.i .i64 (a2)] []=(bif (decide (0<=a0)&&decide (a0<36)) then (some (.a (.g ((((zc PZ 132).setIfInBounds 0 (.int .i8 (IntKind.i8.wrap a2))).setIfInBounds 2 (.int .i64 (a1))).setIfInBounds (3+((a0).toNat*1)) (.int .i64 (a1))) 132),.none,true))
  else (none)):=by kernel_rfl
def Zar(P:Program)(a0 a1 a2:Int):Array Value:=((((zc P 132).setIfInBounds 0 (.int .i8 (IntKind.i8.wrap a2))).setIfInBounds 2 (.int .i64 (a1))).setIfInBounds (3+((a0).toNat*1)) (.int .i64 (a1)))
theorem Zwn(a0 a1 a2:Int)(h_a0:i64.min<=a0/\a0<=i64.max)(h_a1:i64.min<=a1/\a1<=i64.max)(h_a2:i64.min<=a2/\a2<=i64.max)(hg:((decide (0<=a0)&&decide (a0<36)))=true):ansV PZ (mkΓ []) 1000 f85 [] [.i .i64 (a0),.i .i64 (a1),.i .i64 (a2)] []=some (.a (.g (Zar PZ a0 a1 a2) 132),.none,true):=by
 refine(Zzi 1000 a0 a1 a2).trans ?_;unfold Zar;revert hg;generalize (decide (0<=a0))=b2;intro hg;cases b2
 ·skip
  first|exact(nomatch (hg:false=true)) | (simp only[Q1,Q2,BQ6];done)|rfl
 ·skip
  revert hg;generalize (decide (a0<36))=b4;intro hg;cases b4
  ·skip
   first|exact(nomatch (hg:false=true)) | (simp only[Q1,Q2,BQ6];done)|rfl
  ·skip
   first | (simp only[Q1,Q2,BQ6];done)|rfl|exact(nomatch (hg:false=true))
def Zk0:Con:=λargs h=>match args,h with
 |[.i .i64 a0,.i .i64 a1,.i .i64 a2],[]=>some (.a (.g (Zar PZ a0 a1 a2) 132),.none,(decide (0<=a0)&&decide (a0<36)))
 |_,_=>none
theorem Zu2:EntX PZ 85:=Zah (fn:=f85)
theorem Yc5:Uac (md F) PZ 85 Zk0:=(ansY (N:=1000) mKn f85 []).of (by
 intro ρ h w args vals r e hA hH hr;unfold Zk0 at hr;split at hr
 ·rename_i a0 a1 a2
  obtain⟨rfl,rfl,hg2⟩:=BQi hr;exact Zwn a0 a1 a2 (hA.rng 0 rfl) (hA.rng 1 rfl) (hA.rng 2 rfl) hg2
 ·cases hr)
def Uem(X:Array Value)(r:Array Value)(k:Nat):Array Value:=r.setIfInBounds (k*1) (.int .i64 (num X (3+k*1)))
def Ubz(P:Program)(S X:Array Value):Array Value:=folds (λr k=>if inC (num S 0) (num S 1) k&&Zac S (k:Int) then Uem X r k else r) (zc P 105) 36
def byV(P:Program)(S:Array Value)(c b:Int)(n:Nat):Array Value:=Ubz P S (Uar P S (oneX P c b) n)
def subF(D:Array Value)(m:Int)(r:Array Value)(k:Nat):Array Value:=r.setIfInBounds (k*1) (.int .i64 (i64.wrap (num r (k*1) - i64.wrap (num D (k*1)*m))))
def subV(C D:Array Value)(m:Int):Array Value:=folds (subF D m) C 36
def Zdc:Cons:=(mkΓx [] [(104,Zl8)] [(114,Zhl)])
def Zea(a0 a1:Array Value):St:=(⟨.a (.g a0 37) :: .a (.g a1 132) :: .a (.w 0) :: .a (.w 1) :: .a (.w 2) :: .a (.w 3) :: .a (.u) :: .a (.g a0 37) :: .a (.c 114 [7])::us 8 ([]),[.row a0 37,.row a1 132,.row (zc PZ 105) 105,.row (zc PZ 105) 105,.no,.no,.no,.row a0 37,.no,.no,.no,.no],[]⟩:St)
def Zlt:Array Value->BS
 |r0_3=>([.row r0_3 105]:BS)
def Zop:Empty->Exit×BS:=λx=>nomatch x
def Zg7(P:Program)(a0 a1:Array Value)(x0:Int):Array Value->Option (Stp (Array Value) Empty)
 |r0_3=>bif (decide (0<=x0)&&decide (x0<36)) then (bif (decide (0<=x0)&&decide (x0<36)) then (some (.more (r0_3.setIfInBounds ((x0).toNat*1) (.int .i64 (num a1 (3+((x0).toNat*1)))))))
   else (none))
  else (none)
noncomputable abbrev cKCyA86:=codeOf f86
theorem Ygv(N:Nat)(a0 a1:Array Value)(x0:Int):∀t:Array Value,Ud4 PZ Zdc N (cAt cKCyA86 [1,1,0,1,0,0]) (pAt (Uaa cKCyA86 [([],[3])]).1 [1,1,0,1,0]) 12 [3] [9] [(6,9)] (Zea a0 a1) [.i .i64 (x0)] (Zlt t)=mapS Zlt Zop (Zg7 PZ a0 a1 x0 t):=by
 rintro r0_3;refine Eq.trans (b:=(bif (decide (0<=x0)&&decide (x0<36)) then (bif (decide (0<=x0)&&decide (x0<36)) then (some (.more ([.row (r0_3.setIfInBounds ((x0).toNat*1) (.int .i64 (num a1 (3+((x0).toNat*1))))) 105]:BS)))
   else (none))
  else (none))) (by kernel_rfl) ?_
 simp only[Zg7,Zao,Zap,Zam,Zan,Zlt,Zop]
def Zl3(P:Program)(N:Nat)(a0 a1:Array Value)(q0_3:Array Value):Option (SV×Eff×Bool):=some (.a (.g q0_3 105),.none,true)
theorem Zvf(N:Nat)(a0 a1:Array Value)(q0_3:Array Value):(Uad 0 (kSeq (veC PZ Zdc N (cAt cKCyA86 [1,1,1]) (pAt (Uaa cKCyA86 [([],[3])]).1 [1,1,1]) (SV×Eff×Bool)) (finK PZ [] [.cell 4 105]))) .normal (Ubh [3] (Zea a0 a1) ([.row q0_3 105]:BS))=Zl3 PZ N a0 a1 q0_3:=by refine Eq.trans (b:=(some (.a (.g q0_3 105),.none,true))) (by kernel_rfl) ?_;rfl
theorem Ygm(N:Nat)(a0 a1:Array Value):Udi (Ua0 (λ(x0:Int) (hb:BS)=>Ud4 PZ Zdc N (cAt cKCyA86 [1,1,0,1,0,0]) (pAt (Uaa cKCyA86 [([],[3])]).1 [1,1,0,1,0]) 12 [3] [9] [(6,9)] (Zea a0 a1) [.i .i64 (x0)] hb) ((Uan (num a0 0) (num a0 1) 36).filter (Zac a0)) ([.row (zc PZ 105) 105]:BS)) (λhb=>(Uad 0 (kSeq (veC PZ Zdc N (cAt cKCyA86 [1,1,1]) (pAt (Uaa cKCyA86 [([],[3])]).1 [1,1,1]) (SV×Eff×Bool)) (finK PZ [] [.cell 4 105]))) .normal (Ubh [3] (Zea a0 a1) hb)) (λe hb=>(Uad 0 (kSeq (veC PZ Zdc N (cAt cKCyA86 [1,1,1]) (pAt (Uaa cKCyA86 [([],[3])]).1 [1,1,1]) (SV×Eff×Bool)) (finK PZ [] [.cell 4 105]))) e (Ubh [3] (Zea a0 a1) hb))=Ue1 (Ua0 (Zg7 PZ a0 a1) ((Uan (num a0 0) (num a0 1) 36).filter (Zac a0)) (zc PZ 105)) (λx=>Zl3 PZ N a0 a1 x) (λx:Empty=>nomatch x):=by
 refine Yfs Zlt Zop _ _ (λy t=>Ygv N a0 a1 y t) _ (zc PZ 105) _ _ _ _ ?_ ?_
 ·intro x;exact Zvf N a0 a1 x
 ·intro x;exact nomatch x
theorem Ye7(N:Nat)(a0 a1:Array Value):ansV PZ Zdc N f86 [([],[3])] [.g a0 37,.g a1 132] []=(bif (decide (0<=num a0 0)&&decide (num a0 0<=6)&&(decide (0<=num a0 1)&&decide (num a0 1<=6))) then (Ue1 (Ua0 (Zg7 PZ a0 a1) ((Uan (num a0 0) (num a0 1) 36).filter (Zac a0)) (zc PZ 105)) (λx=>Zl3 PZ N a0 a1 x) (λx:Empty=>nomatch x))
  else (none)):=by
 refine Eq.trans (b:=(bif (decide (0<=num a0 0)&&decide (num a0 0<=6)&&(decide (0<=num a0 1)&&decide (num a0 1<=6))) then (Udi (Ua0 (λ(x0:Int) (hb:BS)=>Ud4 PZ Zdc N (cAt cKCyA86 [1,1,0,1,0,0]) (pAt (Uaa cKCyA86 [([],[3])]).1 [1,1,0,1,0]) 12 [3] [9] [(6,9)] (Zea a0 a1) [.i .i64 (x0)] hb) ((Uan (num a0 0) (num a0 1) 36).filter (Zac a0)) ([.row (zc PZ 105) 105]:BS)) (λhb=>(Uad 0 (kSeq (veC PZ Zdc N (cAt cKCyA86 [1,1,1]) (pAt (Uaa cKCyA86 [([],[3])]).1 [1,1,1]) (SV×Eff×Bool)) (finK PZ [] [.cell 4 105]))) .normal (Ubh [3] (Zea a0 a1) hb)) (λe hb=>(Uad 0 (kSeq (veC PZ Zdc N (cAt cKCyA86 [1,1,1]) (pAt (Uaa cKCyA86 [([],[3])]).1 [1,1,1]) (SV×Eff×Bool)) (finK PZ [] [.cell 4 105]))) e (Ubh [3] (Zea a0 a1) hb)))
  else (none))) (by kernel_rfl) ?_
 simp only[Ygm N a0 a1]
theorem Yc6(a0 a1:Array Value)(h_a0:WT PZ 37 a0)(h_a1:WT PZ 132 a1)(hg:(okS a0)=true):ansV PZ Zdc 1000 f86 [([],[3])] [.g a0 37,.g a1 132] []=some (.a (.g (Ubz PZ a0 a1) 105),.none,true):=by
 refine(Ye7 1000 a0 a1).trans ?_;rw[Yn2 hg,Q1];have h:=Zvr (X:=Empty) (g:=Zg7 PZ a0 a1) (q:=Zac a0) (Uem a1) (wd:=num a0 0) (hi:=num a0 1) (λr k hk hi hq=>by
  have h1:decide ((k:Int)<36)=true:=Q3 (by omega);have h0:decide (0<=(k:Int))=true:=Q3 (by omega);simp only[Zg7,h0,h1,Q9,Bool.and_self,Q1];rfl) (zc PZ 105)
 rw[h];rfl
def Zno:Con:=λargs h=>match args,h with
 |[.g a0 37,.g a1 132],[]=>some (.a (.g (Ubz PZ a0 a1) 105),.none,okS a0)
 |_,_=>none
theorem Yan:EntX PZ 86:=Zah (fn:=f86)
theorem Ygr:Uac (md F) PZ 86 Zno:=(ansY (N:=1000) (mkΓx_nX Yaj Zvi (mkΓx_iX Zus Zr9 mkΓx_nilX)) f86 [([],[3])]).of (by
 intro ρ h w args vals r e hA hH hr;unfold Zno at hr;split at hr
 ·rename_i a0 a1
  obtain⟨rfl,rfl,hg2⟩:=BQi hr;exact Yc6 a0 a1 (hA.wt 0 rfl) (hA.wt 1 rfl) hg2
 ·cases hr)
def Zgd:Cons:=(mkΓ [(72,con Zbo),(73,con Zga),(103,con Zka)])
def Zih(a1 a2 a3:Int)(a0:Array Value):St:=(⟨.a (.w 0) :: .a (.i .i64 (a1)) :: .a (.i .i64 (a2)) :: .a (.i .i64 (a3))::us 4 (.a (.w 1) :: .a (.w 7) :: .a (.w 10) :: .a (.i .i64 (0:Int)) :: .a (.w 0) :: .a (.i .i64 (a1)) :: .a (.i .i64 (a2)) :: .a (.i .i64 (a3)) :: .a (.g (Uar PZ a0 (oneX PZ a1 a2) a3.toNat) 132) :: .a (.g (zc PZ 105) 105)::us 19 ([])),[.row a0 37,.row (zc PZ 105) 105,.no,.no,.no,.no,.no,.row (Uar PZ a0 (oneX PZ a1 a2) a3.toNat) 132,.no,.no,.row (zc PZ 105) 105,.no],[10,7]⟩:St)
def Zkd:Int×Array Value->LS
 |(y0_11,r0_10)=>([.a (.i .i64 (y0_11))],[.row r0_10 105])
def Zpn:Int×Array Value->Exit×LS
 |t=>((.exit 0),Zkd t)
def Zfl(P:Program)(a1 a2 a3:Int)(a0:Array Value):Int×Array Value->Option (Stp (Int×Array Value) (Int×Array Value))
 |(y0_11,r0_10)=>bif decide (y0_11<(36:Int)) then (bif (Zab y0_11 a0) then (bif decide (0<=(IntKind.u64.wrap y0_11)) then (bif (Zag y0_11 a0) then (bif (decide (0<=y0_11)&&decide (y0_11<36)) then (bif (decide (0<=y0_11)&&decide (y0_11<36)) then (some (.more ((i64.wrap (y0_11+(1:Int))),(r0_10.setIfInBounds ((y0_11).toNat*1) (.int .i64 (num (Uar PZ a0 (oneX PZ a1 a2) a3.toNat) (3+((y0_11).toNat*1))))))))
       else (none))
      else (none))
     else (some (.more ((i64.wrap (y0_11+(1:Int))),r0_10))))
    else (none))
   else (some (.more ((i64.wrap (y0_11+(1:Int))),r0_10))))
  else (some (.done (y0_11,r0_10)))
noncomputable abbrev cKCyA84:=codeOf f84
theorem Yja(N:Nat)(a1 a2 a3:Int)(a0:Array Value):∀t:Int×Array Value,Uag PZ Zgd N (cAt cKCyA84 [1,1,1,0,1,0,0]) (pAt (Uaa cKCyA84 [([11],[10])]).1 [1,1,1,0,1,0]) [11] [10] (Zih a1 a2 a3 a0) (Zkd t)=mapS Zkd Zpn (Zfl PZ a1 a2 a3 a0 t):=by
 rintro⟨y0_11,r0_10⟩;refine Eq.trans (b:=(bif decide (y0_11<(36:Int)) then (bif (Zab y0_11 a0) then (bif decide (0<=(IntKind.u64.wrap y0_11)) then (bif (Zag y0_11 a0) then (bif (decide (0<=y0_11)&&decide (y0_11<36)) then (bif (decide (0<=y0_11)&&decide (y0_11<36)) then (some (.more ([.a (.i .i64 (i64.wrap (y0_11+(1:Int))))],[.row (r0_10.setIfInBounds ((y0_11).toNat*1) (.int .i64 (num (Uar PZ a0 (oneX PZ a1 a2) a3.toNat) (3+((y0_11).toNat*1))))) 105])))
       else (none))
      else (none))
     else (some (.more ([.a (.i .i64 (i64.wrap (y0_11+(1:Int))))],[.row r0_10 105]))))
    else (none))
   else (some (.more ([.a (.i .i64 (i64.wrap (y0_11+(1:Int))))],[.row r0_10 105]))))
  else (some (.done ((.exit 0),([.a (.i .i64 (y0_11))],[.row r0_10 105])))))) (by kernel_rfl) ?_
 simp only[Zfl,Zao,Zap,Zam,Zan,Zkd,Zpn]
def Znu(P:Program)(N:Nat)(a1 a2 a3:Int)(a0:Array Value)(z0_11:Int)(q0_10:Array Value):Option (SV×Eff×Bool):=some (.a (.g q0_10 105),.none,true)
theorem Zv2(N:Nat)(a1 a2 a3:Int)(a0:Array Value)(z0_11:Int)(q0_10:Array Value):(Uad 0 (kSeq (veC PZ Zgd N (cAt cKCyA84 [1,1,1,1]) (pAt (Uaa cKCyA84 [([11],[10])]).1 [1,1,1,1]) (SV×Eff×Bool)) (finK PZ [.row a0 37] [.cell 8 105]))) (.exit 0) (left (writes (cAt cKCyA84 [1,1,1,0,1,0,0])) [11] [10] (Zih a1 a2 a3 a0) ([.a (.i .i64 (z0_11))],[.row q0_10 105]))=Znu PZ N a1 a2 a3 a0 z0_11 q0_10:=by refine Eq.trans (b:=(some (.a (.g q0_10 105),.none,true))) (by kernel_rfl) ?_;rfl
theorem Yip(N:Nat)(a1 a2 a3:Int)(a0:Array Value):Uaj (Uab (Uag PZ Zgd N (cAt cKCyA84 [1,1,1,0,1,0,0]) (pAt (Uaa cKCyA84 [([11],[10])]).1 [1,1,1,0,1,0]) [11] [10] (Zih a1 a2 a3 a0)) N ([.a (.i .i64 (0:Int))],[.row (zc PZ 105) 105])) (λe s=>(Uad 0 (kSeq (veC PZ Zgd N (cAt cKCyA84 [1,1,1,1]) (pAt (Uaa cKCyA84 [([11],[10])]).1 [1,1,1,1]) (SV×Eff×Bool)) (finK PZ [.row a0 37] [.cell 8 105]))) e (left (writes (cAt cKCyA84 [1,1,1,0,1,0,0])) [11] [10] (Zih a1 a2 a3 a0) s))=Uak (Uab (Zfl PZ a1 a2 a3 a0) N ((0:Int),(zc PZ 105))) (λx=>Znu PZ N a1 a2 a3 a0 x.1 x.2):=by refine Zau Zkd Zpn _ _ (Yja N a1 a2 a3 a0) N ((0:Int),(zc PZ 105)) _ _ ?_;intro x;exact Zv2 N a1 a2 a3 a0 x.1 x.2
theorem Yge(N:Nat)(a1 a2 a3:Int)(a0:Array Value):ansV PZ Zgd N f84 [([11],[10])] [.w 0,.i .i64 (a1),.i .i64 (a2),.i .i64 (a3)] [.row a0 37]=(bif (okS a0&&((Zab a1 a0&&Zaa a2 0 1)&&Zaa a3 0 14)) then (Uak (Uab (Zfl PZ a1 a2 a3 a0) N ((0:Int),(zc PZ 105))) (λx=>Znu PZ N a1 a2 a3 a0 x.1 x.2))
  else (none)):=by
 refine Eq.trans (b:=(bif (okS a0&&((Zab a1 a0&&Zaa a2 0 1)&&Zaa a3 0 14)) then (Uaj (Uab (Uag PZ Zgd N (cAt cKCyA84 [1,1,1,0,1,0,0]) (pAt (Uaa cKCyA84 [([11],[10])]).1 [1,1,1,0,1,0]) [11] [10] (Zih a1 a2 a3 a0)) N ([.a (.i .i64 (0:Int))],[.row (zc PZ 105) 105])) (λe s=>(Uad 0 (kSeq (veC PZ Zgd N (cAt cKCyA84 [1,1,1,1]) (pAt (Uaa cKCyA84 [([11],[10])]).1 [1,1,1,1]) (SV×Eff×Bool)) (finK PZ [.row a0 37] [.cell 8 105]))) e (left (writes (cAt cKCyA84 [1,1,1,0,1,0,0])) [11] [10] (Zih a1 a2 a3 a0) s)))
  else (none))) (by kernel_rfl) ?_
 simp only[Yip N a1 a2 a3 a0]
theorem Yex(a1 a2 a3:Int)(a0:Array Value)(h_a1:i64.min<=a1/\a1<=i64.max)(h_a2:i64.min<=a2/\a2<=i64.max)(h_a3:i64.min<=a3/\a3<=i64.max)(h_a0:WT PZ 37 a0)(hg:((okS a0&&((Zab a1 a0&&Zaa a2 0 1)&&Zaa a3 0 14)))=true):ansV PZ Zgd 1000 f84 [([11],[10])] [.w 0,.i .i64 (a1),.i .i64 (a2),.i .i64 (a3)] [.row a0 37]=some (.a (.g (byV PZ a0 a1 a2 a3.toNat) 105),.none,true):=by
 refine(Yge 1000 a1 a2 a3 a0).trans ?_;rw[hg,Q1];have h:=Zh6 (g:=Zfl PZ a1 a2 a3 a0) (λr k=>((k:Int),r)) (λr k=>if inC (num a0 0) (num a0 1) k&&Zac a0 (k:Int) then Uem (Uar PZ a0 (oneX PZ a1 a2) a3.toNat) r k else r) (m:=36) (t:=zc PZ 105) (x:=((36:Int),byV PZ a0 a1 a2 a3.toNat)) (N:=1000) (λk s hk _=>by
  have h1:decide ((k:Int)<36)=true:=Q3 (by omega);have h0:decide (0<=(k:Int))=true:=Q3 (by omega);have h3:i64.wrap ((k:Int)+1)=((k+1:Nat):Int):=by rw[w64 (by omega)];omega
  rw[Yoc h_a0 hk];simp only[Zfl,h1,h0,h3,Yky h_a0 hk,Ynj,Q9,Bool.and_self,Q1];cases inC (num a0 0) (num a0 1) k with
  |false=>rfl
  |true=>cases Zag (k:Int) a0<;>rfl) (by
  have h1:decide (((36:Nat):Int)<36)=false:=by decide
  simp only[Zfl,h1,Q2];rfl) (by omega)
 have h':Uab (Zfl PZ a1 a2 a3 a0) 1000 ((0:Int),(zc PZ 105))=some ((36:Int),byV PZ a0 a1 a2 a3.toNat):=h;rw[h'];rfl
def Zcg:Con:=λargs h=>match args,h with
 |[.w 0,.i .i64 a1,.i .i64 a2,.i .i64 a3],[.row a0 37]=>some (.a (.g (byV PZ a0 a1 a2 a3.toNat) 105),.none,(okS a0&&((Zab a1 a0&&Zaa a2 0 1)&&Zaa a3 0 14)))
 |_,_=>none
theorem Ycw:EntX PZ 84:=Zah (fn:=f84)
theorem Yi0:Uac (md F) PZ 84 Zcg:=(ansY (N:=1000) (mKc (Zae Zkl) Zgt (mKc (Zae Zlv) Zh5 (mKc (Zae Zy5) Zt2 mKn))) f84 [([11],[10])]).of (by
 intro ρ h w args vals r e hA hH hr;unfold Zcg at hr;split at hr
 ·rename_i a1 a2 a3 a0
  obtain⟨rfl,rfl,hg2⟩:=BQi hr;exact Yex a1 a2 a3 a0 (hA.rng 1 rfl) (hA.rng 2 rfl) (hA.rng 3 rfl) (hH.wt 0 rfl) hg2
 ·cases hr)
theorem Ydb:(zc PZ 105).size=36:=by kernel_rfl
theorem Yrr:bytesOf PZ 105=288:=by kernel_rfl
theorem Yl7(P:Program)(T:TypeId){r:Array Value}(h:r.size=(zc P T).size):spl (repC (zc P T) 1) 0 r.toList=r:=by
 have e:repC (zc P T) 1=zc P T:=by unfold repC repL repL;simp
 rw[e];exact Yjk h
theorem Zzr(S X:Array Value):(Ubz PZ S X).size=36:=by
 unfold Ubz;refine Zkh (λ_ (r:Array Value)=>r.size=36) Ydb (λk s _ hs=> ?_) 36 (Nat.le_refl _);unfold Uem;split
 ·rw[Array.size_setIfInBounds];exact hs
 ·exact hs
theorem Zpl(S:Array Value)(c b:Int)(n:Nat):(byV PZ S c b n).size=36:=Zzr _ _
theorem Yp3{c b:Int}(hc:0<=c/\c<=35):WT PZ 132 (oneX PZ c b):=by
 have o1:i64.min<=(1:Int)/\(1:Int)<=i64.max:=by have e1:i64.min=-9223372036854775808:=rfl;have e2:i64.max=9223372036854775807:=rfl;omega
 unfold oneX;exact Zn1 (k:=.i64) (Zn1 (k:=.i64) (Zn1 (k:=.i8) (WT.zero (by kernel_rfl)) Ydn.1 (Zgo .i8 _)) (Znp (by omega) (by omega)) o1) (Znp (by omega) (by omega)) o1
theorem Yqu{S:Array Value}{c b:Int}(hc:Zab c S=true)(hb:Zaa b 0 1=true):(0<=num (oneX PZ c b) 0/\num (oneX PZ c b) 0<2)/\(0<=num (oneX PZ c b) 1/\num (oneX PZ c b) 1<=14):=by have h1:=Zjb hb;obtain⟨n0,n1,_,_⟩:=Zwq (c:=c) (b:=b) h1 (Zh7 hc);rw[n0,n1];omega
theorem one_zero{S:Array Value}(hS:WT PZ 37 S){c b:Int}(hc:Zab c S=true)(hb:Zaa b 0 1=true):ZO S (oneX PZ c b):=by
 intro k hk hf;have hr:=Zh7 hc;rw[(Zwq (c:=c) (b:=b) (Zjb hb) hr).2.2.2 k hk,if_neg];intro e;have hkc:(k:Int)=c:=by omega
 rw[<- hkc,Yky hS hk,hf]at hc;cases hc
theorem one_go{S:Array Value}(hS:WT PZ 37 S)(hok:okS S=true){c b:Int}(hc:Zab c S=true)(hb:Zaa b 0 1=true){j:Nat}(hj:j<=14):goG S (Uar PZ S (oneX PZ c b) j)=true:=by obtain⟨l0,l1⟩:=Yqu hc hb;have hl:=Yft (S:=S) l0 l1 j hj;have n1:=(Zwq (c:=c) (b:=b) (Zjb hb) (Zh7 hc)).2.1;exact Ypw.2 ⟨hok,by rw[hl.1];exact l0,by rw[hl.2,n1];omega,Ypk (Yp3 (Zh7 hc)) hok hS (one_zero hS hc hb) j⟩
def recC(P:Program)(S:Array Value)(c b:Int):Nat->Array Value
 |0=>byV P S c b 0
 |n+1=>recC P S c b n++byV P S c b (n+1)
theorem Yla(S:Array Value)(c b:Int):∀n,(recC PZ S c b n).size=(n+1)*36
 |0=>Zpl _ _ _ _
 |n+1=>by rw[recC,Array.size_append,Yla S c b n,Zpl];omega
theorem Yl9(S:Array Value)(c b:Int):∀(n j:Nat),j<=n->(recC PZ S c b n).extract (j*36) (j*36+36)=byV PZ S c b j
 |0,j,hj=>by
  obtain rfl:j=0:=by omega
  rw[recC];exact Znb (Zpl _ _ _ _)
 | n+1,j,hj=>by
  have hz:=Yla S c b n
  by_cases h:j<=n
  ·rw[<- Yl9 S c b n j h,recC]
   refine Array.ext_getElem? λi=> ?_
   rw[Array.getElem?_extract,Array.getElem?_extract,Array.size_append,hz,Zpl]
   by_cases hi:i<min (j*36+36) ((n+1)*36) - j*36
   ·rw[if_pos (by omega),if_pos hi,Array.getElem?_append,if_pos (by omega)]
   ·rw[if_neg (by omega),if_neg hi]
  ·obtain rfl:j=n+1:=by omega
   rw[recC];refine Array.ext_getElem? λi=> ?_
   rw[Array.getElem?_extract,Array.size_append,hz,Zpl]
   by_cases hi:i<36
   ·rw[if_pos (by omega),Array.getElem?_append,if_neg (by omega),hz,show (n+1)*36+i - (n+1)*36=i by omega]
   ·rw[if_neg (by omega),Array.getElem?_eq_none (by rw[Zpl];omega)]
theorem num_sub1(a:Int)(h:1<=a/\a<=14):i64.wrap (a - 1)=a - 1/\(i64.wrap (a - 1)).toNat=a.toNat - 1:=by rw[w64 (by omega)];omega
def Zh9(a1 a2 a3:Int)(a0:Array Value):St:=(⟨.a (.w 0) :: .a (.i .i64 (a1)) :: .a (.i .i64 (a2)) :: .a (.i .i64 (a3))::us 4 (.a (.w 1) :: .a (.w 7) :: .a (.w 15) :: .a (.i .i64 (0:Int)) :: .a (.w 0) :: .a (.i .i64 (a1)) :: .a (.i .i64 (a2)) :: .a (.i .i64 (a3)) :: .a (.g (byV PZ a0 a1 a2 a3.toNat) 105) :: .a (.w 0) :: .a (.i .i64 (a1)) :: .a (.i .i64 (a2)) :: .a (.i .i64 (a3)) :: .a (.i .i64 (i64.wrap (a3 - (1:Int)))) :: .a (.g (byV PZ a0 a1 a2 (i64.wrap (a3 - (1:Int))).toNat) 105)::us 14 ([])),[.row a0 37,.row (zc PZ 105) 105,.no,.no,.no,.no,.no,.row (byV PZ a0 a1 a2 a3.toNat) 105,.no,.no,.no,.no,.no,.no,.no,.row (byV PZ a0 a1 a2 (i64.wrap (a3 - (1:Int))).toNat) 105,.no],[15,7]⟩:St)
def Zj8:Int×Array Value->LS
 |(y0_11,r0_7)=>([.a (.i .i64 (y0_11))],[.row r0_7 105])
def Zpi:Int×Array Value->Exit×LS
 |t=>((.exit 0),Zj8 t)
def Zd2(P:Program)(a1 a2 a3:Int)(a0:Array Value):Int×Array Value->Option (Stp (Int×Array Value) (Int×Array Value))
 |(y0_11,r0_7)=>bif decide (y0_11<(36:Int)) then (bif (decide (0<=y0_11)&&decide (y0_11<36)) then (bif (decide (0<=y0_11)&&decide (y0_11<36)) then (bif (decide (0<=y0_11)&&decide (y0_11<36)) then (some (.more ((i64.wrap (y0_11+(1:Int))),(r0_7.setIfInBounds ((y0_11).toNat*1) (.int .i64 (i64.wrap ((num r0_7 ((y0_11).toNat*1)) - (i64.wrap ((12:Int)*(num (byV PZ a0 a1 a2 (i64.wrap (a3 - (1:Int))).toNat) ((y0_11).toNat*1)))))))))))
     else (none))
    else (none))
   else (none))
  else (some (.done (y0_11,r0_7)))
noncomputable abbrev cKCyA59:=codeOf f59
theorem Yic(N:Nat)(a1 a2 a3:Int)(a0:Array Value):∀t:Int×Array Value,Uag PZ (mkΓ [(84,con Zcg)]) N (cAt cKCyA59 [1,1,1,0,1,0,0]) (pAt (Uaa cKCyA59 [([11],[7])]).1 [1,1,1,0,1,0]) [11] [7] (Zh9 a1 a2 a3 a0) (Zj8 t)=mapS Zj8 Zpi (Zd2 PZ a1 a2 a3 a0 t):=by
 rintro⟨y0_11,r0_7⟩;refine Eq.trans (b:=(bif decide (y0_11<(36:Int)) then (bif (decide (0<=y0_11)&&decide (y0_11<36)) then (bif (decide (0<=y0_11)&&decide (y0_11<36)) then (bif (decide (0<=y0_11)&&decide (y0_11<36)) then (some (.more ([.a (.i .i64 (i64.wrap (y0_11+(1:Int))))],[.row (r0_7.setIfInBounds ((y0_11).toNat*1) (.int .i64 (i64.wrap ((num r0_7 ((y0_11).toNat*1)) - (i64.wrap ((12:Int)*(num (byV PZ a0 a1 a2 (i64.wrap (a3 - (1:Int))).toNat) ((y0_11).toNat*1)))))))) 105])))
     else (none))
    else (none))
   else (none))
  else (some (.done ((.exit 0),([.a (.i .i64 (y0_11))],[.row r0_7 105])))))) (by kernel_rfl) ?_
 simp only[Zd2,Zao,Zap,Zam,Zan,Zj8,Zpi]
def Zj0(P:Program)(N:Nat)(a1 a2 a3:Int)(a0:Array Value)(z0_11:Int)(q0_7:Array Value):Option (SV×Eff×Bool):=some (.a (.g q0_7 105),.none,true)
theorem Zyo(N:Nat)(a1 a2 a3:Int)(a0:Array Value)(z0_11:Int)(q0_7:Array Value):(Uad 0 (kSeq (veC PZ (mkΓ [(84,con Zcg)]) N (cAt cKCyA59 [1,1,1,1]) (pAt (Uaa cKCyA59 [([11],[7])]).1 [1,1,1,1]) (SV×Eff×Bool)) (finK PZ [.row a0 37] [.cell 8 105]))) (.exit 0) (left (writes (cAt cKCyA59 [1,1,1,0,1,0,0])) [11] [7] (Zh9 a1 a2 a3 a0) ([.a (.i .i64 (z0_11))],[.row q0_7 105]))=Zj0 PZ N a1 a2 a3 a0 z0_11 q0_7:=by refine Eq.trans (b:=(some (.a (.g q0_7 105),.none,true))) (by kernel_rfl) ?_;rfl
theorem Yiv(N:Nat)(a1 a2 a3:Int)(a0:Array Value):Uaj (Uab (Uag PZ (mkΓ [(84,con Zcg)]) N (cAt cKCyA59 [1,1,1,0,1,0,0]) (pAt (Uaa cKCyA59 [([11],[7])]).1 [1,1,1,0,1,0]) [11] [7] (Zh9 a1 a2 a3 a0)) N ([.a (.i .i64 (0:Int))],[.row (byV PZ a0 a1 a2 a3.toNat) 105])) (λe s=>(Uad 0 (kSeq (veC PZ (mkΓ [(84,con Zcg)]) N (cAt cKCyA59 [1,1,1,1]) (pAt (Uaa cKCyA59 [([11],[7])]).1 [1,1,1,1]) (SV×Eff×Bool)) (finK PZ [.row a0 37] [.cell 8 105]))) e (left (writes (cAt cKCyA59 [1,1,1,0,1,0,0])) [11] [7] (Zh9 a1 a2 a3 a0) s))=Uak (Uab (Zd2 PZ a1 a2 a3 a0) N ((0:Int),(byV PZ a0 a1 a2 a3.toNat))) (λx=>Zj0 PZ N a1 a2 a3 a0 x.1 x.2):=by refine Zau Zj8 Zpi _ _ (Yic N a1 a2 a3 a0) N ((0:Int),(byV PZ a0 a1 a2 a3.toNat)) _ _ ?_;intro x;exact Zyo N a1 a2 a3 a0 x.1 x.2
theorem Ygx(N:Nat)(a1 a2 a3:Int)(a0:Array Value):ansV PZ (mkΓ [(84,con Zcg)]) N f59 [([11],[7])] [.w 0,.i .i64 (a1),.i .i64 (a2),.i .i64 (a3)] [.row a0 37]=(bif (okS a0&&((Zab a1 a0&&Zaa a2 0 1)&&Zaa a3 0 14)) then (bif (okS a0&&((Zab a1 a0&&Zaa a2 0 1)&&Zaa (i64.wrap (a3 - (1:Int))) 0 14)) then (Uak (Uab (Zd2 PZ a1 a2 a3 a0) N ((0:Int),(byV PZ a0 a1 a2 a3.toNat))) (λx=>Zj0 PZ N a1 a2 a3 a0 x.1 x.2))
   else (none))
  else (none)):=by
 refine Eq.trans (b:=(bif (okS a0&&((Zab a1 a0&&Zaa a2 0 1)&&Zaa a3 0 14)) then (bif (okS a0&&((Zab a1 a0&&Zaa a2 0 1)&&Zaa (i64.wrap (a3 - (1:Int))) 0 14)) then (Uaj (Uab (Uag PZ (mkΓ [(84,con Zcg)]) N (cAt cKCyA59 [1,1,1,0,1,0,0]) (pAt (Uaa cKCyA59 [([11],[7])]).1 [1,1,1,0,1,0]) [11] [7] (Zh9 a1 a2 a3 a0)) N ([.a (.i .i64 (0:Int))],[.row (byV PZ a0 a1 a2 a3.toNat) 105])) (λe s=>(Uad 0 (kSeq (veC PZ (mkΓ [(84,con Zcg)]) N (cAt cKCyA59 [1,1,1,1]) (pAt (Uaa cKCyA59 [([11],[7])]).1 [1,1,1,1]) (SV×Eff×Bool)) (finK PZ [.row a0 37] [.cell 8 105]))) e (left (writes (cAt cKCyA59 [1,1,1,0,1,0,0])) [11] [7] (Zh9 a1 a2 a3 a0) s)))
   else (none))
  else (none))) (by kernel_rfl) ?_
 simp only[Yiv N a1 a2 a3 a0]
theorem Ydl(a1 a2 a3:Int)(a0:Array Value)(h_a1:i64.min<=a1/\a1<=i64.max)(h_a2:i64.min<=a2/\a2<=i64.max)(h_a3:i64.min<=a3/\a3<=i64.max)(h_a0:WT PZ 37 a0)(hg:((okS a0&&((Zab a1 a0&&Zaa a2 0 1)&&Zaa a3 1 14)))=true):ansV PZ (mkΓ [(84,con Zcg)]) 1000 f59 [([11],[7])] [.w 0,.i .i64 (a1),.i .i64 (a2),.i .i64 (a3)] [.row a0 37]=some (.a (.g (subV (byV PZ a0 a1 a2 a3.toNat) (byV PZ a0 a1 a2 (a3.toNat - 1)) 12) 105),.none,true):=by
 simp only[Q7]at hg;obtain⟨q0,⟨q1,q2⟩,q3⟩:=hg;have r3:=Zjb q3;obtain⟨e1,e2⟩:=num_sub1 a3 r3;refine(Ygx 1000 a1 a2 a3 a0).trans ?_;rw[q0,q1,q2,in_of (x:=a3) (a:=0) (b:=14) (by omega),in_of (x:=i64.wrap (a3 - 1)) (a:=0) (b:=14) (by omega)];simp only[Bool.and_self,Q1];have h:=Zh6 (g:=Zd2 PZ a1 a2 a3 a0) (λr k=>((k:Int),r)) (subF (byV PZ a0 a1 a2 (a3.toNat - 1)) 12) (m:=36) (t:=byV PZ a0 a1 a2 a3.toNat) (x:=((36:Int),subV (byV PZ a0 a1 a2 a3.toNat) (byV PZ a0 a1 a2 (a3.toNat - 1)) 12)) (N:=1000) (λk s hk _=>by
  have h1:decide ((k:Int)<36)=true:=Q3 (by omega);have h0:decide (0<=(k:Int))=true:=Q3 (by omega);have h3:i64.wrap ((k:Int)+1)=((k+1:Nat):Int):=by rw[w64 (by omega)];omega
  simp only[Zd2,h1,h0,h3,e2,Q9,Bool.and_self,Q1];unfold subF;rw[Int.mul_comm (12:Int)]) (by
  have h1:decide (((36:Nat):Int)<36)=false:=by decide
  simp only[Zd2,h1,Q2];rfl) (by omega)
 have hq:∀q,Uab (Zd2 PZ a1 a2 a3 a0) 1000 ((0:Int),byV PZ a0 a1 a2 a3.toNat)=some ((36:Int),q)->Uak (Uab (Zd2 PZ a1 a2 a3 a0) 1000 ((0:Int),byV PZ a0 a1 a2 a3.toNat)) (λx=>Zj0 PZ 1000 a1 a2 a3 a0 x.1 x.2)=some (.a (.g q 105),.none,true):=λq e=>by rw[e];rfl
 exact hq _ h
def Zoh:Con:=λargs h=>match args,h with
 |[.w 0,.i .i64 a1,.i .i64 a2,.i .i64 a3],[.row a0 37]=>some (.a (.g (subV (byV PZ a0 a1 a2 a3.toNat) (byV PZ a0 a1 a2 (a3.toNat - 1)) 12) 105),.none,(okS a0&&((Zab a1 a0&&Zaa a2 0 1)&&Zaa a3 1 14)))
 |_,_=>none
theorem Yb8:EntX PZ 59:=Zah (fn:=f59)
theorem Yh5:Uac (md F) PZ 59 Zoh:=(ansY (N:=1000) (mKc (Zae Yi0) Ycw mKn) f59 [([11],[7])]).of (by
 intro ρ h w args vals r e hA hH hr;unfold Zoh at hr;split at hr
 ·rename_i a1 a2 a3 a0
  obtain⟨rfl,rfl,hg2⟩:=BQi hr;exact Ydl a1 a2 a3 a0 (hA.rng 1 rfl) (hA.rng 2 rfl) (hA.rng 3 rfl) (hH.wt 0 rfl) hg2
 ·cases hr)
def Zcw(a1 a2:Int)(b_a0:Option (Option Addr))(n_a0:Nat)(a0:Array Value):St:=(⟨.a (.l 0) :: .a (.i .i64 (a1)) :: .a (.i .i64 (a2))::us 3 (.a (.w 1) :: .a (.w 6) :: .a (.u) :: .a (.u) :: .a (.l 0) :: .a (.i .i64 (a2)) :: .a (.q 0 (((a2).toNat*36)) 105) :: .a (.g (a0.extract ((a2).toNat*36) (((a2).toNat*36)+36)) 105) :: .a (.l 0) :: .a (.i .i64 (a1)) :: .a (.q 0 (((a1).toNat*36)) 105) :: .a (.g (a0.extract ((a1).toNat*36) (((a1).toNat*36)+36)) 105) :: .a (.i .i64 (0:Int))::us 16 ([])),[.sl (.came b_a0) n_a0 a0 105,.row (zc PZ 105) 105,.no,.no,.no,.no,.row (a0.extract ((a2).toNat*36) (((a2).toNat*36)+36)) 105,.no],[6]⟩:St)
def Zdz:Int×Array Value->LS
 |(y0_18,r0_6)=>([.a (.i .i64 (y0_18))],[.row r0_6 105])
def Zi1:Int×Array Value->Exit×LS
 |t=>((.exit 0),Zdz t)
def Za4(P:Program)(a1 a2:Int)(b_a0:Option (Option Addr))(n_a0:Nat)(a0:Array Value):Int×Array Value->Option (Stp (Int×Array Value) (Int×Array Value))
 |(y0_18,r0_6)=>bif decide (y0_18<(36:Int)) then (bif (decide (0<=y0_18)&&decide (y0_18<36)) then (bif (decide (0<=y0_18)&&decide (y0_18<36)) then (bif (decide (0<=(i64.wrap (a2 - a1)))&&decide ((i64.wrap (a2 - a1))<=14)) then (bif (decide (0<=y0_18)&&decide (y0_18<36)) then (some (.more ((i64.wrap (y0_18+(1:Int))),(r0_6.setIfInBounds ((y0_18).toNat*1) (.int .i64 (i64.wrap ((num r0_6 ((y0_18).toNat*1)) - (i64.wrap ((num (a0.extract ((a1).toNat*36) (((a1).toNat*36)+36)) ((y0_18).toNat*1))*(12^(i64.wrap (a2 - a1)).toNat))))))))))
      else (none))
     else (none))
    else (none))
   else (none))
  else (some (.done (y0_18,r0_6)))
noncomputable abbrev cKCyA108:=codeOf f108
theorem Zua(N:Nat)(a1 a2:Int)(b_a0:Option (Option Addr))(n_a0:Nat)(a0:Array Value):∀t:Int×Array Value,Uag PZ (mkΓ [(117,con Za8)]) N (cAt cKCyA108 [1,1,0,1,0,0]) (pAt (Uaa cKCyA108 [([18],[6])]).1 [1,1,0,1,0]) [18] [6] (Zcw a1 a2 b_a0 n_a0 a0) (Zdz t)=mapS Zdz Zi1 (Za4 PZ a1 a2 b_a0 n_a0 a0 t):=by
 rintro⟨y0_18,r0_6⟩;refine Eq.trans (b:=(bif decide (y0_18<(36:Int)) then (bif (decide (0<=y0_18)&&decide (y0_18<36)) then (bif (decide (0<=y0_18)&&decide (y0_18<36)) then (bif (decide (0<=(i64.wrap (a2 - a1)))&&decide ((i64.wrap (a2 - a1))<=14)) then (bif (decide (0<=y0_18)&&decide (y0_18<36)) then (some (.more ([.a (.i .i64 (i64.wrap (y0_18+(1:Int))))],[.row (r0_6.setIfInBounds ((y0_18).toNat*1) (.int .i64 (i64.wrap ((num r0_6 ((y0_18).toNat*1)) - (i64.wrap ((num (a0.extract ((a1).toNat*36) (((a1).toNat*36)+36)) ((y0_18).toNat*1))*(12^(i64.wrap (a2 - a1)).toNat))))))) 105])))
      else (none))
     else (none))
    else (none))
   else (none))
  else (some (.done ((.exit 0),([.a (.i .i64 (y0_18))],[.row r0_6 105])))))) (by kernel_rfl) ?_
 simp only[Za4,Zao,Zap,Zam,Zan,Zdz,Zi1]
def Zer(P:Program)(N:Nat)(a1 a2:Int)(b_a0:Option (Option Addr))(n_a0:Nat)(a0:Array Value)(z0_18:Int)(q0_6:Array Value):Option (SV×Eff×Bool):=some (.a (.g q0_6 105),.none,true)
theorem Zol(N:Nat)(a1 a2:Int)(b_a0:Option (Option Addr))(n_a0:Nat)(a0:Array Value)(z0_18:Int)(q0_6:Array Value):(Uad 0 (kSeq (veC PZ (mkΓ [(117,con Za8)]) N (cAt cKCyA108 [1,1,1]) (pAt (Uaa cKCyA108 [([18],[6])]).1 [1,1,1]) (SV×Eff×Bool)) (finK PZ [.sl (.came b_a0) n_a0 a0 105] [.cell 6 105]))) (.exit 0) (left (writes (cAt cKCyA108 [1,1,0,1,0,0])) [18] [6] (Zcw a1 a2 b_a0 n_a0 a0) ([.a (.i .i64 (z0_18))],[.row q0_6 105]))=Zer PZ N a1 a2 b_a0 n_a0 a0 z0_18 q0_6:=by refine Eq.trans (b:=(some (.a (.g q0_6 105),.none,true))) (by kernel_rfl) ?_;rfl
theorem Ztj(N:Nat)(a1 a2:Int)(b_a0:Option (Option Addr))(n_a0:Nat)(a0:Array Value):Uaj (Uab (Uag PZ (mkΓ [(117,con Za8)]) N (cAt cKCyA108 [1,1,0,1,0,0]) (pAt (Uaa cKCyA108 [([18],[6])]).1 [1,1,0,1,0]) [18] [6] (Zcw a1 a2 b_a0 n_a0 a0)) N ([.a (.i .i64 (0:Int))],[.row (a0.extract ((a2).toNat*36) (((a2).toNat*36)+36)) 105])) (λe s=>(Uad 0 (kSeq (veC PZ (mkΓ [(117,con Za8)]) N (cAt cKCyA108 [1,1,1]) (pAt (Uaa cKCyA108 [([18],[6])]).1 [1,1,1]) (SV×Eff×Bool)) (finK PZ [.sl (.came b_a0) n_a0 a0 105] [.cell 6 105]))) e (left (writes (cAt cKCyA108 [1,1,0,1,0,0])) [18] [6] (Zcw a1 a2 b_a0 n_a0 a0) s))=Uak (Uab (Za4 PZ a1 a2 b_a0 n_a0 a0) N ((0:Int),(a0.extract ((a2).toNat*36) (((a2).toNat*36)+36)))) (λx=>Zer PZ N a1 a2 b_a0 n_a0 a0 x.1 x.2):=by refine Zau Zdz Zi1 _ _ (Zua N a1 a2 b_a0 n_a0 a0) N ((0:Int),(a0.extract ((a2).toNat*36) (((a2).toNat*36)+36))) _ _ ?_;intro x;exact Zol N a1 a2 b_a0 n_a0 a0 x.1 x.2
theorem Zsj(N:Nat)(a1 a2:Int)(b_a0:Option (Option Addr))(n_a0:Nat)(a0:Array Value):ansV PZ (mkΓ [(117,con Za8)]) N f108 [([18],[6])] [.l 0,.i .i64 (a1),.i .i64 (a2)] [.sl (.came b_a0) n_a0 a0 105]=(bif (decide (0<=a2)&&decide (a2<(n_a0:Int))) then (bif (decide (0<=a1)&&decide (a1<(n_a0:Int))) then (Uak (Uab (Za4 PZ a1 a2 b_a0 n_a0 a0) N ((0:Int),(a0.extract ((a2).toNat*36) (((a2).toNat*36)+36)))) (λx=>Zer PZ N a1 a2 b_a0 n_a0 a0 x.1 x.2))
   else (none))
  else (none)):=by
 refine Eq.trans (b:=(bif (decide (0<=a2)&&decide (a2<(n_a0:Int))) then (bif (decide (0<=a1)&&decide (a1<(n_a0:Int))) then (Uaj (Uab (Uag PZ (mkΓ [(117,con Za8)]) N (cAt cKCyA108 [1,1,0,1,0,0]) (pAt (Uaa cKCyA108 [([18],[6])]).1 [1,1,0,1,0]) [18] [6] (Zcw a1 a2 b_a0 n_a0 a0)) N ([.a (.i .i64 (0:Int))],[.row (a0.extract ((a2).toNat*36) (((a2).toNat*36)+36)) 105])) (λe s=>(Uad 0 (kSeq (veC PZ (mkΓ [(117,con Za8)]) N (cAt cKCyA108 [1,1,1]) (pAt (Uaa cKCyA108 [([18],[6])]).1 [1,1,1]) (SV×Eff×Bool)) (finK PZ [.sl (.came b_a0) n_a0 a0 105] [.cell 6 105]))) e (left (writes (cAt cKCyA108 [1,1,0,1,0,0])) [18] [6] (Zcw a1 a2 b_a0 n_a0 a0) s)))
   else (none))
  else (none))) (by kernel_rfl) ?_
 simp only[Ztj N a1 a2 b_a0 n_a0 a0]
theorem Zqk(a1 a2:Int)(b_a0:Option (Option Addr))(n_a0:Nat)(a0:Array Value)(h_a1:i64.min<=a1/\a1<=i64.max)(h_a2:i64.min<=a2/\a2<=i64.max)(h_a0:a0.size=n_a0*(lay PZ 105).length/\(∀k,k<n_a0->WT PZ 105 (a0.extract (k*(lay PZ 105).length) (k*(lay PZ 105).length+(lay PZ 105).length)))/\n_a0<=9223372036854775807)(hg:(((decide (0<=a1)&&decide (a1<=a2))&&(decide (a2<=a1+14)&&decide (a2<(n_a0:Int)))))=true):ansV PZ (mkΓ [(117,con Za8)]) 1000 f108 [([18],[6])] [.l 0,.i .i64 (a1),.i .i64 (a2)] [.sl (.came b_a0) n_a0 a0 105]=some (.a (.g (subV (a0.extract (a2.toNat*36) (a2.toNat*36+36)) (a0.extract (a1.toNat*36) (a1.toNat*36+36)) (12^(a2 - a1).toNat)) 105),.none,true):=by
 simp only[Q7,decide_eq_true_eq]at hg;obtain⟨⟨q0,q1⟩,q2,q3⟩:=hg;have ew:i64.wrap (a2 - a1)=a2 - a1:=w64 (by omega);refine(Zsj 1000 a1 a2 b_a0 n_a0 a0).trans ?_;rw[dec2 (show 0<=a2 by omega) q3,dec2 q0 (show a1<(n_a0:Int) by omega)];simp only[Q1];have hq:∀q,Uab (Za4 PZ a1 a2 b_a0 n_a0 a0) 1000 ((0:Int),a0.extract (a2.toNat*36) (a2.toNat*36+36))=some ((36:Int),q)->Uak (Uab (Za4 PZ a1 a2 b_a0 n_a0 a0) 1000 ((0:Int),a0.extract (a2.toNat*36) (a2.toNat*36+36))) (λx=>Zer PZ 1000 a1 a2 b_a0 n_a0 a0 x.1 x.2)=some (.a (.g q 105),.none,true):=λq e=>by rw[e];rfl
 refine hq _ ?_;unfold subV;have hF:∀(k:Nat) (s:Array Value),k<36->Za4 PZ a1 a2 b_a0 n_a0 a0 ((k:Int),s)=some (.more (((k+1:Nat):Int),subF (a0.extract (a1.toNat*36) (a1.toNat*36+36)) (12^(a2 - a1).toNat) s k)):=λk s hk=>by
  have h1:decide ((k:Int)<36)=true:=Q3 (by omega);have h0:decide (0<=(k:Int))=true:=Q3 (by omega);have h3:i64.wrap ((k:Int)+1)=((k+1:Nat):Int):=by rw[w64 (by omega)];omega
  have h4:decide (0<=a2 - a1)=true:=Q3 (by omega);have h5:decide (a2 - a1<=14)=true:=Q3 (by omega);simp only[Za4,h1,h0,h3,ew,h4,h5,Q9,Bool.and_self,Q1,subF]
 generalize a0.extract (a2.toNat*36) (a2.toNat*36+36)=C;generalize hD:a0.extract (a1.toNat*36) (a1.toNat*36+36)=D at hF|-
 generalize hm:(12:Int)^(a2 - a1).toNat=m at hF|-
 exact Zh6 (g:=Za4 PZ a1 a2 b_a0 n_a0 a0) (λr k=>((k:Int),r)) (subF D m) (m:=36) (t:=C) (x:=((36:Int),folds (subF D m) C 36)) (N:=1000) (λk s hk _=>hF k s hk) (by
  have h1:decide (((36:Nat):Int)<36)=false:=by decide
  generalize folds (subF D m) C 36=q;simp only[Za4,h1,Q2];rfl) (by omega)
def Zfm:Con:=λargs h=>match args,h with
 |[.l 0,.i .i64 a1,.i .i64 a2],[.sl (.came b_a0) n_a0 a0 105]=>some (.a (.g (subV (a0.extract (a2.toNat*36) (a2.toNat*36+36)) (a0.extract (a1.toNat*36) (a1.toNat*36+36)) (12^(a2 - a1).toNat)) 105),.none,((decide (0<=a1)&&decide (a1<=a2))&&(decide (a2<=a1+14)&&decide (a2<(n_a0:Int)))))
 |_,_=>none
theorem Zp8:EntX PZ 108:=Zah (fn:=f108)
theorem Ztp:Uac (md F) PZ 108 Zfm:=(ansY (N:=1000) (mKc (Zae Zxs) Zr4 mKn) f108 [([18],[6])]).of (by
 intro ρ h w args vals r e hA hH hr;unfold Zfm at hr;split at hr
 ·rename_i a1 a2 b_a0 n_a0 a0
  obtain⟨rfl,rfl,hg2⟩:=BQi hr;exact Zqk a1 a2 b_a0 n_a0 a0 (hA.rng 1 rfl) (hA.rng 2 rfl) (hH.slw 0 rfl) hg2
 ·cases hr)
def Zdk:Cons:=(mkΓ [(85,con Zk0),(86,con Zno),(87,con Zmk)])
def Zev(a0:Array Value)(a1 a2 a3:Int):St:=(⟨.a (.g a0 37) :: .a (.i .i64 (a1)) :: .a (.i .i64 (a2)) :: .a (.i .i64 (a3)) :: .a (.w 0)::us 3 (.a (.v (.slice none 0 0)) :: .a (.w 5) :: .a (.l 12) :: .a (.i .i64 (a1)) :: .a (.i .i64 (a2)) :: .a (.g (Zar PZ a1 (1:Int) a2) 132) :: .a (.g a0 37) :: .a (.g (Zar PZ a1 (1:Int) a2) 132) :: .a (.g (Ubz PZ a0 (Zar PZ a1 (1:Int) a2)) 105) :: .a (.l 10) :: .a (.i .i64 (a3)) :: .a (.i .i64 (0:Int))::us 12 ([])),[.row a0 37,.no,.no,.no,.no,.row (Zar PZ a1 (1:Int) a2) 132,.no,.no,.no,.no,.sp,.no,.sl .own 1 (spl (repC (zc PZ 105) 1) 0 (Ubz PZ a0 (Zar PZ a1 (1:Int) a2)).toList) 105],[10,5]⟩:St)
def Zgz:Int×Array Value×Nat×Array Value->LS
 |(y0_19,r0_5,m0_10,y0_10)=>([.a (.i .i64 (y0_19)),.a (.l 12)],[.row r0_5 132,.sl .own m0_10 y0_10 105])
def Zmn:Int×Array Value×Nat×Array Value->Exit×LS
 |t=>((.exit 0),Zgz t)
def Zc6(P:Program)(a0:Array Value)(a1 a2 a3:Int):Int×Array Value×Nat×Array Value->Option (Stp (Int×Array Value×Nat×Array Value) (Int×Array Value×Nat×Array Value))
 |(y0_19,r0_5,m0_10,y0_10)=>bif decide (y0_19<a3) then (bif (goG a0 r0_5) then (bif okS a0 then (bif (Nat.ble ((m0_10+1)*bytesOf PZ 105) 140737488355328) then (some (.more ((i64.wrap (y0_19+(1:Int))),(Ubg PZ a0 r0_5),(m0_10+1),(y0_10++(spl (repC (zc PZ 105) 1) 0 (Ubz PZ a0 (Ubg PZ a0 r0_5)).toList)))))
     else (none))
    else (none))
   else (none))
  else (some (.done (y0_19,r0_5,m0_10,y0_10)))
noncomputable abbrev cKCyA61:=codeOf f61
theorem Ybr(N:Nat)(a0:Array Value)(a1 a2 a3:Int):∀t:Int×Array Value×Nat×Array Value,Ugi PZ Zdk N (cAt cKCyA61 [1,1,1,0,1,0,0]) (pAt (Uaa cKCyA61 [([19],[5,1000010,105])]).1 [1,1,1,0,1,0]) [19] [5] 10 105 12 (Zev a0 a1 a2 a3) (Zgz t)=mapS Zgz Zmn (Zc6 PZ a0 a1 a2 a3 t):=by
 rintro⟨y0_19,r0_5,m0_10,y0_10⟩;refine Eq.trans (b:=(bif decide (y0_19<a3) then (bif (goG a0 r0_5) then (bif okS a0 then (bif (Nat.ble ((m0_10+1)*bytesOf PZ 105) 140737488355328) then (some (.more ([.a (.i .i64 (i64.wrap (y0_19+(1:Int)))),.a (.l 12)],[.row (Ubg PZ a0 r0_5) 132,.sl .own (m0_10+1) (y0_10++(spl (repC (zc PZ 105) 1) 0 (Ubz PZ a0 (Ubg PZ a0 r0_5)).toList)) 105])))
     else (none))
    else (none))
   else (none))
  else (some (.done ((.exit 0),([.a (.i .i64 (y0_19)),.a (.l 12)],[.row r0_5 132,.sl .own m0_10 y0_10 105])))))) (by kernel_rfl) ?_
 simp only[Zc6,Zao,Zap,Zam,Zan,Zgz,Zmn]
def Zjt(P:Program)(N:Nat)(a0:Array Value)(a1 a2 a3:Int)(z0_19:Int)(q0_5:Array Value)(p0_10:Nat)(z0_10:Array Value):Option (SV×Eff×Bool):=some (.a .x,.newS none p0_10 z0_10 105,true)
theorem Zra(N:Nat)(a0:Array Value)(a1 a2 a3:Int)(z0_19:Int)(q0_5:Array Value)(p0_10:Nat)(z0_10:Array Value):(Uad 0 (kSeq (veC PZ Zdk N (cAt cKCyA61 [1,1,1,1]) (pAt (Uaa cKCyA61 [([19],[5,1000010,105])]).1 [1,1,1,1]) (SV×Eff×Bool)) (finK PZ [] [.tmp 8]))) (.exit 0) (left (writes (cAt cKCyA61 [1,1,1,0,1,0,0])) [19,10] [5,12] (Zev a0 a1 a2 a3) ([.a (.i .i64 (z0_19)),.a (.l 12)],[.row q0_5 132,.sl .own p0_10 z0_10 105]))=Zjt PZ N a0 a1 a2 a3 z0_19 q0_5 p0_10 z0_10:=by refine Eq.trans (b:=(some (.a .x,.newS none p0_10 z0_10 105,true))) (by kernel_rfl) ?_;rfl
theorem Ycz(N:Nat)(a0:Array Value)(a1 a2 a3:Int):Uaj (Uab (Ugi PZ Zdk N (cAt cKCyA61 [1,1,1,0,1,0,0]) (pAt (Uaa cKCyA61 [([19],[5,1000010,105])]).1 [1,1,1,0,1,0]) [19] [5] 10 105 12 (Zev a0 a1 a2 a3)) N ([.a (.i .i64 (0:Int)),.a (.l 12)],[.row (Zar PZ a1 (1:Int) a2) 132,.sl .own 1 (spl (repC (zc PZ 105) 1) 0 (Ubz PZ a0 (Zar PZ a1 (1:Int) a2)).toList) 105])) (λe s=>(Uad 0 (kSeq (veC PZ Zdk N (cAt cKCyA61 [1,1,1,1]) (pAt (Uaa cKCyA61 [([19],[5,1000010,105])]).1 [1,1,1,1]) (SV×Eff×Bool)) (finK PZ [] [.tmp 8]))) e (left (writes (cAt cKCyA61 [1,1,1,0,1,0,0])) [19,10] [5,12] (Zev a0 a1 a2 a3) s))=Uak (Uab (Zc6 PZ a0 a1 a2 a3) N ((0:Int),(Zar PZ a1 (1:Int) a2),1,(spl (repC (zc PZ 105) 1) 0 (Ubz PZ a0 (Zar PZ a1 (1:Int) a2)).toList))) (λx=>Zjt PZ N a0 a1 a2 a3 x.1 x.2.1 x.2.2.1 x.2.2.2):=by refine Zau Zgz Zmn _ _ (Ybr N a0 a1 a2 a3) N ((0:Int),(Zar PZ a1 (1:Int) a2),1,(spl (repC (zc PZ 105) 1) 0 (Ubz PZ a0 (Zar PZ a1 (1:Int) a2)).toList)) _ _ ?_;intro x;exact Zra N a0 a1 a2 a3 x.1 x.2.1 x.2.2.1 x.2.2.2
theorem Yal(N:Nat)(a0:Array Value)(a1 a2 a3:Int):ansV PZ Zdk N f61 [([19],[5,1000010,105])] [.g a0 37,.i .i64 (a1),.i .i64 (a2),.i .i64 (a3)] []=(bif (decide (0<=a1)&&decide (a1<36)) then (bif okS a0 then (Uak (Uab (Zc6 PZ a0 a1 a2 a3) N ((0:Int),(Zar PZ a1 (1:Int) a2),1,(spl (repC (zc PZ 105) 1) 0 (Ubz PZ a0 (Zar PZ a1 (1:Int) a2)).toList))) (λx=>Zjt PZ N a0 a1 a2 a3 x.1 x.2.1 x.2.2.1 x.2.2.2))
   else (none))
  else (none)):=by
 refine Eq.trans (b:=(bif (decide (0<=a1)&&decide (a1<36)) then (bif okS a0 then (Uaj (Uab (Ugi PZ Zdk N (cAt cKCyA61 [1,1,1,0,1,0,0]) (pAt (Uaa cKCyA61 [([19],[5,1000010,105])]).1 [1,1,1,0,1,0]) [19] [5] 10 105 12 (Zev a0 a1 a2 a3)) N ([.a (.i .i64 (0:Int)),.a (.l 12)],[.row (Zar PZ a1 (1:Int) a2) 132,.sl .own 1 (spl (repC (zc PZ 105) 1) 0 (Ubz PZ a0 (Zar PZ a1 (1:Int) a2)).toList) 105])) (λe s=>(Uad 0 (kSeq (veC PZ Zdk N (cAt cKCyA61 [1,1,1,1]) (pAt (Uaa cKCyA61 [([19],[5,1000010,105])]).1 [1,1,1,1]) (SV×Eff×Bool)) (finK PZ [] [.tmp 8]))) e (left (writes (cAt cKCyA61 [1,1,1,0,1,0,0])) [19,10] [5,12] (Zev a0 a1 a2 a3) s)))
   else (none))
  else (none))) (by kernel_rfl) ?_
 simp only[Ycz N a0 a1 a2 a3]
theorem Zyk(a0:Array Value)(a1 a2 a3:Int)(h_a0:WT PZ 37 a0)(h_a1:i64.min<=a1/\a1<=i64.max)(h_a2:i64.min<=a2/\a2<=i64.max)(h_a3:i64.min<=a3/\a3<=i64.max)(hg:((okS a0&&((Zab a1 a0&&Zaa a2 0 1)&&Zaa a3 0 14)))=true):ansV PZ Zdk 1000 f61 [([19],[5,1000010,105])] [.g a0 37,.i .i64 (a1),.i .i64 (a2),.i .i64 (a3)] []=some (.a .x,.newS none (a3.toNat+1) (recC PZ a0 a1 a2 a3.toNat) 105,true):=by
 simp only[Q7]at hg;obtain⟨q0,⟨q1,q2⟩,q3⟩:=hg;have r1:=Zh7 q1;have r3:=Zjb q3;obtain⟨m,rfl⟩:=Int.eq_ofNat_of_zero_le r3.1;refine(Yal 1000 a0 a1 a2 (m:Int)).trans ?_;rw[dec2 r1.1 (show a1<36 by omega),q0];simp only[Q1];have e0:Zar PZ a1 1 a2=oneX PZ a1 a2:=rfl;have e1:spl (repC (zc PZ 105) 1) 0 (Ubz PZ a0 (oneX PZ a1 a2)).toList=recC PZ a0 a1 a2 0:=Yl7 PZ 105 (by rw[Zzr,Ydb]);rw[e0,e1,Q9];have h:=Zcu (g:=Zc6 PZ a0 a1 a2 (m:Int)) (λj=>((j:Int),Uar PZ a0 (oneX PZ a1 a2) j,j+1,recC PZ a0 a1 a2 j)) (m:=m) (x:=((m:Int),Uar PZ a0 (oneX PZ a1 a2) m,m+1,recC PZ a0 a1 a2 m)) (N:=1000) (λj hj=>by
  have h1:decide ((j:Int)<(m:Int))=true:=Q3 (by omega);have h3:i64.wrap ((j:Int)+1)=((j+1:Nat):Int):=by rw[w64 (by omega)];omega
  have h4:=one_go h_a0 q0 q1 q2 (show j<=14 by omega);have h6:Nat.ble ((j+1+1)*bytesOf PZ 105) 140737488355328=true:=Nat.ble_eq_true_of_le (by rw[Yrr];omega);have h7:spl (repC (zc PZ 105) 1) 0 (Ubz PZ a0 (Ubg PZ a0 (Uar PZ a0 (oneX PZ a1 a2) j))).toList=byV PZ a0 a1 a2 (j+1):=Yl7 PZ 105 (by rw[Zzr,Ydb]);simp only[Zc6,h1,h3,h4,q0,h6,h7,Q1];rfl) (by
  have h1:decide ((m:Int)<(m:Int))=false:=Q4 (by omega);simp only[Zc6,h1,Q2]) (by omega)
 have h':Uab (Zc6 PZ a0 a1 a2 (m:Int)) 1000 ((0:Int),oneX PZ a1 a2,1,recC PZ a0 a1 a2 0)=some ((m:Int),Uar PZ a0 (oneX PZ a1 a2) m,m+1,recC PZ a0 a1 a2 m):=h;rw[h'];rfl
def Zk3:Con:=λargs h=>match args,h with
 |[.g a0 37,.i .i64 a1,.i .i64 a2,.i .i64 a3],[]=>some (.a .x,.newS none (a3.toNat+1) (recC PZ a0 a1 a2 a3.toNat) 105,(okS a0&&((Zab a1 a0&&Zaa a2 0 1)&&Zaa a3 0 14)))
 |_,_=>none
theorem Zur:EntX PZ 61:=Zah (fn:=f61)
theorem Yb2:Uac (md F) PZ 61 Zk3:=(ansY (N:=1000) (mKc (Zae Yc5) Zu2 (mKc (Zae Ygr) Yan (mKc (Zae Yf4) Zw7 mKn))) f61 [([19],[5,1000010,105])]).of (by
 intro ρ h w args vals r e hA hH hr;unfold Zk3 at hr;split at hr
 ·rename_i a0 a1 a2 a3
  obtain⟨rfl,rfl,hg2⟩:=BQi hr;exact Zyk a0 a1 a2 a3 (hA.wt 0 rfl) (hA.rng 1 rfl) (hA.rng 2 rfl) (hA.rng 3 rfl) hg2
 ·cases hr)
end
end Go.Proofs.YtdfefaanfiheoaaGreatDoor
