/- Records of what has stranded, in company; where and when a bottle is released. -/
import Derived.Test.YtdfefaanfiheoaaGreatDoorProg
import Derived.Test.YtdfefaanfiheoaaGreatDoorCxK
import Derived.Test.YtdfefaanfiheoaaGreatDoorCxEachLand
import Derived.Test.YtdfefaanfiheoaaGreatDoorIsX
set_option linter.unusedVariables false
set_option linter.unusedSimpArgs false
open _root_.Array renaming getElem?_setIfInBounds->jA
namespace Go.Proofs.YtdfefaanfiheoaaGreatDoor
open Tryz (f53 f56 f57 f59 f61 f74 f84 f85 f86 f95 f103 f108)
open Go.ChangeShapes Go.WideShapes Go.ChangeAt Go.RowKit Ve Vc
open Tryz renaming prog -> PZ
open IntKind (i64)
set_option maxRecDepth 100000
noncomputable section
variable {F:Vc.Fd}
def Zhk:Con:=ansV PZ (mkΓ [(79,conG isCon)]) 1000 f56 []
theorem Zh0:EntX PZ 56:=Zah (fn:=f56)
theorem Zk6:Uac (md F) PZ 56 Zhk:=ansY (N:=1000) (mKc (Zj5 isCon_ok) Ylq mKn) f56 []
theorem Yau (N:Nat) (a0:Int):ansV PZ (mkΓ [(47,con Zb2)]) N f74 [] [.i .i64 (a0)] []=(some (.a (.b ((Zaa a0 (1:Int) (14:Int)))),.none,true)):=by kernel_rfl
theorem Zyr (a0:Int) (h_a0:i64.min<=a0/\a0<=i64.max) (hg:(true)=true):ansV PZ (mkΓ [(47,con Zb2)]) 1000 f74 [] [.i .i64 (a0)] []=some (.a (.b ((Zaa a0 (1:Int) (14:Int)))),.none,true):=by
 refine (Yau 1000 a0).trans ?_
 rfl
def Zln:Con:=λ args h=>match args,h with
 | [.i .i64 a0],[]=>some (.a (.b ((Zaa a0 (1:Int) (14:Int)))),.none,true)
 | _,_=>none
theorem Zvt:EntX PZ 74:=Zah (fn:=f74)
theorem Yef:Uac (md F) PZ 74 Zln:=(ansY (N:=1000) (mKc (Zae Zkf) Zgp mKn) f74 []).of (by
 intro ρ h w args vals r e hA hH hr
 unfold Zln at hr
 split at hr
 ·rename_i a0
  obtain ⟨rfl,rfl,hg2⟩:=BQi hr
  exact Zyr a0 (hA.rng 0 rfl) hg2
 ·cases hr)
theorem Ybq (N:Nat) (a0:Int):ansV PZ (mkΓ []) N f95 [] [.i .i64 (a0)] []=(bif decide (a0>=(1:Int)) then (some (.a (.b (decide (a0<=(14:Int)))),.none,true))
  else (some (.a (.b (false)),.none,true))):=by kernel_rfl
def Zfj (a0:Int):Bool:=(bif decide (a0>=(1:Int)) then decide (a0<=(14:Int)) else false)
theorem Zzz (a0:Int) (h_a0:i64.min<=a0/\a0<=i64.max) (hg:(true)=true):ansV PZ (mkΓ []) 1000 f95 [] [.i .i64 (a0)] []=some (.a (.b ((Zfj a0))),.none,true):=by
 refine (Ybq 1000 a0).trans ?_
 unfold Zfj
 revert hg
 generalize (decide (a0>=(1:Int)))=b2
 intro hg
 cases b2
 ·skip
  first | (simp only [Q1,Q2,BQ6];done) | rfl | exact (nomatch (hg:false=true))
 ·skip
  first | (simp only [Q1,Q2,BQ6];done) | rfl | exact (nomatch (hg:false=true))
def Zlf:Con:=λ args h=>match args,h with
 | [.i .i64 a0],[]=>some (.a (.b ((Zfj a0))),.none,true)
 | _,_=>none
theorem Zxh:EntX PZ 95:=Zah (fn:=f95)
theorem Yer:Uac (md F) PZ 95 Zlf:=(ansY (N:=1000) mKn f95 []).of (by
 intro ρ h w args vals r e hA hH hr
 unfold Zlf at hr
 split at hr
 ·rename_i a0
  obtain ⟨rfl,rfl,hg2⟩:=BQi hr
  exact Zzz a0 (hA.rng 0 rfl) hg2
 ·cases hr)
def Zt7:Cons:=(mkΓ [(51,con Zin),(72,con Zbt),(73,con Zfu),(75,con Zlw)])
theorem Ybt (N:Nat) (a1 a2:Int) (a3:Bool) (a0:Array Value):ansV PZ Zt7 N f53 [] [.w 0,.i .i64 (a1),.i .i64 (a2),.b (a3)] [.row a0 37]=(bif (!((okS a0))) then (some (.a (.i .i64 (1:Int)),.none,true))
    else (bif (!((Zab a1 a0))) then (some (.a (.i .i64 (2:Int)),.none,true))
      else (bif (!((Zaa a2 (0:Int) (1:Int)))) then (some (.a (.i .i64 (2:Int)),.none,true))
        else (bif (!(a3)) then (some (.a (.i .i64 (2:Int)),.none,true))
          else (bif decide (0<=(IntKind.u64.wrap a1)) then (bif (Zag a1 a0) then (some (.a (.i .i64 (4:Int)),.none,true))
              else (some (.a (.i .i64 (0:Int)),.none,true)))
            else (none)))))):=by kernel_rfl
def Zbp (a1 a2:Int) (a3:Bool) (a0:Array Value):Int:=(bif (!((okS a0))) then (1:Int) else (bif (!((Zab a1 a0))) then (2:Int) else (bif (!((Zaa a2 (0:Int) (1:Int)))) then (2:Int) else (bif (!(a3)) then (2:Int) else (bif (Zag a1 a0) then (4:Int) else (0:Int))))))
def Zdb (a1 a2:Int) (a3:Bool) (a0:Array Value):Bool:=(bif (!((okS a0))) then true else (bif (!((Zab a1 a0))) then true else (bif (!((Zaa a2 (0:Int) (1:Int)))) then true else (bif (!(a3)) then true else decide (0<=(IntKind.u64.wrap a1))))))
theorem Zzr (a1 a2:Int) (a3:Bool) (a0:Array Value) (h_a1:i64.min<=a1/\a1<=i64.max) (h_a2:i64.min<=a2/\a2<=i64.max) (h_a0:WT PZ 37 a0) (hg:((Zdb a1 a2 a3 a0))=true):ansV PZ Zt7 1000 f53 [] [.w 0,.i .i64 (a1),.i .i64 (a2),.b (a3)] [.row a0 37]=some (.a (.i .i64 (Zbp a1 a2 a3 a0)),.none,true):=by
 refine (Ybt 1000 a1 a2 a3 a0).trans ?_
 unfold Zdb at hg
 unfold Zbp
 revert hg
 generalize ((!((okS a0))))=b2
 intro hg
 cases b2
 ·skip
  revert hg
  generalize ((!((Zab a1 a0))))=b4
  intro hg
  cases b4
  ·skip
   revert hg
   generalize ((!((Zaa a2 (0:Int) (1:Int)))))=b6
   intro hg
   cases b6
   ·skip
    revert hg
    generalize ((!(a3)))=b8
    intro hg
    cases b8
    ·skip
     revert hg
     generalize (decide (0<=(IntKind.u64.wrap a1)))=b10
     intro hg
     cases b10
     ·skip
      first | exact (nomatch (hg:false=true)) | (simp only [Q1,Q2,BQ6];done) | rfl
     ·skip
      revert hg
      generalize ((Zag a1 a0))=b12
      intro hg
      cases b12
      ·skip
       first | (simp only [Q1,Q2,BQ6];done) | rfl | exact (nomatch (hg:false=true))
      ·skip
       first | (simp only [Q1,Q2,BQ6];done) | rfl | exact (nomatch (hg:false=true))
    ·skip
     first | (simp only [Q1,Q2,BQ6];done) | rfl | exact (nomatch (hg:false=true))
   ·skip
    first | (simp only [Q1,Q2,BQ6];done) | rfl | exact (nomatch (hg:false=true))
  ·skip
   first | (simp only [Q1,Q2,BQ6];done) | rfl | exact (nomatch (hg:false=true))
 ·skip
  first | (simp only [Q1,Q2,BQ6];done) | rfl | exact (nomatch (hg:false=true))
def Zl6:Con:=λ args h=>match args,h with
 | [.w 0,.i .i64 a1,.i .i64 a2,.b a3],[.row a0 37]=>some (.a (.i .i64 (Zbp a1 a2 a3 a0)),.none,(Zdb a1 a2 a3 a0))
 | _,_=>none
theorem Zwd:EntX PZ 53:=Zah (fn:=f53)
theorem Yd1:Uac (md F) PZ 53 Zl6:=(ansY (N:=1000) (mKc (Zae Zo4) Zlm (mKc (Zae Zka) Zgq (mKc (Zae Zk4) Zh3 (mKc (Zae Yes) Zxx mKn)))) f53 []).of (by
 intro ρ h w args vals r e hA hH hr
 unfold Zl6 at hr
 split at hr
 ·rename_i a1 a2 a3 a0
  obtain ⟨rfl,rfl,hg2⟩:=BQi hr
  exact Zzr a1 a2 a3 a0 (hA.rng 1 rfl) (hA.rng 2 rfl) (hH.wt 0 rfl) hg2
 ·cases hr)
theorem in_of {x a b:Int} (h:a<=x/\x<=b):Zaa x a b=true:=by
 unfold Zaa;rw [Q3 (show x>=a from h.1),Q3 h.2];rfl
theorem Zwb {S:Array Value} (hS:WT PZ 37 S) {c:Int} (hc:0<=c/\c<=35):Zac S c=Zag c S:=by
 obtain ⟨k,rfl⟩:=Int.eq_ofNat_of_zero_le hc.1
 exact Ymk hS (by omega)
theorem Ym3 (c:Int):decide (0<=IntKind.u64.wrap c)=true:=Q3 (Zfp .u64 _).1
theorem from_gd (c b:Int) (f:Bool) (S:Array Value):Zdb c b f S=true:=by
 unfold Zdb
 rw [Ym3]
 cases okS S<;>cases Zab c S<;>cases Zaa b 0 1<;>cases f<;>rfl
def rl (S:Array Value) (c b:Int) (f:Bool):Bool:=Zab c S&&(Zaa b 0 1&&f)
theorem Yqi (c b:Int) (f:Bool) (S:Array Value):Zbp c b f S=bif okS S then (bif rl S c b f then (bif Zag c S then 4 else 0) else 2) else 1:=by
 unfold Zbp rl
 cases okS S<;>cases Zab c S<;>cases Zaa b 0 1<;>cases f<;>rfl
theorem Yp6 {c b:Int} {f:Bool} {S:Array Value} (h:(Zbp c b f S != (0:Int))=false):okS S=true/\Zab c S=true/\Zaa b 0 1=true/\f=true/\Zag c S=false:=by
 rw [Yqi] at h
 unfold rl at h
 cases h1:okS S<;>cases h2:Zab c S<;>cases h3:Zaa b 0 1<;>cases h4:f<;>cases h5:Zag c S<;>first | exact ⟨rfl,rfl,rfl,rfl,rfl⟩ | (exfalso;subst h4;rw [h1,h2,h3,h5] at h;revert h;decide)
def Zec:Cons:=(mkΓ [(80,con Zhx),(81,con Zgd),(82,con Zls),(83,con Zbd)])
theorem Ze4 (N:Nat) (a0:Array Value) (a1 a2:Int) (a3:Bool) (g_e0 g_e1 g_e2 g_e3 g_e4:Addr):ansV PZ Zec N f57 [] [.g a0 37,.i .i64 (a1),.i .i64 (a2),.b (a3)] [.gl 0 185 g_e0 101973,.gl 1 185 g_e1 93330,.gl 3 185 g_e2 124718,.gl 2 185 g_e3 112315,.gl 4 185 g_e4 94254]=(bif (!((okS a0))) then (some (.a (.e 0),.none,true))
    else (bif (!((Zal a0 a1))) then (some (.a (.e 1),.none,true))
      else (bif (!((Zcq a2))) then (some (.a (.e 1),.none,true))
        else (bif (!(a3)) then (some (.a (.e 1),.none,true))
          else (bif decide (0<=a1) then (bif (Zac a0 a1) then (some (.a (.e 2),.none,true))
              else (some (.a (.v (.nilIface)),.none,true)))
            else (none)))))):=by kernel_rfl
theorem Zpd (a0:Array Value) (a1 a2:Int) (a3:Bool) (g_e0 g_e1 g_e2 g_e3 g_e4:Addr) (h_a0:WT PZ 37 a0) (h_a1:i64.min<=a1/\a1<=i64.max) (h_a2:i64.min<=a2/\a2<=i64.max) (hc0:(okS a0)=false) (hg:(true)=true):ansV PZ Zec 1000 f57 [] [.g a0 37,.i .i64 (a1),.i .i64 (a2),.b (a3)] [.gl 0 185 g_e0 101973,.gl 1 185 g_e1 93330,.gl 3 185 g_e2 124718,.gl 2 185 g_e3 112315,.gl 4 185 g_e4 94254]=some (.a (.e 0),.none,true):=by
 refine (Ze4 1000 a0 a1 a2 a3 g_e0 g_e1 g_e2 g_e3 g_e4).trans ?_
 simp only [hc0,Bool.not_false,Q1]
theorem Zo5 (a0:Array Value) (a1 a2:Int) (a3:Bool) (g_e0 g_e1 g_e2 g_e3 g_e4:Addr) (h_a0:WT PZ 37 a0) (h_a1:i64.min<=a1/\a1<=i64.max) (h_a2:i64.min<=a2/\a2<=i64.max) (hc0:(okS a0)=true) (hc1:(rl a0 a1 a2 a3)=false) (hg:(true)=true):ansV PZ Zec 1000 f57 [] [.g a0 37,.i .i64 (a1),.i .i64 (a2),.b (a3)] [.gl 0 185 g_e0 101973,.gl 1 185 g_e1 93330,.gl 3 185 g_e2 124718,.gl 2 185 g_e3 112315,.gl 4 185 g_e4 94254]=some (.a (.e 1),.none,true):=by
 refine (Ze4 1000 a0 a1 a2 a3 g_e0 g_e1 g_e2 g_e3 g_e4).trans ?_
 have ht:Zcq a2=Zaa a2 0 1:=Ylt a2
 rw [Zrp,ht]
 unfold rl at hc1
 rw [hc0]
 cases q1:Zab a1 a0 with
 | false=>rfl
 | true=>
  cases q2:Zaa a2 0 1 with
  | false=>rfl
  | true=>
   cases q3:a3 with
   | false=>rfl
   | true=>rw [q1,q2,q3] at hc1;cases hc1
theorem Zo7 (a0:Array Value) (a1 a2:Int) (a3:Bool) (g_e0 g_e1 g_e2 g_e3 g_e4:Addr) (h_a0:WT PZ 37 a0) (h_a1:i64.min<=a1/\a1<=i64.max) (h_a2:i64.min<=a2/\a2<=i64.max) (hc0:(okS a0)=true) (hc1:(rl a0 a1 a2 a3)=true) (hc2:(Zag a1 a0)=false) (hg:(true)=true):ansV PZ Zec 1000 f57 [] [.g a0 37,.i .i64 (a1),.i .i64 (a2),.b (a3)] [.gl 0 185 g_e0 101973,.gl 1 185 g_e1 93330,.gl 3 185 g_e2 124718,.gl 2 185 g_e3 112315,.gl 4 185 g_e4 94254]=some (.a (.v (.nilIface)),.none,true):=by
 refine (Ze4 1000 a0 a1 a2 a3 g_e0 g_e1 g_e2 g_e3 g_e4).trans ?_
 have ht:Zcq a2=Zaa a2 0 1:=Ylt a2
 rw [Zrp,ht]
 unfold rl at hc1
 simp only [Q7] at hc1
 obtain ⟨q1,q2,q3⟩:=hc1
 have hr:=Zhu q1
 rw [hc0,q1,q2,q3,Zwb h_a0 hr,hc2,Q3 hr.1]
 rfl
theorem Zpc (a0:Array Value) (a1 a2:Int) (a3:Bool) (g_e0 g_e1 g_e2 g_e3 g_e4:Addr) (h_a0:WT PZ 37 a0) (h_a1:i64.min<=a1/\a1<=i64.max) (h_a2:i64.min<=a2/\a2<=i64.max) (hc0:(okS a0)=true) (hc1:(rl a0 a1 a2 a3)=true) (hc2:(Zag a1 a0)=true) (hg:(true)=true):ansV PZ Zec 1000 f57 [] [.g a0 37,.i .i64 (a1),.i .i64 (a2),.b (a3)] [.gl 0 185 g_e0 101973,.gl 1 185 g_e1 93330,.gl 3 185 g_e2 124718,.gl 2 185 g_e3 112315,.gl 4 185 g_e4 94254]=some (.a (.e 2),.none,true):=by
 refine (Ze4 1000 a0 a1 a2 a3 g_e0 g_e1 g_e2 g_e3 g_e4).trans ?_
 have ht:Zcq a2=Zaa a2 0 1:=Ylt a2
 rw [Zrp,ht]
 unfold rl at hc1
 simp only [Q7] at hc1
 obtain ⟨q1,q2,q3⟩:=hc1
 have hr:=Zhu q1
 rw [hc0,q1,q2,q3,Zwb h_a0 hr,hc2,Q3 hr.1]
 rfl
def Zaz:SCon:=λ args h=>match args,h with
 | [.g a0 37,.i .i64 a1,.i .i64 a2,.b a3],[.gl 0 185 g_e0 101973,.gl 1 185 g_e1 93330,.gl 3 185 g_e2 124718,.gl 2 185 g_e3 112315,.gl 4 185 g_e4 94254]=>.two (okS a0) (.two (rl a0 a1 a2 a3) (.two (Zag a1 a0) (.one (some (.a (.e 2),.none,true))) (.one (some (.a (.v (.nilIface)),.none,true)))) (.one (some (.a (.e 1),.none,true)))) (.one (some (.a (.e 0),.none,true)))
 | _,_=>.one none
theorem Zdx:EntX PZ 57:=Zah (fn:=f57)
theorem Ze7:Uac (md F) PZ 57 (λ args h=>Uaq (Zaz args h)):=by
 intro ρ h w args vals r e hn hr hA hH
 dsimp only at hr
 unfold Zaz at hr
 split at hr
 ·rename_i a0 a1 a2 a3 g_e0 g_e1 g_e2 g_e3 g_e4
  simp only [Uaq] at hr
  cases hc0:(okS a0)
  ·rw [hc0] at hr
   simp only [Uaq,Q1,Q2] at hr
   obtain ⟨rfl,rfl,hg2⟩:=BQi hr
   exact ((ansY (N:=1000) (mKc (Zae Zgi) Zee (mKc (Zae Zfk) Zdj (mKc (Zae Zjn) Zg9 (mKc (Zae Zd5) Zcd mKn)))) f57 [])) ρ _ w _ vals _ _ hn ((Zpd a0 a1 a2 a3 g_e0 g_e1 g_e2 g_e3 g_e4 (hA.wt 0 rfl) (hA.rng 1 rfl) (hA.rng 2 rfl) hc0 hg2)) hA hH
  ·rw [hc0] at hr
   simp only [Uaq,Q1,Q2] at hr
   cases hc1:(rl a0 a1 a2 a3)
   ·rw [hc1] at hr
    simp only [Uaq,Q1,Q2] at hr
    obtain ⟨rfl,rfl,hg2⟩:=BQi hr
    exact ((ansY (N:=1000) (mKc (Zae Zgi) Zee (mKc (Zae Zfk) Zdj (mKc (Zae Zjn) Zg9 (mKc (Zae Zd5) Zcd mKn)))) f57 [])) ρ _ w _ vals _ _ hn ((Zo5 a0 a1 a2 a3 g_e0 g_e1 g_e2 g_e3 g_e4 (hA.wt 0 rfl) (hA.rng 1 rfl) (hA.rng 2 rfl) hc0 hc1 hg2)) hA hH
   ·rw [hc1] at hr
    simp only [Uaq,Q1,Q2] at hr
    cases hc2:(Zag a1 a0)
    ·rw [hc2] at hr
     simp only [Uaq,Q1,Q2] at hr
     obtain ⟨rfl,rfl,hg2⟩:=BQi hr
     exact ((ansY (N:=1000) (mKc (Zae Zgi) Zee (mKc (Zae Zfk) Zdj (mKc (Zae Zjn) Zg9 (mKc (Zae Zd5) Zcd mKn)))) f57 [])) ρ _ w _ vals _ _ hn ((Zo7 a0 a1 a2 a3 g_e0 g_e1 g_e2 g_e3 g_e4 (hA.wt 0 rfl) (hA.rng 1 rfl) (hA.rng 2 rfl) hc0 hc1 hc2 hg2)) hA hH
    ·rw [hc2] at hr
     simp only [Uaq,Q1,Q2] at hr
     obtain ⟨rfl,rfl,hg2⟩:=BQi hr
     exact ((ansY (N:=1000) (mKc (Zae Zgi) Zee (mKc (Zae Zfk) Zdj (mKc (Zae Zjn) Zg9 (mKc (Zae Zd5) Zcd mKn)))) f57 [])) ρ _ w _ vals _ _ hn ((Zpc a0 a1 a2 a3 g_e0 g_e1 g_e2 g_e3 g_e4 (hA.wt 0 rfl) (hA.rng 1 rfl) (hA.rng 2 rfl) hc0 hc1 hc2 hg2)) hA hH
 ·simp only [Uaq] at hr
  cases hr
theorem Zvp (N:Nat) (a1 a2 a3:Int) (a0:Array Value):ansV PZ (mkΓ [(113,con Zhy)]) N f103 [] [.w 0,.i .i64 (a1),.i .i64 (a2),.i .i64 (a3)] [.row a0 37]=(bif (decide (0<=a1)&&decide (a1<36)) then (bif (okS a0&&((decide (0<=num ((((zc PZ 132).setIfInBounds 0 (.int .i8 (IntKind.i8.wrap a2))).setIfInBounds 2 (.int .i64 (1:Int))).setIfInBounds (3+((a1).toNat*1)) (.int .i64 (1:Int))) 0)&&decide (num ((((zc PZ 132).setIfInBounds 0 (.int .i8 (IntKind.i8.wrap a2))).setIfInBounds 2 (.int .i64 (1:Int))).setIfInBounds (3+((a1).toNat*1)) (.int .i64 (1:Int))) 0<2))&&((decide (0<=num ((((zc PZ 132).setIfInBounds 0 (.int .i8 (IntKind.i8.wrap a2))).setIfInBounds 2 (.int .i64 (1:Int))).setIfInBounds (3+((a1).toNat*1)) (.int .i64 (1:Int))) 1)&&decide (num ((((zc PZ 132).setIfInBounds 0 (.int .i8 (IntKind.i8.wrap a2))).setIfInBounds 2 (.int .i64 (1:Int))).setIfInBounds (3+((a1).toNat*1)) (.int .i64 (1:Int))) 1<=14))&&(decide (0<=a3)&&decide (a3<=14))))) then (some (.a (.g (Uao PZ a0 ((((zc PZ 132).setIfInBounds 0 (.int .i8 (IntKind.i8.wrap a2))).setIfInBounds 2 (.int .i64 (1:Int))).setIfInBounds (3+((a1).toNat*1)) (.int .i64 (1:Int))) a3.toNat) 132),.none,true))
   else (none))
  else (none)):=by kernel_rfl
def oneX (P:Program) (c b:Int):Array Value:=(((zc P 132).setIfInBounds 0 (.int .i8 (IntKind.i8.wrap b))).setIfInBounds 2 (.int .i64 1)).setIfInBounds (3+c.toNat*1) (.int .i64 1)
theorem Zyb {c b:Int} (hb:0<=b/\b<=1) (hc:0<=c/\c<=35):num (oneX PZ c b) 0=b/\num (oneX PZ c b) 1=0/\(oneX PZ c b).size=40/\∀ i,i<36->num (oneX PZ c b) (3+i)=if i=c.toNat then 1 else 0:=by
 have hz:(zc PZ 132).size=40:=by kernel_rfl
 have hc0:(List.range 36).all (λ k=>match (zc PZ 132)[3+k]? with | some (.int .i64 0)=>true | _=>false)=true:=by kernel_rfl
 have h1:(zc PZ 132)[1]?=some (.int .i8 0):=by kernel_rfl
 unfold oneX
 refine ⟨?_, ?_,by simp [hz],λ i hi=> ?_⟩
 ·unfold num;rw [jA,if_neg (by omega),jA,if_neg (by omega),jA,if_pos rfl,if_pos (by omega)]
  exact IntWalk.i8_in _ (by omega)
 ·unfold num;rw [jA,if_neg (by omega),jA,if_neg (by omega),jA,if_neg (by omega),h1]
 ·unfold num
  rw [jA]
  by_cases e:i=c.toNat
  ·rw [if_pos (by omega),if_pos (by simp;omega),if_pos e]
  ·rw [if_neg (by omega),if_neg e,jA,if_neg (by omega),jA,if_neg (by omega)]
   have:=List.all_eq_true.1 hc0 i (List.mem_range.2 hi)
   split at this
   ·rename_i e2;rw [e2]
   ·cases this
theorem Zu1 (a1 a2 a3:Int) (a0:Array Value) (h_a1:i64.min<=a1/\a1<=i64.max) (h_a2:i64.min<=a2/\a2<=i64.max) (h_a3:i64.min<=a3/\a3<=i64.max) (h_a0:WT PZ 37 a0) (hg:((okS a0&&((Zab a1 a0&&Zaa a2 0 1)&&Zaa a3 0 14)))=true):ansV PZ (mkΓ [(113,con Zhy)]) 1000 f103 [] [.w 0,.i .i64 (a1),.i .i64 (a2),.i .i64 (a3)] [.row a0 37]=some (.a (.g (Uao PZ a0 (oneX PZ a1 a2) a3.toNat) 132),.none,true):=by
 simp only [Q7] at hg
 obtain ⟨hok,⟨his,htd⟩,hhr⟩:=hg
 have hc:=Zhu his
 have hb:=Ziw htd
 have hh:=Ziw hhr
 obtain ⟨n0,n1,_,_⟩:=Zyb (c:=a1) (b:=a2) hb hc
 refine (Zvp 1000 a1 a2 a3 a0).trans ?_
 unfold oneX at n0 n1
 rw [dec2 hc.1 (show a1<36 by omega),n0,n1,hok,dec2 hb.1 (show a2<2 by omega),Q3 hh.1,Q3 hh.2]
 rfl
def Zjk:Con:=λ args h=>match args,h with
 | [.w 0,.i .i64 a1,.i .i64 a2,.i .i64 a3],[.row a0 37]=>some (.a (.g (Uao PZ a0 (oneX PZ a1 a2) a3.toNat) 132),.none,(okS a0&&((Zab a1 a0&&Zaa a2 0 1)&&Zaa a3 0 14)))
 | _,_=>none
theorem Zti:EntX PZ 103:=Zah (fn:=f103)
theorem Zz1:Uac (md F) PZ 103 Zjk:=(ansY (N:=1000) (mKc (Zae Ybb) Zvg mKn) f103 []).of (by
 intro ρ h w args vals r e hA hH hr
 unfold Zjk at hr
 split at hr
 ·rename_i a1 a2 a3 a0
  obtain ⟨rfl,rfl,hg2⟩:=BQi hr
  exact Zu1 a1 a2 a3 a0 (hA.rng 1 rfl) (hA.rng 2 rfl) (hA.rng 3 rfl) (hH.wt 0 rfl) hg2
 ·cases hr)
theorem Zzm (N:Nat) (a0 a1 a2:Int):ansV PZ (mkΓ []) N f85 [] [.i .i64 (a0),.i .i64 (a1),.i .i64 (a2)] []=(bif (decide (0<=a0)&&decide (a0<36)) then (some (.a (.g ((((zc PZ 132).setIfInBounds 0 (.int .i8 (IntKind.i8.wrap a2))).setIfInBounds 2 (.int .i64 (a1))).setIfInBounds (3+((a0).toNat*1)) (.int .i64 (a1))) 132),.none,true))
  else (none)):=by kernel_rfl
def Zan (P:Program) (a0 a1 a2:Int):Array Value:=((((zc P 132).setIfInBounds 0 (.int .i8 (IntKind.i8.wrap a2))).setIfInBounds 2 (.int .i64 (a1))).setIfInBounds (3+((a0).toNat*1)) (.int .i64 (a1)))
theorem Zv9 (a0 a1 a2:Int) (h_a0:i64.min<=a0/\a0<=i64.max) (h_a1:i64.min<=a1/\a1<=i64.max) (h_a2:i64.min<=a2/\a2<=i64.max) (hg:((decide (0<=a0)&&decide (a0<36)))=true):ansV PZ (mkΓ []) 1000 f85 [] [.i .i64 (a0),.i .i64 (a1),.i .i64 (a2)] []=some (.a (.g (Zan PZ a0 a1 a2) 132),.none,true):=by
 refine (Zzm 1000 a0 a1 a2).trans ?_
 unfold Zan
 revert hg
 generalize (decide (0<=a0))=b2
 intro hg
 cases b2
 ·skip
  first | exact (nomatch (hg:false=true)) | (simp only [Q1,Q2,BQ6];done) | rfl
 ·skip
  revert hg
  generalize (decide (a0<36))=b4
  intro hg
  cases b4
  ·skip
   first | exact (nomatch (hg:false=true)) | (simp only [Q1,Q2,BQ6];done) | rfl
  ·skip
   first | (simp only [Q1,Q2,BQ6];done) | rfl | exact (nomatch (hg:false=true))
def Zkl:Con:=λ args h=>match args,h with
 | [.i .i64 a0,.i .i64 a1,.i .i64 a2],[]=>some (.a (.g (Zan PZ a0 a1 a2) 132),.none,(decide (0<=a0)&&decide (a0<36)))
 | _,_=>none
theorem Zuf:EntX PZ 85:=Zah (fn:=f85)
theorem Yba:Uac (md F) PZ 85 Zkl:=(ansY (N:=1000) mKn f85 []).of (by
 intro ρ h w args vals r e hA hH hr
 unfold Zkl at hr
 split at hr
 ·rename_i a0 a1 a2
  obtain ⟨rfl,rfl,hg2⟩:=BQi hr
  exact Zv9 a0 a1 a2 (hA.rng 0 rfl) (hA.rng 1 rfl) (hA.rng 2 rfl) hg2
 ·cases hr)
def Uej (X:Array Value) (r:Array Value) (k:Nat):Array Value:=r.setIfInBounds (k*1) (.int .i64 (num X (3+k*1)))
def Ub0 (P:Program) (S X:Array Value):Array Value:=folds (λ r k=>if inC (num S 0) (num S 1) k&&Zac S (k:Int) then Uej X r k else r) (zc P 105) 36
def byV (P:Program) (S:Array Value) (c b:Int) (n:Nat):Array Value:=Ub0 P S (Uao P S (oneX P c b) n)
def subF (D:Array Value) (m:Int) (r:Array Value) (k:Nat):Array Value:=r.setIfInBounds (k*1) (.int .i64 (i64.wrap (num r (k*1) - i64.wrap (num D (k*1)*m))))
def subV (C D:Array Value) (m:Int):Array Value:=folds (subF D m) C 36
def Zda:Cons:=(mkΓx [] [(104,Zlh)] [(114,Zg7)])
def Zd8 (a0 a1:Array Value):St:=(⟨.a (.g a0 37) :: .a (.g a1 132) :: .a (.w 0) :: .a (.w 1) :: .a (.w 2) :: .a (.w 3) :: .a (.u) :: .a (.g a0 37) :: .a (.c 114 [7])::us 8 ([]),[.row a0 37,.row a1 132,.row (zc PZ 105) 105,.row (zc PZ 105) 105,.no,.no,.no,.row a0 37,.no,.no,.no,.no],[]⟩:St)
def Zk2:Array Value->BS
 | r0_3=>([.row r0_3 105]:BS)
def Zn8:Empty->Exit×BS:=λ x=>nomatch x
def Zgw (P:Program) (a0 a1:Array Value) (x0:Int):Array Value->Option (Stp (Array Value) Empty)
 | r0_3=>bif (decide (0≤x0)&&decide (x0<36)) then (bif (decide (0≤x0)&&decide (x0<36)) then (some (.more (r0_3.setIfInBounds ((x0).toNat*1) (.int .i64 (num a1 (3+((x0).toNat*1)))))))
   else (none))
  else (none)
noncomputable abbrev cKCyA86:=codeOf f86
theorem Yfp (N:Nat) (a0 a1:Array Value) (x0:Int):∀ t:Array Value,Ud3 PZ Zda N (cAt cKCyA86 [1,1,0,1,0,0]) (pAt (Uaa cKCyA86 [([],[3])]).1 [1,1,0,1,0]) 12 [3] [9] [(6,9)] (Zd8 a0 a1) [.i .i64 (x0)] (Zk2 t)=mapS Zk2 Zn8 (Zgw PZ a0 a1 x0 t):=by
 rintro r0_3
 refine Eq.trans (b:=(bif (decide (0<=x0)&&decide (x0<36)) then (bif (decide (0<=x0)&&decide (x0<36)) then (some (.more ([.row (r0_3.setIfInBounds ((x0).toNat*1) (.int .i64 (num a1 (3+((x0).toNat*1))))) 105]:BS)))
   else (none))
  else (none))) (by kernel_rfl) ?_
 simp only [Zgw,Zar,Zap,Zas,Zaq,Zk2,Zn8]
def Zl2 (P:Program) (N:Nat) (a0 a1:Array Value) (q0_3:Array Value):Option (SV×Eff×Bool):=some (.a (.g q0_3 105),.none,true)
theorem Zu0 (N:Nat) (a0 a1:Array Value) (q0_3:Array Value):(Uad 0 (kSeq (veC PZ Zda N (cAt cKCyA86 [1,1,1]) (pAt (Uaa cKCyA86 [([],[3])]).1 [1,1,1]) (SV×Eff×Bool)) (finK PZ [] [.cell 4 105]))) .normal (Ubh [3] (Zd8 a0 a1) ([.row q0_3 105]:BS))=Zl2 PZ N a0 a1 q0_3:=by
 refine Eq.trans (b:=(some (.a (.g q0_3 105),.none,true))) (by kernel_rfl) ?_
 rfl
theorem Yft (N:Nat) (a0 a1:Array Value):Udh (Ua1 (λ (x0:Int) (hb:BS)=>Ud3 PZ Zda N (cAt cKCyA86 [1,1,0,1,0,0]) (pAt (Uaa cKCyA86 [([],[3])]).1 [1,1,0,1,0]) 12 [3] [9] [(6,9)] (Zd8 a0 a1) [.i .i64 (x0)] hb) ((Ual (num a0 0) (num a0 1) 36).filter (Zac a0)) ([.row (zc PZ 105) 105]:BS)) (λ hb=>(Uad 0 (kSeq (veC PZ Zda N (cAt cKCyA86 [1,1,1]) (pAt (Uaa cKCyA86 [([],[3])]).1 [1,1,1]) (SV×Eff×Bool)) (finK PZ [] [.cell 4 105]))) .normal (Ubh [3] (Zd8 a0 a1) hb)) (λ e hb=>(Uad 0 (kSeq (veC PZ Zda N (cAt cKCyA86 [1,1,1]) (pAt (Uaa cKCyA86 [([],[3])]).1 [1,1,1]) (SV×Eff×Bool)) (finK PZ [] [.cell 4 105]))) e (Ubh [3] (Zd8 a0 a1) hb))=Ufb (Ua1 (Zgw PZ a0 a1) ((Ual (num a0 0) (num a0 1) 36).filter (Zac a0)) (zc PZ 105)) (λ x=>Zl2 PZ N a0 a1 x) (λ x:Empty=>nomatch x):=by
 refine Ycx Zk2 Zn8 _ _ (λ y t=>Yfp N a0 a1 y t) _ (zc PZ 105) _ _ _ _ ?_ ?_
 ·intro x;exact Zu0 N a0 a1 x
 ·intro x;exact nomatch x
theorem Yel (N:Nat) (a0 a1:Array Value):ansV PZ Zda N f86 [([],[3])] [.g a0 37,.g a1 132] []=(bif (decide (0<=num a0 0)&&decide (num a0 0<=6)&&(decide (0<=num a0 1)&&decide (num a0 1<=6))) then (Ufb (Ua1 (Zgw PZ a0 a1) ((Ual (num a0 0) (num a0 1) 36).filter (Zac a0)) (zc PZ 105)) (λ x=>Zl2 PZ N a0 a1 x) (λ x:Empty=>nomatch x))
  else (none)):=by
 refine Eq.trans (b:=(bif (decide (0<=num a0 0)&&decide (num a0 0<=6)&&(decide (0<=num a0 1)&&decide (num a0 1<=6))) then (Udh (Ua1 (λ (x0:Int) (hb:BS)=>Ud3 PZ Zda N (cAt cKCyA86 [1,1,0,1,0,0]) (pAt (Uaa cKCyA86 [([],[3])]).1 [1,1,0,1,0]) 12 [3] [9] [(6,9)] (Zd8 a0 a1) [.i .i64 (x0)] hb) ((Ual (num a0 0) (num a0 1) 36).filter (Zac a0)) ([.row (zc PZ 105) 105]:BS)) (λ hb=>(Uad 0 (kSeq (veC PZ Zda N (cAt cKCyA86 [1,1,1]) (pAt (Uaa cKCyA86 [([],[3])]).1 [1,1,1]) (SV×Eff×Bool)) (finK PZ [] [.cell 4 105]))) .normal (Ubh [3] (Zd8 a0 a1) hb)) (λ e hb=>(Uad 0 (kSeq (veC PZ Zda N (cAt cKCyA86 [1,1,1]) (pAt (Uaa cKCyA86 [([],[3])]).1 [1,1,1]) (SV×Eff×Bool)) (finK PZ [] [.cell 4 105]))) e (Ubh [3] (Zd8 a0 a1) hb)))
  else (none))) (by kernel_rfl) ?_
 simp only [Yft N a0 a1]
theorem Ybv (a0 a1:Array Value) (h_a0:WT PZ 37 a0) (h_a1:WT PZ 132 a1) (hg:(okS a0)=true):ansV PZ Zda 1000 f86 [([],[3])] [.g a0 37,.g a1 132] []=some (.a (.g (Ub0 PZ a0 a1) 105),.none,true):=by
 refine (Yel 1000 a0 a1).trans ?_
 rw [Ym2 hg,Q1]
 have h:=Zug (X:=Empty) (g:=Zgw PZ a0 a1) (q:=Zac a0) (Uej a1) (wd:=num a0 0) (hi:=num a0 1) (λ r k hk hi hq=>by
  have h1:decide ((k:Int)<36)=true:=Q3 (by omega)
  have h0:decide (0<=(k:Int))=true:=Q3 (by omega)
  simp only [Zgw,h0,h1,Q9,Bool.and_self,Q1]
  rfl) (zc PZ 105)
 rw [h]
 rfl
def Znd:Con:=λ args h=>match args,h with
 | [.g a0 37,.g a1 132],[]=>some (.a (.g (Ub0 PZ a0 a1) 105),.none,okS a0)
 | _,_=>none
theorem Zyy:EntX PZ 86:=Zah (fn:=f86)
theorem Yf4:Uac (md F) PZ 86 Znd:=(ansY (N:=1000) (mkΓx_nX Zy6 Zui (mkΓx_iX Zu3 Zqi mkΓx_nilX)) f86 [([],[3])]).of (by
 intro ρ h w args vals r e hA hH hr
 unfold Znd at hr
 split at hr
 ·rename_i a0 a1
  obtain ⟨rfl,rfl,hg2⟩:=BQi hr
  exact Ybv a0 a1 (hA.wt 0 rfl) (hA.wt 1 rfl) hg2
 ·cases hr)
def Zf1:Cons:=(mkΓ [(72,con Zbt),(73,con Zfu),(103,con Zjk)])
def Zhs (a1 a2 a3:Int) (a0:Array Value):St:=(⟨.a (.w 0) :: .a (.i .i64 (a1)) :: .a (.i .i64 (a2)) :: .a (.i .i64 (a3))::us 4 (.a (.w 1) :: .a (.w 7) :: .a (.w 10) :: .a (.i .i64 (0:Int)) :: .a (.w 0) :: .a (.i .i64 (a1)) :: .a (.i .i64 (a2)) :: .a (.i .i64 (a3)) :: .a (.g (Uao PZ a0 (oneX PZ a1 a2) a3.toNat) 132) :: .a (.g (zc PZ 105) 105)::us 19 ([])),[.row a0 37,.row (zc PZ 105) 105,.no,.no,.no,.no,.no,.row (Uao PZ a0 (oneX PZ a1 a2) a3.toNat) 132,.no,.no,.row (zc PZ 105) 105,.no],[10,7]⟩:St)
def Zkb:Int×Array Value->LS
 | (y0_11,r0_10)=>([.a (.i .i64 (y0_11))],[.row r0_10 105])
def Zpe:Int×Array Value->Exit×LS
 | t=>((.exit 0),Zkb t)
def Ze9 (P : Program) (a1 a2 a3 : Int) (a0 : Array Value) : Int × Array Value → Option (Stp (Int × Array Value) (Int × Array Value))
 | (y0_11, r0_10) => bif decide (y0_11 < (36 : Int)) then (bif (Zab y0_11 a0) then (bif decide (0 ≤ (IntKind.u64.wrap y0_11)) then (bif (Zag y0_11 a0) then (bif (decide (0 ≤ y0_11) && decide (y0_11 < 36)) then (bif (decide (0 ≤ y0_11) && decide (y0_11 < 36)) then (some (.more ((i64.wrap (y0_11 + (1 : Int))), (r0_10.setIfInBounds ((y0_11).toNat * 1) (.int .i64 (num (Uao PZ a0 (oneX PZ a1 a2) a3.toNat) (3 + ((y0_11).toNat * 1))))))))
       else (none))
      else (none))
     else (some (.more ((i64.wrap (y0_11+(1:Int))),r0_10))))
    else (none))
   else (some (.more ((i64.wrap (y0_11+(1:Int))),r0_10))))
  else (some (.done (y0_11,r0_10)))
noncomputable abbrev cKCyA84:=codeOf f84
theorem Yiv (N:Nat) (a1 a2 a3:Int) (a0:Array Value):∀ t:Int×Array Value,Uag PZ Zf1 N (cAt cKCyA84 [1,1,1,0,1,0,0]) (pAt (Uaa cKCyA84 [([11],[10])]).1 [1,1,1,0,1,0]) [11] [10] (Zhs a1 a2 a3 a0) (Zkb t)=mapS Zkb Zpe (Ze9 PZ a1 a2 a3 a0 t):=by
 rintro ⟨y0_11,r0_10⟩
 refine Eq.trans (b:=(bif decide (y0_11<(36:Int)) then (bif (Zab y0_11 a0) then (bif decide (0<=(IntKind.u64.wrap y0_11)) then (bif (Zag y0_11 a0) then (bif (decide (0<=y0_11)&&decide (y0_11<36)) then (bif (decide (0<=y0_11)&&decide (y0_11<36)) then (some (.more ([.a (.i .i64 (i64.wrap (y0_11+(1:Int))))],[.row (r0_10.setIfInBounds ((y0_11).toNat*1) (.int .i64 (num (Uao PZ a0 (oneX PZ a1 a2) a3.toNat) (3+((y0_11).toNat*1))))) 105])))
       else (none))
      else (none))
     else (some (.more ([.a (.i .i64 (i64.wrap (y0_11+(1:Int))))],[.row r0_10 105]))))
    else (none))
   else (some (.more ([.a (.i .i64 (i64.wrap (y0_11+(1:Int))))],[.row r0_10 105]))))
  else (some (.done ((.exit 0),([.a (.i .i64 (y0_11))],[.row r0_10 105])))))) (by kernel_rfl) ?_
 simp only [Ze9,Zar,Zap,Zas,Zaq,Zkb,Zpe]
def Znc (P:Program) (N:Nat) (a1 a2 a3:Int) (a0:Array Value) (z0_11:Int) (q0_10:Array Value):Option (SV×Eff×Bool):=some (.a (.g q0_10 105),.none,true)
theorem Zw5 (N:Nat) (a1 a2 a3:Int) (a0:Array Value) (z0_11:Int) (q0_10:Array Value):(Uad 0 (kSeq (veC PZ Zf1 N (cAt cKCyA84 [1,1,1,1]) (pAt (Uaa cKCyA84 [([11],[10])]).1 [1,1,1,1]) (SV×Eff×Bool)) (finK PZ [.row a0 37] [.cell 8 105]))) (.exit 0) (left (writes (cAt cKCyA84 [1,1,1,0,1,0,0])) [11] [10] (Zhs a1 a2 a3 a0) ([.a (.i .i64 (z0_11))],[.row q0_10 105]))=Znc PZ N a1 a2 a3 a0 z0_11 q0_10:=by
 refine Eq.trans (b:=(some (.a (.g q0_10 105),.none,true))) (by kernel_rfl) ?_
 rfl
theorem Yhz (N:Nat) (a1 a2 a3:Int) (a0:Array Value):Uah (Uab (Uag PZ Zf1 N (cAt cKCyA84 [1,1,1,0,1,0,0]) (pAt (Uaa cKCyA84 [([11],[10])]).1 [1,1,1,0,1,0]) [11] [10] (Zhs a1 a2 a3 a0)) N ([.a (.i .i64 (0:Int))],[.row (zc PZ 105) 105])) (λ e s=>(Uad 0 (kSeq (veC PZ Zf1 N (cAt cKCyA84 [1,1,1,1]) (pAt (Uaa cKCyA84 [([11],[10])]).1 [1,1,1,1]) (SV×Eff×Bool)) (finK PZ [.row a0 37] [.cell 8 105]))) e (left (writes (cAt cKCyA84 [1,1,1,0,1,0,0])) [11] [10] (Zhs a1 a2 a3 a0) s))=Uai (Uab (Ze9 PZ a1 a2 a3 a0) N ((0:Int),(zc PZ 105))) (λ x=>Znc PZ N a1 a2 a3 a0 x.1 x.2):=by
 refine Zau Zkb Zpe _ _ (Yiv N a1 a2 a3 a0) N ((0:Int),(zc PZ 105)) _ _ ?_
 intro x;exact Zw5 N a1 a2 a3 a0 x.1 x.2
theorem Yfr (N:Nat) (a1 a2 a3:Int) (a0:Array Value):ansV PZ Zf1 N f84 [([11],[10])] [.w 0,.i .i64 (a1),.i .i64 (a2),.i .i64 (a3)] [.row a0 37]=(bif (okS a0&&((Zab a1 a0&&Zaa a2 0 1)&&Zaa a3 0 14)) then (Uai (Uab (Ze9 PZ a1 a2 a3 a0) N ((0:Int),(zc PZ 105))) (λ x=>Znc PZ N a1 a2 a3 a0 x.1 x.2))
  else (none)):=by
 refine Eq.trans (b:=(bif (okS a0&&((Zab a1 a0&&Zaa a2 0 1)&&Zaa a3 0 14)) then (Uah (Uab (Uag PZ Zf1 N (cAt cKCyA84 [1,1,1,0,1,0,0]) (pAt (Uaa cKCyA84 [([11],[10])]).1 [1,1,1,0,1,0]) [11] [10] (Zhs a1 a2 a3 a0)) N ([.a (.i .i64 (0:Int))],[.row (zc PZ 105) 105])) (λ e s=>(Uad 0 (kSeq (veC PZ Zf1 N (cAt cKCyA84 [1,1,1,1]) (pAt (Uaa cKCyA84 [([11],[10])]).1 [1,1,1,1]) (SV×Eff×Bool)) (finK PZ [.row a0 37] [.cell 8 105]))) e (left (writes (cAt cKCyA84 [1,1,1,0,1,0,0])) [11] [10] (Zhs a1 a2 a3 a0) s)))
  else (none))) (by kernel_rfl) ?_
 simp only [Yhz N a1 a2 a3 a0]
theorem Yfa (a1 a2 a3:Int) (a0:Array Value) (h_a1:i64.min<=a1/\a1<=i64.max) (h_a2:i64.min<=a2/\a2<=i64.max) (h_a3:i64.min<=a3/\a3<=i64.max) (h_a0:WT PZ 37 a0) (hg:((okS a0&&((Zab a1 a0&&Zaa a2 0 1)&&Zaa a3 0 14)))=true):ansV PZ Zf1 1000 f84 [([11],[10])] [.w 0,.i .i64 (a1),.i .i64 (a2),.i .i64 (a3)] [.row a0 37]=some (.a (.g (byV PZ a0 a1 a2 a3.toNat) 105),.none,true):=by
 refine (Yfr 1000 a1 a2 a3 a0).trans ?_
 rw [hg,Q1]
 have h:=Zhz (g:=Ze9 PZ a1 a2 a3 a0) (λ r k=>((k:Int),r)) (λ r k=>if inC (num a0 0) (num a0 1) k&&Zac a0 (k:Int) then Uej (Uao PZ a0 (oneX PZ a1 a2) a3.toNat) r k else r) (m:=36) (t:=zc PZ 105) (x:=((36:Int),byV PZ a0 a1 a2 a3.toNat)) (N:=1000) (λ k s hk _=>by
  have h1:decide ((k:Int)<36)=true:=Q3 (by omega)
  have h0:decide (0<=(k:Int))=true:=Q3 (by omega)
  have h3:i64.wrap ((k:Int)+1)=((k+1:Nat):Int):=by rw [w64 (by omega)];omega
  rw [Ymk h_a0 hk]
  simp only [Ze9,h1,h0,h3,Yi7 h_a0 hk,Ym3,Q9,Bool.and_self,Q1]
  cases inC (num a0 0) (num a0 1) k with
  | false=>rfl
  | true=>cases Zag (k:Int) a0<;>rfl) (by
  have h1:decide (((36:Nat):Int)<36)=false:=by decide
  simp only [Ze9,h1,Q2]
  rfl) (by omega)
 have h':Uab (Ze9 PZ a1 a2 a3 a0) 1000 ((0:Int),(zc PZ 105))=some ((36:Int),byV PZ a0 a1 a2 a3.toNat):=h
 rw [h']
 rfl
def Zcf:Con:=λ args h=>match args,h with
 | [.w 0,.i .i64 a1,.i .i64 a2,.i .i64 a3],[.row a0 37]=>some (.a (.g (byV PZ a0 a1 a2 a3.toNat) 105),.none,(okS a0&&((Zab a1 a0&&Zaa a2 0 1)&&Zaa a3 0 14)))
 | _,_=>none
theorem Ybn:EntX PZ 84:=Zah (fn:=f84)
theorem Yhr:Uac (md F) PZ 84 Zcf:=(ansY (N:=1000) (mKc (Zae Zka) Zgq (mKc (Zae Zk4) Zh3 (mKc (Zae Zz1) Zti mKn))) f84 [([11],[10])]).of (by
 intro ρ h w args vals r e hA hH hr
 unfold Zcf at hr
 split at hr
 ·rename_i a1 a2 a3 a0
  obtain ⟨rfl,rfl,hg2⟩:=BQi hr
  exact Yfa a1 a2 a3 a0 (hA.rng 1 rfl) (hA.rng 2 rfl) (hA.rng 3 rfl) (hH.wt 0 rfl) hg2
 ·cases hr)
theorem Ycm:(zc PZ 105).size=36:=by kernel_rfl
theorem Ype:bytesOf PZ 105=288:=by kernel_rfl
theorem Yqt (P:Program) (T:TypeId) {r:Array Value} (h:r.size=(zc P T).size):spl (repC (zc P T) 1) 0 r.toList=r:=by
 have e:repC (zc P T) 1=zc P T:=by unfold repC repL repL;simp
 rw [e];exact Yhp h
theorem Zzc (S X:Array Value):(Ub0 PZ S X).size=36:=by
 unfold Ub0
 refine Zjw (λ _ (r:Array Value)=>r.size=36) Ycm (λ k s _ hs=> ?_) 36 (Nat.le_refl _)
 unfold Uej
 split
 ·rw [Array.size_setIfInBounds];exact hs
 ·exact hs
theorem Zo2 (S:Array Value) (c b:Int) (n:Nat):(byV PZ S c b n).size=36:=Zzc _ _
theorem Ypq {c b:Int} (hc:0<=c/\c<=35):WT PZ 132 (oneX PZ c b):=by
 have o1:i64.min<=(1:Int)/\(1:Int)<=i64.max:=by
  have e1:i64.min = -9223372036854775808:=rfl
  have e2:i64.max=9223372036854775807:=rfl
  omega
 unfold oneX
 exact Zni (k:=.i64) (Zni (k:=.i64) (Zni (k:=.i8) (WT.zero (by kernel_rfl)) Ydv.1 (Zfp .i8 _)) (Zng (by omega) (by omega)) o1) (Zng (by omega) (by omega)) o1
theorem Ypk {S:Array Value} {c b:Int} (hc:Zab c S=true) (hb:Zaa b 0 1=true):(0<=num (oneX PZ c b) 0/\num (oneX PZ c b) 0<2)/\(0<=num (oneX PZ c b) 1/\num (oneX PZ c b) 1<=14):=by
 have h1:=Ziw hb
 obtain ⟨n0,n1,_,_⟩:=Zyb (c:=c) (b:=b) h1 (Zhu hc)
 rw [n0,n1]
 omega
theorem one_zero {S:Array Value} (hS:WT PZ 37 S) {c b:Int} (hc:Zab c S=true) (hb:Zaa b 0 1=true):ZO S (oneX PZ c b):=by
 intro k hk hf
 have hr:=Zhu hc
 rw [(Zyb (c:=c) (b:=b) (Ziw hb) hr).2.2.2 k hk,if_neg]
 intro e
 have hkc:(k:Int)=c:=by omega
 rw [<- hkc,Yi7 hS hk,hf] at hc
 cases hc
theorem one_go {S:Array Value} (hS:WT PZ 37 S) (hok:okS S=true) {c b:Int} (hc:Zab c S=true) (hb:Zaa b 0 1=true) {j:Nat} (hj:j<=14):goG S (Uao PZ S (oneX PZ c b) j)=true:=by
 obtain ⟨l0,l1⟩:=Ypk hc hb
 have hl:=Yfc (S:=S) l0 l1 j hj
 have n1:=(Zyb (c:=c) (b:=b) (Ziw hb) (Zhu hc)).2.1
 exact Yq0.2 ⟨hok,by rw [hl.1];exact l0,by rw [hl.2,n1];omega,Yo2 (Ypq (Zhu hc)) hok hS (one_zero hS hc hb) j⟩
def recC (P:Program) (S:Array Value) (c b:Int):Nat->Array Value
 | 0=>byV P S c b 0
 | n+1=>recC P S c b n++byV P S c b (n+1)
theorem Yj6 (S:Array Value) (c b:Int):∀ n,(recC PZ S c b n).size=(n+1)*36
 | 0=>Zo2 _ _ _ _
 | n+1=>by rw [recC,Array.size_append,Yj6 S c b n,Zo2];omega
theorem Yk2 (S:Array Value) (c b:Int):∀ (n j:Nat),j<=n->(recC PZ S c b n).extract (j*36) (j*36+36)=byV PZ S c b j
 | 0,j,hj=>by
  obtain rfl:j=0:=by omega
  rw [recC];exact Zvc (Zo2 _ _ _ _)
 | n+1,j,hj=>by
  have hz:=Yj6 S c b n
  by_cases h:j<=n
  ·rw [<- Yk2 S c b n j h,recC]
   refine Array.ext_getElem? λ i=> ?_
   rw [Array.getElem?_extract,Array.getElem?_extract,Array.size_append,hz,Zo2]
   by_cases hi:i<min (j*36+36) ((n+1)*36) - j*36
   ·rw [if_pos (by omega),if_pos hi,Array.getElem?_append,if_pos (by omega)]
   ·rw [if_neg (by omega),if_neg hi]
  ·obtain rfl:j=n+1:=by omega
   rw [recC]
   refine Array.ext_getElem? λ i=> ?_
   rw [Array.getElem?_extract,Array.size_append,hz,Zo2]
   by_cases hi:i<36
   ·rw [if_pos (by omega),Array.getElem?_append,if_neg (by omega),hz,show (n+1)*36+i - (n+1)*36=i by omega]
   ·rw [if_neg (by omega),Array.getElem?_eq_none (by rw [Zo2];omega)]
theorem num_sub1 (a:Int) (h:1<=a/\a<=14):i64.wrap (a - 1)=a - 1/\(i64.wrap (a - 1)).toNat=a.toNat - 1:=by
 rw [w64 (by omega)];omega
def Zhw (a1 a2 a3:Int) (a0:Array Value):St:=(⟨.a (.w 0) :: .a (.i .i64 (a1)) :: .a (.i .i64 (a2)) :: .a (.i .i64 (a3))::us 4 (.a (.w 1) :: .a (.w 7) :: .a (.w 15) :: .a (.i .i64 (0:Int)) :: .a (.w 0) :: .a (.i .i64 (a1)) :: .a (.i .i64 (a2)) :: .a (.i .i64 (a3)) :: .a (.g (byV PZ a0 a1 a2 a3.toNat) 105) :: .a (.w 0) :: .a (.i .i64 (a1)) :: .a (.i .i64 (a2)) :: .a (.i .i64 (a3)) :: .a (.i .i64 (i64.wrap (a3 - (1:Int)))) :: .a (.g (byV PZ a0 a1 a2 (i64.wrap (a3 - (1:Int))).toNat) 105)::us 14 ([])),[.row a0 37,.row (zc PZ 105) 105,.no,.no,.no,.no,.no,.row (byV PZ a0 a1 a2 a3.toNat) 105,.no,.no,.no,.no,.no,.no,.no,.row (byV PZ a0 a1 a2 (i64.wrap (a3 - (1:Int))).toNat) 105,.no],[15,7]⟩:St)
def Zjj:Int×Array Value->LS
 | (y0_11,r0_7)=>([.a (.i .i64 (y0_11))],[.row r0_7 105])
def Zpu:Int×Array Value->Exit×LS
 | t=>((.exit 0),Zjj t)
def Zd3 (P : Program) (a1 a2 a3 : Int) (a0 : Array Value) : Int × Array Value → Option (Stp (Int × Array Value) (Int × Array Value))
 | (y0_11, r0_7) => bif decide (y0_11 < (36 : Int)) then (bif (decide (0 ≤ y0_11) && decide (y0_11 < 36)) then (bif (decide (0 ≤ y0_11) && decide (y0_11 < 36)) then (bif (decide (0 ≤ y0_11) && decide (y0_11 < 36)) then (some (.more ((i64.wrap (y0_11 + (1 : Int))), (r0_7.setIfInBounds ((y0_11).toNat * 1) (.int .i64 (i64.wrap ((num r0_7 ((y0_11).toNat * 1)) - (i64.wrap ((12 : Int) * (num (byV PZ a0 a1 a2 (i64.wrap (a3 - (1 : Int))).toNat) ((y0_11).toNat * 1)))))))))))
     else (none))
    else (none))
   else (none))
  else (some (.done (y0_11,r0_7)))
noncomputable abbrev cKCyA59:=codeOf f59
theorem Yhu (N:Nat) (a1 a2 a3:Int) (a0:Array Value):∀ t:Int×Array Value,Uag PZ (mkΓ [(84,con Zcf)]) N (cAt cKCyA59 [1,1,1,0,1,0,0]) (pAt (Uaa cKCyA59 [([11],[7])]).1 [1,1,1,0,1,0]) [11] [7] (Zhw a1 a2 a3 a0) (Zjj t)=mapS Zjj Zpu (Zd3 PZ a1 a2 a3 a0 t):=by
 rintro ⟨y0_11,r0_7⟩
 refine Eq.trans (b:=(bif decide (y0_11<(36:Int)) then (bif (decide (0<=y0_11)&&decide (y0_11<36)) then (bif (decide (0<=y0_11)&&decide (y0_11<36)) then (bif (decide (0<=y0_11)&&decide (y0_11<36)) then (some (.more ([.a (.i .i64 (i64.wrap (y0_11+(1:Int))))],[.row (r0_7.setIfInBounds ((y0_11).toNat*1) (.int .i64 (i64.wrap ((num r0_7 ((y0_11).toNat*1)) - (i64.wrap ((12:Int)*(num (byV PZ a0 a1 a2 (i64.wrap (a3 - (1:Int))).toNat) ((y0_11).toNat*1)))))))) 105])))
     else (none))
    else (none))
   else (none))
  else (some (.done ((.exit 0),([.a (.i .i64 (y0_11))],[.row r0_7 105])))))) (by kernel_rfl) ?_
 simp only [Zd3,Zar,Zap,Zas,Zaq,Zjj,Zpu]
def Zjg (P:Program) (N:Nat) (a1 a2 a3:Int) (a0:Array Value) (z0_11:Int) (q0_7:Array Value):Option (SV×Eff×Bool):=some (.a (.g q0_7 105),.none,true)
theorem Zwg (N:Nat) (a1 a2 a3:Int) (a0:Array Value) (z0_11:Int) (q0_7:Array Value):(Uad 0 (kSeq (veC PZ (mkΓ [(84,con Zcf)]) N (cAt cKCyA59 [1,1,1,1]) (pAt (Uaa cKCyA59 [([11],[7])]).1 [1,1,1,1]) (SV×Eff×Bool)) (finK PZ [.row a0 37] [.cell 8 105]))) (.exit 0) (left (writes (cAt cKCyA59 [1,1,1,0,1,0,0])) [11] [7] (Zhw a1 a2 a3 a0) ([.a (.i .i64 (z0_11))],[.row q0_7 105]))=Zjg PZ N a1 a2 a3 a0 z0_11 q0_7:=by
 refine Eq.trans (b:=(some (.a (.g q0_7 105),.none,true))) (by kernel_rfl) ?_
 rfl
theorem Yiu (N:Nat) (a1 a2 a3:Int) (a0:Array Value):Uah (Uab (Uag PZ (mkΓ [(84,con Zcf)]) N (cAt cKCyA59 [1,1,1,0,1,0,0]) (pAt (Uaa cKCyA59 [([11],[7])]).1 [1,1,1,0,1,0]) [11] [7] (Zhw a1 a2 a3 a0)) N ([.a (.i .i64 (0:Int))],[.row (byV PZ a0 a1 a2 a3.toNat) 105])) (λ e s=>(Uad 0 (kSeq (veC PZ (mkΓ [(84,con Zcf)]) N (cAt cKCyA59 [1,1,1,1]) (pAt (Uaa cKCyA59 [([11],[7])]).1 [1,1,1,1]) (SV×Eff×Bool)) (finK PZ [.row a0 37] [.cell 8 105]))) e (left (writes (cAt cKCyA59 [1,1,1,0,1,0,0])) [11] [7] (Zhw a1 a2 a3 a0) s))=Uai (Uab (Zd3 PZ a1 a2 a3 a0) N ((0:Int),(byV PZ a0 a1 a2 a3.toNat))) (λ x=>Zjg PZ N a1 a2 a3 a0 x.1 x.2):=by
 refine Zau Zjj Zpu _ _ (Yhu N a1 a2 a3 a0) N ((0:Int),(byV PZ a0 a1 a2 a3.toNat)) _ _ ?_
 intro x;exact Zwg N a1 a2 a3 a0 x.1 x.2
theorem Yfx (N:Nat) (a1 a2 a3:Int) (a0:Array Value):ansV PZ (mkΓ [(84,con Zcf)]) N f59 [([11],[7])] [.w 0,.i .i64 (a1),.i .i64 (a2),.i .i64 (a3)] [.row a0 37]=(bif (okS a0&&((Zab a1 a0&&Zaa a2 0 1)&&Zaa a3 0 14)) then (bif (okS a0&&((Zab a1 a0&&Zaa a2 0 1)&&Zaa (i64.wrap (a3 - (1:Int))) 0 14)) then (Uai (Uab (Zd3 PZ a1 a2 a3 a0) N ((0:Int),(byV PZ a0 a1 a2 a3.toNat))) (λ x=>Zjg PZ N a1 a2 a3 a0 x.1 x.2))
   else (none))
  else (none)):=by
 refine Eq.trans (b:=(bif (okS a0&&((Zab a1 a0&&Zaa a2 0 1)&&Zaa a3 0 14)) then (bif (okS a0&&((Zab a1 a0&&Zaa a2 0 1)&&Zaa (i64.wrap (a3 - (1:Int))) 0 14)) then (Uah (Uab (Uag PZ (mkΓ [(84,con Zcf)]) N (cAt cKCyA59 [1,1,1,0,1,0,0]) (pAt (Uaa cKCyA59 [([11],[7])]).1 [1,1,1,0,1,0]) [11] [7] (Zhw a1 a2 a3 a0)) N ([.a (.i .i64 (0:Int))],[.row (byV PZ a0 a1 a2 a3.toNat) 105])) (λ e s=>(Uad 0 (kSeq (veC PZ (mkΓ [(84,con Zcf)]) N (cAt cKCyA59 [1,1,1,1]) (pAt (Uaa cKCyA59 [([11],[7])]).1 [1,1,1,1]) (SV×Eff×Bool)) (finK PZ [.row a0 37] [.cell 8 105]))) e (left (writes (cAt cKCyA59 [1,1,1,0,1,0,0])) [11] [7] (Zhw a1 a2 a3 a0) s)))
   else (none))
  else (none))) (by kernel_rfl) ?_
 simp only [Yiu N a1 a2 a3 a0]
theorem Yem (a1 a2 a3:Int) (a0:Array Value) (h_a1:i64.min<=a1/\a1<=i64.max) (h_a2:i64.min<=a2/\a2<=i64.max) (h_a3:i64.min<=a3/\a3<=i64.max) (h_a0:WT PZ 37 a0) (hg:((okS a0&&((Zab a1 a0&&Zaa a2 0 1)&&Zaa a3 1 14)))=true):ansV PZ (mkΓ [(84,con Zcf)]) 1000 f59 [([11],[7])] [.w 0,.i .i64 (a1),.i .i64 (a2),.i .i64 (a3)] [.row a0 37]=some (.a (.g (subV (byV PZ a0 a1 a2 a3.toNat) (byV PZ a0 a1 a2 (a3.toNat - 1)) 12) 105),.none,true):=by
 simp only [Q7] at hg
 obtain ⟨q0,⟨q1,q2⟩,q3⟩:=hg
 have r3:=Ziw q3
 obtain ⟨e1,e2⟩:=num_sub1 a3 r3
 refine (Yfx 1000 a1 a2 a3 a0).trans ?_
 rw [q0,q1,q2,in_of (x:=a3) (a:=0) (b:=14) (by omega),in_of (x:=i64.wrap (a3 - 1)) (a:=0) (b:=14) (by omega)]
 simp only [Bool.and_self,Q1]
 have h:=Zhz (g:=Zd3 PZ a1 a2 a3 a0) (λ r k=>((k:Int),r)) (subF (byV PZ a0 a1 a2 (a3.toNat - 1)) 12) (m:=36) (t:=byV PZ a0 a1 a2 a3.toNat) (x:=((36:Int),subV (byV PZ a0 a1 a2 a3.toNat) (byV PZ a0 a1 a2 (a3.toNat - 1)) 12)) (N:=1000) (λ k s hk _=>by
  have h1:decide ((k:Int)<36)=true:=Q3 (by omega)
  have h0:decide (0<=(k:Int))=true:=Q3 (by omega)
  have h3:i64.wrap ((k:Int)+1)=((k+1:Nat):Int):=by rw [w64 (by omega)];omega
  simp only [Zd3,h1,h0,h3,e2,Q9,Bool.and_self,Q1]
  unfold subF
  rw [Int.mul_comm (12:Int)]) (by
  have h1:decide (((36:Nat):Int)<36)=false:=by decide
  simp only [Zd3,h1,Q2]
  rfl) (by omega)
 have hq:∀ q,Uab (Zd3 PZ a1 a2 a3 a0) 1000 ((0:Int),byV PZ a0 a1 a2 a3.toNat)=some ((36:Int),q)->Uai (Uab (Zd3 PZ a1 a2 a3 a0) 1000 ((0:Int),byV PZ a0 a1 a2 a3.toNat)) (λ x=>Zjg PZ 1000 a1 a2 a3 a0 x.1 x.2)=some (.a (.g q 105),.none,true):=λ q e=>by rw [e];rfl
 exact hq _ h
def Zn6:Con:=λ args h=>match args,h with
 | [.w 0,.i .i64 a1,.i .i64 a2,.i .i64 a3],[.row a0 37]=>some (.a (.g (subV (byV PZ a0 a1 a2 a3.toNat) (byV PZ a0 a1 a2 (a3.toNat - 1)) 12) 105),.none,(okS a0&&((Zab a1 a0&&Zaa a2 0 1)&&Zaa a3 1 14)))
 | _,_=>none
theorem Ybw:EntX PZ 59:=Zah (fn:=f59)
theorem Yid:Uac (md F) PZ 59 Zn6:=(ansY (N:=1000) (mKc (Zae Yhr) Ybn mKn) f59 [([11],[7])]).of (by
 intro ρ h w args vals r e hA hH hr
 unfold Zn6 at hr
 split at hr
 ·rename_i a1 a2 a3 a0
  obtain ⟨rfl,rfl,hg2⟩:=BQi hr
  exact Yem a1 a2 a3 a0 (hA.rng 1 rfl) (hA.rng 2 rfl) (hA.rng 3 rfl) (hH.wt 0 rfl) hg2
 ·cases hr)
def Zct (a1 a2:Int) (b_a0:Option (Option Addr)) (n_a0:Nat) (a0:Array Value):St:=(⟨.a (.l 0) :: .a (.i .i64 (a1)) :: .a (.i .i64 (a2))::us 3 (.a (.w 1) :: .a (.w 6) :: .a (.u) :: .a (.u) :: .a (.l 0) :: .a (.i .i64 (a2)) :: .a (.q 0 (((a2).toNat*36)) 105) :: .a (.g (a0.extract ((a2).toNat*36) (((a2).toNat*36)+36)) 105) :: .a (.l 0) :: .a (.i .i64 (a1)) :: .a (.q 0 (((a1).toNat*36)) 105) :: .a (.g (a0.extract ((a1).toNat*36) (((a1).toNat*36)+36)) 105) :: .a (.i .i64 (0:Int))::us 16 ([])),[.sl (.came b_a0) n_a0 a0 105,.row (zc PZ 105) 105,.no,.no,.no,.no,.row (a0.extract ((a2).toNat*36) (((a2).toNat*36)+36)) 105,.no],[6]⟩:St)
def Zdu:Int×Array Value->LS
 | (y0_18,r0_6)=>([.a (.i .i64 (y0_18))],[.row r0_6 105])
def Zic:Int×Array Value->Exit×LS
 | t=>((.exit 0),Zdu t)
def Za5 (P : Program) (a1 a2 : Int) (b_a0 : Option (Option Addr)) (n_a0 : Nat) (a0 : Array Value) : Int × Array Value → Option (Stp (Int × Array Value) (Int × Array Value))
 | (y0_18, r0_6) => bif decide (y0_18 < (36 : Int)) then (bif (decide (0 ≤ y0_18) && decide (y0_18 < 36)) then (bif (decide (0 ≤ y0_18) && decide (y0_18 < 36)) then (bif (decide (0 ≤ (i64.wrap (a2 - a1))) && decide ((i64.wrap (a2 - a1)) ≤ 14)) then (bif (decide (0 ≤ y0_18) && decide (y0_18 < 36)) then (some (.more ((i64.wrap (y0_18 + (1 : Int))), (r0_6.setIfInBounds ((y0_18).toNat * 1) (.int .i64 (i64.wrap ((num r0_6 ((y0_18).toNat * 1)) - (i64.wrap ((num (a0.extract ((a1).toNat * 36) (((a1).toNat * 36) + 36)) ((y0_18).toNat * 1)) * (12 ^ (i64.wrap (a2 - a1)).toNat))))))))))
      else (none))
     else (none))
    else (none))
   else (none))
  else (some (.done (y0_18,r0_6)))
noncomputable abbrev cKCyA108:=codeOf f108
theorem Ztd (N:Nat) (a1 a2:Int) (b_a0:Option (Option Addr)) (n_a0:Nat) (a0:Array Value):∀ t:Int×Array Value,Uag PZ (mkΓ [(117,con Za8)]) N (cAt cKCyA108 [1,1,0,1,0,0]) (pAt (Uaa cKCyA108 [([18],[6])]).1 [1,1,0,1,0]) [18] [6] (Zct a1 a2 b_a0 n_a0 a0) (Zdu t)=mapS Zdu Zic (Za5 PZ a1 a2 b_a0 n_a0 a0 t):=by
 rintro ⟨y0_18,r0_6⟩
 refine Eq.trans (b:=(bif decide (y0_18<(36:Int)) then (bif (decide (0<=y0_18)&&decide (y0_18<36)) then (bif (decide (0<=y0_18)&&decide (y0_18<36)) then (bif (decide (0<=(i64.wrap (a2 - a1)))&&decide ((i64.wrap (a2 - a1))<=14)) then (bif (decide (0<=y0_18)&&decide (y0_18<36)) then (some (.more ([.a (.i .i64 (i64.wrap (y0_18+(1:Int))))],[.row (r0_6.setIfInBounds ((y0_18).toNat*1) (.int .i64 (i64.wrap ((num r0_6 ((y0_18).toNat*1)) - (i64.wrap ((num (a0.extract ((a1).toNat*36) (((a1).toNat*36)+36)) ((y0_18).toNat*1))*(12^(i64.wrap (a2 - a1)).toNat))))))) 105])))
      else (none))
     else (none))
    else (none))
   else (none))
  else (some (.done ((.exit 0),([.a (.i .i64 (y0_18))],[.row r0_6 105])))))) (by kernel_rfl) ?_
 simp only [Za5,Zar,Zap,Zas,Zaq,Zdu,Zic]
def Zej (P:Program) (N:Nat) (a1 a2:Int) (b_a0:Option (Option Addr)) (n_a0:Nat) (a0:Array Value) (z0_18:Int) (q0_6:Array Value):Option (SV×Eff×Bool):=some (.a (.g q0_6 105),.none,true)
theorem Zof (N:Nat) (a1 a2:Int) (b_a0:Option (Option Addr)) (n_a0:Nat) (a0:Array Value) (z0_18:Int) (q0_6:Array Value):(Uad 0 (kSeq (veC PZ (mkΓ [(117,con Za8)]) N (cAt cKCyA108 [1,1,1]) (pAt (Uaa cKCyA108 [([18],[6])]).1 [1,1,1]) (SV×Eff×Bool)) (finK PZ [.sl (.came b_a0) n_a0 a0 105] [.cell 6 105]))) (.exit 0) (left (writes (cAt cKCyA108 [1,1,0,1,0,0])) [18] [6] (Zct a1 a2 b_a0 n_a0 a0) ([.a (.i .i64 (z0_18))],[.row q0_6 105]))=Zej PZ N a1 a2 b_a0 n_a0 a0 z0_18 q0_6:=by
 refine Eq.trans (b:=(some (.a (.g q0_6 105),.none,true))) (by kernel_rfl) ?_
 rfl
theorem Zs4 (N:Nat) (a1 a2:Int) (b_a0:Option (Option Addr)) (n_a0:Nat) (a0:Array Value):Uah (Uab (Uag PZ (mkΓ [(117,con Za8)]) N (cAt cKCyA108 [1,1,0,1,0,0]) (pAt (Uaa cKCyA108 [([18],[6])]).1 [1,1,0,1,0]) [18] [6] (Zct a1 a2 b_a0 n_a0 a0)) N ([.a (.i .i64 (0:Int))],[.row (a0.extract ((a2).toNat*36) (((a2).toNat*36)+36)) 105])) (λ e s=>(Uad 0 (kSeq (veC PZ (mkΓ [(117,con Za8)]) N (cAt cKCyA108 [1,1,1]) (pAt (Uaa cKCyA108 [([18],[6])]).1 [1,1,1]) (SV×Eff×Bool)) (finK PZ [.sl (.came b_a0) n_a0 a0 105] [.cell 6 105]))) e (left (writes (cAt cKCyA108 [1,1,0,1,0,0])) [18] [6] (Zct a1 a2 b_a0 n_a0 a0) s))=Uai (Uab (Za5 PZ a1 a2 b_a0 n_a0 a0) N ((0:Int),(a0.extract ((a2).toNat*36) (((a2).toNat*36)+36)))) (λ x=>Zej PZ N a1 a2 b_a0 n_a0 a0 x.1 x.2):=by
 refine Zau Zdu Zic _ _ (Ztd N a1 a2 b_a0 n_a0 a0) N ((0:Int),(a0.extract ((a2).toNat*36) (((a2).toNat*36)+36))) _ _ ?_
 intro x;exact Zof N a1 a2 b_a0 n_a0 a0 x.1 x.2
theorem Zq0 (N:Nat) (a1 a2:Int) (b_a0:Option (Option Addr)) (n_a0:Nat) (a0:Array Value):ansV PZ (mkΓ [(117,con Za8)]) N f108 [([18],[6])] [.l 0,.i .i64 (a1),.i .i64 (a2)] [.sl (.came b_a0) n_a0 a0 105]=(bif (decide (0<=a2)&&decide (a2<(n_a0:Int))) then (bif (decide (0<=a1)&&decide (a1<(n_a0:Int))) then (Uai (Uab (Za5 PZ a1 a2 b_a0 n_a0 a0) N ((0:Int),(a0.extract ((a2).toNat*36) (((a2).toNat*36)+36)))) (λ x=>Zej PZ N a1 a2 b_a0 n_a0 a0 x.1 x.2))
   else (none))
  else (none)):=by
 refine Eq.trans (b:=(bif (decide (0<=a2)&&decide (a2<(n_a0:Int))) then (bif (decide (0<=a1)&&decide (a1<(n_a0:Int))) then (Uah (Uab (Uag PZ (mkΓ [(117,con Za8)]) N (cAt cKCyA108 [1,1,0,1,0,0]) (pAt (Uaa cKCyA108 [([18],[6])]).1 [1,1,0,1,0]) [18] [6] (Zct a1 a2 b_a0 n_a0 a0)) N ([.a (.i .i64 (0:Int))],[.row (a0.extract ((a2).toNat*36) (((a2).toNat*36)+36)) 105])) (λ e s=>(Uad 0 (kSeq (veC PZ (mkΓ [(117,con Za8)]) N (cAt cKCyA108 [1,1,1]) (pAt (Uaa cKCyA108 [([18],[6])]).1 [1,1,1]) (SV×Eff×Bool)) (finK PZ [.sl (.came b_a0) n_a0 a0 105] [.cell 6 105]))) e (left (writes (cAt cKCyA108 [1,1,0,1,0,0])) [18] [6] (Zct a1 a2 b_a0 n_a0 a0) s)))
   else (none))
  else (none))) (by kernel_rfl) ?_
 simp only [Zs4 N a1 a2 b_a0 n_a0 a0]
theorem Zqd (a1 a2:Int) (b_a0:Option (Option Addr)) (n_a0:Nat) (a0:Array Value) (h_a1:i64.min<=a1/\a1<=i64.max) (h_a2:i64.min<=a2/\a2<=i64.max) (h_a0:a0.size=n_a0*(lay PZ 105).length/\(∀ k,k<n_a0->WT PZ 105 (a0.extract (k*(lay PZ 105).length) (k*(lay PZ 105).length+(lay PZ 105).length)))/\n_a0<=9223372036854775807) (hg:(((decide (0<=a1)&&decide (a1<=a2))&&(decide (a2<=a1+14)&&decide (a2<(n_a0:Int)))))=true):ansV PZ (mkΓ [(117,con Za8)]) 1000 f108 [([18],[6])] [.l 0,.i .i64 (a1),.i .i64 (a2)] [.sl (.came b_a0) n_a0 a0 105]=some (.a (.g (subV (a0.extract (a2.toNat*36) (a2.toNat*36+36)) (a0.extract (a1.toNat*36) (a1.toNat*36+36)) (12^(a2 - a1).toNat)) 105),.none,true):=by
 simp only [Q7,decide_eq_true_eq] at hg
 obtain ⟨⟨q0,q1⟩,q2,q3⟩:=hg
 have ew:i64.wrap (a2 - a1)=a2 - a1:=w64 (by omega)
 refine (Zq0 1000 a1 a2 b_a0 n_a0 a0).trans ?_
 rw [dec2 (show 0<=a2 by omega) q3,dec2 q0 (show a1<(n_a0:Int) by omega)]
 simp only [Q1]
 have hq:∀ q,Uab (Za5 PZ a1 a2 b_a0 n_a0 a0) 1000 ((0:Int),a0.extract (a2.toNat*36) (a2.toNat*36+36))=some ((36:Int),q)->Uai (Uab (Za5 PZ a1 a2 b_a0 n_a0 a0) 1000 ((0:Int),a0.extract (a2.toNat*36) (a2.toNat*36+36))) (λ x=>Zej PZ 1000 a1 a2 b_a0 n_a0 a0 x.1 x.2)=some (.a (.g q 105),.none,true):=λ q e=>by rw [e];rfl
 refine hq _ ?_
 unfold subV
 have hF:∀ (k:Nat) (s:Array Value),k<36->Za5 PZ a1 a2 b_a0 n_a0 a0 ((k:Int),s)=some (.more (((k+1:Nat):Int),subF (a0.extract (a1.toNat*36) (a1.toNat*36+36)) (12^(a2 - a1).toNat) s k)):=λ k s hk=>by
  have h1:decide ((k:Int)<36)=true:=Q3 (by omega)
  have h0:decide (0<=(k:Int))=true:=Q3 (by omega)
  have h3:i64.wrap ((k:Int)+1)=((k+1:Nat):Int):=by rw [w64 (by omega)];omega
  have h4:decide (0<=a2 - a1)=true:=Q3 (by omega)
  have h5:decide (a2 - a1<=14)=true:=Q3 (by omega)
  simp only [Za5,h1,h0,h3,ew,h4,h5,Q9,Bool.and_self,Q1,subF]
 generalize a0.extract (a2.toNat*36) (a2.toNat*36+36)=C
 generalize hD:a0.extract (a1.toNat*36) (a1.toNat*36+36)=D at hF|-
 generalize hm:(12:Int)^(a2 - a1).toNat=m at hF|-
 exact Zhz (g:=Za5 PZ a1 a2 b_a0 n_a0 a0) (λ r k=>((k:Int),r)) (subF D m) (m:=36) (t:=C) (x:=((36:Int),folds (subF D m) C 36)) (N:=1000) (λ k s hk _=>hF k s hk) (by
  have h1:decide (((36:Nat):Int)<36)=false:=by decide
  generalize folds (subF D m) C 36=q
  simp only [Za5,h1,Q2]
  rfl) (by omega)
def Ze0:Con:=λ args h=>match args,h with
 | [.l 0,.i .i64 a1,.i .i64 a2],[.sl (.came b_a0) n_a0 a0 105]=>some (.a (.g (subV (a0.extract (a2.toNat*36) (a2.toNat*36+36)) (a0.extract (a1.toNat*36) (a1.toNat*36+36)) (12^(a2 - a1).toNat)) 105),.none,((decide (0<=a1)&&decide (a1<=a2))&&(decide (a2<=a1+14)&&decide (a2<(n_a0:Int)))))
 | _,_=>none
theorem Zpn:EntX PZ 108:=Zah (fn:=f108)
theorem Zsv:Uac (md F) PZ 108 Ze0:=(ansY (N:=1000) (mKc (Zae Zwj) Zqq mKn) f108 [([18],[6])]).of (by
 intro ρ h w args vals r e hA hH hr
 unfold Ze0 at hr
 split at hr
 ·rename_i a1 a2 b_a0 n_a0 a0
  obtain ⟨rfl,rfl,hg2⟩:=BQi hr
  exact Zqd a1 a2 b_a0 n_a0 a0 (hA.rng 1 rfl) (hA.rng 2 rfl) (hH.slw 0 rfl) hg2
 ·cases hr)
def Zdc:Cons:=(mkΓ [(85,con Zkl),(86,con Znd),(87,con Zlx)])
def Zex (a0:Array Value) (a1 a2 a3:Int):St:=(⟨.a (.g a0 37) :: .a (.i .i64 (a1)) :: .a (.i .i64 (a2)) :: .a (.i .i64 (a3)) :: .a (.w 0)::us 3 (.a (.v (.slice none 0 0)) :: .a (.w 5) :: .a (.l 12) :: .a (.i .i64 (a1)) :: .a (.i .i64 (a2)) :: .a (.g (Zan PZ a1 (1:Int) a2) 132) :: .a (.g a0 37) :: .a (.g (Zan PZ a1 (1:Int) a2) 132) :: .a (.g (Ub0 PZ a0 (Zan PZ a1 (1:Int) a2)) 105) :: .a (.l 10) :: .a (.i .i64 (a3)) :: .a (.i .i64 (0:Int))::us 12 ([])),[.row a0 37,.no,.no,.no,.no,.row (Zan PZ a1 (1:Int) a2) 132,.no,.no,.no,.no,.sp,.no,.sl .own 1 (spl (repC (zc PZ 105) 1) 0 (Ub0 PZ a0 (Zan PZ a1 (1:Int) a2)).toList) 105],[10,5]⟩:St)
def Zge:Int×Array Value×Nat×Array Value->LS
 | (y0_19,r0_5,m0_10,y0_10)=>([.a (.i .i64 (y0_19)),.a (.l 12)],[.row r0_5 132,.sl .own m0_10 y0_10 105])
def Zld:Int×Array Value×Nat×Array Value->Exit×LS
 | t=>((.exit 0),Zge t)
def Zc0 (P : Program) (a0 : Array Value) (a1 a2 a3 : Int) : Int × Array Value × Nat × Array Value → Option (Stp (Int × Array Value × Nat × Array Value) (Int × Array Value × Nat × Array Value))
 | (y0_19, r0_5, m0_10, y0_10) => bif decide (y0_19 < a3) then (bif (goG a0 r0_5) then (bif okS a0 then (bif (Nat.ble ((m0_10 + 1) * bytesOf PZ 105) 140737488355328) then (some (.more ((i64.wrap (y0_19 + (1 : Int))), (Ubg PZ a0 r0_5), (m0_10 + 1), (y0_10 ++ (spl (repC (zc PZ 105) 1) 0 (Ub0 PZ a0 (Ubg PZ a0 r0_5)).toList)))))
     else (none))
    else (none))
   else (none))
  else (some (.done (y0_19,r0_5,m0_10,y0_10)))
noncomputable abbrev cKCyA61:=codeOf f61
theorem Ycj (N:Nat) (a0:Array Value) (a1 a2 a3:Int):∀ t:Int×Array Value×Nat×Array Value,Ugo PZ Zdc N (cAt cKCyA61 [1,1,1,0,1,0,0]) (pAt (Uaa cKCyA61 [([19],[5,1000010,105])]).1 [1,1,1,0,1,0]) [19] [5] 10 105 12 (Zex a0 a1 a2 a3) (Zge t)=mapS Zge Zld (Zc0 PZ a0 a1 a2 a3 t):=by
 rintro ⟨y0_19,r0_5,m0_10,y0_10⟩
 refine Eq.trans (b:=(bif decide (y0_19<a3) then (bif (goG a0 r0_5) then (bif okS a0 then (bif (Nat.ble ((m0_10+1)*bytesOf PZ 105) 140737488355328) then (some (.more ([.a (.i .i64 (i64.wrap (y0_19+(1:Int)))),.a (.l 12)],[.row (Ubg PZ a0 r0_5) 132,.sl .own (m0_10+1) (y0_10++(spl (repC (zc PZ 105) 1) 0 (Ub0 PZ a0 (Ubg PZ a0 r0_5)).toList)) 105])))
     else (none))
    else (none))
   else (none))
  else (some (.done ((.exit 0),([.a (.i .i64 (y0_19)),.a (.l 12)],[.row r0_5 132,.sl .own m0_10 y0_10 105])))))) (by kernel_rfl) ?_
 simp only [Zc0,Zar,Zap,Zas,Zaq,Zge,Zld]
def Zjf (P:Program) (N:Nat) (a0:Array Value) (a1 a2 a3:Int) (z0_19:Int) (q0_5:Array Value) (p0_10:Nat) (z0_10:Array Value):Option (SV×Eff×Bool):=some (.a .x,.newS none p0_10 z0_10 105,true)
theorem Zqt (N:Nat) (a0:Array Value) (a1 a2 a3:Int) (z0_19:Int) (q0_5:Array Value) (p0_10:Nat) (z0_10:Array Value):(Uad 0 (kSeq (veC PZ Zdc N (cAt cKCyA61 [1,1,1,1]) (pAt (Uaa cKCyA61 [([19],[5,1000010,105])]).1 [1,1,1,1]) (SV×Eff×Bool)) (finK PZ [] [.tmp 8]))) (.exit 0) (left (writes (cAt cKCyA61 [1,1,1,0,1,0,0])) [19,10] [5,12] (Zex a0 a1 a2 a3) ([.a (.i .i64 (z0_19)),.a (.l 12)],[.row q0_5 132,.sl .own p0_10 z0_10 105]))=Zjf PZ N a0 a1 a2 a3 z0_19 q0_5 p0_10 z0_10:=by
 refine Eq.trans (b:=(some (.a .x,.newS none p0_10 z0_10 105,true))) (by kernel_rfl) ?_
 rfl
theorem Ycl (N:Nat) (a0:Array Value) (a1 a2 a3:Int):Uah (Uab (Ugo PZ Zdc N (cAt cKCyA61 [1,1,1,0,1,0,0]) (pAt (Uaa cKCyA61 [([19],[5,1000010,105])]).1 [1,1,1,0,1,0]) [19] [5] 10 105 12 (Zex a0 a1 a2 a3)) N ([.a (.i .i64 (0:Int)),.a (.l 12)],[.row (Zan PZ a1 (1:Int) a2) 132,.sl .own 1 (spl (repC (zc PZ 105) 1) 0 (Ub0 PZ a0 (Zan PZ a1 (1:Int) a2)).toList) 105])) (λ e s=>(Uad 0 (kSeq (veC PZ Zdc N (cAt cKCyA61 [1,1,1,1]) (pAt (Uaa cKCyA61 [([19],[5,1000010,105])]).1 [1,1,1,1]) (SV×Eff×Bool)) (finK PZ [] [.tmp 8]))) e (left (writes (cAt cKCyA61 [1,1,1,0,1,0,0])) [19,10] [5,12] (Zex a0 a1 a2 a3) s))=Uai (Uab (Zc0 PZ a0 a1 a2 a3) N ((0:Int),(Zan PZ a1 (1:Int) a2),1,(spl (repC (zc PZ 105) 1) 0 (Ub0 PZ a0 (Zan PZ a1 (1:Int) a2)).toList))) (λ x=>Zjf PZ N a0 a1 a2 a3 x.1 x.2.1 x.2.2.1 x.2.2.2):=by
 refine Zau Zge Zld _ _ (Ycj N a0 a1 a2 a3) N ((0:Int),(Zan PZ a1 (1:Int) a2),1,(spl (repC (zc PZ 105) 1) 0 (Ub0 PZ a0 (Zan PZ a1 (1:Int) a2)).toList)) _ _ ?_
 intro x;exact Zqt N a0 a1 a2 a3 x.1 x.2.1 x.2.2.1 x.2.2.2
theorem Zzh (N:Nat) (a0:Array Value) (a1 a2 a3:Int):ansV PZ Zdc N f61 [([19],[5,1000010,105])] [.g a0 37,.i .i64 (a1),.i .i64 (a2),.i .i64 (a3)] []=(bif (decide (0<=a1)&&decide (a1<36)) then (bif okS a0 then (Uai (Uab (Zc0 PZ a0 a1 a2 a3) N ((0:Int),(Zan PZ a1 (1:Int) a2),1,(spl (repC (zc PZ 105) 1) 0 (Ub0 PZ a0 (Zan PZ a1 (1:Int) a2)).toList))) (λ x=>Zjf PZ N a0 a1 a2 a3 x.1 x.2.1 x.2.2.1 x.2.2.2))
   else (none))
  else (none)):=by
 refine Eq.trans (b:=(bif (decide (0<=a1)&&decide (a1<36)) then (bif okS a0 then (Uah (Uab (Ugo PZ Zdc N (cAt cKCyA61 [1,1,1,0,1,0,0]) (pAt (Uaa cKCyA61 [([19],[5,1000010,105])]).1 [1,1,1,0,1,0]) [19] [5] 10 105 12 (Zex a0 a1 a2 a3)) N ([.a (.i .i64 (0:Int)),.a (.l 12)],[.row (Zan PZ a1 (1:Int) a2) 132,.sl .own 1 (spl (repC (zc PZ 105) 1) 0 (Ub0 PZ a0 (Zan PZ a1 (1:Int) a2)).toList) 105])) (λ e s=>(Uad 0 (kSeq (veC PZ Zdc N (cAt cKCyA61 [1,1,1,1]) (pAt (Uaa cKCyA61 [([19],[5,1000010,105])]).1 [1,1,1,1]) (SV×Eff×Bool)) (finK PZ [] [.tmp 8]))) e (left (writes (cAt cKCyA61 [1,1,1,0,1,0,0])) [19,10] [5,12] (Zex a0 a1 a2 a3) s)))
   else (none))
  else (none))) (by kernel_rfl) ?_
 simp only [Ycl N a0 a1 a2 a3]
theorem Zwh (a0:Array Value) (a1 a2 a3:Int) (h_a0:WT PZ 37 a0) (h_a1:i64.min<=a1/\a1<=i64.max) (h_a2:i64.min<=a2/\a2<=i64.max) (h_a3:i64.min<=a3/\a3<=i64.max) (hg:((okS a0&&((Zab a1 a0&&Zaa a2 0 1)&&Zaa a3 0 14)))=true):ansV PZ Zdc 1000 f61 [([19],[5,1000010,105])] [.g a0 37,.i .i64 (a1),.i .i64 (a2),.i .i64 (a3)] []=some (.a .x,.newS none (a3.toNat+1) (recC PZ a0 a1 a2 a3.toNat) 105,true):=by
 simp only [Q7] at hg
 obtain ⟨q0,⟨q1,q2⟩,q3⟩:=hg
 have r1:=Zhu q1
 have r3:=Ziw q3
 obtain ⟨m,rfl⟩:=Int.eq_ofNat_of_zero_le r3.1
 refine (Zzh 1000 a0 a1 a2 (m:Int)).trans ?_
 rw [dec2 r1.1 (show a1<36 by omega),q0]
 simp only [Q1]
 have e0:Zan PZ a1 1 a2=oneX PZ a1 a2:=rfl
 have e1:spl (repC (zc PZ 105) 1) 0 (Ub0 PZ a0 (oneX PZ a1 a2)).toList=recC PZ a0 a1 a2 0:=Yqt PZ 105 (by rw [Zzc,Ycm])
 rw [e0,e1,Q9]
 have h:=Zdg (g:=Zc0 PZ a0 a1 a2 (m:Int)) (λ j=>((j:Int),Uao PZ a0 (oneX PZ a1 a2) j,j+1,recC PZ a0 a1 a2 j)) (m:=m) (x:=((m:Int),Uao PZ a0 (oneX PZ a1 a2) m,m+1,recC PZ a0 a1 a2 m)) (N:=1000) (λ j hj=>by
  have h1:decide ((j:Int)<(m:Int))=true:=Q3 (by omega)
  have h3:i64.wrap ((j:Int)+1)=((j+1:Nat):Int):=by rw [w64 (by omega)];omega
  have h4:=one_go h_a0 q0 q1 q2 (show j<=14 by omega)
  have h6:Nat.ble ((j+1+1)*bytesOf PZ 105) 140737488355328=true:=Nat.ble_eq_true_of_le (by rw [Ype];omega)
  have h7:spl (repC (zc PZ 105) 1) 0 (Ub0 PZ a0 (Ubg PZ a0 (Uao PZ a0 (oneX PZ a1 a2) j))).toList=byV PZ a0 a1 a2 (j+1):=Yqt PZ 105 (by rw [Zzc,Ycm])
  simp only [Zc0,h1,h3,h4,q0,h6,h7,Q1]
  rfl) (by
  have h1:decide ((m:Int)<(m:Int))=false:=Q4 (by omega)
  simp only [Zc0,h1,Q2]) (by omega)
 have h':Uab (Zc0 PZ a0 a1 a2 (m:Int)) 1000 ((0:Int),oneX PZ a1 a2,1,recC PZ a0 a1 a2 0)=some ((m:Int),Uao PZ a0 (oneX PZ a1 a2) m,m+1,recC PZ a0 a1 a2 m):=h
 rw [h']
 rfl
def Zkz:Con:=λ args h=>match args,h with
 | [.g a0 37,.i .i64 a1,.i .i64 a2,.i .i64 a3],[]=>some (.a .x,.newS none (a3.toNat+1) (recC PZ a0 a1 a2 a3.toNat) 105,(okS a0&&((Zab a1 a0&&Zaa a2 0 1)&&Zaa a3 0 14)))
 | _,_=>none
theorem Zt9:EntX PZ 61:=Zah (fn:=f61)
theorem Yax:Uac (md F) PZ 61 Zkz:=(ansY (N:=1000) (mKc (Zae Yba) Zuf (mKc (Zae Yf4) Zyy (mKc (Zae Ydu) Zwk mKn))) f61 [([19],[5,1000010,105])]).of (by
 intro ρ h w args vals r e hA hH hr
 unfold Zkz at hr
 split at hr
 ·rename_i a0 a1 a2 a3
  obtain ⟨rfl,rfl,hg2⟩:=BQi hr
  exact Zwh a0 a1 a2 a3 (hA.wt 0 rfl) (hA.rng 1 rfl) (hA.rng 2 rfl) (hA.rng 3 rfl) hg2
 ·cases hr)
end
end Go.Proofs.YtdfefaanfiheoaaGreatDoor
