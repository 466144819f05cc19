import Derived.Test.YtdofpgniogochaaDoorProg
import Derived.Test.YtdofpgniogochaaDoorCxK
import Derived.Test.YtdofpgniogochaaDoorCxEachLand
import Derived.Test.YtdofpgniogochaaDoorIsX
namespace Go.Proofs.YtdofpgniogochaaDoor
open Go.ChangeShapes Go.WideShapes Go.ChangeAt Go.RowKit Ve Vc
open Tryd (prog)
open IntKind (i64)
set_option linter.unusedVariables false
set_option linter.unusedSimpArgs false
set_option maxRecDepth 100000
noncomputable section
variable {F:Vc.Fd}
def Zha:Con:=ansV prog (mkΓ [(90,conG isCon)]) 1000 Tryd.f52 []
theorem Zhn:EntX prog 52:=Zai (fn:=Tryd.f52) (by kernel_rfl) (by kernel_rfl) (by kernel_rfl)
theorem Zko:ConOkX (md F) prog 52 Zha:=Zaj (N:=1000) (by kernel_rfl) (mkΓ_consX (Zhe isCon_ok) Yi5 mkΓ_nilX) (fn:=Tryd.f52) (by kernel_rfl) (by kernel_rfl) []
theorem Zyy (N:Nat) (a0:Int):ansV prog (mkΓ [(56,con Zbv)]) N Tryd.f34 [] [.i .i64 (a0)] []=(some (.a (.b ((Zaa a0 (1:Int) (14:Int)))),.none,true)):=by kernel_rfl
theorem Zxb (a0:Int) (h_a0:i64.min≤a0∧a0≤i64.max) (hg:(true)=true):ansV prog (mkΓ [(56,con Zbv)]) 1000 Tryd.f34 [] [.i .i64 (a0)] []=some (.a (.b ((Zaa a0 (1:Int) (14:Int)))),.none,true):=by
 refine (Zyy 1000 a0).trans ?_
 rfl
def Zf2:Con:=fun args h=>match args,h with
 | [.i .i64 a0],[]=>some (.a (.b ((Zaa a0 (1:Int) (14:Int)))),.none,true)
 | _,_=>none
theorem Zji:EntX prog 34:=Zai (fn:=Tryd.f34) (by kernel_rfl) (by kernel_rfl) (by kernel_rfl)
theorem Zmx:ConOkX (md F) prog 34 Zf2:=(Zaj (N:=1000) (by kernel_rfl) (mkΓ_consX (Zad Zhl) Zep mkΓ_nilX) (fn:=Tryd.f34) (by kernel_rfl) (by kernel_rfl) []).of (by
 intro ρ h w args vals r e hA hH hr
 unfold Zf2 at hr
 split at hr
 ·rename_i a0
  obtain ⟨rfl,hg⟩:=Prod.mk.inj (Option.some.inj hr)
  obtain ⟨rfl,hg2⟩:=Prod.mk.inj hg
  exact Zxb a0 (hA.rng 0 rfl) hg2
 ·cases hr)
theorem Zz9 (N:Nat) (a0:Int):ansV prog (mkΓ []) N Tryd.f39 [] [.i .i64 (a0)] []=(bif decide (a0 ≥ (1:Int)) then (some (.a (.b (decide (a0≤(14:Int)))),.none,true))
  else (some (.a (.b (false)),.none,true))):=by kernel_rfl
def Zd6 (a0:Int):Bool:=(bif decide (a0 ≥ (1:Int)) then decide (a0≤(14:Int)) else false)
theorem Zw1 (a0:Int) (h_a0:i64.min≤a0∧a0≤i64.max) (hg:(true)=true):ansV prog (mkΓ []) 1000 Tryd.f39 [] [.i .i64 (a0)] []=some (.a (.b ((Zd6 a0))),.none,true):=by
 refine (Zz9 1000 a0).trans ?_
 unfold Zd6
 revert hg
 generalize (decide (a0 ≥ (1:Int)))=b2
 intro hg
 cases b2
 ·skip
  first | (simp only [cond_true,cond_false,Bool.and_true,Bool.true_and,Bool.and_false,Bool.false_and];done) | rfl | exact (nomatch (hg:false=true))
 ·skip
  first | (simp only [cond_true,cond_false,Bool.and_true,Bool.true_and,Bool.and_false,Bool.false_and];done) | rfl | exact (nomatch (hg:false=true))
def Zf5:Con:=fun args h=>match args,h with
 | [.i .i64 a0],[]=>some (.a (.b ((Zd6 a0))),.none,true)
 | _,_=>none
theorem Zjk:EntX prog 39:=Zai (fn:=Tryd.f39) (by kernel_rfl) (by kernel_rfl) (by kernel_rfl)
theorem Zmw:ConOkX (md F) prog 39 Zf5:=(Zaj (N:=1000) (by kernel_rfl) mkΓ_nilX (fn:=Tryd.f39) (by kernel_rfl) (by kernel_rfl) []).of (by
 intro ρ h w args vals r e hA hH hr
 unfold Zf5 at hr
 split at hr
 ·rename_i a0
  obtain ⟨rfl,hg⟩:=Prod.mk.inj (Option.some.inj hr)
  obtain ⟨rfl,hg2⟩:=Prod.mk.inj hg
  exact Zw1 a0 (hA.rng 0 rfl) hg2
 ·cases hr)
def Zsz:Cons:=(mkΓ [(70,con Zih),(86,con Zbj),(87,con Zfn),(108,con Zk1)])
theorem Zyw (N:Nat) (a1 a2:Int) (a3:Bool) (a0:Array Value):ansV prog Zsz N Tryd.f73 [] [.w 0,.i .i64 (a1),.i .i64 (a2),.b (a3)] [.row a0 35]=(bif (!((okS a0))) then (some (.a (.i .i64 (1:Int)),.none,true))
    else (bif (!((Zab a1 a0))) then (some (.a (.i .i64 (2:Int)),.none,true))
      else (bif (!((Zaa a2 (0:Int) (1:Int)))) then (some (.a (.i .i64 (2:Int)),.none,true))
        else (bif (!(a3)) then (some (.a (.i .i64 (2:Int)),.none,true))
          else (bif decide (0≤(IntKind.u64.wrap a1)) then (bif (Zag a1 a0) then (some (.a (.i .i64 (4:Int)),.none,true))
              else (some (.a (.i .i64 (0:Int)),.none,true)))
            else (none)))))):=by kernel_rfl
def Zb3 (a1 a2:Int) (a3:Bool) (a0:Array Value):Int:=(bif (!((okS a0))) then (1:Int) else (bif (!((Zab a1 a0))) then (2:Int) else (bif (!((Zaa a2 (0:Int) (1:Int)))) then (2:Int) else (bif (!(a3)) then (2:Int) else (bif (Zag a1 a0) then (4:Int) else (0:Int))))))
def Zdb (a1 a2:Int) (a3:Bool) (a0:Array Value):Bool:=(bif (!((okS a0))) then true else (bif (!((Zab a1 a0))) then true else (bif (!((Zaa a2 (0:Int) (1:Int)))) then true else (bif (!(a3)) then true else decide (0≤(IntKind.u64.wrap a1))))))
theorem Zwu (a1 a2:Int) (a3:Bool) (a0:Array Value) (h_a1:i64.min≤a1∧a1≤i64.max) (h_a2:i64.min≤a2∧a2≤i64.max) (h_a0:WT prog 35 a0) (hg:((Zdb a1 a2 a3 a0))=true):ansV prog Zsz 1000 Tryd.f73 [] [.w 0,.i .i64 (a1),.i .i64 (a2),.b (a3)] [.row a0 35]=some (.a (.i .i64 (Zb3 a1 a2 a3 a0)),.none,true):=by
 refine (Zyw 1000 a1 a2 a3 a0).trans ?_
 unfold Zdb at hg
 unfold Zb3
 revert hg
 generalize ((!((okS a0))))=b2
 intro hg
 cases b2
 ·skip
  revert hg
  generalize ((!((Zab a1 a0))))=b4
  intro hg
  cases b4
  ·skip
   revert hg
   generalize ((!((Zaa a2 (0:Int) (1:Int)))))=b6
   intro hg
   cases b6
   ·skip
    revert hg
    generalize ((!(a3)))=b8
    intro hg
    cases b8
    ·skip
     revert hg
     generalize (decide (0≤(IntKind.u64.wrap a1)))=b10
     intro hg
     cases b10
     ·skip
      first | exact (nomatch (hg:false=true)) | (simp only [cond_true,cond_false,Bool.and_true,Bool.true_and,Bool.and_false,Bool.false_and];done) | rfl
     ·skip
      revert hg
      generalize ((Zag a1 a0))=b12
      intro hg
      cases b12
      ·skip
       first | (simp only [cond_true,cond_false,Bool.and_true,Bool.true_and,Bool.and_false,Bool.false_and];done) | rfl | exact (nomatch (hg:false=true))
      ·skip
       first | (simp only [cond_true,cond_false,Bool.and_true,Bool.true_and,Bool.and_false,Bool.false_and];done) | rfl | exact (nomatch (hg:false=true))
    ·skip
     first | (simp only [cond_true,cond_false,Bool.and_true,Bool.true_and,Bool.and_false,Bool.false_and];done) | rfl | exact (nomatch (hg:false=true))
   ·skip
    first | (simp only [cond_true,cond_false,Bool.and_true,Bool.true_and,Bool.and_false,Bool.false_and];done) | rfl | exact (nomatch (hg:false=true))
  ·skip
   first | (simp only [cond_true,cond_false,Bool.and_true,Bool.true_and,Bool.and_false,Bool.false_and];done) | rfl | exact (nomatch (hg:false=true))
 ·skip
  first | (simp only [cond_true,cond_false,Bool.and_true,Bool.true_and,Bool.and_false,Bool.false_and];done) | rfl | exact (nomatch (hg:false=true))
def Zld:Con:=fun args h=>match args,h with
 | [.w 0,.i .i64 a1,.i .i64 a2,.b a3],[.row a0 35]=>some (.a (.i .i64 (Zb3 a1 a2 a3 a0)),.none,(Zdb a1 a2 a3 a0))
 | _,_=>none
theorem Zwc:EntX prog 73:=Zai (fn:=Tryd.f73) (by kernel_rfl) (by kernel_rfl) (by kernel_rfl)
theorem Ycd:ConOkX (md F) prog 73 Zld:=(Zaj (N:=1000) (by kernel_rfl) (mkΓ_consX (Zad Zou) Zky (mkΓ_consX (Zad Zja) Zge (mkΓ_consX (Zad Zks) Zhq (mkΓ_consX (Zad Yat) Zvo mkΓ_nilX)))) (fn:=Tryd.f73) (by kernel_rfl) (by kernel_rfl) []).of (by
 intro ρ h w args vals r e hA hH hr
 unfold Zld at hr
 split at hr
 ·rename_i a1 a2 a3 a0
  obtain ⟨rfl,hg⟩:=Prod.mk.inj (Option.some.inj hr)
  obtain ⟨rfl,hg2⟩:=Prod.mk.inj hg
  exact Zwu a1 a2 a3 a0 (hA.rng 1 rfl) (hA.rng 2 rfl) (hH.wt 0 rfl) hg2
 ·cases hr)
theorem in_of {x a b:Int} (h:a≤x∧x≤b):Zaa x a b=true:=by
 unfold Zaa;rw [decide_eq_true (show x ≥ a from h.1),decide_eq_true h.2];rfl
theorem Ykk {S:Array Value} (hS:WT prog 35 S) {c:Int} (hc:0≤c∧c≤35):Zac S c=Zag c S:=by
 obtain ⟨k,rfl⟩:=Int.eq_ofNat_of_zero_le hc.1
 exact Yjd hS (by omega)
theorem Yja (c:Int):decide (0≤IntKind.u64.wrap c)=true:=decide_eq_true (Zh9 .u64 _).1
theorem from_gd (c b:Int) (f:Bool) (S:Array Value):Zdb c b f S=true:=by
 unfold Zdb
 rw [Yja]
 cases okS S<;>cases Zab c S<;>cases Zaa b 0 1<;>cases f<;>rfl
def rl (S:Array Value) (c b:Int) (f:Bool):Bool:=Zab c S&&(Zaa b 0 1&&f)
theorem Ynj (c b:Int) (f:Bool) (S:Array Value):Zb3 c b f S=bif okS S then (bif rl S c b f then (bif Zag c S then 4 else 0) else 2) else 1:=by
 unfold Zb3 rl
 cases okS S<;>cases Zab c S<;>cases Zaa b 0 1<;>cases f<;>rfl
theorem Ynl {c b:Int} {f:Bool} {S:Array Value} (h:(Zb3 c b f S != (0:Int))=false):okS S=true∧Zab c S=true∧Zaa b 0 1=true∧f=true∧Zag c S=false:=by
 rw [Ynj] at h
 unfold rl at h
 cases h1:okS S<;>cases h2:Zab c S<;>cases h3:Zaa b 0 1<;>cases h4:f<;>cases h5:Zag c S<;>first | exact ⟨rfl,rfl,rfl,rfl,rfl⟩ | (exfalso;subst h4;rw [h1,h2,h3,h5] at h;revert h;decide)
def Zd7:Cons:=(mkΓ [(85,con Za5),(88,con Zgc),(112,con Zho),(113,con Zlk)])
theorem Ze5 (N:Nat) (a0:Array Value) (a1 a2:Int) (a3:Bool) (g_e0 g_e1 g_e2 g_e3 g_e4:Addr):ansV prog Zd7 N Tryd.f77 [] [.g a0 35,.i .i64 (a1),.i .i64 (a2),.b (a3)] [.gl 1 215 g_e0 101973,.gl 2 215 g_e1 93330,.gl 0 215 g_e2 124718,.gl 3 215 g_e3 112315,.gl 4 215 g_e4 94254]=(bif (!((okS a0))) then (some (.a (.e 0),.none,true))
    else (bif (!((Zap a0 a1))) then (some (.a (.e 1),.none,true))
      else (bif (!((Zcj a2))) then (some (.a (.e 1),.none,true))
        else (bif (!(a3)) then (some (.a (.e 1),.none,true))
          else (bif decide (0≤a1) then (bif (Zac a0 a1) then (some (.a (.e 2),.none,true))
              else (some (.a (.v (.nilIface)),.none,true)))
            else (none)))))):=by kernel_rfl
theorem Zo3 (a0:Array Value) (a1 a2:Int) (a3:Bool) (g_e0 g_e1 g_e2 g_e3 g_e4:Addr) (h_a0:WT prog 35 a0) (h_a1:i64.min≤a1∧a1≤i64.max) (h_a2:i64.min≤a2∧a2≤i64.max) (hc0:(okS a0)=false) (hg:(true)=true):ansV prog Zd7 1000 Tryd.f77 [] [.g a0 35,.i .i64 (a1),.i .i64 (a2),.b (a3)] [.gl 1 215 g_e0 101973,.gl 2 215 g_e1 93330,.gl 0 215 g_e2 124718,.gl 3 215 g_e3 112315,.gl 4 215 g_e4 94254]=some (.a (.e 0),.none,true):=by
 refine (Ze5 1000 a0 a1 a2 a3 g_e0 g_e1 g_e2 g_e3 g_e4).trans ?_
 simp only [hc0,Bool.not_false,cond_true]
theorem Zoq (a0:Array Value) (a1 a2:Int) (a3:Bool) (g_e0 g_e1 g_e2 g_e3 g_e4:Addr) (h_a0:WT prog 35 a0) (h_a1:i64.min≤a1∧a1≤i64.max) (h_a2:i64.min≤a2∧a2≤i64.max) (hc0:(okS a0)=true) (hc1:(rl a0 a1 a2 a3)=false) (hg:(true)=true):ansV prog Zd7 1000 Tryd.f77 [] [.g a0 35,.i .i64 (a1),.i .i64 (a2),.b (a3)] [.gl 1 215 g_e0 101973,.gl 2 215 g_e1 93330,.gl 0 215 g_e2 124718,.gl 3 215 g_e3 112315,.gl 4 215 g_e4 94254]=some (.a (.e 1),.none,true):=by
 refine (Ze5 1000 a0 a1 a2 a3 g_e0 g_e1 g_e2 g_e3 g_e4).trans ?_
 have ht:Zcj a2=Zaa a2 0 1:=Yiu a2
 rw [Ye3,ht]
 unfold rl at hc1
 rw [hc0]
 cases q1:Zab a1 a0 with
 | false=>rfl
 | true=>
  cases q2:Zaa a2 0 1 with
  | false=>rfl
  | true=>
   cases q3:a3 with
   | false=>rfl
   | true=>rw [q1,q2,q3] at hc1;cases hc1
theorem Zor (a0:Array Value) (a1 a2:Int) (a3:Bool) (g_e0 g_e1 g_e2 g_e3 g_e4:Addr) (h_a0:WT prog 35 a0) (h_a1:i64.min≤a1∧a1≤i64.max) (h_a2:i64.min≤a2∧a2≤i64.max) (hc0:(okS a0)=true) (hc1:(rl a0 a1 a2 a3)=true) (hc2:(Zag a1 a0)=false) (hg:(true)=true):ansV prog Zd7 1000 Tryd.f77 [] [.g a0 35,.i .i64 (a1),.i .i64 (a2),.b (a3)] [.gl 1 215 g_e0 101973,.gl 2 215 g_e1 93330,.gl 0 215 g_e2 124718,.gl 3 215 g_e3 112315,.gl 4 215 g_e4 94254]=some (.a (.v (.nilIface)),.none,true):=by
 refine (Ze5 1000 a0 a1 a2 a3 g_e0 g_e1 g_e2 g_e3 g_e4).trans ?_
 have ht:Zcj a2=Zaa a2 0 1:=Yiu a2
 rw [Ye3,ht]
 unfold rl at hc1
 simp only [Bool.and_eq_true] at hc1
 obtain ⟨q1,q2,q3⟩:=hc1
 have hr:=Zkq q1
 rw [hc0,q1,q2,q3,Ykk h_a0 hr,hc2,decide_eq_true hr.1]
 rfl
theorem Zok (a0:Array Value) (a1 a2:Int) (a3:Bool) (g_e0 g_e1 g_e2 g_e3 g_e4:Addr) (h_a0:WT prog 35 a0) (h_a1:i64.min≤a1∧a1≤i64.max) (h_a2:i64.min≤a2∧a2≤i64.max) (hc0:(okS a0)=true) (hc1:(rl a0 a1 a2 a3)=true) (hc2:(Zag a1 a0)=true) (hg:(true)=true):ansV prog Zd7 1000 Tryd.f77 [] [.g a0 35,.i .i64 (a1),.i .i64 (a2),.b (a3)] [.gl 1 215 g_e0 101973,.gl 2 215 g_e1 93330,.gl 0 215 g_e2 124718,.gl 3 215 g_e3 112315,.gl 4 215 g_e4 94254]=some (.a (.e 2),.none,true):=by
 refine (Ze5 1000 a0 a1 a2 a3 g_e0 g_e1 g_e2 g_e3 g_e4).trans ?_
 have ht:Zcj a2=Zaa a2 0 1:=Yiu a2
 rw [Ye3,ht]
 unfold rl at hc1
 simp only [Bool.and_eq_true] at hc1
 obtain ⟨q1,q2,q3⟩:=hc1
 have hr:=Zkq q1
 rw [hc0,q1,q2,q3,Ykk h_a0 hr,hc2,decide_eq_true hr.1]
 rfl
def Za0:SCon:=fun args h=>match args,h with
 | [.g a0 35,.i .i64 a1,.i .i64 a2,.b a3],[.gl 1 215 g_e0 101973,.gl 2 215 g_e1 93330,.gl 0 215 g_e2 124718,.gl 3 215 g_e3 112315,.gl 4 215 g_e4 94254]=>.two (okS a0) (.two (rl a0 a1 a2 a3) (.two (Zag a1 a0) (.one (some (.a (.e 2),.none,true))) (.one (some (.a (.v (.nilIface)),.none,true)))) (.one (some (.a (.e 1),.none,true)))) (.one (some (.a (.e 0),.none,true)))
 | _,_=>.one none
theorem Zdv:EntX prog 77:=Zai (fn:=Tryd.f77) (by kernel_rfl) (by kernel_rfl) (by kernel_rfl)
theorem Zet:ConOkX (md F) prog 77 (fun args h=>wayRes (Za0 args h)):=by
 intro ρ h w args vals r e hn hr hA hH
 dsimp only at hr
 unfold Za0 at hr
 split at hr
 ·rename_i a0 a1 a2 a3 g_e0 g_e1 g_e2 g_e3 g_e4
  simp only [wayRes] at hr
  cases hc0:(okS a0)
  ·rw [hc0] at hr
   simp only [wayRes,cond_true,cond_false] at hr
   obtain ⟨rfl,hg⟩:=Prod.mk.inj (Option.some.inj hr)
   obtain ⟨rfl,hg2⟩:=Prod.mk.inj hg
   exact ((Zaj (N:=1000) (by kernel_rfl) (mkΓ_consX (Zad Zdz) Zb6 (mkΓ_consX (Zad Zfb) Zde (mkΓ_consX (Zad Zf8) Zd9 (mkΓ_consX (Zad Zjs) Zgz mkΓ_nilX)))) (fn:=Tryd.f77) (by kernel_rfl) (by kernel_rfl) [])) ρ _ w _ vals _ _ hn ((Zo3 a0 a1 a2 a3 g_e0 g_e1 g_e2 g_e3 g_e4 (hA.wt 0 rfl) (hA.rng 1 rfl) (hA.rng 2 rfl) hc0 hg2)) hA hH
  ·rw [hc0] at hr
   simp only [wayRes,cond_true,cond_false] at hr
   cases hc1:(rl a0 a1 a2 a3)
   ·rw [hc1] at hr
    simp only [wayRes,cond_true,cond_false] at hr
    obtain ⟨rfl,hg⟩:=Prod.mk.inj (Option.some.inj hr)
    obtain ⟨rfl,hg2⟩:=Prod.mk.inj hg
    exact ((Zaj (N:=1000) (by kernel_rfl) (mkΓ_consX (Zad Zdz) Zb6 (mkΓ_consX (Zad Zfb) Zde (mkΓ_consX (Zad Zf8) Zd9 (mkΓ_consX (Zad Zjs) Zgz mkΓ_nilX)))) (fn:=Tryd.f77) (by kernel_rfl) (by kernel_rfl) [])) ρ _ w _ vals _ _ hn ((Zoq a0 a1 a2 a3 g_e0 g_e1 g_e2 g_e3 g_e4 (hA.wt 0 rfl) (hA.rng 1 rfl) (hA.rng 2 rfl) hc0 hc1 hg2)) hA hH
   ·rw [hc1] at hr
    simp only [wayRes,cond_true,cond_false] at hr
    cases hc2:(Zag a1 a0)
    ·rw [hc2] at hr
     simp only [wayRes,cond_true,cond_false] at hr
     obtain ⟨rfl,hg⟩:=Prod.mk.inj (Option.some.inj hr)
     obtain ⟨rfl,hg2⟩:=Prod.mk.inj hg
     exact ((Zaj (N:=1000) (by kernel_rfl) (mkΓ_consX (Zad Zdz) Zb6 (mkΓ_consX (Zad Zfb) Zde (mkΓ_consX (Zad Zf8) Zd9 (mkΓ_consX (Zad Zjs) Zgz mkΓ_nilX)))) (fn:=Tryd.f77) (by kernel_rfl) (by kernel_rfl) [])) ρ _ w _ vals _ _ hn ((Zor a0 a1 a2 a3 g_e0 g_e1 g_e2 g_e3 g_e4 (hA.wt 0 rfl) (hA.rng 1 rfl) (hA.rng 2 rfl) hc0 hc1 hc2 hg2)) hA hH
    ·rw [hc2] at hr
     simp only [wayRes,cond_true,cond_false] at hr
     obtain ⟨rfl,hg⟩:=Prod.mk.inj (Option.some.inj hr)
     obtain ⟨rfl,hg2⟩:=Prod.mk.inj hg
     exact ((Zaj (N:=1000) (by kernel_rfl) (mkΓ_consX (Zad Zdz) Zb6 (mkΓ_consX (Zad Zfb) Zde (mkΓ_consX (Zad Zf8) Zd9 (mkΓ_consX (Zad Zjs) Zgz mkΓ_nilX)))) (fn:=Tryd.f77) (by kernel_rfl) (by kernel_rfl) [])) ρ _ w _ vals _ _ hn ((Zok a0 a1 a2 a3 g_e0 g_e1 g_e2 g_e3 g_e4 (hA.wt 0 rfl) (hA.rng 1 rfl) (hA.rng 2 rfl) hc0 hc1 hc2 hg2)) hA hH
 ·simp only [wayRes] at hr
  cases hr
theorem Zua (N:Nat) (a1 a2 a3:Int) (a0:Array Value):ansV prog (mkΓ [(74,con Zhf)]) N Tryd.f35 [] [.w 0,.i .i64 (a1),.i .i64 (a2),.i .i64 (a3)] [.row a0 35]=(bif (decide (0≤a1)&&decide (a1<36)) then (bif (okS a0&&((decide (0≤num ((((zc prog 53).setIfInBounds 0 (.int .i8 (IntKind.i8.wrap a2))).setIfInBounds 2 (.int .i64 (1:Int))).setIfInBounds (3+((a1).toNat*1)) (.int .i64 (1:Int))) 0)&&decide (num ((((zc prog 53).setIfInBounds 0 (.int .i8 (IntKind.i8.wrap a2))).setIfInBounds 2 (.int .i64 (1:Int))).setIfInBounds (3+((a1).toNat*1)) (.int .i64 (1:Int))) 0<2))&&((decide (0≤num ((((zc prog 53).setIfInBounds 0 (.int .i8 (IntKind.i8.wrap a2))).setIfInBounds 2 (.int .i64 (1:Int))).setIfInBounds (3+((a1).toNat*1)) (.int .i64 (1:Int))) 1)&&decide (num ((((zc prog 53).setIfInBounds 0 (.int .i8 (IntKind.i8.wrap a2))).setIfInBounds 2 (.int .i64 (1:Int))).setIfInBounds (3+((a1).toNat*1)) (.int .i64 (1:Int))) 1≤14))&&(decide (0≤a3)&&decide (a3≤14))))) then (some (.a (.g (driftV prog a0 ((((zc prog 53).setIfInBounds 0 (.int .i8 (IntKind.i8.wrap a2))).setIfInBounds 2 (.int .i64 (1:Int))).setIfInBounds (3+((a1).toNat*1)) (.int .i64 (1:Int))) a3.toNat) 53),.none,true))
   else (none))
  else (none)):=by kernel_rfl
def oneX (P:Program) (c b:Int):Array Value:=(((zc P 53).setIfInBounds 0 (.int .i8 (IntKind.i8.wrap b))).setIfInBounds 2 (.int .i64 1)).setIfInBounds (3+c.toNat*1) (.int .i64 1)
theorem Zuy {c b:Int} (hb:0≤b∧b≤1) (hc:0≤c∧c≤35):num (oneX prog c b) 0=b∧num (oneX prog c b) 1=0∧(oneX prog c b).size=40∧∀ i,i<36→num (oneX prog c b) (3+i)=if i=c.toNat then 1 else 0:=by
 have hz:(zc prog 53).size=40:=by kernel_rfl
 have hc0:(List.range 36).all (fun k=>match (zc prog 53)[3+k]? with | some (.int .i64 0)=>true | _=>false)=true:=by kernel_rfl
 have h1:(zc prog 53)[1]? = some (.int .i8 0):=by kernel_rfl
 unfold oneX
 refine ⟨?_, ?_,by simp [hz],fun i hi=> ?_⟩
 ·unfold num;rw [Array.getElem?_setIfInBounds,if_neg (by omega),Array.getElem?_setIfInBounds,if_neg (by omega),Array.getElem?_setIfInBounds,if_pos rfl,if_pos (by omega)]
  exact IntWalk.i8_in _ (by omega)
 ·unfold num;rw [Array.getElem?_setIfInBounds,if_neg (by omega),Array.getElem?_setIfInBounds,if_neg (by omega),Array.getElem?_setIfInBounds,if_neg (by omega),h1]
 ·unfold num
  rw [Array.getElem?_setIfInBounds]
  by_cases e:i=c.toNat
  ·rw [if_pos (by omega),if_pos (by simp;omega),if_pos e]
  ·rw [if_neg (by omega),if_neg e,Array.getElem?_setIfInBounds,if_neg (by omega),Array.getElem?_setIfInBounds,if_neg (by omega)]
   have:=List.all_eq_true.1 hc0 i (List.mem_range.2 hi)
   split at this
   ·rename_i e2;rw [e2]
   ·cases this
theorem Zt6 (a1 a2 a3:Int) (a0:Array Value) (h_a1:i64.min≤a1∧a1≤i64.max) (h_a2:i64.min≤a2∧a2≤i64.max) (h_a3:i64.min≤a3∧a3≤i64.max) (h_a0:WT prog 35 a0) (hg:((okS a0&&((Zab a1 a0&&Zaa a2 0 1)&&Zaa a3 0 14)))=true):ansV prog (mkΓ [(74,con Zhf)]) 1000 Tryd.f35 [] [.w 0,.i .i64 (a1),.i .i64 (a2),.i .i64 (a3)] [.row a0 35]=some (.a (.g (driftV prog a0 (oneX prog a1 a2) a3.toNat) 53),.none,true):=by
 simp only [Bool.and_eq_true] at hg
 obtain ⟨hok,⟨his,htd⟩,hhr⟩:=hg
 have hc:=Zkq his
 have hb:=Zgv htd
 have hh:=Zgv hhr
 obtain ⟨n0,n1,_,_⟩:=Zuy (c:=a1) (b:=a2) hb hc
 refine (Zua 1000 a1 a2 a3 a0).trans ?_
 unfold oneX at n0 n1
 rw [dec2 hc.1 (show a1<36 by omega),n0,n1,hok,dec2 hb.1 (show a2<2 by omega),decide_eq_true hh.1,decide_eq_true hh.2]
 rfl
def Zi9:Con:=fun args h=>match args,h with
 | [.w 0,.i .i64 a1,.i .i64 a2,.i .i64 a3],[.row a0 35]=>some (.a (.g (driftV prog a0 (oneX prog a1 a2) a3.toNat) 53),.none,(okS a0&&((Zab a1 a0&&Zaa a2 0 1)&&Zaa a3 0 14)))
 | _,_=>none
theorem Zsc:EntX prog 35:=Zai (fn:=Tryd.f35) (by kernel_rfl) (by kernel_rfl) (by kernel_rfl)
theorem Zxp:ConOkX (md F) prog 35 Zi9:=(Zaj (N:=1000) (by kernel_rfl) (mkΓ_consX (Zad Zzv) Zt0 mkΓ_nilX) (fn:=Tryd.f35) (by kernel_rfl) (by kernel_rfl) []).of (by
 intro ρ h w args vals r e hA hH hr
 unfold Zi9 at hr
 split at hr
 ·rename_i a1 a2 a3 a0
  obtain ⟨rfl,hg⟩:=Prod.mk.inj (Option.some.inj hr)
  obtain ⟨rfl,hg2⟩:=Prod.mk.inj hg
  exact Zt6 a1 a2 a3 a0 (hA.rng 1 rfl) (hA.rng 2 rfl) (hA.rng 3 rfl) (hH.wt 0 rfl) hg2
 ·cases hr)
theorem Zxv (N:Nat) (a0 a1 a2:Int):ansV prog (mkΓ []) N Tryd.f40 [] [.i .i64 (a0),.i .i64 (a1),.i .i64 (a2)] []=(bif (decide (0≤a0)&&decide (a0<36)) then (some (.a (.g ((((zc prog 53).setIfInBounds 0 (.int .i8 (IntKind.i8.wrap a2))).setIfInBounds 2 (.int .i64 (a1))).setIfInBounds (3+((a0).toNat*1)) (.int .i64 (a1))) 53),.none,true))
  else (none)):=by kernel_rfl
def Zan (P:Program) (a0 a1 a2:Int):Array Value:=((((zc P 53).setIfInBounds 0 (.int .i8 (IntKind.i8.wrap a2))).setIfInBounds 2 (.int .i64 (a1))).setIfInBounds (3+((a0).toNat*1)) (.int .i64 (a1)))
theorem Zu5 (a0 a1 a2:Int) (h_a0:i64.min≤a0∧a0≤i64.max) (h_a1:i64.min≤a1∧a1≤i64.max) (h_a2:i64.min≤a2∧a2≤i64.max) (hg:((decide (0≤a0)&&decide (a0<36)))=true):ansV prog (mkΓ []) 1000 Tryd.f40 [] [.i .i64 (a0),.i .i64 (a1),.i .i64 (a2)] []=some (.a (.g (Zan prog a0 a1 a2) 53),.none,true):=by
 refine (Zxv 1000 a0 a1 a2).trans ?_
 unfold Zan
 revert hg
 generalize (decide (0≤a0))=b2
 intro hg
 cases b2
 ·skip
  first | exact (nomatch (hg:false=true)) | (simp only [cond_true,cond_false,Bool.and_true,Bool.true_and,Bool.and_false,Bool.false_and];done) | rfl
 ·skip
  revert hg
  generalize (decide (a0<36))=b4
  intro hg
  cases b4
  ·skip
   first | exact (nomatch (hg:false=true)) | (simp only [cond_true,cond_false,Bool.and_true,Bool.true_and,Bool.and_false,Bool.false_and];done) | rfl
  ·skip
   first | (simp only [cond_true,cond_false,Bool.and_true,Bool.true_and,Bool.and_false,Bool.false_and];done) | rfl | exact (nomatch (hg:false=true))
def Zj2:Con:=fun args h=>match args,h with
 | [.i .i64 a0,.i .i64 a1,.i .i64 a2],[]=>some (.a (.g (Zan prog a0 a1 a2) 53),.none,(decide (0≤a0)&&decide (a0<36)))
 | _,_=>none
theorem Ztn:EntX prog 40:=Zai (fn:=Tryd.f40) (by kernel_rfl) (by kernel_rfl) (by kernel_rfl)
theorem Zy5:ConOkX (md F) prog 40 Zj2:=(Zaj (N:=1000) (by kernel_rfl) mkΓ_nilX (fn:=Tryd.f40) (by kernel_rfl) (by kernel_rfl) []).of (by
 intro ρ h w args vals r e hA hH hr
 unfold Zj2 at hr
 split at hr
 ·rename_i a0 a1 a2
  obtain ⟨rfl,hg⟩:=Prod.mk.inj (Option.some.inj hr)
  obtain ⟨rfl,hg2⟩:=Prod.mk.inj hg
  exact Zu5 a0 a1 a2 (hA.rng 0 rfl) (hA.rng 1 rfl) (hA.rng 2 rfl) hg2
 ·cases hr)
def landF (X:Array Value) (r:Array Value) (k:Nat):Array Value:=r.setIfInBounds (k*1) (.int .i64 (num X (3+k*1)))
def landV (P:Program) (S X:Array Value):Array Value:=folds (fun r k=>if inC (num S 0) (num S 1) k&&Zac S (k:Int) then landF X r k else r) (zc P 51) 36
def byV (P:Program) (S:Array Value) (c b:Int) (n:Nat):Array Value:=landV P S (driftV P S (oneX P c b) n)
def subF (D:Array Value) (m:Int) (r:Array Value) (k:Nat):Array Value:=r.setIfInBounds (k*1) (.int .i64 (i64.wrap (num r (k*1) - i64.wrap (num D (k*1)*m))))
def subV (C D:Array Value) (m:Int):Array Value:=folds (subF D m) C 36
def Zc5:Cons:=(mkΓx [] [(47,Zii)] [(83,Ze4)])
def Zdx (a0 a1:Array Value):St:=(⟨.a (.g a0 35) :: .a (.g a1 53) :: .a (.w 0) :: .a (.w 1) :: .a (.w 2) :: .a (.w 3) :: .a (.u) :: .a (.g a0 35) :: .a (.c 83 [7])::us 8 ([]),[.row a0 35,.row a1 53,.row (zc prog 51) 51,.row (zc prog 51) 51,.no,.no,.no,.row a0 35,.no,.no,.no,.no],[]⟩:St)
def Zkm:Array Value→BS
 | r0_3=>([.row r0_3 51]:BS)
def Znj:Empty→Exit×BS:=fun x=>nomatch x
def Zgm (P:Program) (a0 a1:Array Value) (x0:Int):Array Value→Option (Stp (Array Value) Empty)
 | r0_3=>bif (decide (0≤x0)&&decide (x0<36)) then (bif (decide (0≤x0)&&decide (x0<36)) then (some (.more (r0_3.setIfInBounds ((x0).toNat*1) (.int .i64 (num a1 (3+((x0).toNat*1)))))))
   else (none))
  else (none)
theorem Ydm (N:Nat) (a0 a1:Array Value) (x0:Int):∀ t:Array Value,stepI prog Zc5 N (cAt (codeOf Tryd.f82) [1,1,0,1,0,0]) (pAt (mkPlan (codeOf Tryd.f82) [([],[3])]).1 [1,1,0,1,0]) 12 [3] [9] [(6,9)] (Zdx a0 a1) [.i .i64 (x0)] (Zkm t)=mapS Zkm Znj (Zgm prog a0 a1 x0 t):=by
 rintro r0_3
 refine Eq.trans (b:=(bif (decide (0≤x0)&&decide (x0<36)) then (bif (decide (0≤x0)&&decide (x0<36)) then (some (.more ([.row (r0_3.setIfInBounds ((x0).toNat*1) (.int .i64 (num a1 (3+((x0).toNat*1))))) 51]:BS)))
   else (none))
  else (none))) (by kernel_rfl) ?_
 simp only [Zgm,Zav,Zas,Zat,Zau,Zkm,Znj]
def Zle (P:Program) (N:Nat) (a0 a1:Array Value) (q0_3:Array Value):Option (SV×Eff×Bool):=some (.a (.g q0_3 51),.none,true)
theorem Zs4 (N:Nat) (a0 a1:Array Value) (q0_3:Array Value):(kBlock 0 (kSeq (veC prog Zc5 N (cAt (codeOf Tryd.f82) [1,1,1]) (pAt (mkPlan (codeOf Tryd.f82) [([],[3])]).1 [1,1,1]) (SV×Eff×Bool)) (finK prog [] [.cell 4 51]))) .normal (leftI [3] (Zdx a0 a1) ([.row q0_3 51]:BS))=Zle prog N a0 a1 q0_3:=by
 refine Eq.trans (b:=(some (.a (.g q0_3 51),.none,true))) (by kernel_rfl) ?_
 rfl
theorem Ydd (N:Nat) (a0 a1:Array Value):bindI (foldI (fun (x0:Int) (hb:BS)=>stepI prog Zc5 N (cAt (codeOf Tryd.f82) [1,1,0,1,0,0]) (pAt (mkPlan (codeOf Tryd.f82) [([],[3])]).1 [1,1,0,1,0]) 12 [3] [9] [(6,9)] (Zdx a0 a1) [.i .i64 (x0)] hb) ((cellsL (num a0 0) (num a0 1) 36).filter (Zac a0)) ([.row (zc prog 51) 51]:BS)) (fun hb=>(kBlock 0 (kSeq (veC prog Zc5 N (cAt (codeOf Tryd.f82) [1,1,1]) (pAt (mkPlan (codeOf Tryd.f82) [([],[3])]).1 [1,1,1]) (SV×Eff×Bool)) (finK prog [] [.cell 4 51]))) .normal (leftI [3] (Zdx a0 a1) hb)) (fun e hb=>(kBlock 0 (kSeq (veC prog Zc5 N (cAt (codeOf Tryd.f82) [1,1,1]) (pAt (mkPlan (codeOf Tryd.f82) [([],[3])]).1 [1,1,1]) (SV×Eff×Bool)) (finK prog [] [.cell 4 51]))) e (leftI [3] (Zdx a0 a1) hb))=nodeI (foldI (Zgm prog a0 a1) ((cellsL (num a0 0) (num a0 1) 36).filter (Zac a0)) (zc prog 51)) (fun x=>Zle prog N a0 a1 x) (fun x:Empty=>nomatch x):=by
 refine Zv6 Zkm Znj _ _ (fun y t=>Ydm N a0 a1 y t) _ (zc prog 51) _ _ _ _ ?_ ?_
 ·intro x;exact Zs4 N a0 a1 x
 ·intro x;exact nomatch x
theorem Ycf (N:Nat) (a0 a1:Array Value):ansV prog Zc5 N Tryd.f82 [([],[3])] [.g a0 35,.g a1 53] []=(bif (decide (0≤num a0 0)&&decide (num a0 0≤6)&&(decide (0≤num a0 1)&&decide (num a0 1≤6))) then (nodeI (foldI (Zgm prog a0 a1) ((cellsL (num a0 0) (num a0 1) 36).filter (Zac a0)) (zc prog 51)) (fun x=>Zle prog N a0 a1 x) (fun x:Empty=>nomatch x))
  else (none)):=by
 refine Eq.trans (b:=(bif (decide (0≤num a0 0)&&decide (num a0 0≤6)&&(decide (0≤num a0 1)&&decide (num a0 1≤6))) then (bindI (foldI (fun (x0:Int) (hb:BS)=>stepI prog Zc5 N (cAt (codeOf Tryd.f82) [1,1,0,1,0,0]) (pAt (mkPlan (codeOf Tryd.f82) [([],[3])]).1 [1,1,0,1,0]) 12 [3] [9] [(6,9)] (Zdx a0 a1) [.i .i64 (x0)] hb) ((cellsL (num a0 0) (num a0 1) 36).filter (Zac a0)) ([.row (zc prog 51) 51]:BS)) (fun hb=>(kBlock 0 (kSeq (veC prog Zc5 N (cAt (codeOf Tryd.f82) [1,1,1]) (pAt (mkPlan (codeOf Tryd.f82) [([],[3])]).1 [1,1,1]) (SV×Eff×Bool)) (finK prog [] [.cell 4 51]))) .normal (leftI [3] (Zdx a0 a1) hb)) (fun e hb=>(kBlock 0 (kSeq (veC prog Zc5 N (cAt (codeOf Tryd.f82) [1,1,1]) (pAt (mkPlan (codeOf Tryd.f82) [([],[3])]).1 [1,1,1]) (SV×Eff×Bool)) (finK prog [] [.cell 4 51]))) e (leftI [3] (Zdx a0 a1) hb)))
  else (none))) (by kernel_rfl) ?_
 simp only [Ydd N a0 a1]
theorem Zzh (a0 a1:Array Value) (h_a0:WT prog 35 a0) (h_a1:WT prog 53 a1) (hg:(okS a0)=true):ansV prog Zc5 1000 Tryd.f82 [([],[3])] [.g a0 35,.g a1 53] []=some (.a (.g (landV prog a0 a1) 51),.none,true):=by
 refine (Ycf 1000 a0 a1).trans ?_
 rw [Yfk hg,cond_true]
 have h:=Zty (X:=Empty) (g:=Zgm prog a0 a1) (q:=Zac a0) (landF a1) (wd:=num a0 0) (hi:=num a0 1) (fun r k hk hi hq=>by
  have h1:decide ((k:Int)<36)=true:=decide_eq_true (by omega)
  have h0:decide (0≤(k:Int))=true:=decide_eq_true (by omega)
  simp only [Zgm,h0,h1,Int.toNat_natCast,Bool.and_self,cond_true]
  rfl) (zc prog 51)
 rw [h]
 rfl
def Zl9:Con:=fun args h=>match args,h with
 | [.g a0 35,.g a1 53],[]=>some (.a (.g (landV prog a0 a1) 51),.none,okS a0)
 | _,_=>none
theorem Zww:EntX prog 82:=Zai (fn:=Tryd.f82) (by kernel_rfl) (by kernel_rfl) (by kernel_rfl)
theorem Ydk:ConOkX (md F) prog 82 Zl9:=(Zaj (N:=1000) (by kernel_rfl) (mkΓx_nX Zn7 Zl4 (mkΓx_iX Zmh Zkw mkΓx_nilX)) (fn:=Tryd.f82) (by kernel_rfl) (by kernel_rfl) [([],[3])]).of (by
 intro ρ h w args vals r e hA hH hr
 unfold Zl9 at hr
 split at hr
 ·rename_i a0 a1
  obtain ⟨rfl,hg⟩:=Prod.mk.inj (Option.some.inj hr)
  obtain ⟨rfl,hg2⟩:=Prod.mk.inj hg
  exact Zzh a0 a1 (hA.wt 0 rfl) (hA.wt 1 rfl) hg2
 ·cases hr)
def Zfo:Cons:=(mkΓ [(35,con Zi9),(86,con Zbj),(87,con Zfn)])
def Zhh (a1 a2 a3:Int) (a0:Array Value):St:=(⟨.a (.w 0) :: .a (.i .i64 (a1)) :: .a (.i .i64 (a2)) :: .a (.i .i64 (a3))::us 4 (.a (.w 1) :: .a (.w 7) :: .a (.w 10) :: .a (.i .i64 (0:Int)) :: .a (.w 0) :: .a (.i .i64 (a1)) :: .a (.i .i64 (a2)) :: .a (.i .i64 (a3)) :: .a (.g (driftV prog a0 (oneX prog a1 a2) a3.toNat) 53) :: .a (.g (zc prog 51) 51)::us 19 ([])),[.row a0 35,.row (zc prog 51) 51,.no,.no,.no,.no,.no,.row (driftV prog a0 (oneX prog a1 a2) a3.toNat) 53,.no,.no,.row (zc prog 51) 51,.no],[10,7]⟩:St)
def Zjy:Int×Array Value→LS
 | (y0_11,r0_10)=>([.a (.i .i64 (y0_11))],[.row r0_10 51])
def Zow:Int×Array Value→Exit×LS
 | t=>((.exit 0),Zjy t)
def Ze0 (P : Program) (a1 a2 a3 : Int) (a0 : Array Value) : Int × Array Value → Option (Stp (Int × Array Value) (Int × Array Value))
 | (y0_11, r0_10) => bif decide (y0_11 < (36 : Int)) then (bif (Zab y0_11 a0) then (bif decide (0 ≤ (IntKind.u64.wrap y0_11)) then (bif (Zag y0_11 a0) then (bif (decide (0 ≤ y0_11) && decide (y0_11 < 36)) then (bif (decide (0 ≤ y0_11) && decide (y0_11 < 36)) then (some (.more ((i64.wrap (y0_11 + (1 : Int))), (r0_10.setIfInBounds ((y0_11).toNat * 1) (.int .i64 (num (driftV prog a0 (oneX prog a1 a2) a3.toNat) (3 + ((y0_11).toNat * 1))))))))
       else (none))
      else (none))
     else (some (.more ((i64.wrap (y0_11 + (1 : Int))), r0_10))))
    else (none))
   else (some (.more ((i64.wrap (y0_11 + (1 : Int))), r0_10))))
  else (some (.done (y0_11, r0_10)))
theorem Yfj (N:Nat) (a1 a2 a3:Int) (a0:Array Value):∀ t:Int×Array Value,stepV prog Zfo N (cAt (codeOf Tryd.f81) [1,1,1,0,1,0,0]) (pAt (mkPlan (codeOf Tryd.f81) [([11],[10])]).1 [1,1,1,0,1,0]) [11] [10] (Zhh a1 a2 a3 a0) (Zjy t)=mapS Zjy Zow (Ze0 prog a1 a2 a3 a0 t):=by
 rintro ⟨y0_11,r0_10⟩
 refine Eq.trans (b:=(bif decide (y0_11<(36:Int)) then (bif (Zab y0_11 a0) then (bif decide (0≤(IntKind.u64.wrap y0_11)) then (bif (Zag y0_11 a0) then (bif (decide (0≤y0_11)&&decide (y0_11<36)) then (bif (decide (0≤y0_11)&&decide (y0_11<36)) then (some (.more ([.a (.i .i64 (i64.wrap (y0_11+(1:Int))))],[.row (r0_10.setIfInBounds ((y0_11).toNat*1) (.int .i64 (num (driftV prog a0 (oneX prog a1 a2) a3.toNat) (3+((y0_11).toNat*1))))) 51])))
       else (none))
      else (none))
     else (some (.more ([.a (.i .i64 (i64.wrap (y0_11+(1:Int))))],[.row r0_10 51]))))
    else (none))
   else (some (.more ([.a (.i .i64 (i64.wrap (y0_11+(1:Int))))],[.row r0_10 51]))))
  else (some (.done ((.exit 0),([.a (.i .i64 (y0_11))],[.row r0_10 51])))))) (by kernel_rfl) ?_
 simp only [Ze0,Zav,Zas,Zat,Zau,Zjy,Zow]
def Zmy (P:Program) (N:Nat) (a1 a2 a3:Int) (a0:Array Value) (z0_11:Int) (q0_10:Array Value):Option (SV×Eff×Bool):=some (.a (.g q0_10 51),.none,true)
theorem Zt8 (N:Nat) (a1 a2 a3:Int) (a0:Array Value) (z0_11:Int) (q0_10:Array Value):(kBlock 0 (kSeq (veC prog Zfo N (cAt (codeOf Tryd.f81) [1,1,1,1]) (pAt (mkPlan (codeOf Tryd.f81) [([11],[10])]).1 [1,1,1,1]) (SV×Eff×Bool)) (finK prog [.row a0 35] [.cell 8 51]))) (.exit 0) (left (writes (cAt (codeOf Tryd.f81) [1,1,1,0,1,0,0])) [11] [10] (Zhh a1 a2 a3 a0) ([.a (.i .i64 (z0_11))],[.row q0_10 51]))=Zmy prog N a1 a2 a3 a0 z0_11 q0_10:=by
 refine Eq.trans (b:=(some (.a (.g q0_10 51),.none,true))) (by kernel_rfl) ?_
 rfl
theorem Yfv (N:Nat) (a1 a2 a3:Int) (a0:Array Value):bindX (iterO (stepV prog Zfo N (cAt (codeOf Tryd.f81) [1,1,1,0,1,0,0]) (pAt (mkPlan (codeOf Tryd.f81) [([11],[10])]).1 [1,1,1,0,1,0]) [11] [10] (Zhh a1 a2 a3 a0)) N ([.a (.i .i64 (0:Int))],[.row (zc prog 51) 51])) (fun e s=>(kBlock 0 (kSeq (veC prog Zfo N (cAt (codeOf Tryd.f81) [1,1,1,1]) (pAt (mkPlan (codeOf Tryd.f81) [([11],[10])]).1 [1,1,1,1]) (SV×Eff×Bool)) (finK prog [.row a0 35] [.cell 8 51]))) e (left (writes (cAt (codeOf Tryd.f81) [1,1,1,0,1,0,0])) [11] [10] (Zhh a1 a2 a3 a0) s))=nodeX (iterO (Ze0 prog a1 a2 a3 a0) N ((0:Int),(zc prog 51))) (fun x=>Zmy prog N a1 a2 a3 a0 x.1 x.2):=by
 refine Za9 Zjy Zow _ _ (Yfj N a1 a2 a3 a0) N ((0:Int),(zc prog 51)) _ _ ?_
 intro x;exact Zt8 N a1 a2 a3 a0 x.1 x.2
theorem Yc1 (N:Nat) (a1 a2 a3:Int) (a0:Array Value):ansV prog Zfo N Tryd.f81 [([11],[10])] [.w 0,.i .i64 (a1),.i .i64 (a2),.i .i64 (a3)] [.row a0 35]=(bif (okS a0&&((Zab a1 a0&&Zaa a2 0 1)&&Zaa a3 0 14)) then (nodeX (iterO (Ze0 prog a1 a2 a3 a0) N ((0:Int),(zc prog 51))) (fun x=>Zmy prog N a1 a2 a3 a0 x.1 x.2))
  else (none)):=by
 refine Eq.trans (b:=(bif (okS a0&&((Zab a1 a0&&Zaa a2 0 1)&&Zaa a3 0 14)) then (bindX (iterO (stepV prog Zfo N (cAt (codeOf Tryd.f81) [1,1,1,0,1,0,0]) (pAt (mkPlan (codeOf Tryd.f81) [([11],[10])]).1 [1,1,1,0,1,0]) [11] [10] (Zhh a1 a2 a3 a0)) N ([.a (.i .i64 (0:Int))],[.row (zc prog 51) 51])) (fun e s=>(kBlock 0 (kSeq (veC prog Zfo N (cAt (codeOf Tryd.f81) [1,1,1,1]) (pAt (mkPlan (codeOf Tryd.f81) [([11],[10])]).1 [1,1,1,1]) (SV×Eff×Bool)) (finK prog [.row a0 35] [.cell 8 51]))) e (left (writes (cAt (codeOf Tryd.f81) [1,1,1,0,1,0,0])) [11] [10] (Zhh a1 a2 a3 a0) s)))
  else (none))) (by kernel_rfl) ?_
 simp only [Yfv N a1 a2 a3 a0]
theorem Yb6 (a1 a2 a3:Int) (a0:Array Value) (h_a1:i64.min≤a1∧a1≤i64.max) (h_a2:i64.min≤a2∧a2≤i64.max) (h_a3:i64.min≤a3∧a3≤i64.max) (h_a0:WT prog 35 a0) (hg:((okS a0&&((Zab a1 a0&&Zaa a2 0 1)&&Zaa a3 0 14)))=true):ansV prog Zfo 1000 Tryd.f81 [([11],[10])] [.w 0,.i .i64 (a1),.i .i64 (a2),.i .i64 (a3)] [.row a0 35]=some (.a (.g (byV prog a0 a1 a2 a3.toNat) 51),.none,true):=by
 refine (Yc1 1000 a1 a2 a3 a0).trans ?_
 rw [hg,cond_true]
 have h:=Ziy (g:=Ze0 prog a1 a2 a3 a0) (fun r k=>((k:Int),r)) (fun r k=>if inC (num a0 0) (num a0 1) k&&Zac a0 (k:Int) then landF (driftV prog a0 (oneX prog a1 a2) a3.toNat) r k else r) (m:=36) (t:=zc prog 51) (x:=((36:Int),byV prog a0 a1 a2 a3.toNat)) (N:=1000) (fun k s hk _=>by
  have h1:decide ((k:Int)<36)=true:=decide_eq_true (by omega)
  have h0:decide (0≤(k:Int))=true:=decide_eq_true (by omega)
  have h3:i64.wrap ((k:Int)+1)=((k+1:Nat):Int):=by rw [w64 (by omega)];omega
  rw [Yjd h_a0 hk]
  simp only [Ze0,h1,h0,h3,Ygm h_a0 hk,Yja,Int.toNat_natCast,Bool.and_self,cond_true]
  cases inC (num a0 0) (num a0 1) k with
  | false=>rfl
  | true=>cases Zag (k:Int) a0<;>rfl) (by
  have h1:decide (((36:Nat):Int)<36)=false:=by decide
  simp only [Ze0,h1,cond_false]
  rfl) (by omega)
 have h':iterO (Ze0 prog a1 a2 a3 a0) 1000 ((0:Int),(zc prog 51))=some ((36:Int),byV prog a0 a1 a2 a3.toNat):=h
 rw [h']
 rfl
def Zcb:Con:=fun args h=>match args,h with
 | [.w 0,.i .i64 a1,.i .i64 a2,.i .i64 a3],[.row a0 35]=>some (.a (.g (byV prog a0 a1 a2 a3.toNat) 51),.none,(okS a0&&((Zab a1 a0&&Zaa a2 0 1)&&Zaa a3 0 14)))
 | _,_=>none
theorem Zz5:EntX prog 81:=Zai (fn:=Tryd.f81) (by kernel_rfl) (by kernel_rfl) (by kernel_rfl)
theorem Yf3:ConOkX (md F) prog 81 Zcb:=(Zaj (N:=1000) (by kernel_rfl) (mkΓ_consX (Zad Zxp) Zsc (mkΓ_consX (Zad Zja) Zge (mkΓ_consX (Zad Zks) Zhq mkΓ_nilX))) (fn:=Tryd.f81) (by kernel_rfl) (by kernel_rfl) [([11],[10])]).of (by
 intro ρ h w args vals r e hA hH hr
 unfold Zcb at hr
 split at hr
 ·rename_i a1 a2 a3 a0
  obtain ⟨rfl,hg⟩:=Prod.mk.inj (Option.some.inj hr)
  obtain ⟨rfl,hg2⟩:=Prod.mk.inj hg
  exact Yb6 a1 a2 a3 a0 (hA.rng 1 rfl) (hA.rng 2 rfl) (hA.rng 3 rfl) (hH.wt 0 rfl) hg2
 ·cases hr)
theorem Yai:(zc prog 51).size=36:=by kernel_rfl
theorem Ymj:bytesOf prog 51=288:=by kernel_rfl
theorem Yng (P:Program) (T:TypeId) {r:Array Value} (h:r.size=(zc P T).size):spl (repC (zc P T) 1) 0 r.toList=r:=by
 have e:repC (zc P T) 1=zc P T:=by unfold repC repL repL;simp
 rw [e];exact Yfp h
theorem Zx5 (S X:Array Value):(landV prog S X).size=36:=by
 unfold landV
 refine Zjf (fun _ (r:Array Value)=>r.size=36) Yai (fun k s _ hs=> ?_) 36 (Nat.le_refl _)
 unfold landF
 split
 ·rw [Array.size_setIfInBounds];exact hs
 ·exact hs
theorem Zol (S:Array Value) (c b:Int) (n:Nat):(byV prog S c b n).size=36:=Zx5 _ _
theorem Ymd {c b:Int} (hc:0≤c∧c≤35):WT prog 53 (oneX prog c b):=by
 have o1:i64.min≤(1:Int)∧(1:Int)≤i64.max:=by
  have e1:i64.min = -9223372036854775808:=rfl
  have e2:i64.max=9223372036854775807:=rfl
  omega
 unfold oneX
 exact Zl7 (k:=.i64) (Zl7 (k:=.i64) (Zl7 (k:=.i8) (WT.zero (by kernel_rfl)) Yb9.1 (Zh9 .i8 _)) (Zme (by omega) (by omega)) o1) (Zme (by omega) (by omega)) o1
theorem Ynt {S:Array Value} {c b:Int} (hc:Zab c S=true) (hb:Zaa b 0 1=true):(0≤num (oneX prog c b) 0∧num (oneX prog c b) 0<2)∧(0≤num (oneX prog c b) 1∧num (oneX prog c b) 1≤14):=by
 have h1:=Zgv hb
 obtain ⟨n0,n1,_,_⟩:=Zuy (c:=c) (b:=b) h1 (Zkq hc)
 rw [n0,n1]
 omega
theorem one_zero {S:Array Value} (hS:WT prog 35 S) {c b:Int} (hc:Zab c S=true) (hb:Zaa b 0 1=true):ZO S (oneX prog c b):=by
 intro k hk hf
 have hr:=Zkq hc
 rw [(Zuy (c:=c) (b:=b) (Zgv hb) hr).2.2.2 k hk,if_neg]
 intro e
 have hkc:(k:Int)=c:=by omega
 rw [← hkc,Ygm hS hk,hf] at hc
 cases hc
theorem one_go {S:Array Value} (hS:WT prog 35 S) (hok:okS S=true) {c b:Int} (hc:Zab c S=true) (hb:Zaa b 0 1=true) {j:Nat} (hj:j≤14):goG S (driftV prog S (oneX prog c b) j)=true:=by
 obtain ⟨l0,l1⟩:=Ynt hc hb
 have hl:=Ybe (S:=S) l0 l1 j hj
 have n1:=(Zuy (c:=c) (b:=b) (Zgv hb) (Zkq hc)).2.1
 exact Ynu.2 ⟨hok,by rw [hl.1];exact l0,by rw [hl.2,n1];omega,Ylk (Ymd (Zkq hc)) hok hS (one_zero hS hc hb) j⟩
def recC (P:Program) (S:Array Value) (c b:Int):Nat→Array Value
 | 0=>byV P S c b 0
 | n+1=>recC P S c b n++byV P S c b (n+1)
theorem Yh6 (S:Array Value) (c b:Int):∀ n,(recC prog S c b n).size=(n+1)*36
 | 0=>Zol _ _ _ _
 | n+1=>by rw [recC,Array.size_append,Yh6 S c b n,Zol];omega
theorem Yba (S:Array Value) (c b:Int):∀ (n j:Nat),j≤n→(recC prog S c b n).extract (j*36) (j*36+36)=byV prog S c b j
 | 0,j,hj=>by
  obtain rfl:j=0:=by omega
  rw [recC];exact Zt4 (Zol _ _ _ _)
 | n+1,j,hj=>by
  have hz:=Yh6 S c b n
  by_cases h:j≤n
  ·rw [← Yba S c b n j h,recC]
   refine Array.ext_getElem? fun i=> ?_
   rw [Array.getElem?_extract,Array.getElem?_extract,Array.size_append,hz,Zol]
   by_cases hi:i<min (j*36+36) ((n+1)*36) - j*36
   ·rw [if_pos (by omega),if_pos hi,Array.getElem?_append,if_pos (by omega)]
   ·rw [if_neg (by omega),if_neg hi]
  ·obtain rfl:j=n+1:=by omega
   rw [recC]
   refine Array.ext_getElem? fun i=> ?_
   rw [Array.getElem?_extract,Array.size_append,hz,Zol]
   by_cases hi:i<36
   ·rw [if_pos (by omega),Array.getElem?_append,if_neg (by omega),hz,show (n+1)*36+i - (n+1)*36=i by omega]
   ·rw [if_neg (by omega),Array.getElem?_eq_none (by rw [Zol];omega)]
theorem num_sub1 (a:Int) (h:1≤a∧a≤14):i64.wrap (a - 1)=a - 1∧(i64.wrap (a - 1)).toNat=a.toNat - 1:=by
 rw [w64 (by omega)];omega
def Zhi (a1 a2 a3:Int) (a0:Array Value):St:=(⟨.a (.w 0) :: .a (.i .i64 (a1)) :: .a (.i .i64 (a2)) :: .a (.i .i64 (a3))::us 4 (.a (.w 1) :: .a (.w 7) :: .a (.w 15) :: .a (.i .i64 (0:Int)) :: .a (.w 0) :: .a (.i .i64 (a1)) :: .a (.i .i64 (a2)) :: .a (.i .i64 (a3)) :: .a (.g (byV prog a0 a1 a2 a3.toNat) 51) :: .a (.w 0) :: .a (.i .i64 (a1)) :: .a (.i .i64 (a2)) :: .a (.i .i64 (a3)) :: .a (.i .i64 (i64.wrap (a3 - (1:Int)))) :: .a (.g (byV prog a0 a1 a2 (i64.wrap (a3 - (1:Int))).toNat) 51)::us 14 ([])),[.row a0 35,.row (zc prog 51) 51,.no,.no,.no,.no,.no,.row (byV prog a0 a1 a2 a3.toNat) 51,.no,.no,.no,.no,.no,.no,.no,.row (byV prog a0 a1 a2 (i64.wrap (a3 - (1:Int))).toNat) 51,.no],[15,7]⟩:St)
def Zjq:Int×Array Value→LS
 | (y0_11,r0_7)=>([.a (.i .i64 (y0_11))],[.row r0_7 51])
def Zos:Int×Array Value→Exit×LS
 | t=>((.exit 0),Zjq t)
def Zdr (P : Program) (a1 a2 a3 : Int) (a0 : Array Value) : Int × Array Value → Option (Stp (Int × Array Value) (Int × Array Value))
 | (y0_11, r0_7) => bif decide (y0_11 < (36 : Int)) then (bif (decide (0 ≤ y0_11) && decide (y0_11 < 36)) then (bif (decide (0 ≤ y0_11) && decide (y0_11 < 36)) then (bif (decide (0 ≤ y0_11) && decide (y0_11 < 36)) then (some (.more ((i64.wrap (y0_11 + (1 : Int))), (r0_7.setIfInBounds ((y0_11).toNat * 1) (.int .i64 (i64.wrap ((num r0_7 ((y0_11).toNat * 1)) - (i64.wrap ((12 : Int) * (num (byV prog a0 a1 a2 (i64.wrap (a3 - (1 : Int))).toNat) ((y0_11).toNat * 1)))))))))))
     else (none))
    else (none))
   else (none))
  else (some (.done (y0_11, r0_7)))
theorem Yev (N:Nat) (a1 a2 a3:Int) (a0:Array Value):∀ t:Int×Array Value,stepV prog (mkΓ [(81,con Zcb)]) N (cAt (codeOf Tryd.f43) [1,1,1,0,1,0,0]) (pAt (mkPlan (codeOf Tryd.f43) [([11],[7])]).1 [1,1,1,0,1,0]) [11] [7] (Zhi a1 a2 a3 a0) (Zjq t)=mapS Zjq Zos (Zdr prog a1 a2 a3 a0 t):=by
 rintro ⟨y0_11,r0_7⟩
 refine Eq.trans (b:=(bif decide (y0_11<(36:Int)) then (bif (decide (0≤y0_11)&&decide (y0_11<36)) then (bif (decide (0≤y0_11)&&decide (y0_11<36)) then (bif (decide (0≤y0_11)&&decide (y0_11<36)) then (some (.more ([.a (.i .i64 (i64.wrap (y0_11+(1:Int))))],[.row (r0_7.setIfInBounds ((y0_11).toNat*1) (.int .i64 (i64.wrap ((num r0_7 ((y0_11).toNat*1)) - (i64.wrap ((12:Int)*(num (byV prog a0 a1 a2 (i64.wrap (a3 - (1:Int))).toNat) ((y0_11).toNat*1)))))))) 51])))
     else (none))
    else (none))
   else (none))
  else (some (.done ((.exit 0),([.a (.i .i64 (y0_11))],[.row r0_7 51])))))) (by kernel_rfl) ?_
 simp only [Zdr,Zav,Zas,Zat,Zau,Zjq,Zos]
def Zjg (P:Program) (N:Nat) (a1 a2 a3:Int) (a0:Array Value) (z0_11:Int) (q0_7:Array Value):Option (SV×Eff×Bool):=some (.a (.g q0_7 51),.none,true)
theorem Zvv (N:Nat) (a1 a2 a3:Int) (a0:Array Value) (z0_11:Int) (q0_7:Array Value):(kBlock 0 (kSeq (veC prog (mkΓ [(81,con Zcb)]) N (cAt (codeOf Tryd.f43) [1,1,1,1]) (pAt (mkPlan (codeOf Tryd.f43) [([11],[7])]).1 [1,1,1,1]) (SV×Eff×Bool)) (finK prog [.row a0 35] [.cell 8 51]))) (.exit 0) (left (writes (cAt (codeOf Tryd.f43) [1,1,1,0,1,0,0])) [11] [7] (Zhi a1 a2 a3 a0) ([.a (.i .i64 (z0_11))],[.row q0_7 51]))=Zjg prog N a1 a2 a3 a0 z0_11 q0_7:=by
 refine Eq.trans (b:=(some (.a (.g q0_7 51),.none,true))) (by kernel_rfl) ?_
 rfl
theorem Yfq (N:Nat) (a1 a2 a3:Int) (a0:Array Value):bindX (iterO (stepV prog (mkΓ [(81,con Zcb)]) N (cAt (codeOf Tryd.f43) [1,1,1,0,1,0,0]) (pAt (mkPlan (codeOf Tryd.f43) [([11],[7])]).1 [1,1,1,0,1,0]) [11] [7] (Zhi a1 a2 a3 a0)) N ([.a (.i .i64 (0:Int))],[.row (byV prog a0 a1 a2 a3.toNat) 51])) (fun e s=>(kBlock 0 (kSeq (veC prog (mkΓ [(81,con Zcb)]) N (cAt (codeOf Tryd.f43) [1,1,1,1]) (pAt (mkPlan (codeOf Tryd.f43) [([11],[7])]).1 [1,1,1,1]) (SV×Eff×Bool)) (finK prog [.row a0 35] [.cell 8 51]))) e (left (writes (cAt (codeOf Tryd.f43) [1,1,1,0,1,0,0])) [11] [7] (Zhi a1 a2 a3 a0) s))=nodeX (iterO (Zdr prog a1 a2 a3 a0) N ((0:Int),(byV prog a0 a1 a2 a3.toNat))) (fun x=>Zjg prog N a1 a2 a3 a0 x.1 x.2):=by
 refine Za9 Zjq Zos _ _ (Yev N a1 a2 a3 a0) N ((0:Int),(byV prog a0 a1 a2 a3.toNat)) _ _ ?_
 intro x;exact Zvv N a1 a2 a3 a0 x.1 x.2
theorem Ydg (N:Nat) (a1 a2 a3:Int) (a0:Array Value):ansV prog (mkΓ [(81,con Zcb)]) N Tryd.f43 [([11],[7])] [.w 0,.i .i64 (a1),.i .i64 (a2),.i .i64 (a3)] [.row a0 35]=(bif (okS a0&&((Zab a1 a0&&Zaa a2 0 1)&&Zaa a3 0 14)) then (bif (okS a0&&((Zab a1 a0&&Zaa a2 0 1)&&Zaa (i64.wrap (a3 - (1:Int))) 0 14)) then (nodeX (iterO (Zdr prog a1 a2 a3 a0) N ((0:Int),(byV prog a0 a1 a2 a3.toNat))) (fun x=>Zjg prog N a1 a2 a3 a0 x.1 x.2))
   else (none))
  else (none)):=by
 refine Eq.trans (b:=(bif (okS a0&&((Zab a1 a0&&Zaa a2 0 1)&&Zaa a3 0 14)) then (bif (okS a0&&((Zab a1 a0&&Zaa a2 0 1)&&Zaa (i64.wrap (a3 - (1:Int))) 0 14)) then (bindX (iterO (stepV prog (mkΓ [(81,con Zcb)]) N (cAt (codeOf Tryd.f43) [1,1,1,0,1,0,0]) (pAt (mkPlan (codeOf Tryd.f43) [([11],[7])]).1 [1,1,1,0,1,0]) [11] [7] (Zhi a1 a2 a3 a0)) N ([.a (.i .i64 (0:Int))],[.row (byV prog a0 a1 a2 a3.toNat) 51])) (fun e s=>(kBlock 0 (kSeq (veC prog (mkΓ [(81,con Zcb)]) N (cAt (codeOf Tryd.f43) [1,1,1,1]) (pAt (mkPlan (codeOf Tryd.f43) [([11],[7])]).1 [1,1,1,1]) (SV×Eff×Bool)) (finK prog [.row a0 35] [.cell 8 51]))) e (left (writes (cAt (codeOf Tryd.f43) [1,1,1,0,1,0,0])) [11] [7] (Zhi a1 a2 a3 a0) s)))
   else (none))
  else (none))) (by kernel_rfl) ?_
 simp only [Yfq N a1 a2 a3 a0]
theorem Yap (a1 a2 a3:Int) (a0:Array Value) (h_a1:i64.min≤a1∧a1≤i64.max) (h_a2:i64.min≤a2∧a2≤i64.max) (h_a3:i64.min≤a3∧a3≤i64.max) (h_a0:WT prog 35 a0) (hg:((okS a0&&((Zab a1 a0&&Zaa a2 0 1)&&Zaa a3 1 14)))=true):ansV prog (mkΓ [(81,con Zcb)]) 1000 Tryd.f43 [([11],[7])] [.w 0,.i .i64 (a1),.i .i64 (a2),.i .i64 (a3)] [.row a0 35]=some (.a (.g (subV (byV prog a0 a1 a2 a3.toNat) (byV prog a0 a1 a2 (a3.toNat - 1)) 12) 51),.none,true):=by
 simp only [Bool.and_eq_true] at hg
 obtain ⟨q0,⟨q1,q2⟩,q3⟩:=hg
 have r3:=Zgv q3
 obtain ⟨e1,e2⟩:=num_sub1 a3 r3
 refine (Ydg 1000 a1 a2 a3 a0).trans ?_
 rw [q0,q1,q2,in_of (x:=a3) (a:=0) (b:=14) (by omega),in_of (x:=i64.wrap (a3 - 1)) (a:=0) (b:=14) (by omega)]
 simp only [Bool.and_self,cond_true]
 have h:=Ziy (g:=Zdr prog a1 a2 a3 a0) (fun r k=>((k:Int),r)) (subF (byV prog a0 a1 a2 (a3.toNat - 1)) 12) (m:=36) (t:=byV prog a0 a1 a2 a3.toNat) (x:=((36:Int),subV (byV prog a0 a1 a2 a3.toNat) (byV prog a0 a1 a2 (a3.toNat - 1)) 12)) (N:=1000) (fun k s hk _=>by
  have h1:decide ((k:Int)<36)=true:=decide_eq_true (by omega)
  have h0:decide (0≤(k:Int))=true:=decide_eq_true (by omega)
  have h3:i64.wrap ((k:Int)+1)=((k+1:Nat):Int):=by rw [w64 (by omega)];omega
  simp only [Zdr,h1,h0,h3,e2,Int.toNat_natCast,Bool.and_self,cond_true]
  unfold subF
  rw [Int.mul_comm (12:Int)]) (by
  have h1:decide (((36:Nat):Int)<36)=false:=by decide
  simp only [Zdr,h1,cond_false]
  rfl) (by omega)
 have hq:∀ q,iterO (Zdr prog a1 a2 a3 a0) 1000 ((0:Int),byV prog a0 a1 a2 a3.toNat)=some ((36:Int),q)→nodeX (iterO (Zdr prog a1 a2 a3 a0) 1000 ((0:Int),byV prog a0 a1 a2 a3.toNat)) (fun x=>Zjg prog 1000 a1 a2 a3 a0 x.1 x.2)=some (.a (.g q 51),.none,true):=fun q e=>by rw [e];rfl
 exact hq _ h
def Znk:Con:=fun args h=>match args,h with
 | [.w 0,.i .i64 a1,.i .i64 a2,.i .i64 a3],[.row a0 35]=>some (.a (.g (subV (byV prog a0 a1 a2 a3.toNat) (byV prog a0 a1 a2 (a3.toNat - 1)) 12) 51),.none,(okS a0&&((Zab a1 a0&&Zaa a2 0 1)&&Zaa a3 1 14)))
 | _,_=>none
theorem Zyz:EntX prog 43:=Zai (fn:=Tryd.f43) (by kernel_rfl) (by kernel_rfl) (by kernel_rfl)
theorem Yf1:ConOkX (md F) prog 43 Znk:=(Zaj (N:=1000) (by kernel_rfl) (mkΓ_consX (Zad Yf3) Zz5 mkΓ_nilX) (fn:=Tryd.f43) (by kernel_rfl) (by kernel_rfl) [([11],[7])]).of (by
 intro ρ h w args vals r e hA hH hr
 unfold Znk at hr
 split at hr
 ·rename_i a1 a2 a3 a0
  obtain ⟨rfl,hg⟩:=Prod.mk.inj (Option.some.inj hr)
  obtain ⟨rfl,hg2⟩:=Prod.mk.inj hg
  exact Yap a1 a2 a3 a0 (hA.rng 1 rfl) (hA.rng 2 rfl) (hA.rng 3 rfl) (hH.wt 0 rfl) hg2
 ·cases hr)
def Zcn (a1 a2:Int) (b_a0:Option (Option Addr)) (n_a0:Nat) (a0:Array Value):St:=(⟨.a (.l 0) :: .a (.i .i64 (a1)) :: .a (.i .i64 (a2))::us 3 (.a (.w 1) :: .a (.w 6) :: .a (.u) :: .a (.u) :: .a (.l 0) :: .a (.i .i64 (a2)) :: .a (.q 0 (((a2).toNat*36)) 51) :: .a (.g (a0.extract ((a2).toNat*36) (((a2).toNat*36)+36)) 51) :: .a (.l 0) :: .a (.i .i64 (a1)) :: .a (.q 0 (((a1).toNat*36)) 51) :: .a (.g (a0.extract ((a1).toNat*36) (((a1).toNat*36)+36)) 51) :: .a (.i .i64 (0:Int))::us 16 ([])),[.sl (.came b_a0) n_a0 a0 51,.row (zc prog 51) 51,.no,.no,.no,.no,.row (a0.extract ((a2).toNat*36) (((a2).toNat*36)+36)) 51,.no],[6]⟩:St)
def Zdo:Int×Array Value→LS
 | (y0_18,r0_6)=>([.a (.i .i64 (y0_18))],[.row r0_6 51])
def Zh2:Int×Array Value→Exit×LS
 | t=>((.exit 0),Zdo t)
def Za8 (P : Program) (a1 a2 : Int) (b_a0 : Option (Option Addr)) (n_a0 : Nat) (a0 : Array Value) : Int × Array Value → Option (Stp (Int × Array Value) (Int × Array Value))
 | (y0_18, r0_6) => bif decide (y0_18 < (36 : Int)) then (bif (decide (0 ≤ y0_18) && decide (y0_18 < 36)) then (bif (decide (0 ≤ y0_18) && decide (y0_18 < 36)) then (bif (decide (0 ≤ (i64.wrap (a2 - a1))) && decide ((i64.wrap (a2 - a1)) ≤ 14)) then (bif (decide (0 ≤ y0_18) && decide (y0_18 < 36)) then (some (.more ((i64.wrap (y0_18 + (1 : Int))), (r0_6.setIfInBounds ((y0_18).toNat * 1) (.int .i64 (i64.wrap ((num r0_6 ((y0_18).toNat * 1)) - (i64.wrap ((num (a0.extract ((a1).toNat * 36) (((a1).toNat * 36) + 36)) ((y0_18).toNat * 1)) * (12 ^ (i64.wrap (a2 - a1)).toNat))))))))))
      else (none))
     else (none))
    else (none))
   else (none))
  else (some (.done (y0_18, r0_6)))
theorem Zr3 (N:Nat) (a1 a2:Int) (b_a0:Option (Option Addr)) (n_a0:Nat) (a0:Array Value):∀ t:Int×Array Value,stepV prog (mkΓ [(48,con Za6)]) N (cAt (codeOf Tryd.f46) [1,1,0,1,0,0]) (pAt (mkPlan (codeOf Tryd.f46) [([18],[6])]).1 [1,1,0,1,0]) [18] [6] (Zcn a1 a2 b_a0 n_a0 a0) (Zdo t)=mapS Zdo Zh2 (Za8 prog a1 a2 b_a0 n_a0 a0 t):=by
 rintro ⟨y0_18,r0_6⟩
 refine Eq.trans (b:=(bif decide (y0_18<(36:Int)) then (bif (decide (0≤y0_18)&&decide (y0_18<36)) then (bif (decide (0≤y0_18)&&decide (y0_18<36)) then (bif (decide (0≤(i64.wrap (a2 - a1)))&&decide ((i64.wrap (a2 - a1))≤14)) then (bif (decide (0≤y0_18)&&decide (y0_18<36)) then (some (.more ([.a (.i .i64 (i64.wrap (y0_18+(1:Int))))],[.row (r0_6.setIfInBounds ((y0_18).toNat*1) (.int .i64 (i64.wrap ((num r0_6 ((y0_18).toNat*1)) - (i64.wrap ((num (a0.extract ((a1).toNat*36) (((a1).toNat*36)+36)) ((y0_18).toNat*1))*(12^(i64.wrap (a2 - a1)).toNat))))))) 51])))
      else (none))
     else (none))
    else (none))
   else (none))
  else (some (.done ((.exit 0),([.a (.i .i64 (y0_18))],[.row r0_6 51])))))) (by kernel_rfl) ?_
 simp only [Za8,Zav,Zas,Zat,Zau,Zdo,Zh2]
def Zeb (P:Program) (N:Nat) (a1 a2:Int) (b_a0:Option (Option Addr)) (n_a0:Nat) (a0:Array Value) (z0_18:Int) (q0_6:Array Value):Option (SV×Eff×Bool):=some (.a (.g q0_6 51),.none,true)
theorem Znr (N:Nat) (a1 a2:Int) (b_a0:Option (Option Addr)) (n_a0:Nat) (a0:Array Value) (z0_18:Int) (q0_6:Array Value):(kBlock 0 (kSeq (veC prog (mkΓ [(48,con Za6)]) N (cAt (codeOf Tryd.f46) [1,1,1]) (pAt (mkPlan (codeOf Tryd.f46) [([18],[6])]).1 [1,1,1]) (SV×Eff×Bool)) (finK prog [.sl (.came b_a0) n_a0 a0 51] [.cell 6 51]))) (.exit 0) (left (writes (cAt (codeOf Tryd.f46) [1,1,0,1,0,0])) [18] [6] (Zcn a1 a2 b_a0 n_a0 a0) ([.a (.i .i64 (z0_18))],[.row q0_6 51]))=Zeb prog N a1 a2 b_a0 n_a0 a0 z0_18 q0_6:=by
 refine Eq.trans (b:=(some (.a (.g q0_6 51),.none,true))) (by kernel_rfl) ?_
 rfl
theorem Zss (N:Nat) (a1 a2:Int) (b_a0:Option (Option Addr)) (n_a0:Nat) (a0:Array Value):bindX (iterO (stepV prog (mkΓ [(48,con Za6)]) N (cAt (codeOf Tryd.f46) [1,1,0,1,0,0]) (pAt (mkPlan (codeOf Tryd.f46) [([18],[6])]).1 [1,1,0,1,0]) [18] [6] (Zcn a1 a2 b_a0 n_a0 a0)) N ([.a (.i .i64 (0:Int))],[.row (a0.extract ((a2).toNat*36) (((a2).toNat*36)+36)) 51])) (fun e s=>(kBlock 0 (kSeq (veC prog (mkΓ [(48,con Za6)]) N (cAt (codeOf Tryd.f46) [1,1,1]) (pAt (mkPlan (codeOf Tryd.f46) [([18],[6])]).1 [1,1,1]) (SV×Eff×Bool)) (finK prog [.sl (.came b_a0) n_a0 a0 51] [.cell 6 51]))) e (left (writes (cAt (codeOf Tryd.f46) [1,1,0,1,0,0])) [18] [6] (Zcn a1 a2 b_a0 n_a0 a0) s))=nodeX (iterO (Za8 prog a1 a2 b_a0 n_a0 a0) N ((0:Int),(a0.extract ((a2).toNat*36) (((a2).toNat*36)+36)))) (fun x=>Zeb prog N a1 a2 b_a0 n_a0 a0 x.1 x.2):=by
 refine Za9 Zdo Zh2 _ _ (Zr3 N a1 a2 b_a0 n_a0 a0) N ((0:Int),(a0.extract ((a2).toNat*36) (((a2).toNat*36)+36))) _ _ ?_
 intro x;exact Znr N a1 a2 b_a0 n_a0 a0 x.1 x.2
theorem Zra (N:Nat) (a1 a2:Int) (b_a0:Option (Option Addr)) (n_a0:Nat) (a0:Array Value):ansV prog (mkΓ [(48,con Za6)]) N Tryd.f46 [([18],[6])] [.l 0,.i .i64 (a1),.i .i64 (a2)] [.sl (.came b_a0) n_a0 a0 51]=(bif (decide (0≤a2)&&decide (a2<(n_a0:Int))) then (bif (decide (0≤a1)&&decide (a1<(n_a0:Int))) then (nodeX (iterO (Za8 prog a1 a2 b_a0 n_a0 a0) N ((0:Int),(a0.extract ((a2).toNat*36) (((a2).toNat*36)+36)))) (fun x=>Zeb prog N a1 a2 b_a0 n_a0 a0 x.1 x.2))
   else (none))
  else (none)):=by
 refine Eq.trans (b:=(bif (decide (0≤a2)&&decide (a2<(n_a0:Int))) then (bif (decide (0≤a1)&&decide (a1<(n_a0:Int))) then (bindX (iterO (stepV prog (mkΓ [(48,con Za6)]) N (cAt (codeOf Tryd.f46) [1,1,0,1,0,0]) (pAt (mkPlan (codeOf Tryd.f46) [([18],[6])]).1 [1,1,0,1,0]) [18] [6] (Zcn a1 a2 b_a0 n_a0 a0)) N ([.a (.i .i64 (0:Int))],[.row (a0.extract ((a2).toNat*36) (((a2).toNat*36)+36)) 51])) (fun e s=>(kBlock 0 (kSeq (veC prog (mkΓ [(48,con Za6)]) N (cAt (codeOf Tryd.f46) [1,1,1]) (pAt (mkPlan (codeOf Tryd.f46) [([18],[6])]).1 [1,1,1]) (SV×Eff×Bool)) (finK prog [.sl (.came b_a0) n_a0 a0 51] [.cell 6 51]))) e (left (writes (cAt (codeOf Tryd.f46) [1,1,0,1,0,0])) [18] [6] (Zcn a1 a2 b_a0 n_a0 a0) s)))
   else (none))
  else (none))) (by kernel_rfl) ?_
 simp only [Zss N a1 a2 b_a0 n_a0 a0]
theorem Zpr (a1 a2:Int) (b_a0:Option (Option Addr)) (n_a0:Nat) (a0:Array Value) (h_a1:i64.min≤a1∧a1≤i64.max) (h_a2:i64.min≤a2∧a2≤i64.max) (h_a0:a0.size=n_a0*(lay prog 51).length∧(∀ k,k<n_a0→WT prog 51 (a0.extract (k*(lay prog 51).length) (k*(lay prog 51).length+(lay prog 51).length)))∧n_a0≤9223372036854775807) (hg:(((decide (0≤a1)&&decide (a1≤a2))&&(decide (a2≤a1+14)&&decide (a2<(n_a0:Int)))))=true):ansV prog (mkΓ [(48,con Za6)]) 1000 Tryd.f46 [([18],[6])] [.l 0,.i .i64 (a1),.i .i64 (a2)] [.sl (.came b_a0) n_a0 a0 51]=some (.a (.g (subV (a0.extract (a2.toNat*36) (a2.toNat*36+36)) (a0.extract (a1.toNat*36) (a1.toNat*36+36)) (12^(a2 - a1).toNat)) 51),.none,true):=by
 simp only [Bool.and_eq_true,decide_eq_true_eq] at hg
 obtain ⟨⟨q0,q1⟩,q2,q3⟩:=hg
 have ew:i64.wrap (a2 - a1)=a2 - a1:=w64 (by omega)
 refine (Zra 1000 a1 a2 b_a0 n_a0 a0).trans ?_
 rw [dec2 (show 0≤a2 by omega) q3,dec2 q0 (show a1<(n_a0:Int) by omega)]
 simp only [cond_true]
 have hq:∀ q,iterO (Za8 prog a1 a2 b_a0 n_a0 a0) 1000 ((0:Int),a0.extract (a2.toNat*36) (a2.toNat*36+36))=some ((36:Int),q)→nodeX (iterO (Za8 prog a1 a2 b_a0 n_a0 a0) 1000 ((0:Int),a0.extract (a2.toNat*36) (a2.toNat*36+36))) (fun x=>Zeb prog 1000 a1 a2 b_a0 n_a0 a0 x.1 x.2)=some (.a (.g q 51),.none,true):=fun q e=>by rw [e];rfl
 refine hq _ ?_
 unfold subV
 have hF:∀ (k:Nat) (s:Array Value),k<36→Za8 prog a1 a2 b_a0 n_a0 a0 ((k:Int),s)=some (.more (((k+1:Nat):Int),subF (a0.extract (a1.toNat*36) (a1.toNat*36+36)) (12^(a2 - a1).toNat) s k)):=fun k s hk=>by
  have h1:decide ((k:Int)<36)=true:=decide_eq_true (by omega)
  have h0:decide (0≤(k:Int))=true:=decide_eq_true (by omega)
  have h3:i64.wrap ((k:Int)+1)=((k+1:Nat):Int):=by rw [w64 (by omega)];omega
  have h4:decide (0≤a2 - a1)=true:=decide_eq_true (by omega)
  have h5:decide (a2 - a1≤14)=true:=decide_eq_true (by omega)
  simp only [Za8,h1,h0,h3,ew,h4,h5,Int.toNat_natCast,Bool.and_self,cond_true,subF]
 generalize a0.extract (a2.toNat*36) (a2.toNat*36+36)=C
 generalize hD:a0.extract (a1.toNat*36) (a1.toNat*36+36)=D at hF⊢
 generalize hm:(12:Int)^(a2 - a1).toNat=m at hF⊢
 exact Ziy (g:=Za8 prog a1 a2 b_a0 n_a0 a0) (fun r k=>((k:Int),r)) (subF D m) (m:=36) (t:=C) (x:=((36:Int),folds (subF D m) C 36)) (N:=1000) (fun k s hk _=>hF k s hk) (by
  have h1:decide (((36:Nat):Int)<36)=false:=by decide
  generalize folds (subF D m) C 36=q
  simp only [Za8,h1,cond_false]
  rfl) (by omega)
def Zhc:Con:=fun args h=>match args,h with
 | [.l 0,.i .i64 a1,.i .i64 a2],[.sl (.came b_a0) n_a0 a0 51]=>some (.a (.g (subV (a0.extract (a2.toNat*36) (a2.toNat*36+36)) (a0.extract (a1.toNat*36) (a1.toNat*36+36)) (12^(a2 - a1).toNat)) 51),.none,((decide (0≤a1)&&decide (a1≤a2))&&(decide (a2≤a1+14)&&decide (a2<(n_a0:Int)))))
 | _,_=>none
theorem Zo4:EntX prog 46:=Zai (fn:=Tryd.f46) (by kernel_rfl) (by kernel_rfl) (by kernel_rfl)
theorem Zry:ConOkX (md F) prog 46 Zhc:=(Zaj (N:=1000) (by kernel_rfl) (mkΓ_consX (Zad Znb) Zkt mkΓ_nilX) (fn:=Tryd.f46) (by kernel_rfl) (by kernel_rfl) [([18],[6])]).of (by
 intro ρ h w args vals r e hA hH hr
 unfold Zhc at hr
 split at hr
 ·rename_i a1 a2 b_a0 n_a0 a0
  obtain ⟨rfl,hg⟩:=Prod.mk.inj (Option.some.inj hr)
  obtain ⟨rfl,hg2⟩:=Prod.mk.inj hg
  exact Zpr a1 a2 b_a0 n_a0 a0 (hA.rng 1 rfl) (hA.rng 2 rfl) (hH.slw 0 rfl) hg2
 ·cases hr)
def Zc8:Cons:=(mkΓ [(40,con Zj2),(41,con Zk8),(82,con Zl9)])
def Zel (a0:Array Value) (a1 a2 a3:Int):St:=(⟨.a (.g a0 35) :: .a (.i .i64 (a1)) :: .a (.i .i64 (a2)) :: .a (.i .i64 (a3)) :: .a (.w 0)::us 3 (.a (.v (.slice none 0 0)) :: .a (.w 5) :: .a (.l 12) :: .a (.i .i64 (a1)) :: .a (.i .i64 (a2)) :: .a (.g (Zan prog a1 (1:Int) a2) 53) :: .a (.g a0 35) :: .a (.g (Zan prog a1 (1:Int) a2) 53) :: .a (.g (landV prog a0 (Zan prog a1 (1:Int) a2)) 51) :: .a (.l 10) :: .a (.i .i64 (a3)) :: .a (.i .i64 (0:Int))::us 12 ([])),[.row a0 35,.no,.no,.no,.no,.row (Zan prog a1 (1:Int) a2) 53,.no,.no,.no,.no,.sp,.no,.sl .own 1 (spl (repC (zc prog 51) 1) 0 (landV prog a0 (Zan prog a1 (1:Int) a2)).toList) 51],[10,5]⟩:St)
def Zgd:Int×Array Value×Nat×Array Value→LS
 | (y0_19,r0_5,m0_10,y0_10)=>([.a (.i .i64 (y0_19)),.a (.l 12)],[.row r0_5 53,.sl .own m0_10 y0_10 51])
def Zli:Int×Array Value×Nat×Array Value→Exit×LS
 | t=>((.exit 0),Zgd t)
def Zcu (P : Program) (a0 : Array Value) (a1 a2 a3 : Int) : Int × Array Value × Nat × Array Value → Option (Stp (Int × Array Value × Nat × Array Value) (Int × Array Value × Nat × Array Value))
 | (y0_19, r0_5, m0_10, y0_10) => bif decide (y0_19 < a3) then (bif (goG a0 r0_5) then (bif okS a0 then (bif (Nat.ble ((m0_10 + 1) * bytesOf prog 51) 140737488355328) then (some (.more ((i64.wrap (y0_19 + (1 : Int))), (hourV prog a0 r0_5), (m0_10 + 1), (y0_10 ++ (spl (repC (zc prog 51) 1) 0 (landV prog a0 (hourV prog a0 r0_5)).toList)))))
     else (none))
    else (none))
   else (none))
  else (some (.done (y0_19, r0_5, m0_10, y0_10)))
theorem Zzw (N:Nat) (a0:Array Value) (a1 a2 a3:Int):∀ t:Int×Array Value×Nat×Array Value,stepVG prog Zc8 N (cAt (codeOf Tryd.f45) [1,1,1,0,1,0,0]) (pAt (mkPlan (codeOf Tryd.f45) [([19],[5,1000010,51])]).1 [1,1,1,0,1,0]) [19] [5] 10 51 12 (Zel a0 a1 a2 a3) (Zgd t)=mapS Zgd Zli (Zcu prog a0 a1 a2 a3 t):=by
 rintro ⟨y0_19,r0_5,m0_10,y0_10⟩
 refine Eq.trans (b:=(bif decide (y0_19<a3) then (bif (goG a0 r0_5) then (bif okS a0 then (bif (Nat.ble ((m0_10+1)*bytesOf prog 51) 140737488355328) then (some (.more ([.a (.i .i64 (i64.wrap (y0_19+(1:Int)))),.a (.l 12)],[.row (hourV prog a0 r0_5) 53,.sl .own (m0_10+1) (y0_10++(spl (repC (zc prog 51) 1) 0 (landV prog a0 (hourV prog a0 r0_5)).toList)) 51])))
     else (none))
    else (none))
   else (none))
  else (some (.done ((.exit 0),([.a (.i .i64 (y0_19)),.a (.l 12)],[.row r0_5 53,.sl .own m0_10 y0_10 51])))))) (by kernel_rfl) ?_
 simp only [Zcu,Zav,Zas,Zat,Zau,Zgd,Zli]
def Zi5 (P:Program) (N:Nat) (a0:Array Value) (a1 a2 a3:Int) (z0_19:Int) (q0_5:Array Value) (p0_10:Nat) (z0_10:Array Value):Option (SV×Eff×Bool):=some (.a .x,.newS none p0_10 z0_10 51,true)
theorem Zqd (N:Nat) (a0:Array Value) (a1 a2 a3:Int) (z0_19:Int) (q0_5:Array Value) (p0_10:Nat) (z0_10:Array Value):(kBlock 0 (kSeq (veC prog Zc8 N (cAt (codeOf Tryd.f45) [1,1,1,1]) (pAt (mkPlan (codeOf Tryd.f45) [([19],[5,1000010,51])]).1 [1,1,1,1]) (SV×Eff×Bool)) (finK prog [] [.tmp 8]))) (.exit 0) (left (writes (cAt (codeOf Tryd.f45) [1,1,1,0,1,0,0])) [19,10] [5,12] (Zel a0 a1 a2 a3) ([.a (.i .i64 (z0_19)),.a (.l 12)],[.row q0_5 53,.sl .own p0_10 z0_10 51]))=Zi5 prog N a0 a1 a2 a3 z0_19 q0_5 p0_10 z0_10:=by
 refine Eq.trans (b:=(some (.a .x,.newS none p0_10 z0_10 51,true))) (by kernel_rfl) ?_
 rfl
theorem Zzx (N:Nat) (a0:Array Value) (a1 a2 a3:Int):bindX (iterO (stepVG prog Zc8 N (cAt (codeOf Tryd.f45) [1,1,1,0,1,0,0]) (pAt (mkPlan (codeOf Tryd.f45) [([19],[5,1000010,51])]).1 [1,1,1,0,1,0]) [19] [5] 10 51 12 (Zel a0 a1 a2 a3)) N ([.a (.i .i64 (0:Int)),.a (.l 12)],[.row (Zan prog a1 (1:Int) a2) 53,.sl .own 1 (spl (repC (zc prog 51) 1) 0 (landV prog a0 (Zan prog a1 (1:Int) a2)).toList) 51])) (fun e s=>(kBlock 0 (kSeq (veC prog Zc8 N (cAt (codeOf Tryd.f45) [1,1,1,1]) (pAt (mkPlan (codeOf Tryd.f45) [([19],[5,1000010,51])]).1 [1,1,1,1]) (SV×Eff×Bool)) (finK prog [] [.tmp 8]))) e (left (writes (cAt (codeOf Tryd.f45) [1,1,1,0,1,0,0])) [19,10] [5,12] (Zel a0 a1 a2 a3) s))=nodeX (iterO (Zcu prog a0 a1 a2 a3) N ((0:Int),(Zan prog a1 (1:Int) a2),1,(spl (repC (zc prog 51) 1) 0 (landV prog a0 (Zan prog a1 (1:Int) a2)).toList))) (fun x=>Zi5 prog N a0 a1 a2 a3 x.1 x.2.1 x.2.2.1 x.2.2.2):=by
 refine Za9 Zgd Zli _ _ (Zzw N a0 a1 a2 a3) N ((0:Int),(Zan prog a1 (1:Int) a2),1,(spl (repC (zc prog 51) 1) 0 (landV prog a0 (Zan prog a1 (1:Int) a2)).toList)) _ _ ?_
 intro x;exact Zqd N a0 a1 a2 a3 x.1 x.2.1 x.2.2.1 x.2.2.2
theorem Zxe (N:Nat) (a0:Array Value) (a1 a2 a3:Int):ansV prog Zc8 N Tryd.f45 [([19],[5,1000010,51])] [.g a0 35,.i .i64 (a1),.i .i64 (a2),.i .i64 (a3)] []=(bif (decide (0≤a1)&&decide (a1<36)) then (bif okS a0 then (nodeX (iterO (Zcu prog a0 a1 a2 a3) N ((0:Int),(Zan prog a1 (1:Int) a2),1,(spl (repC (zc prog 51) 1) 0 (landV prog a0 (Zan prog a1 (1:Int) a2)).toList))) (fun x=>Zi5 prog N a0 a1 a2 a3 x.1 x.2.1 x.2.2.1 x.2.2.2))
   else (none))
  else (none)):=by
 refine Eq.trans (b:=(bif (decide (0≤a1)&&decide (a1<36)) then (bif okS a0 then (bindX (iterO (stepVG prog Zc8 N (cAt (codeOf Tryd.f45) [1,1,1,0,1,0,0]) (pAt (mkPlan (codeOf Tryd.f45) [([19],[5,1000010,51])]).1 [1,1,1,0,1,0]) [19] [5] 10 51 12 (Zel a0 a1 a2 a3)) N ([.a (.i .i64 (0:Int)),.a (.l 12)],[.row (Zan prog a1 (1:Int) a2) 53,.sl .own 1 (spl (repC (zc prog 51) 1) 0 (landV prog a0 (Zan prog a1 (1:Int) a2)).toList) 51])) (fun e s=>(kBlock 0 (kSeq (veC prog Zc8 N (cAt (codeOf Tryd.f45) [1,1,1,1]) (pAt (mkPlan (codeOf Tryd.f45) [([19],[5,1000010,51])]).1 [1,1,1,1]) (SV×Eff×Bool)) (finK prog [] [.tmp 8]))) e (left (writes (cAt (codeOf Tryd.f45) [1,1,1,0,1,0,0])) [19,10] [5,12] (Zel a0 a1 a2 a3) s)))
   else (none))
  else (none))) (by kernel_rfl) ?_
 simp only [Zzx N a0 a1 a2 a3]
theorem Zwg (a0:Array Value) (a1 a2 a3:Int) (h_a0:WT prog 35 a0) (h_a1:i64.min≤a1∧a1≤i64.max) (h_a2:i64.min≤a2∧a2≤i64.max) (h_a3:i64.min≤a3∧a3≤i64.max) (hg:((okS a0&&((Zab a1 a0&&Zaa a2 0 1)&&Zaa a3 0 14)))=true):ansV prog Zc8 1000 Tryd.f45 [([19],[5,1000010,51])] [.g a0 35,.i .i64 (a1),.i .i64 (a2),.i .i64 (a3)] []=some (.a .x,.newS none (a3.toNat+1) (recC prog a0 a1 a2 a3.toNat) 51,true):=by
 simp only [Bool.and_eq_true] at hg
 obtain ⟨q0,⟨q1,q2⟩,q3⟩:=hg
 have r1:=Zkq q1
 have r3:=Zgv q3
 obtain ⟨m,rfl⟩:=Int.eq_ofNat_of_zero_le r3.1
 refine (Zxe 1000 a0 a1 a2 (m:Int)).trans ?_
 rw [dec2 r1.1 (show a1<36 by omega),q0]
 simp only [cond_true]
 have e0:Zan prog a1 1 a2=oneX prog a1 a2:=rfl
 have e1:spl (repC (zc prog 51) 1) 0 (landV prog a0 (oneX prog a1 a2)).toList=recC prog a0 a1 a2 0:=Yng prog 51 (by rw [Zx5,Yai])
 rw [e0,e1,Int.toNat_natCast]
 have h:=Zb9 (g:=Zcu prog a0 a1 a2 (m:Int)) (fun j=>((j:Int),driftV prog a0 (oneX prog a1 a2) j,j+1,recC prog a0 a1 a2 j)) (m:=m) (x:=((m:Int),driftV prog a0 (oneX prog a1 a2) m,m+1,recC prog a0 a1 a2 m)) (N:=1000) (fun j hj=>by
  have h1:decide ((j:Int)<(m:Int))=true:=decide_eq_true (by omega)
  have h3:i64.wrap ((j:Int)+1)=((j+1:Nat):Int):=by rw [w64 (by omega)];omega
  have h4:=one_go h_a0 q0 q1 q2 (show j≤14 by omega)
  have h6:Nat.ble ((j+1+1)*bytesOf prog 51) 140737488355328=true:=Nat.ble_eq_true_of_le (by rw [Ymj];omega)
  have h7:spl (repC (zc prog 51) 1) 0 (landV prog a0 (hourV prog a0 (driftV prog a0 (oneX prog a1 a2) j))).toList=byV prog a0 a1 a2 (j+1):=Yng prog 51 (by rw [Zx5,Yai])
  simp only [Zcu,h1,h3,h4,q0,h6,h7,cond_true]
  rfl) (by
  have h1:decide ((m:Int)<(m:Int))=false:=decide_eq_false (by omega)
  simp only [Zcu,h1,cond_false]) (by omega)
 have h':iterO (Zcu prog a0 a1 a2 (m:Int)) 1000 ((0:Int),oneX prog a1 a2,1,recC prog a0 a1 a2 0)=some ((m:Int),driftV prog a0 (oneX prog a1 a2) m,m+1,recC prog a0 a1 a2 m):=h
 rw [h']
 rfl
def Zkg:Con:=fun args h=>match args,h with
 | [.g a0 35,.i .i64 a1,.i .i64 a2,.i .i64 a3],[]=>some (.a .x,.newS none (a3.toNat+1) (recC prog a0 a1 a2 a3.toNat) 51,(okS a0&&((Zab a1 a0&&Zaa a2 0 1)&&Zaa a3 0 14)))
 | _,_=>none
theorem Ztk:EntX prog 45:=Zai (fn:=Tryd.f45) (by kernel_rfl) (by kernel_rfl) (by kernel_rfl)
theorem Zy6:ConOkX (md F) prog 45 Zkg:=(Zaj (N:=1000) (by kernel_rfl) (mkΓ_consX (Zad Zy5) Ztn (mkΓ_consX (Zad Yco) Zv3 (mkΓ_consX (Zad Ydk) Zww mkΓ_nilX))) (fn:=Tryd.f45) (by kernel_rfl) (by kernel_rfl) [([19],[5,1000010,51])]).of (by
 intro ρ h w args vals r e hA hH hr
 unfold Zkg at hr
 split at hr
 ·rename_i a0 a1 a2 a3
  obtain ⟨rfl,hg⟩:=Prod.mk.inj (Option.some.inj hr)
  obtain ⟨rfl,hg2⟩:=Prod.mk.inj hg
  exact Zwg a0 a1 a2 a3 (hA.wt 0 rfl) (hA.rng 1 rfl) (hA.rng 2 rfl) (hA.rng 3 rfl) hg2
 ·cases hr)
end
end Go.Proofs.YtdofpgniogochaaDoor
