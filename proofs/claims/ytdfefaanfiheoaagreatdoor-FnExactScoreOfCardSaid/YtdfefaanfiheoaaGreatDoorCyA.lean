/- Records of what has stranded, in company; where and when a bottle is released. -/
import Derived.Test.YtdfefaanfiheoaaGreatDoorProg
import Derived.Test.YtdfefaanfiheoaaGreatDoorCxK
import Derived.Test.YtdfefaanfiheoaaGreatDoorCxEachLand
import Derived.Test.YtdfefaanfiheoaaGreatDoorIsX
open _root_.Array renaming getElem?_setIfInBounds→jA
namespace Go.Proofs.YtdfefaanfiheoaaGreatDoor
open Go.ChangeShapes Go.WideShapes Go.ChangeAt Go.RowKit Ve Vc
open Tryz renaming prog → PZ
open IntKind (i64)
set_option linter.unusedVariables false
set_option linter.unusedSimpArgs false
set_option maxRecDepth 100000
noncomputable section
variable {F:Vc.Fd}
def Zhg:Con:=ansV PZ (mkΓ [(79,conG isCon)]) 1000 Tryz.f56 []
theorem Zhm:EntX PZ 56:=Zah (fn:=Tryz.f56) (by kernel_rfl) (by kernel_rfl) (by kernel_rfl)
theorem Zkv:Uac (md F) PZ 56 Zhg:=Zai (N:=1000) (by kernel_rfl) (mkΓ_consX (Zjk isCon_ok) Ykk mkΓ_nilX) (fn:=Tryz.f56) (by kernel_rfl) (by kernel_rfl) []
theorem Yad (N:Nat) (a0:Int):ansV PZ (mkΓ [(47,con Zb1)]) N Tryz.f74 [] [.i .i64 (a0)] []=(some (.a (.b ((Zaa a0 (1:Int) (14:Int)))),.none,true)):=by kernel_rfl
theorem Zxu (a0:Int) (h_a0:i64.min≤a0∧a0≤i64.max) (hg:(true)=true):ansV PZ (mkΓ [(47,con Zb1)]) 1000 Tryz.f74 [] [.i .i64 (a0)] []=some (.a (.b ((Zaa a0 (1:Int) (14:Int)))),.none,true):=by
 refine (Yad 1000 a0).trans ?_
 rfl
def Zlu:Con:=fun args h=>match args,h with
 | [.i .i64 a0],[]=>some (.a (.b ((Zaa a0 (1:Int) (14:Int)))),.none,true)
 | _,_=>none
theorem Zvk:EntX PZ 74:=Zah (fn:=Tryz.f74) (by kernel_rfl) (by kernel_rfl) (by kernel_rfl)
theorem Yct:Uac (md F) PZ 74 Zlu:=(Zai (N:=1000) (by kernel_rfl) (mkΓ_consX (Zae Zi5) Zga mkΓ_nilX) (fn:=Tryz.f74) (by kernel_rfl) (by kernel_rfl) []).of (by
 intro ρ h w args vals r e hA hH hr
 unfold Zlu at hr
 split at hr
 ·rename_i a0
  obtain ⟨rfl,rfl,hg2⟩:=BQi hr
  exact Zxu a0 (hA.rng 0 rfl) hg2
 ·cases hr)
theorem Ybh (N:Nat) (a0:Int):ansV PZ (mkΓ []) N Tryz.f95 [] [.i .i64 (a0)] []=(bif decide (a0 ≥ (1:Int)) then (some (.a (.b (decide (a0≤(14:Int)))),.none,true))
  else (some (.a (.b (false)),.none,true))):=by kernel_rfl
def Zfi (a0:Int):Bool:=(bif decide (a0 ≥ (1:Int)) then decide (a0≤(14:Int)) else false)
theorem Zzd (a0:Int) (h_a0:i64.min≤a0∧a0≤i64.max) (hg:(true)=true):ansV PZ (mkΓ []) 1000 Tryz.f95 [] [.i .i64 (a0)] []=some (.a (.b ((Zfi a0))),.none,true):=by
 refine (Ybh 1000 a0).trans ?_
 unfold Zfi
 revert hg
 generalize (decide (a0 ≥ (1:Int)))=b2
 intro hg
 cases b2
 ·skip
  first | (simp only [Q1,Q2,BQ6];done) | rfl | exact (nomatch (hg:false=true))
 ·skip
  first | (simp only [Q1,Q2,BQ6];done) | rfl | exact (nomatch (hg:false=true))
def Zk3:Con:=fun args h=>match args,h with
 | [.i .i64 a0],[]=>some (.a (.b ((Zfi a0))),.none,true)
 | _,_=>none
theorem Zwo:EntX PZ 95:=Zah (fn:=Tryz.f95) (by kernel_rfl) (by kernel_rfl) (by kernel_rfl)
theorem Ycl:Uac (md F) PZ 95 Zk3:=(Zai (N:=1000) (by kernel_rfl) mkΓ_nilX (fn:=Tryz.f95) (by kernel_rfl) (by kernel_rfl) []).of (by
 intro ρ h w args vals r e hA hH hr
 unfold Zk3 at hr
 split at hr
 ·rename_i a0
  obtain ⟨rfl,rfl,hg2⟩:=BQi hr
  exact Zzd a0 (hA.rng 0 rfl) hg2
 ·cases hr)
def Ztf:Cons:=(mkΓ [(51,con Zkt),(72,con Zbo),(73,con Zfo),(75,con Zk8)])
theorem Ybf (N:Nat) (a1 a2:Int) (a3:Bool) (a0:Array Value):ansV PZ Ztf N Tryz.f53 [] [.w 0,.i .i64 (a1),.i .i64 (a2),.b (a3)] [.row a0 37]=(bif (!((okS a0))) then (some (.a (.i .i64 (1:Int)),.none,true))
    else (bif (!((Zab a1 a0))) then (some (.a (.i .i64 (2:Int)),.none,true))
      else (bif (!((Zaa a2 (0:Int) (1:Int)))) then (some (.a (.i .i64 (2:Int)),.none,true))
        else (bif (!(a3)) then (some (.a (.i .i64 (2:Int)),.none,true))
          else (bif decide (0≤(IntKind.u64.wrap a1)) then (bif (Zag a1 a0) then (some (.a (.i .i64 (4:Int)),.none,true))
              else (some (.a (.i .i64 (0:Int)),.none,true)))
            else (none)))))):=by kernel_rfl
def Za5 (a1 a2:Int) (a3:Bool) (a0:Array Value):Int:=(bif (!((okS a0))) then (1:Int) else (bif (!((Zab a1 a0))) then (2:Int) else (bif (!((Zaa a2 (0:Int) (1:Int)))) then (2:Int) else (bif (!(a3)) then (2:Int) else (bif (Zag a1 a0) then (4:Int) else (0:Int))))))
def Zfj (a1 a2:Int) (a3:Bool) (a0:Array Value):Bool:=(bif (!((okS a0))) then true else (bif (!((Zab a1 a0))) then true else (bif (!((Zaa a2 (0:Int) (1:Int)))) then true else (bif (!(a3)) then true else decide (0≤(IntKind.u64.wrap a1))))))
theorem Zy5 (a1 a2:Int) (a3:Bool) (a0:Array Value) (h_a1:i64.min≤a1∧a1≤i64.max) (h_a2:i64.min≤a2∧a2≤i64.max) (h_a0:WT PZ 37 a0) (hg:((Zfj a1 a2 a3 a0))=true):ansV PZ Ztf 1000 Tryz.f53 [] [.w 0,.i .i64 (a1),.i .i64 (a2),.b (a3)] [.row a0 37]=some (.a (.i .i64 (Za5 a1 a2 a3 a0)),.none,true):=by
 refine (Ybf 1000 a1 a2 a3 a0).trans ?_
 unfold Zfj at hg
 unfold Za5
 revert hg
 generalize ((!((okS a0))))=b2
 intro hg
 cases b2
 ·skip
  revert hg
  generalize ((!((Zab a1 a0))))=b4
  intro hg
  cases b4
  ·skip
   revert hg
   generalize ((!((Zaa a2 (0:Int) (1:Int)))))=b6
   intro hg
   cases b6
   ·skip
    revert hg
    generalize ((!(a3)))=b8
    intro hg
    cases b8
    ·skip
     revert hg
     generalize (decide (0≤(IntKind.u64.wrap a1)))=b10
     intro hg
     cases b10
     ·skip
      first | exact (nomatch (hg:false=true)) | (simp only [Q1,Q2,BQ6];done) | rfl
     ·skip
      revert hg
      generalize ((Zag a1 a0))=b12
      intro hg
      cases b12
      ·skip
       first | (simp only [Q1,Q2,BQ6];done) | rfl | exact (nomatch (hg:false=true))
      ·skip
       first | (simp only [Q1,Q2,BQ6];done) | rfl | exact (nomatch (hg:false=true))
    ·skip
     first | (simp only [Q1,Q2,BQ6];done) | rfl | exact (nomatch (hg:false=true))
   ·skip
    first | (simp only [Q1,Q2,BQ6];done) | rfl | exact (nomatch (hg:false=true))
  ·skip
   first | (simp only [Q1,Q2,BQ6];done) | rfl | exact (nomatch (hg:false=true))
 ·skip
  first | (simp only [Q1,Q2,BQ6];done) | rfl | exact (nomatch (hg:false=true))
def Zlk:Con:=fun args h=>match args,h with
 | [.w 0,.i .i64 a1,.i .i64 a2,.b a3],[.row a0 37]=>some (.a (.i .i64 (Za5 a1 a2 a3 a0)),.none,(Zfj a1 a2 a3 a0))
 | _,_=>none
theorem Zw7:EntX PZ 53:=Zah (fn:=Tryz.f53) (by kernel_rfl) (by kernel_rfl) (by kernel_rfl)
theorem Yc2:Uac (md F) PZ 53 Zlk:=(Zai (N:=1000) (by kernel_rfl) (mkΓ_consX (Zae Zwi) Zpm (mkΓ_consX (Zae Zjt) Zge (mkΓ_consX (Zae Zku) Zhq (mkΓ_consX (Zae Ych) Zw9 mkΓ_nilX)))) (fn:=Tryz.f53) (by kernel_rfl) (by kernel_rfl) []).of (by
 intro ρ h w args vals r e hA hH hr
 unfold Zlk at hr
 split at hr
 ·rename_i a1 a2 a3 a0
  obtain ⟨rfl,rfl,hg2⟩:=BQi hr
  exact Zy5 a1 a2 a3 a0 (hA.rng 1 rfl) (hA.rng 2 rfl) (hH.wt 0 rfl) hg2
 ·cases hr)
theorem in_of {x a b:Int} (h:a≤x∧x≤b):Zaa x a b=true:=by
 unfold Zaa;rw [Q3 (show x ≥ a from h.1),Q3 h.2];rfl
theorem Zvf {S:Array Value} (hS:WT PZ 37 S) {c:Int} (hc:0≤c∧c≤35):Zac S c=Zag c S:=by
 obtain ⟨k,rfl⟩:=Int.eq_ofNat_of_zero_le hc.1
 exact Ymp hS (by omega)
theorem Ylm (c:Int):decide (0≤IntKind.u64.wrap c)=true:=Q3 (Zfh .u64 _).1
theorem from_gd (c b:Int) (f:Bool) (S:Array Value):Zfj c b f S=true:=by
 unfold Zfj
 rw [Ylm]
 cases okS S<;>cases Zab c S<;>cases Zaa b 0 1<;>cases f<;>rfl
def rl (S:Array Value) (c b:Int) (f:Bool):Bool:=Zab c S&&(Zaa b 0 1&&f)
theorem Yon (c b:Int) (f:Bool) (S:Array Value):Za5 c b f S=bif okS S then (bif rl S c b f then (bif Zag c S then 4 else 0) else 2) else 1:=by
 unfold Za5 rl
 cases okS S<;>cases Zab c S<;>cases Zaa b 0 1<;>cases f<;>rfl
theorem Yp0 {c b:Int} {f:Bool} {S:Array Value} (h:(Za5 c b f S != (0:Int))=false):okS S=true∧Zab c S=true∧Zaa b 0 1=true∧f=true∧Zag c S=false:=by
 rw [Yon] at h
 unfold rl at h
 cases h1:okS S<;>cases h2:Zab c S<;>cases h3:Zaa b 0 1<;>cases h4:f<;>cases h5:Zag c S<;>first | exact ⟨rfl,rfl,rfl,rfl,rfl⟩ | (exfalso;subst h4;rw [h1,h2,h3,h5] at h;revert h;decide)
def Zec:Cons:=(mkΓ [(80,con Zhr),(81,con Zgk),(82,con Zk9),(83,con Zbb)])
theorem Zex (N:Nat) (a0:Array Value) (a1 a2:Int) (a3:Bool) (g_e0 g_e1 g_e2 g_e3 g_e4:Addr):ansV PZ Zec N Tryz.f57 [] [.g a0 37,.i .i64 (a1),.i .i64 (a2),.b (a3)] [.gl 0 185 g_e0 101973,.gl 1 185 g_e1 93330,.gl 3 185 g_e2 124718,.gl 2 185 g_e3 112315,.gl 4 185 g_e4 94254]=(bif (!((okS a0))) then (some (.a (.e 0),.none,true))
    else (bif (!((Zam a0 a1))) then (some (.a (.e 1),.none,true))
      else (bif (!((Zcm a2))) then (some (.a (.e 1),.none,true))
        else (bif (!(a3)) then (some (.a (.e 1),.none,true))
          else (bif decide (0≤a1) then (bif (Zac a0 a1) then (some (.a (.e 2),.none,true))
              else (some (.a (.v (.nilIface)),.none,true)))
            else (none)))))):=by kernel_rfl
theorem Zpc (a0:Array Value) (a1 a2:Int) (a3:Bool) (g_e0 g_e1 g_e2 g_e3 g_e4:Addr) (h_a0:WT PZ 37 a0) (h_a1:i64.min≤a1∧a1≤i64.max) (h_a2:i64.min≤a2∧a2≤i64.max) (hc0:(okS a0)=false) (hg:(true)=true):ansV PZ Zec 1000 Tryz.f57 [] [.g a0 37,.i .i64 (a1),.i .i64 (a2),.b (a3)] [.gl 0 185 g_e0 101973,.gl 1 185 g_e1 93330,.gl 3 185 g_e2 124718,.gl 2 185 g_e3 112315,.gl 4 185 g_e4 94254]=some (.a (.e 0),.none,true):=by
 refine (Zex 1000 a0 a1 a2 a3 g_e0 g_e1 g_e2 g_e3 g_e4).trans ?_
 simp only [hc0,Bool.not_false,Q1]
theorem Zpe (a0:Array Value) (a1 a2:Int) (a3:Bool) (g_e0 g_e1 g_e2 g_e3 g_e4:Addr) (h_a0:WT PZ 37 a0) (h_a1:i64.min≤a1∧a1≤i64.max) (h_a2:i64.min≤a2∧a2≤i64.max) (hc0:(okS a0)=true) (hc1:(rl a0 a1 a2 a3)=false) (hg:(true)=true):ansV PZ Zec 1000 Tryz.f57 [] [.g a0 37,.i .i64 (a1),.i .i64 (a2),.b (a3)] [.gl 0 185 g_e0 101973,.gl 1 185 g_e1 93330,.gl 3 185 g_e2 124718,.gl 2 185 g_e3 112315,.gl 4 185 g_e4 94254]=some (.a (.e 1),.none,true):=by
 refine (Zex 1000 a0 a1 a2 a3 g_e0 g_e1 g_e2 g_e3 g_e4).trans ?_
 have ht:Zcm a2=Zaa a2 0 1:=Ykc a2
 rw [Zqa,ht]
 unfold rl at hc1
 rw [hc0]
 cases q1:Zab a1 a0 with
 | false=>rfl
 | true=>
  cases q2:Zaa a2 0 1 with
  | false=>rfl
  | true=>
   cases q3:a3 with
   | false=>rfl
   | true=>rw [q1,q2,q3] at hc1;cases hc1
theorem Zpg (a0:Array Value) (a1 a2:Int) (a3:Bool) (g_e0 g_e1 g_e2 g_e3 g_e4:Addr) (h_a0:WT PZ 37 a0) (h_a1:i64.min≤a1∧a1≤i64.max) (h_a2:i64.min≤a2∧a2≤i64.max) (hc0:(okS a0)=true) (hc1:(rl a0 a1 a2 a3)=true) (hc2:(Zag a1 a0)=false) (hg:(true)=true):ansV PZ Zec 1000 Tryz.f57 [] [.g a0 37,.i .i64 (a1),.i .i64 (a2),.b (a3)] [.gl 0 185 g_e0 101973,.gl 1 185 g_e1 93330,.gl 3 185 g_e2 124718,.gl 2 185 g_e3 112315,.gl 4 185 g_e4 94254]=some (.a (.v (.nilIface)),.none,true):=by
 refine (Zex 1000 a0 a1 a2 a3 g_e0 g_e1 g_e2 g_e3 g_e4).trans ?_
 have ht:Zcm a2=Zaa a2 0 1:=Ykc a2
 rw [Zqa,ht]
 unfold rl at hc1
 simp only [Q7] at hc1
 obtain ⟨q1,q2,q3⟩:=hc1
 have hr:=Zhl q1
 rw [hc0,q1,q2,q3,Zvf h_a0 hr,hc2,Q3 hr.1]
 rfl
theorem Zoq (a0:Array Value) (a1 a2:Int) (a3:Bool) (g_e0 g_e1 g_e2 g_e3 g_e4:Addr) (h_a0:WT PZ 37 a0) (h_a1:i64.min≤a1∧a1≤i64.max) (h_a2:i64.min≤a2∧a2≤i64.max) (hc0:(okS a0)=true) (hc1:(rl a0 a1 a2 a3)=true) (hc2:(Zag a1 a0)=true) (hg:(true)=true):ansV PZ Zec 1000 Tryz.f57 [] [.g a0 37,.i .i64 (a1),.i .i64 (a2),.b (a3)] [.gl 0 185 g_e0 101973,.gl 1 185 g_e1 93330,.gl 3 185 g_e2 124718,.gl 2 185 g_e3 112315,.gl 4 185 g_e4 94254]=some (.a (.e 2),.none,true):=by
 refine (Zex 1000 a0 a1 a2 a3 g_e0 g_e1 g_e2 g_e3 g_e4).trans ?_
 have ht:Zcm a2=Zaa a2 0 1:=Ykc a2
 rw [Zqa,ht]
 unfold rl at hc1
 simp only [Q7] at hc1
 obtain ⟨q1,q2,q3⟩:=hc1
 have hr:=Zhl q1
 rw [hc0,q1,q2,q3,Zvf h_a0 hr,hc2,Q3 hr.1]
 rfl
def Zay:SCon:=fun args h=>match args,h with
 | [.g a0 37,.i .i64 a1,.i .i64 a2,.b a3],[.gl 0 185 g_e0 101973,.gl 1 185 g_e1 93330,.gl 3 185 g_e2 124718,.gl 2 185 g_e3 112315,.gl 4 185 g_e4 94254]=>.two (okS a0) (.two (rl a0 a1 a2 a3) (.two (Zag a1 a0) (.one (some (.a (.e 2),.none,true))) (.one (some (.a (.v (.nilIface)),.none,true)))) (.one (some (.a (.e 1),.none,true)))) (.one (some (.a (.e 0),.none,true)))
 | _,_=>.one none
theorem Zdr:EntX PZ 57:=Zah (fn:=Tryz.f57) (by kernel_rfl) (by kernel_rfl) (by kernel_rfl)
theorem Ze2:Uac (md F) PZ 57 (fun args h=>Uap (Zay args h)):=by
 intro ρ h w args vals r e hn hr hA hH
 dsimp only at hr
 unfold Zay at hr
 split at hr
 ·rename_i a0 a1 a2 a3 g_e0 g_e1 g_e2 g_e3 g_e4
  simp only [Uap] at hr
  cases hc0:(okS a0)
  ·rw [hc0] at hr
   simp only [Uap,Q1,Q2] at hr
   obtain ⟨rfl,rfl,hg2⟩:=BQi hr
   exact ((Zai (N:=1000) (by kernel_rfl) (mkΓ_consX (Zae Zgi) Zea (mkΓ_consX (Zae Zfu) Zdi (mkΓ_consX (Zae Zjv) Zg2 (mkΓ_consX (Zae Zd0) Zb9 mkΓ_nilX)))) (fn:=Tryz.f57) (by kernel_rfl) (by kernel_rfl) [])) ρ _ w _ vals _ _ hn ((Zpc a0 a1 a2 a3 g_e0 g_e1 g_e2 g_e3 g_e4 (hA.wt 0 rfl) (hA.rng 1 rfl) (hA.rng 2 rfl) hc0 hg2)) hA hH
  ·rw [hc0] at hr
   simp only [Uap,Q1,Q2] at hr
   cases hc1:(rl a0 a1 a2 a3)
   ·rw [hc1] at hr
    simp only [Uap,Q1,Q2] at hr
    obtain ⟨rfl,rfl,hg2⟩:=BQi hr
    exact ((Zai (N:=1000) (by kernel_rfl) (mkΓ_consX (Zae Zgi) Zea (mkΓ_consX (Zae Zfu) Zdi (mkΓ_consX (Zae Zjv) Zg2 (mkΓ_consX (Zae Zd0) Zb9 mkΓ_nilX)))) (fn:=Tryz.f57) (by kernel_rfl) (by kernel_rfl) [])) ρ _ w _ vals _ _ hn ((Zpe a0 a1 a2 a3 g_e0 g_e1 g_e2 g_e3 g_e4 (hA.wt 0 rfl) (hA.rng 1 rfl) (hA.rng 2 rfl) hc0 hc1 hg2)) hA hH
   ·rw [hc1] at hr
    simp only [Uap,Q1,Q2] at hr
    cases hc2:(Zag a1 a0)
    ·rw [hc2] at hr
     simp only [Uap,Q1,Q2] at hr
     obtain ⟨rfl,rfl,hg2⟩:=BQi hr
     exact ((Zai (N:=1000) (by kernel_rfl) (mkΓ_consX (Zae Zgi) Zea (mkΓ_consX (Zae Zfu) Zdi (mkΓ_consX (Zae Zjv) Zg2 (mkΓ_consX (Zae Zd0) Zb9 mkΓ_nilX)))) (fn:=Tryz.f57) (by kernel_rfl) (by kernel_rfl) [])) ρ _ w _ vals _ _ hn ((Zpg a0 a1 a2 a3 g_e0 g_e1 g_e2 g_e3 g_e4 (hA.wt 0 rfl) (hA.rng 1 rfl) (hA.rng 2 rfl) hc0 hc1 hc2 hg2)) hA hH
    ·rw [hc2] at hr
     simp only [Uap,Q1,Q2] at hr
     obtain ⟨rfl,rfl,hg2⟩:=BQi hr
     exact ((Zai (N:=1000) (by kernel_rfl) (mkΓ_consX (Zae Zgi) Zea (mkΓ_consX (Zae Zfu) Zdi (mkΓ_consX (Zae Zjv) Zg2 (mkΓ_consX (Zae Zd0) Zb9 mkΓ_nilX)))) (fn:=Tryz.f57) (by kernel_rfl) (by kernel_rfl) [])) ρ _ w _ vals _ _ hn ((Zoq a0 a1 a2 a3 g_e0 g_e1 g_e2 g_e3 g_e4 (hA.wt 0 rfl) (hA.rng 1 rfl) (hA.rng 2 rfl) hc0 hc1 hc2 hg2)) hA hH
 ·simp only [Uap] at hr
  cases hr
theorem Zv6 (N:Nat) (a1 a2 a3:Int) (a0:Array Value):ansV PZ (mkΓ [(113,con Zhn)]) N Tryz.f103 [] [.w 0,.i .i64 (a1),.i .i64 (a2),.i .i64 (a3)] [.row a0 37]=(bif (decide (0≤a1)&&decide (a1<36)) then (bif (okS a0&&((decide (0≤num ((((zc PZ 132).setIfInBounds 0 (.int .i8 (IntKind.i8.wrap a2))).setIfInBounds 2 (.int .i64 (1:Int))).setIfInBounds (3+((a1).toNat*1)) (.int .i64 (1:Int))) 0)&&decide (num ((((zc PZ 132).setIfInBounds 0 (.int .i8 (IntKind.i8.wrap a2))).setIfInBounds 2 (.int .i64 (1:Int))).setIfInBounds (3+((a1).toNat*1)) (.int .i64 (1:Int))) 0<2))&&((decide (0≤num ((((zc PZ 132).setIfInBounds 0 (.int .i8 (IntKind.i8.wrap a2))).setIfInBounds 2 (.int .i64 (1:Int))).setIfInBounds (3+((a1).toNat*1)) (.int .i64 (1:Int))) 1)&&decide (num ((((zc PZ 132).setIfInBounds 0 (.int .i8 (IntKind.i8.wrap a2))).setIfInBounds 2 (.int .i64 (1:Int))).setIfInBounds (3+((a1).toNat*1)) (.int .i64 (1:Int))) 1≤14))&&(decide (0≤a3)&&decide (a3≤14))))) then (some (.a (.g (Uan PZ a0 ((((zc PZ 132).setIfInBounds 0 (.int .i8 (IntKind.i8.wrap a2))).setIfInBounds 2 (.int .i64 (1:Int))).setIfInBounds (3+((a1).toNat*1)) (.int .i64 (1:Int))) a3.toNat) 132),.none,true))
   else (none))
  else (none)):=by kernel_rfl
def oneX (P:Program) (c b:Int):Array Value:=(((zc P 132).setIfInBounds 0 (.int .i8 (IntKind.i8.wrap b))).setIfInBounds 2 (.int .i64 1)).setIfInBounds (3+c.toNat*1) (.int .i64 1)
theorem Zwh {c b:Int} (hb:0≤b∧b≤1) (hc:0≤c∧c≤35):num (oneX PZ c b) 0=b∧num (oneX PZ c b) 1=0∧(oneX PZ c b).size=40∧∀ i,i<36→num (oneX PZ c b) (3+i)=if i=c.toNat then 1 else 0:=by
 have hz:(zc PZ 132).size=40:=by kernel_rfl
 have hc0:(List.range 36).all (fun k=>match (zc PZ 132)[3+k]? with | some (.int .i64 0)=>true | _=>false)=true:=by kernel_rfl
 have h1:(zc PZ 132)[1]? = some (.int .i8 0):=by kernel_rfl
 unfold oneX
 refine ⟨?_, ?_,by simp [hz],fun i hi=> ?_⟩
 ·unfold num;rw [jA,if_neg (by omega),jA,if_neg (by omega),jA,if_pos rfl,if_pos (by omega)]
  exact IntWalk.i8_in _ (by omega)
 ·unfold num;rw [jA,if_neg (by omega),jA,if_neg (by omega),jA,if_neg (by omega),h1]
 ·unfold num
  rw [jA]
  by_cases e:i=c.toNat
  ·rw [if_pos (by omega),if_pos (by simp;omega),if_pos e]
  ·rw [if_neg (by omega),if_neg e,jA,if_neg (by omega),jA,if_neg (by omega)]
   have:=List.all_eq_true.1 hc0 i (List.mem_range.2 hi)
   split at this
   ·rename_i e2;rw [e2]
   ·cases this
theorem Ztp (a1 a2 a3:Int) (a0:Array Value) (h_a1:i64.min≤a1∧a1≤i64.max) (h_a2:i64.min≤a2∧a2≤i64.max) (h_a3:i64.min≤a3∧a3≤i64.max) (h_a0:WT PZ 37 a0) (hg:((okS a0&&((Zab a1 a0&&Zaa a2 0 1)&&Zaa a3 0 14)))=true):ansV PZ (mkΓ [(113,con Zhn)]) 1000 Tryz.f103 [] [.w 0,.i .i64 (a1),.i .i64 (a2),.i .i64 (a3)] [.row a0 37]=some (.a (.g (Uan PZ a0 (oneX PZ a1 a2) a3.toNat) 132),.none,true):=by
 simp only [Q7] at hg
 obtain ⟨hok,⟨his,htd⟩,hhr⟩:=hg
 have hc:=Zhl his
 have hb:=Zim htd
 have hh:=Zim hhr
 obtain ⟨n0,n1,_,_⟩:=Zwh (c:=a1) (b:=a2) hb hc
 refine (Zv6 1000 a1 a2 a3 a0).trans ?_
 unfold oneX at n0 n1
 rw [dec2 hc.1 (show a1<36 by omega),n0,n1,hok,dec2 hb.1 (show a2<2 by omega),Q3 hh.1,Q3 hh.2]
 rfl
def Zjb:Con:=fun args h=>match args,h with
 | [.w 0,.i .i64 a1,.i .i64 a2,.i .i64 a3],[.row a0 37]=>some (.a (.g (Uan PZ a0 (oneX PZ a1 a2) a3.toNat) 132),.none,(okS a0&&((Zab a1 a0&&Zaa a2 0 1)&&Zaa a3 0 14)))
 | _,_=>none
theorem Zsk:EntX PZ 103:=Zah (fn:=Tryz.f103) (by kernel_rfl) (by kernel_rfl) (by kernel_rfl)
theorem Zxz:Uac (md F) PZ 103 Zjb:=(Zai (N:=1000) (by kernel_rfl) (mkΓ_consX (Zae Yaq) Zt9 mkΓ_nilX) (fn:=Tryz.f103) (by kernel_rfl) (by kernel_rfl) []).of (by
 intro ρ h w args vals r e hA hH hr
 unfold Zjb at hr
 split at hr
 ·rename_i a1 a2 a3 a0
  obtain ⟨rfl,rfl,hg2⟩:=BQi hr
  exact Ztp a1 a2 a3 a0 (hA.rng 1 rfl) (hA.rng 2 rfl) (hA.rng 3 rfl) (hH.wt 0 rfl) hg2
 ·cases hr)
theorem Zyo (N:Nat) (a0 a1 a2:Int):ansV PZ (mkΓ []) N Tryz.f85 [] [.i .i64 (a0),.i .i64 (a1),.i .i64 (a2)] []=(bif (decide (0≤a0)&&decide (a0<36)) then (some (.a (.g ((((zc PZ 132).setIfInBounds 0 (.int .i8 (IntKind.i8.wrap a2))).setIfInBounds 2 (.int .i64 (a1))).setIfInBounds (3+((a0).toNat*1)) (.int .i64 (a1))) 132),.none,true))
  else (none)):=by kernel_rfl
def Zao (P:Program) (a0 a1 a2:Int):Array Value:=((((zc P 132).setIfInBounds 0 (.int .i8 (IntKind.i8.wrap a2))).setIfInBounds 2 (.int .i64 (a1))).setIfInBounds (3+((a0).toNat*1)) (.int .i64 (a1)))
theorem Zu1 (a0 a1 a2:Int) (h_a0:i64.min≤a0∧a0≤i64.max) (h_a1:i64.min≤a1∧a1≤i64.max) (h_a2:i64.min≤a2∧a2≤i64.max) (hg:((decide (0≤a0)&&decide (a0<36)))=true):ansV PZ (mkΓ []) 1000 Tryz.f85 [] [.i .i64 (a0),.i .i64 (a1),.i .i64 (a2)] []=some (.a (.g (Zao PZ a0 a1 a2) 132),.none,true):=by
 refine (Zyo 1000 a0 a1 a2).trans ?_
 unfold Zao
 revert hg
 generalize (decide (0≤a0))=b2
 intro hg
 cases b2
 ·skip
  first | exact (nomatch (hg:false=true)) | (simp only [Q1,Q2,BQ6];done) | rfl
 ·skip
  revert hg
  generalize (decide (a0<36))=b4
  intro hg
  cases b4
  ·skip
   first | exact (nomatch (hg:false=true)) | (simp only [Q1,Q2,BQ6];done) | rfl
  ·skip
   first | (simp only [Q1,Q2,BQ6];done) | rfl | exact (nomatch (hg:false=true))
def Zkc:Con:=fun args h=>match args,h with
 | [.i .i64 a0,.i .i64 a1,.i .i64 a2],[]=>some (.a (.g (Zao PZ a0 a1 a2) 132),.none,(decide (0≤a0)&&decide (a0<36)))
 | _,_=>none
theorem Zt6:EntX PZ 85:=Zah (fn:=Tryz.f85) (by kernel_rfl) (by kernel_rfl) (by kernel_rfl)
theorem Yat:Uac (md F) PZ 85 Zkc:=(Zai (N:=1000) (by kernel_rfl) mkΓ_nilX (fn:=Tryz.f85) (by kernel_rfl) (by kernel_rfl) []).of (by
 intro ρ h w args vals r e hA hH hr
 unfold Zkc at hr
 split at hr
 ·rename_i a0 a1 a2
  obtain ⟨rfl,rfl,hg2⟩:=BQi hr
  exact Zu1 a0 a1 a2 (hA.rng 0 rfl) (hA.rng 1 rfl) (hA.rng 2 rfl) hg2
 ·cases hr)
def Uep (X:Array Value) (r:Array Value) (k:Nat):Array Value:=r.setIfInBounds (k*1) (.int .i64 (num X (3+k*1)))
def Ubz (P:Program) (S X:Array Value):Array Value:=folds (fun r k=>if inC (num S 0) (num S 1) k&&Zac S (k:Int) then Uep X r k else r) (zc P 105) 36
def byV (P:Program) (S:Array Value) (c b:Int) (n:Nat):Array Value:=Ubz P S (Uan P S (oneX P c b) n)
def subF (D:Array Value) (m:Int) (r:Array Value) (k:Nat):Array Value:=r.setIfInBounds (k*1) (.int .i64 (i64.wrap (num r (k*1) - i64.wrap (num D (k*1)*m))))
def subV (C D:Array Value) (m:Int):Array Value:=folds (subF D m) C 36
def Zc6:Cons:=(mkΓx [] [(104,Zld)] [(114,Zg3)])
def Zd3 (a0 a1:Array Value):St:=(⟨.a (.g a0 37) :: .a (.g a1 132) :: .a (.w 0) :: .a (.w 1) :: .a (.w 2) :: .a (.w 3) :: .a (.u) :: .a (.g a0 37) :: .a (.c 114 [7])::us 8 ([]),[.row a0 37,.row a1 132,.row (zc PZ 105) 105,.row (zc PZ 105) 105,.no,.no,.no,.row a0 37,.no,.no,.no,.no],[]⟩:St)
def Zkq:Array Value→BS
 | r0_3=>([.row r0_3 105]:BS)
def Znq:Empty→Exit×BS:=fun x=>nomatch x
def Zgt (P:Program) (a0 a1:Array Value) (x0:Int):Array Value→Option (Stp (Array Value) Empty)
 | r0_3=>bif (decide (0≤x0)&&decide (x0<36)) then (bif (decide (0≤x0)&&decide (x0<36)) then (some (.more (r0_3.setIfInBounds ((x0).toNat*1) (.int .i64 (num a1 (3+((x0).toNat*1)))))))
   else (none))
  else (none)
theorem Yev (N:Nat) (a0 a1:Array Value) (x0:Int):∀ t:Array Value,Ud6 PZ Zc6 N (cAt (codeOf Tryz.f86) [1,1,0,1,0,0]) (pAt (Uaa (codeOf Tryz.f86) [([],[3])]).1 [1,1,0,1,0]) 12 [3] [9] [(6,9)] (Zd3 a0 a1) [.i .i64 (x0)] (Zkq t)=mapS Zkq Znq (Zgt PZ a0 a1 x0 t):=by
 rintro r0_3
 refine Eq.trans (b:=(bif (decide (0≤x0)&&decide (x0<36)) then (bif (decide (0≤x0)&&decide (x0<36)) then (some (.more ([.row (r0_3.setIfInBounds ((x0).toNat*1) (.int .i64 (num a1 (3+((x0).toNat*1))))) 105]:BS)))
   else (none))
  else (none))) (by kernel_rfl) ?_
 simp only [Zgt,Zas,Zat,Zar,Zaq,Zkq,Znq]
def Zla (P:Program) (N:Nat) (a0 a1:Array Value) (q0_3:Array Value):Option (SV×Eff×Bool):=some (.a (.g q0_3 105),.none,true)
theorem Zts (N:Nat) (a0 a1:Array Value) (q0_3:Array Value):(Uad 0 (kSeq (veC PZ Zc6 N (cAt (codeOf Tryz.f86) [1,1,1]) (pAt (Uaa (codeOf Tryz.f86) [([],[3])]).1 [1,1,1]) (SV×Eff×Bool)) (finK PZ [] [.cell 4 105]))) .normal (Ube [3] (Zd3 a0 a1) ([.row q0_3 105]:BS))=Zla PZ N a0 a1 q0_3:=by
 refine Eq.trans (b:=(some (.a (.g q0_3 105),.none,true))) (by kernel_rfl) ?_
 rfl
theorem Ye4 (N:Nat) (a0 a1:Array Value):Udd (Ua1 (fun (x0:Int) (hb:BS)=>Ud6 PZ Zc6 N (cAt (codeOf Tryz.f86) [1,1,0,1,0,0]) (pAt (Uaa (codeOf Tryz.f86) [([],[3])]).1 [1,1,0,1,0]) 12 [3] [9] [(6,9)] (Zd3 a0 a1) [.i .i64 (x0)] hb) ((Ual (num a0 0) (num a0 1) 36).filter (Zac a0)) ([.row (zc PZ 105) 105]:BS)) (fun hb=>(Uad 0 (kSeq (veC PZ Zc6 N (cAt (codeOf Tryz.f86) [1,1,1]) (pAt (Uaa (codeOf Tryz.f86) [([],[3])]).1 [1,1,1]) (SV×Eff×Bool)) (finK PZ [] [.cell 4 105]))) .normal (Ube [3] (Zd3 a0 a1) hb)) (fun e hb=>(Uad 0 (kSeq (veC PZ Zc6 N (cAt (codeOf Tryz.f86) [1,1,1]) (pAt (Uaa (codeOf Tryz.f86) [([],[3])]).1 [1,1,1]) (SV×Eff×Bool)) (finK PZ [] [.cell 4 105]))) e (Ube [3] (Zd3 a0 a1) hb))=Ue6 (Ua1 (Zgt PZ a0 a1) ((Ual (num a0 0) (num a0 1) 36).filter (Zac a0)) (zc PZ 105)) (fun x=>Zla PZ N a0 a1 x) (fun x:Empty=>nomatch x):=by
 refine Ydf Zkq Znq _ _ (fun y t=>Yev N a0 a1 y t) _ (zc PZ 105) _ _ _ _ ?_ ?_
 ·intro x;exact Zts N a0 a1 x
 ·intro x;exact nomatch x
theorem Ycw (N:Nat) (a0 a1:Array Value):ansV PZ Zc6 N Tryz.f86 [([],[3])] [.g a0 37,.g a1 132] []=(bif (decide (0≤num a0 0)&&decide (num a0 0≤6)&&(decide (0≤num a0 1)&&decide (num a0 1≤6))) then (Ue6 (Ua1 (Zgt PZ a0 a1) ((Ual (num a0 0) (num a0 1) 36).filter (Zac a0)) (zc PZ 105)) (fun x=>Zla PZ N a0 a1 x) (fun x:Empty=>nomatch x))
  else (none)):=by
 refine Eq.trans (b:=(bif (decide (0≤num a0 0)&&decide (num a0 0≤6)&&(decide (0≤num a0 1)&&decide (num a0 1≤6))) then (Udd (Ua1 (fun (x0:Int) (hb:BS)=>Ud6 PZ Zc6 N (cAt (codeOf Tryz.f86) [1,1,0,1,0,0]) (pAt (Uaa (codeOf Tryz.f86) [([],[3])]).1 [1,1,0,1,0]) 12 [3] [9] [(6,9)] (Zd3 a0 a1) [.i .i64 (x0)] hb) ((Ual (num a0 0) (num a0 1) 36).filter (Zac a0)) ([.row (zc PZ 105) 105]:BS)) (fun hb=>(Uad 0 (kSeq (veC PZ Zc6 N (cAt (codeOf Tryz.f86) [1,1,1]) (pAt (Uaa (codeOf Tryz.f86) [([],[3])]).1 [1,1,1]) (SV×Eff×Bool)) (finK PZ [] [.cell 4 105]))) .normal (Ube [3] (Zd3 a0 a1) hb)) (fun e hb=>(Uad 0 (kSeq (veC PZ Zc6 N (cAt (codeOf Tryz.f86) [1,1,1]) (pAt (Uaa (codeOf Tryz.f86) [([],[3])]).1 [1,1,1]) (SV×Eff×Bool)) (finK PZ [] [.cell 4 105]))) e (Ube [3] (Zd3 a0 a1) hb)))
  else (none))) (by kernel_rfl) ?_
 simp only [Ye4 N a0 a1]
theorem Zz3 (a0 a1:Array Value) (h_a0:WT PZ 37 a0) (h_a1:WT PZ 132 a1) (hg:(okS a0)=true):ansV PZ Zc6 1000 Tryz.f86 [([],[3])] [.g a0 37,.g a1 132] []=some (.a (.g (Ubz PZ a0 a1) 105),.none,true):=by
 refine (Ycw 1000 a0 a1).trans ?_
 rw [Yma hg,Q1]
 have h:=Ztr (X:=Empty) (g:=Zgt PZ a0 a1) (q:=Zac a0) (Uep a1) (wd:=num a0 0) (hi:=num a0 1) (fun r k hk hi hq=>by
  have h1:decide ((k:Int)<36)=true:=Q3 (by omega)
  have h0:decide (0≤(k:Int))=true:=Q3 (by omega)
  simp only [Zgt,h0,h1,Q9,Bool.and_self,Q1]
  rfl) (zc PZ 105)
 rw [h]
 rfl
def Znd:Con:=fun args h=>match args,h with
 | [.g a0 37,.g a1 132],[]=>some (.a (.g (Ubz PZ a0 a1) 105),.none,okS a0)
 | _,_=>none
theorem Zy6:EntX PZ 86:=Zah (fn:=Tryz.f86) (by kernel_rfl) (by kernel_rfl) (by kernel_rfl)
theorem Yep:Uac (md F) PZ 86 Znd:=(Zai (N:=1000) (by kernel_rfl) (mkΓx_nX Zyk Zul (mkΓx_iX Zue Zrm mkΓx_nilX)) (fn:=Tryz.f86) (by kernel_rfl) (by kernel_rfl) [([],[3])]).of (by
 intro ρ h w args vals r e hA hH hr
 unfold Znd at hr
 split at hr
 ·rename_i a0 a1
  obtain ⟨rfl,rfl,hg2⟩:=BQi hr
  exact Zz3 a0 a1 (hA.wt 0 rfl) (hA.wt 1 rfl) hg2
 ·cases hr)
def Zfx:Cons:=(mkΓ [(72,con Zbo),(73,con Zfo),(103,con Zjb)])
def Zht (a1 a2 a3:Int) (a0:Array Value):St:=(⟨.a (.w 0) :: .a (.i .i64 (a1)) :: .a (.i .i64 (a2)) :: .a (.i .i64 (a3))::us 4 (.a (.w 1) :: .a (.w 7) :: .a (.w 10) :: .a (.i .i64 (0:Int)) :: .a (.w 0) :: .a (.i .i64 (a1)) :: .a (.i .i64 (a2)) :: .a (.i .i64 (a3)) :: .a (.g (Uan PZ a0 (oneX PZ a1 a2) a3.toNat) 132) :: .a (.g (zc PZ 105) 105)::us 19 ([])),[.row a0 37,.row (zc PZ 105) 105,.no,.no,.no,.no,.no,.row (Uan PZ a0 (oneX PZ a1 a2) a3.toNat) 132,.no,.no,.row (zc PZ 105) 105,.no],[10,7]⟩:St)
def Zjp:Int×Array Value→LS
 | (y0_11,r0_10)=>([.a (.i .i64 (y0_11))],[.row r0_10 105])
def Zpf:Int×Array Value→Exit×LS
 | t=>((.exit 0),Zjp t)
def Zew (P : Program) (a1 a2 a3 : Int) (a0 : Array Value) : Int × Array Value → Option (Stp (Int × Array Value) (Int × Array Value))
 | (y0_11, r0_10) => bif decide (y0_11 < (36 : Int)) then (bif (Zab y0_11 a0) then (bif decide (0 ≤ (IntKind.u64.wrap y0_11)) then (bif (Zag y0_11 a0) then (bif (decide (0 ≤ y0_11) && decide (y0_11 < 36)) then (bif (decide (0 ≤ y0_11) && decide (y0_11 < 36)) then (some (.more ((i64.wrap (y0_11 + (1 : Int))), (r0_10.setIfInBounds ((y0_11).toNat * 1) (.int .i64 (num (Uan PZ a0 (oneX PZ a1 a2) a3.toNat) (3 + ((y0_11).toNat * 1))))))))
       else (none))
      else (none))
     else (some (.more ((i64.wrap (y0_11 + (1 : Int))), r0_10))))
    else (none))
   else (some (.more ((i64.wrap (y0_11 + (1 : Int))), r0_10))))
  else (some (.done (y0_11, r0_10)))
theorem Ygr (N:Nat) (a1 a2 a3:Int) (a0:Array Value):∀ t:Int×Array Value,Uag PZ Zfx N (cAt (codeOf Tryz.f84) [1,1,1,0,1,0,0]) (pAt (Uaa (codeOf Tryz.f84) [([11],[10])]).1 [1,1,1,0,1,0]) [11] [10] (Zht a1 a2 a3 a0) (Zjp t)=mapS Zjp Zpf (Zew PZ a1 a2 a3 a0 t):=by
 rintro ⟨y0_11,r0_10⟩
 refine Eq.trans (b:=(bif decide (y0_11<(36:Int)) then (bif (Zab y0_11 a0) then (bif decide (0≤(IntKind.u64.wrap y0_11)) then (bif (Zag y0_11 a0) then (bif (decide (0≤y0_11)&&decide (y0_11<36)) then (bif (decide (0≤y0_11)&&decide (y0_11<36)) then (some (.more ([.a (.i .i64 (i64.wrap (y0_11+(1:Int))))],[.row (r0_10.setIfInBounds ((y0_11).toNat*1) (.int .i64 (num (Uan PZ a0 (oneX PZ a1 a2) a3.toNat) (3+((y0_11).toNat*1))))) 105])))
       else (none))
      else (none))
     else (some (.more ([.a (.i .i64 (i64.wrap (y0_11+(1:Int))))],[.row r0_10 105]))))
    else (none))
   else (some (.more ([.a (.i .i64 (i64.wrap (y0_11+(1:Int))))],[.row r0_10 105]))))
  else (some (.done ((.exit 0),([.a (.i .i64 (y0_11))],[.row r0_10 105])))))) (by kernel_rfl) ?_
 simp only [Zew,Zas,Zat,Zar,Zaq,Zjp,Zpf]
def Zm5 (P:Program) (N:Nat) (a1 a2 a3:Int) (a0:Array Value) (z0_11:Int) (q0_10:Array Value):Option (SV×Eff×Bool):=some (.a (.g q0_10 105),.none,true)
theorem Zvp (N:Nat) (a1 a2 a3:Int) (a0:Array Value) (z0_11:Int) (q0_10:Array Value):(Uad 0 (kSeq (veC PZ Zfx N (cAt (codeOf Tryz.f84) [1,1,1,1]) (pAt (Uaa (codeOf Tryz.f84) [([11],[10])]).1 [1,1,1,1]) (SV×Eff×Bool)) (finK PZ [.row a0 37] [.cell 8 105]))) (.exit 0) (left (writes (cAt (codeOf Tryz.f84) [1,1,1,0,1,0,0])) [11] [10] (Zht a1 a2 a3 a0) ([.a (.i .i64 (z0_11))],[.row q0_10 105]))=Zm5 PZ N a1 a2 a3 a0 z0_11 q0_10:=by
 refine Eq.trans (b:=(some (.a (.g q0_10 105),.none,true))) (by kernel_rfl) ?_
 rfl
theorem Ygl (N:Nat) (a1 a2 a3:Int) (a0:Array Value):Uah (Uab (Uag PZ Zfx N (cAt (codeOf Tryz.f84) [1,1,1,0,1,0,0]) (pAt (Uaa (codeOf Tryz.f84) [([11],[10])]).1 [1,1,1,0,1,0]) [11] [10] (Zht a1 a2 a3 a0)) N ([.a (.i .i64 (0:Int))],[.row (zc PZ 105) 105])) (fun e s=>(Uad 0 (kSeq (veC PZ Zfx N (cAt (codeOf Tryz.f84) [1,1,1,1]) (pAt (Uaa (codeOf Tryz.f84) [([11],[10])]).1 [1,1,1,1]) (SV×Eff×Bool)) (finK PZ [.row a0 37] [.cell 8 105]))) e (left (writes (cAt (codeOf Tryz.f84) [1,1,1,0,1,0,0])) [11] [10] (Zht a1 a2 a3 a0) s))=Uai (Uab (Zew PZ a1 a2 a3 a0) N ((0:Int),(zc PZ 105))) (fun x=>Zm5 PZ N a1 a2 a3 a0 x.1 x.2):=by
 refine Zav Zjp Zpf _ _ (Ygr N a1 a2 a3 a0) N ((0:Int),(zc PZ 105)) _ _ ?_
 intro x;exact Zvp N a1 a2 a3 a0 x.1 x.2
theorem Yfb (N:Nat) (a1 a2 a3:Int) (a0:Array Value):ansV PZ Zfx N Tryz.f84 [([11],[10])] [.w 0,.i .i64 (a1),.i .i64 (a2),.i .i64 (a3)] [.row a0 37]=(bif (okS a0&&((Zab a1 a0&&Zaa a2 0 1)&&Zaa a3 0 14)) then (Uai (Uab (Zew PZ a1 a2 a3 a0) N ((0:Int),(zc PZ 105))) (fun x=>Zm5 PZ N a1 a2 a3 a0 x.1 x.2))
  else (none)):=by
 refine Eq.trans (b:=(bif (okS a0&&((Zab a1 a0&&Zaa a2 0 1)&&Zaa a3 0 14)) then (Uah (Uab (Uag PZ Zfx N (cAt (codeOf Tryz.f84) [1,1,1,0,1,0,0]) (pAt (Uaa (codeOf Tryz.f84) [([11],[10])]).1 [1,1,1,0,1,0]) [11] [10] (Zht a1 a2 a3 a0)) N ([.a (.i .i64 (0:Int))],[.row (zc PZ 105) 105])) (fun e s=>(Uad 0 (kSeq (veC PZ Zfx N (cAt (codeOf Tryz.f84) [1,1,1,1]) (pAt (Uaa (codeOf Tryz.f84) [([11],[10])]).1 [1,1,1,1]) (SV×Eff×Bool)) (finK PZ [.row a0 37] [.cell 8 105]))) e (left (writes (cAt (codeOf Tryz.f84) [1,1,1,0,1,0,0])) [11] [10] (Zht a1 a2 a3 a0) s)))
  else (none))) (by kernel_rfl) ?_
 simp only [Ygl N a1 a2 a3 a0]
theorem Ycm (a1 a2 a3:Int) (a0:Array Value) (h_a1:i64.min≤a1∧a1≤i64.max) (h_a2:i64.min≤a2∧a2≤i64.max) (h_a3:i64.min≤a3∧a3≤i64.max) (h_a0:WT PZ 37 a0) (hg:((okS a0&&((Zab a1 a0&&Zaa a2 0 1)&&Zaa a3 0 14)))=true):ansV PZ Zfx 1000 Tryz.f84 [([11],[10])] [.w 0,.i .i64 (a1),.i .i64 (a2),.i .i64 (a3)] [.row a0 37]=some (.a (.g (byV PZ a0 a1 a2 a3.toNat) 105),.none,true):=by
 refine (Yfb 1000 a1 a2 a3 a0).trans ?_
 rw [hg,Q1]
 have h:=Zhu (g:=Zew PZ a1 a2 a3 a0) (fun r k=>((k:Int),r)) (fun r k=>if inC (num a0 0) (num a0 1) k&&Zac a0 (k:Int) then Uep (Uan PZ a0 (oneX PZ a1 a2) a3.toNat) r k else r) (m:=36) (t:=zc PZ 105) (x:=((36:Int),byV PZ a0 a1 a2 a3.toNat)) (N:=1000) (fun k s hk _=>by
  have h1:decide ((k:Int)<36)=true:=Q3 (by omega)
  have h0:decide (0≤(k:Int))=true:=Q3 (by omega)
  have h3:i64.wrap ((k:Int)+1)=((k+1:Nat):Int):=by rw [w64 (by omega)];omega
  rw [Ymp h_a0 hk]
  simp only [Zew,h1,h0,h3,Yjt h_a0 hk,Ylm,Q9,Bool.and_self,Q1]
  cases inC (num a0 0) (num a0 1) k with
  | false=>rfl
  | true=>cases Zag (k:Int) a0<;>rfl) (by
  have h1:decide (((36:Nat):Int)<36)=false:=by decide
  simp only [Zew,h1,Q2]
  rfl) (by omega)
 have h':Uab (Zew PZ a1 a2 a3 a0) 1000 ((0:Int),(zc PZ 105))=some ((36:Int),byV PZ a0 a1 a2 a3.toNat):=h
 rw [h']
 rfl
def Zcc:Con:=fun args h=>match args,h with
 | [.w 0,.i .i64 a1,.i .i64 a2,.i .i64 a3],[.row a0 37]=>some (.a (.g (byV PZ a0 a1 a2 a3.toNat) 105),.none,(okS a0&&((Zab a1 a0&&Zaa a2 0 1)&&Zaa a3 0 14)))
 | _,_=>none
theorem Yaf:EntX PZ 84:=Zah (fn:=Tryz.f84) (by kernel_rfl) (by kernel_rfl) (by kernel_rfl)
theorem Yhr:Uac (md F) PZ 84 Zcc:=(Zai (N:=1000) (by kernel_rfl) (mkΓ_consX (Zae Zjt) Zge (mkΓ_consX (Zae Zku) Zhq (mkΓ_consX (Zae Zxz) Zsk mkΓ_nilX))) (fn:=Tryz.f84) (by kernel_rfl) (by kernel_rfl) [([11],[10])]).of (by
 intro ρ h w args vals r e hA hH hr
 unfold Zcc at hr
 split at hr
 ·rename_i a1 a2 a3 a0
  obtain ⟨rfl,rfl,hg2⟩:=BQi hr
  exact Ycm a1 a2 a3 a0 (hA.rng 1 rfl) (hA.rng 2 rfl) (hA.rng 3 rfl) (hH.wt 0 rfl) hg2
 ·cases hr)
theorem Ybs:(zc PZ 105).size=36:=by kernel_rfl
theorem Ypy:bytesOf PZ 105=288:=by kernel_rfl
theorem Ykx (P:Program) (T:TypeId) {r:Array Value} (h:r.size=(zc P T).size):spl (repC (zc P T) 1) 0 r.toList=r:=by
 have e:repC (zc P T) 1=zc P T:=by unfold repC repL repL;simp
 rw [e];exact Yhs h
theorem Zyf (S X:Array Value):(Ubz PZ S X).size=36:=by
 unfold Ubz
 refine Zi9 (fun _ (r:Array Value)=>r.size=36) Ybs (fun k s _ hs=> ?_) 36 (Nat.le_refl _)
 unfold Uep
 split
 ·rw [Array.size_setIfInBounds];exact hs
 ·exact hs
theorem Zor (S:Array Value) (c b:Int) (n:Nat):(byV PZ S c b n).size=36:=Zyf _ _
theorem Yok {c b:Int} (hc:0≤c∧c≤35):WT PZ 132 (oneX PZ c b):=by
 have o1:i64.min≤(1:Int)∧(1:Int)≤i64.max:=by
  have e1:i64.min = -9223372036854775808:=rfl
  have e2:i64.max=9223372036854775807:=rfl
  omega
 unfold oneX
 exact Zmz (k:=.i64) (Zmz (k:=.i64) (Zmz (k:=.i8) (WT.zero (by kernel_rfl)) Yd2.1 (Zfh .i8 _)) (Znb (by omega) (by omega)) o1) (Znb (by omega) (by omega)) o1
theorem Ypg {S:Array Value} {c b:Int} (hc:Zab c S=true) (hb:Zaa b 0 1=true):(0≤num (oneX PZ c b) 0∧num (oneX PZ c b) 0<2)∧(0≤num (oneX PZ c b) 1∧num (oneX PZ c b) 1≤14):=by
 have h1:=Zim hb
 obtain ⟨n0,n1,_,_⟩:=Zwh (c:=c) (b:=b) h1 (Zhl hc)
 rw [n0,n1]
 omega
theorem one_zero {S:Array Value} (hS:WT PZ 37 S) {c b:Int} (hc:Zab c S=true) (hb:Zaa b 0 1=true):ZO S (oneX PZ c b):=by
 intro k hk hf
 have hr:=Zhl hc
 rw [(Zwh (c:=c) (b:=b) (Zim hb) hr).2.2.2 k hk,if_neg]
 intro e
 have hkc:(k:Int)=c:=by omega
 rw [← hkc,Yjt hS hk,hf] at hc
 cases hc
theorem one_go {S:Array Value} (hS:WT PZ 37 S) (hok:okS S=true) {c b:Int} (hc:Zab c S=true) (hb:Zaa b 0 1=true) {j:Nat} (hj:j≤14):goG S (Uan PZ S (oneX PZ c b) j)=true:=by
 obtain ⟨l0,l1⟩:=Ypg hc hb
 have hl:=Ydk (S:=S) l0 l1 j hj
 have n1:=(Zwh (c:=c) (b:=b) (Zim hb) (Zhl hc)).2.1
 exact Ypi.2 ⟨hok,by rw [hl.1];exact l0,by rw [hl.2,n1];omega,Ym1 (Yok (Zhl hc)) hok hS (one_zero hS hc hb) j⟩
def recC (P:Program) (S:Array Value) (c b:Int):Nat→Array Value
 | 0=>byV P S c b 0
 | n+1=>recC P S c b n++byV P S c b (n+1)
theorem Yh3 (S:Array Value) (c b:Int):∀ n,(recC PZ S c b n).size=(n+1)*36
 | 0=>Zor _ _ _ _
 | n+1=>by rw [recC,Array.size_append,Yh3 S c b n,Zor];omega
theorem Ykb (S:Array Value) (c b:Int):∀ (n j:Nat),j≤n→(recC PZ S c b n).extract (j*36) (j*36+36)=byV PZ S c b j
 | 0,j,hj=>by
  obtain rfl:j=0:=by omega
  rw [recC];exact Zm1 (Zor _ _ _ _)
 | n+1,j,hj=>by
  have hz:=Yh3 S c b n
  by_cases h:j≤n
  ·rw [← Ykb S c b n j h,recC]
   refine Array.ext_getElem? fun i=> ?_
   rw [Array.getElem?_extract,Array.getElem?_extract,Array.size_append,hz,Zor]
   by_cases hi:i<min (j*36+36) ((n+1)*36) - j*36
   ·rw [if_pos (by omega),if_pos hi,Array.getElem?_append,if_pos (by omega)]
   ·rw [if_neg (by omega),if_neg hi]
  ·obtain rfl:j=n+1:=by omega
   rw [recC]
   refine Array.ext_getElem? fun i=> ?_
   rw [Array.getElem?_extract,Array.size_append,hz,Zor]
   by_cases hi:i<36
   ·rw [if_pos (by omega),Array.getElem?_append,if_neg (by omega),hz,show (n+1)*36+i - (n+1)*36=i by omega]
   ·rw [if_neg (by omega),Array.getElem?_eq_none (by rw [Zor];omega)]
theorem num_sub1 (a:Int) (h:1≤a∧a≤14):i64.wrap (a - 1)=a - 1∧(i64.wrap (a - 1)).toNat=a.toNat - 1:=by
 rw [w64 (by omega)];omega
def Zhv (a1 a2 a3:Int) (a0:Array Value):St:=(⟨.a (.w 0) :: .a (.i .i64 (a1)) :: .a (.i .i64 (a2)) :: .a (.i .i64 (a3))::us 4 (.a (.w 1) :: .a (.w 7) :: .a (.w 15) :: .a (.i .i64 (0:Int)) :: .a (.w 0) :: .a (.i .i64 (a1)) :: .a (.i .i64 (a2)) :: .a (.i .i64 (a3)) :: .a (.g (byV PZ a0 a1 a2 a3.toNat) 105) :: .a (.w 0) :: .a (.i .i64 (a1)) :: .a (.i .i64 (a2)) :: .a (.i .i64 (a3)) :: .a (.i .i64 (i64.wrap (a3 - (1:Int)))) :: .a (.g (byV PZ a0 a1 a2 (i64.wrap (a3 - (1:Int))).toNat) 105)::us 14 ([])),[.row a0 37,.row (zc PZ 105) 105,.no,.no,.no,.no,.no,.row (byV PZ a0 a1 a2 a3.toNat) 105,.no,.no,.no,.no,.no,.no,.no,.row (byV PZ a0 a1 a2 (i64.wrap (a3 - (1:Int))).toNat) 105,.no],[15,7]⟩:St)
def Zja:Int×Array Value→LS
 | (y0_11,r0_7)=>([.a (.i .i64 (y0_11))],[.row r0_7 105])
def Zpb:Int×Array Value→Exit×LS
 | t=>((.exit 0),Zja t)
def Zdz (P : Program) (a1 a2 a3 : Int) (a0 : Array Value) : Int × Array Value → Option (Stp (Int × Array Value) (Int × Array Value))
 | (y0_11, r0_7) => bif decide (y0_11 < (36 : Int)) then (bif (decide (0 ≤ y0_11) && decide (y0_11 < 36)) then (bif (decide (0 ≤ y0_11) && decide (y0_11 < 36)) then (bif (decide (0 ≤ y0_11) && decide (y0_11 < 36)) then (some (.more ((i64.wrap (y0_11 + (1 : Int))), (r0_7.setIfInBounds ((y0_11).toNat * 1) (.int .i64 (i64.wrap ((num r0_7 ((y0_11).toNat * 1)) - (i64.wrap ((12 : Int) * (num (byV PZ a0 a1 a2 (i64.wrap (a3 - (1 : Int))).toNat) ((y0_11).toNat * 1)))))))))))
     else (none))
    else (none))
   else (none))
  else (some (.done (y0_11, r0_7)))
theorem Yhg (N:Nat) (a1 a2 a3:Int) (a0:Array Value):∀ t:Int×Array Value,Uag PZ (mkΓ [(84,con Zcc)]) N (cAt (codeOf Tryz.f59) [1,1,1,0,1,0,0]) (pAt (Uaa (codeOf Tryz.f59) [([11],[7])]).1 [1,1,1,0,1,0]) [11] [7] (Zhv a1 a2 a3 a0) (Zja t)=mapS Zja Zpb (Zdz PZ a1 a2 a3 a0 t):=by
 rintro ⟨y0_11,r0_7⟩
 refine Eq.trans (b:=(bif decide (y0_11<(36:Int)) then (bif (decide (0≤y0_11)&&decide (y0_11<36)) then (bif (decide (0≤y0_11)&&decide (y0_11<36)) then (bif (decide (0≤y0_11)&&decide (y0_11<36)) then (some (.more ([.a (.i .i64 (i64.wrap (y0_11+(1:Int))))],[.row (r0_7.setIfInBounds ((y0_11).toNat*1) (.int .i64 (i64.wrap ((num r0_7 ((y0_11).toNat*1)) - (i64.wrap ((12:Int)*(num (byV PZ a0 a1 a2 (i64.wrap (a3 - (1:Int))).toNat) ((y0_11).toNat*1)))))))) 105])))
     else (none))
    else (none))
   else (none))
  else (some (.done ((.exit 0),([.a (.i .i64 (y0_11))],[.row r0_7 105])))))) (by kernel_rfl) ?_
 simp only [Zdz,Zas,Zat,Zar,Zaq,Zja,Zpb]
def Zju (P:Program) (N:Nat) (a1 a2 a3:Int) (a0:Array Value) (z0_11:Int) (q0_7:Array Value):Option (SV×Eff×Bool):=some (.a (.g q0_7 105),.none,true)
theorem Zwy (N:Nat) (a1 a2 a3:Int) (a0:Array Value) (z0_11:Int) (q0_7:Array Value):(Uad 0 (kSeq (veC PZ (mkΓ [(84,con Zcc)]) N (cAt (codeOf Tryz.f59) [1,1,1,1]) (pAt (Uaa (codeOf Tryz.f59) [([11],[7])]).1 [1,1,1,1]) (SV×Eff×Bool)) (finK PZ [.row a0 37] [.cell 8 105]))) (.exit 0) (left (writes (cAt (codeOf Tryz.f59) [1,1,1,0,1,0,0])) [11] [7] (Zhv a1 a2 a3 a0) ([.a (.i .i64 (z0_11))],[.row q0_7 105]))=Zju PZ N a1 a2 a3 a0 z0_11 q0_7:=by
 refine Eq.trans (b:=(some (.a (.g q0_7 105),.none,true))) (by kernel_rfl) ?_
 rfl
theorem Yg5 (N:Nat) (a1 a2 a3:Int) (a0:Array Value):Uah (Uab (Uag PZ (mkΓ [(84,con Zcc)]) N (cAt (codeOf Tryz.f59) [1,1,1,0,1,0,0]) (pAt (Uaa (codeOf Tryz.f59) [([11],[7])]).1 [1,1,1,0,1,0]) [11] [7] (Zhv a1 a2 a3 a0)) N ([.a (.i .i64 (0:Int))],[.row (byV PZ a0 a1 a2 a3.toNat) 105])) (fun e s=>(Uad 0 (kSeq (veC PZ (mkΓ [(84,con Zcc)]) N (cAt (codeOf Tryz.f59) [1,1,1,1]) (pAt (Uaa (codeOf Tryz.f59) [([11],[7])]).1 [1,1,1,1]) (SV×Eff×Bool)) (finK PZ [.row a0 37] [.cell 8 105]))) e (left (writes (cAt (codeOf Tryz.f59) [1,1,1,0,1,0,0])) [11] [7] (Zhv a1 a2 a3 a0) s))=Uai (Uab (Zdz PZ a1 a2 a3 a0) N ((0:Int),(byV PZ a0 a1 a2 a3.toNat))) (fun x=>Zju PZ N a1 a2 a3 a0 x.1 x.2):=by
 refine Zav Zja Zpb _ _ (Yhg N a1 a2 a3 a0) N ((0:Int),(byV PZ a0 a1 a2 a3.toNat)) _ _ ?_
 intro x;exact Zwy N a1 a2 a3 a0 x.1 x.2
theorem Yfg (N:Nat) (a1 a2 a3:Int) (a0:Array Value):ansV PZ (mkΓ [(84,con Zcc)]) N Tryz.f59 [([11],[7])] [.w 0,.i .i64 (a1),.i .i64 (a2),.i .i64 (a3)] [.row a0 37]=(bif (okS a0&&((Zab a1 a0&&Zaa a2 0 1)&&Zaa a3 0 14)) then (bif (okS a0&&((Zab a1 a0&&Zaa a2 0 1)&&Zaa (i64.wrap (a3 - (1:Int))) 0 14)) then (Uai (Uab (Zdz PZ a1 a2 a3 a0) N ((0:Int),(byV PZ a0 a1 a2 a3.toNat))) (fun x=>Zju PZ N a1 a2 a3 a0 x.1 x.2))
   else (none))
  else (none)):=by
 refine Eq.trans (b:=(bif (okS a0&&((Zab a1 a0&&Zaa a2 0 1)&&Zaa a3 0 14)) then (bif (okS a0&&((Zab a1 a0&&Zaa a2 0 1)&&Zaa (i64.wrap (a3 - (1:Int))) 0 14)) then (Uah (Uab (Uag PZ (mkΓ [(84,con Zcc)]) N (cAt (codeOf Tryz.f59) [1,1,1,0,1,0,0]) (pAt (Uaa (codeOf Tryz.f59) [([11],[7])]).1 [1,1,1,0,1,0]) [11] [7] (Zhv a1 a2 a3 a0)) N ([.a (.i .i64 (0:Int))],[.row (byV PZ a0 a1 a2 a3.toNat) 105])) (fun e s=>(Uad 0 (kSeq (veC PZ (mkΓ [(84,con Zcc)]) N (cAt (codeOf Tryz.f59) [1,1,1,1]) (pAt (Uaa (codeOf Tryz.f59) [([11],[7])]).1 [1,1,1,1]) (SV×Eff×Bool)) (finK PZ [.row a0 37] [.cell 8 105]))) e (left (writes (cAt (codeOf Tryz.f59) [1,1,1,0,1,0,0])) [11] [7] (Zhv a1 a2 a3 a0) s)))
   else (none))
  else (none))) (by kernel_rfl) ?_
 simp only [Yg5 N a1 a2 a3 a0]
theorem Yb1 (a1 a2 a3:Int) (a0:Array Value) (h_a1:i64.min≤a1∧a1≤i64.max) (h_a2:i64.min≤a2∧a2≤i64.max) (h_a3:i64.min≤a3∧a3≤i64.max) (h_a0:WT PZ 37 a0) (hg:((okS a0&&((Zab a1 a0&&Zaa a2 0 1)&&Zaa a3 1 14)))=true):ansV PZ (mkΓ [(84,con Zcc)]) 1000 Tryz.f59 [([11],[7])] [.w 0,.i .i64 (a1),.i .i64 (a2),.i .i64 (a3)] [.row a0 37]=some (.a (.g (subV (byV PZ a0 a1 a2 a3.toNat) (byV PZ a0 a1 a2 (a3.toNat - 1)) 12) 105),.none,true):=by
 simp only [Q7] at hg
 obtain ⟨q0,⟨q1,q2⟩,q3⟩:=hg
 have r3:=Zim q3
 obtain ⟨e1,e2⟩:=num_sub1 a3 r3
 refine (Yfg 1000 a1 a2 a3 a0).trans ?_
 rw [q0,q1,q2,in_of (x:=a3) (a:=0) (b:=14) (by omega),in_of (x:=i64.wrap (a3 - 1)) (a:=0) (b:=14) (by omega)]
 simp only [Bool.and_self,Q1]
 have h:=Zhu (g:=Zdz PZ a1 a2 a3 a0) (fun r k=>((k:Int),r)) (subF (byV PZ a0 a1 a2 (a3.toNat - 1)) 12) (m:=36) (t:=byV PZ a0 a1 a2 a3.toNat) (x:=((36:Int),subV (byV PZ a0 a1 a2 a3.toNat) (byV PZ a0 a1 a2 (a3.toNat - 1)) 12)) (N:=1000) (fun k s hk _=>by
  have h1:decide ((k:Int)<36)=true:=Q3 (by omega)
  have h0:decide (0≤(k:Int))=true:=Q3 (by omega)
  have h3:i64.wrap ((k:Int)+1)=((k+1:Nat):Int):=by rw [w64 (by omega)];omega
  simp only [Zdz,h1,h0,h3,e2,Q9,Bool.and_self,Q1]
  unfold subF
  rw [Int.mul_comm (12:Int)]) (by
  have h1:decide (((36:Nat):Int)<36)=false:=by decide
  simp only [Zdz,h1,Q2]
  rfl) (by omega)
 have hq:∀ q,Uab (Zdz PZ a1 a2 a3 a0) 1000 ((0:Int),byV PZ a0 a1 a2 a3.toNat)=some ((36:Int),q)→Uai (Uab (Zdz PZ a1 a2 a3 a0) 1000 ((0:Int),byV PZ a0 a1 a2 a3.toNat)) (fun x=>Zju PZ 1000 a1 a2 a3 a0 x.1 x.2)=some (.a (.g q 105),.none,true):=fun q e=>by rw [e];rfl
 exact hq _ h
def Znt:Con:=fun args h=>match args,h with
 | [.w 0,.i .i64 a1,.i .i64 a2,.i .i64 a3],[.row a0 37]=>some (.a (.g (subV (byV PZ a0 a1 a2 a3.toNat) (byV PZ a0 a1 a2 (a3.toNat - 1)) 12) 105),.none,(okS a0&&((Zab a1 a0&&Zaa a2 0 1)&&Zaa a3 1 14)))
 | _,_=>none
theorem Ya4:EntX PZ 59:=Zah (fn:=Tryz.f59) (by kernel_rfl) (by kernel_rfl) (by kernel_rfl)
theorem Yg9:Uac (md F) PZ 59 Znt:=(Zai (N:=1000) (by kernel_rfl) (mkΓ_consX (Zae Yhr) Yaf mkΓ_nilX) (fn:=Tryz.f59) (by kernel_rfl) (by kernel_rfl) [([11],[7])]).of (by
 intro ρ h w args vals r e hA hH hr
 unfold Znt at hr
 split at hr
 ·rename_i a1 a2 a3 a0
  obtain ⟨rfl,rfl,hg2⟩:=BQi hr
  exact Yb1 a1 a2 a3 a0 (hA.rng 1 rfl) (hA.rng 2 rfl) (hA.rng 3 rfl) (hH.wt 0 rfl) hg2
 ·cases hr)
def Zcs (a1 a2:Int) (b_a0:Option (Option Addr)) (n_a0:Nat) (a0:Array Value):St:=(⟨.a (.l 0) :: .a (.i .i64 (a1)) :: .a (.i .i64 (a2))::us 3 (.a (.w 1) :: .a (.w 6) :: .a (.u) :: .a (.u) :: .a (.l 0) :: .a (.i .i64 (a2)) :: .a (.q 0 (((a2).toNat*36)) 105) :: .a (.g (a0.extract ((a2).toNat*36) (((a2).toNat*36)+36)) 105) :: .a (.l 0) :: .a (.i .i64 (a1)) :: .a (.q 0 (((a1).toNat*36)) 105) :: .a (.g (a0.extract ((a1).toNat*36) (((a1).toNat*36)+36)) 105) :: .a (.i .i64 (0:Int))::us 16 ([])),[.sl (.came b_a0) n_a0 a0 105,.row (zc PZ 105) 105,.no,.no,.no,.no,.row (a0.extract ((a2).toNat*36) (((a2).toNat*36)+36)) 105,.no],[6]⟩:St)
def Zdo:Int×Array Value→LS
 | (y0_18,r0_6)=>([.a (.i .i64 (y0_18))],[.row r0_6 105])
def Zie:Int×Array Value→Exit×LS
 | t=>((.exit 0),Zdo t)
def Za3 (P : Program) (a1 a2 : Int) (b_a0 : Option (Option Addr)) (n_a0 : Nat) (a0 : Array Value) : Int × Array Value → Option (Stp (Int × Array Value) (Int × Array Value))
 | (y0_18, r0_6) => bif decide (y0_18 < (36 : Int)) then (bif (decide (0 ≤ y0_18) && decide (y0_18 < 36)) then (bif (decide (0 ≤ y0_18) && decide (y0_18 < 36)) then (bif (decide (0 ≤ (i64.wrap (a2 - a1))) && decide ((i64.wrap (a2 - a1)) ≤ 14)) then (bif (decide (0 ≤ y0_18) && decide (y0_18 < 36)) then (some (.more ((i64.wrap (y0_18 + (1 : Int))), (r0_6.setIfInBounds ((y0_18).toNat * 1) (.int .i64 (i64.wrap ((num r0_6 ((y0_18).toNat * 1)) - (i64.wrap ((num (a0.extract ((a1).toNat * 36) (((a1).toNat * 36) + 36)) ((y0_18).toNat * 1)) * (12 ^ (i64.wrap (a2 - a1)).toNat))))))))))
      else (none))
     else (none))
    else (none))
   else (none))
  else (some (.done (y0_18, r0_6)))
theorem Zss (N:Nat) (a1 a2:Int) (b_a0:Option (Option Addr)) (n_a0:Nat) (a0:Array Value):∀ t:Int×Array Value,Uag PZ (mkΓ [(117,con Za8)]) N (cAt (codeOf Tryz.f108) [1,1,0,1,0,0]) (pAt (Uaa (codeOf Tryz.f108) [([18],[6])]).1 [1,1,0,1,0]) [18] [6] (Zcs a1 a2 b_a0 n_a0 a0) (Zdo t)=mapS Zdo Zie (Za3 PZ a1 a2 b_a0 n_a0 a0 t):=by
 rintro ⟨y0_18,r0_6⟩
 refine Eq.trans (b:=(bif decide (y0_18<(36:Int)) then (bif (decide (0≤y0_18)&&decide (y0_18<36)) then (bif (decide (0≤y0_18)&&decide (y0_18<36)) then (bif (decide (0≤(i64.wrap (a2 - a1)))&&decide ((i64.wrap (a2 - a1))≤14)) then (bif (decide (0≤y0_18)&&decide (y0_18<36)) then (some (.more ([.a (.i .i64 (i64.wrap (y0_18+(1:Int))))],[.row (r0_6.setIfInBounds ((y0_18).toNat*1) (.int .i64 (i64.wrap ((num r0_6 ((y0_18).toNat*1)) - (i64.wrap ((num (a0.extract ((a1).toNat*36) (((a1).toNat*36)+36)) ((y0_18).toNat*1))*(12^(i64.wrap (a2 - a1)).toNat))))))) 105])))
      else (none))
     else (none))
    else (none))
   else (none))
  else (some (.done ((.exit 0),([.a (.i .i64 (y0_18))],[.row r0_6 105])))))) (by kernel_rfl) ?_
 simp only [Za3,Zas,Zat,Zar,Zaq,Zdo,Zie]
def Zef (P:Program) (N:Nat) (a1 a2:Int) (b_a0:Option (Option Addr)) (n_a0:Nat) (a0:Array Value) (z0_18:Int) (q0_6:Array Value):Option (SV×Eff×Bool):=some (.a (.g q0_6 105),.none,true)
theorem Znp (N:Nat) (a1 a2:Int) (b_a0:Option (Option Addr)) (n_a0:Nat) (a0:Array Value) (z0_18:Int) (q0_6:Array Value):(Uad 0 (kSeq (veC PZ (mkΓ [(117,con Za8)]) N (cAt (codeOf Tryz.f108) [1,1,1]) (pAt (Uaa (codeOf Tryz.f108) [([18],[6])]).1 [1,1,1]) (SV×Eff×Bool)) (finK PZ [.sl (.came b_a0) n_a0 a0 105] [.cell 6 105]))) (.exit 0) (left (writes (cAt (codeOf Tryz.f108) [1,1,0,1,0,0])) [18] [6] (Zcs a1 a2 b_a0 n_a0 a0) ([.a (.i .i64 (z0_18))],[.row q0_6 105]))=Zef PZ N a1 a2 b_a0 n_a0 a0 z0_18 q0_6:=by
 refine Eq.trans (b:=(some (.a (.g q0_6 105),.none,true))) (by kernel_rfl) ?_
 rfl
theorem Zs9 (N:Nat) (a1 a2:Int) (b_a0:Option (Option Addr)) (n_a0:Nat) (a0:Array Value):Uah (Uab (Uag PZ (mkΓ [(117,con Za8)]) N (cAt (codeOf Tryz.f108) [1,1,0,1,0,0]) (pAt (Uaa (codeOf Tryz.f108) [([18],[6])]).1 [1,1,0,1,0]) [18] [6] (Zcs a1 a2 b_a0 n_a0 a0)) N ([.a (.i .i64 (0:Int))],[.row (a0.extract ((a2).toNat*36) (((a2).toNat*36)+36)) 105])) (fun e s=>(Uad 0 (kSeq (veC PZ (mkΓ [(117,con Za8)]) N (cAt (codeOf Tryz.f108) [1,1,1]) (pAt (Uaa (codeOf Tryz.f108) [([18],[6])]).1 [1,1,1]) (SV×Eff×Bool)) (finK PZ [.sl (.came b_a0) n_a0 a0 105] [.cell 6 105]))) e (left (writes (cAt (codeOf Tryz.f108) [1,1,0,1,0,0])) [18] [6] (Zcs a1 a2 b_a0 n_a0 a0) s))=Uai (Uab (Za3 PZ a1 a2 b_a0 n_a0 a0) N ((0:Int),(a0.extract ((a2).toNat*36) (((a2).toNat*36)+36)))) (fun x=>Zef PZ N a1 a2 b_a0 n_a0 a0 x.1 x.2):=by
 refine Zav Zdo Zie _ _ (Zss N a1 a2 b_a0 n_a0 a0) N ((0:Int),(a0.extract ((a2).toNat*36) (((a2).toNat*36)+36))) _ _ ?_
 intro x;exact Znp N a1 a2 b_a0 n_a0 a0 x.1 x.2
theorem Zqc (N:Nat) (a1 a2:Int) (b_a0:Option (Option Addr)) (n_a0:Nat) (a0:Array Value):ansV PZ (mkΓ [(117,con Za8)]) N Tryz.f108 [([18],[6])] [.l 0,.i .i64 (a1),.i .i64 (a2)] [.sl (.came b_a0) n_a0 a0 105]=(bif (decide (0≤a2)&&decide (a2<(n_a0:Int))) then (bif (decide (0≤a1)&&decide (a1<(n_a0:Int))) then (Uai (Uab (Za3 PZ a1 a2 b_a0 n_a0 a0) N ((0:Int),(a0.extract ((a2).toNat*36) (((a2).toNat*36)+36)))) (fun x=>Zef PZ N a1 a2 b_a0 n_a0 a0 x.1 x.2))
   else (none))
  else (none)):=by
 refine Eq.trans (b:=(bif (decide (0≤a2)&&decide (a2<(n_a0:Int))) then (bif (decide (0≤a1)&&decide (a1<(n_a0:Int))) then (Uah (Uab (Uag PZ (mkΓ [(117,con Za8)]) N (cAt (codeOf Tryz.f108) [1,1,0,1,0,0]) (pAt (Uaa (codeOf Tryz.f108) [([18],[6])]).1 [1,1,0,1,0]) [18] [6] (Zcs a1 a2 b_a0 n_a0 a0)) N ([.a (.i .i64 (0:Int))],[.row (a0.extract ((a2).toNat*36) (((a2).toNat*36)+36)) 105])) (fun e s=>(Uad 0 (kSeq (veC PZ (mkΓ [(117,con Za8)]) N (cAt (codeOf Tryz.f108) [1,1,1]) (pAt (Uaa (codeOf Tryz.f108) [([18],[6])]).1 [1,1,1]) (SV×Eff×Bool)) (finK PZ [.sl (.came b_a0) n_a0 a0 105] [.cell 6 105]))) e (left (writes (cAt (codeOf Tryz.f108) [1,1,0,1,0,0])) [18] [6] (Zcs a1 a2 b_a0 n_a0 a0) s)))
   else (none))
  else (none))) (by kernel_rfl) ?_
 simp only [Zs9 N a1 a2 b_a0 n_a0 a0]
theorem Zps (a1 a2:Int) (b_a0:Option (Option Addr)) (n_a0:Nat) (a0:Array Value) (h_a1:i64.min≤a1∧a1≤i64.max) (h_a2:i64.min≤a2∧a2≤i64.max) (h_a0:a0.size=n_a0*(lay PZ 105).length∧(∀ k,k<n_a0→WT PZ 105 (a0.extract (k*(lay PZ 105).length) (k*(lay PZ 105).length+(lay PZ 105).length)))∧n_a0≤9223372036854775807) (hg:(((decide (0≤a1)&&decide (a1≤a2))&&(decide (a2≤a1+14)&&decide (a2<(n_a0:Int)))))=true):ansV PZ (mkΓ [(117,con Za8)]) 1000 Tryz.f108 [([18],[6])] [.l 0,.i .i64 (a1),.i .i64 (a2)] [.sl (.came b_a0) n_a0 a0 105]=some (.a (.g (subV (a0.extract (a2.toNat*36) (a2.toNat*36+36)) (a0.extract (a1.toNat*36) (a1.toNat*36+36)) (12^(a2 - a1).toNat)) 105),.none,true):=by
 simp only [Q7,decide_eq_true_eq] at hg
 obtain ⟨⟨q0,q1⟩,q2,q3⟩:=hg
 have ew:i64.wrap (a2 - a1)=a2 - a1:=w64 (by omega)
 refine (Zqc 1000 a1 a2 b_a0 n_a0 a0).trans ?_
 rw [dec2 (show 0≤a2 by omega) q3,dec2 q0 (show a1<(n_a0:Int) by omega)]
 simp only [Q1]
 have hq:∀ q,Uab (Za3 PZ a1 a2 b_a0 n_a0 a0) 1000 ((0:Int),a0.extract (a2.toNat*36) (a2.toNat*36+36))=some ((36:Int),q)→Uai (Uab (Za3 PZ a1 a2 b_a0 n_a0 a0) 1000 ((0:Int),a0.extract (a2.toNat*36) (a2.toNat*36+36))) (fun x=>Zef PZ 1000 a1 a2 b_a0 n_a0 a0 x.1 x.2)=some (.a (.g q 105),.none,true):=fun q e=>by rw [e];rfl
 refine hq _ ?_
 unfold subV
 have hF:∀ (k:Nat) (s:Array Value),k<36→Za3 PZ a1 a2 b_a0 n_a0 a0 ((k:Int),s)=some (.more (((k+1:Nat):Int),subF (a0.extract (a1.toNat*36) (a1.toNat*36+36)) (12^(a2 - a1).toNat) s k)):=fun k s hk=>by
  have h1:decide ((k:Int)<36)=true:=Q3 (by omega)
  have h0:decide (0≤(k:Int))=true:=Q3 (by omega)
  have h3:i64.wrap ((k:Int)+1)=((k+1:Nat):Int):=by rw [w64 (by omega)];omega
  have h4:decide (0≤a2 - a1)=true:=Q3 (by omega)
  have h5:decide (a2 - a1≤14)=true:=Q3 (by omega)
  simp only [Za3,h1,h0,h3,ew,h4,h5,Q9,Bool.and_self,Q1,subF]
 generalize a0.extract (a2.toNat*36) (a2.toNat*36+36)=C
 generalize hD:a0.extract (a1.toNat*36) (a1.toNat*36+36)=D at hF⊢
 generalize hm:(12:Int)^(a2 - a1).toNat=m at hF⊢
 exact Zhu (g:=Za3 PZ a1 a2 b_a0 n_a0 a0) (fun r k=>((k:Int),r)) (subF D m) (m:=36) (t:=C) (x:=((36:Int),folds (subF D m) C 36)) (N:=1000) (fun k s hk _=>hF k s hk) (by
  have h1:decide (((36:Nat):Int)<36)=false:=by decide
  generalize folds (subF D m) C 36=q
  simp only [Za3,h1,Q2]
  rfl) (by omega)
def Ze6:Con:=fun args h=>match args,h with
 | [.l 0,.i .i64 a1,.i .i64 a2],[.sl (.came b_a0) n_a0 a0 105]=>some (.a (.g (subV (a0.extract (a2.toNat*36) (a2.toNat*36+36)) (a0.extract (a1.toNat*36) (a1.toNat*36+36)) (12^(a2 - a1).toNat)) 105),.none,((decide (0≤a1)&&decide (a1≤a2))&&(decide (a2≤a1+14)&&decide (a2<(n_a0:Int)))))
 | _,_=>none
theorem Zoz:EntX PZ 108:=Zah (fn:=Tryz.f108) (by kernel_rfl) (by kernel_rfl) (by kernel_rfl)
theorem Zse:Uac (md F) PZ 108 Ze6:=(Zai (N:=1000) (by kernel_rfl) (mkΓ_consX (Zae Zv2) Zqh mkΓ_nilX) (fn:=Tryz.f108) (by kernel_rfl) (by kernel_rfl) [([18],[6])]).of (by
 intro ρ h w args vals r e hA hH hr
 unfold Ze6 at hr
 split at hr
 ·rename_i a1 a2 b_a0 n_a0 a0
  obtain ⟨rfl,rfl,hg2⟩:=BQi hr
  exact Zps a1 a2 b_a0 n_a0 a0 (hA.rng 1 rfl) (hA.rng 2 rfl) (hH.slw 0 rfl) hg2
 ·cases hr)
def Zda:Cons:=(mkΓ [(85,con Zkc),(86,con Znd),(87,con Zlp)])
def Zel (a0:Array Value) (a1 a2 a3:Int):St:=(⟨.a (.g a0 37) :: .a (.i .i64 (a1)) :: .a (.i .i64 (a2)) :: .a (.i .i64 (a3)) :: .a (.w 0)::us 3 (.a (.v (.slice none 0 0)) :: .a (.w 5) :: .a (.l 12) :: .a (.i .i64 (a1)) :: .a (.i .i64 (a2)) :: .a (.g (Zao PZ a1 (1:Int) a2) 132) :: .a (.g a0 37) :: .a (.g (Zao PZ a1 (1:Int) a2) 132) :: .a (.g (Ubz PZ a0 (Zao PZ a1 (1:Int) a2)) 105) :: .a (.l 10) :: .a (.i .i64 (a3)) :: .a (.i .i64 (0:Int))::us 12 ([])),[.row a0 37,.no,.no,.no,.no,.row (Zao PZ a1 (1:Int) a2) 132,.no,.no,.no,.no,.sp,.no,.sl .own 1 (spl (repC (zc PZ 105) 1) 0 (Ubz PZ a0 (Zao PZ a1 (1:Int) a2)).toList) 105],[10,5]⟩:St)
def Zgj:Int×Array Value×Nat×Array Value→LS
 | (y0_19,r0_5,m0_10,y0_10)=>([.a (.i .i64 (y0_19)),.a (.l 12)],[.row r0_5 132,.sl .own m0_10 y0_10 105])
def Zlx:Int×Array Value×Nat×Array Value→Exit×LS
 | t=>((.exit 0),Zgj t)
def Zcw (P : Program) (a0 : Array Value) (a1 a2 a3 : Int) : Int × Array Value × Nat × Array Value → Option (Stp (Int × Array Value × Nat × Array Value) (Int × Array Value × Nat × Array Value))
 | (y0_19, r0_5, m0_10, y0_10) => bif decide (y0_19 < a3) then (bif (goG a0 r0_5) then (bif okS a0 then (bif (Nat.ble ((m0_10 + 1) * bytesOf PZ 105) 140737488355328) then (some (.more ((i64.wrap (y0_19 + (1 : Int))), (Ubf PZ a0 r0_5), (m0_10 + 1), (y0_10 ++ (spl (repC (zc PZ 105) 1) 0 (Ubz PZ a0 (Ubf PZ a0 r0_5)).toList)))))
     else (none))
    else (none))
   else (none))
  else (some (.done (y0_19, r0_5, m0_10, y0_10)))
theorem Zzs (N:Nat) (a0:Array Value) (a1 a2 a3:Int):∀ t:Int×Array Value×Nat×Array Value,Ugk PZ Zda N (cAt (codeOf Tryz.f61) [1,1,1,0,1,0,0]) (pAt (Uaa (codeOf Tryz.f61) [([19],[5,1000010,105])]).1 [1,1,1,0,1,0]) [19] [5] 10 105 12 (Zel a0 a1 a2 a3) (Zgj t)=mapS Zgj Zlx (Zcw PZ a0 a1 a2 a3 t):=by
 rintro ⟨y0_19,r0_5,m0_10,y0_10⟩
 refine Eq.trans (b:=(bif decide (y0_19<a3) then (bif (goG a0 r0_5) then (bif okS a0 then (bif (Nat.ble ((m0_10+1)*bytesOf PZ 105) 140737488355328) then (some (.more ([.a (.i .i64 (i64.wrap (y0_19+(1:Int)))),.a (.l 12)],[.row (Ubf PZ a0 r0_5) 132,.sl .own (m0_10+1) (y0_10++(spl (repC (zc PZ 105) 1) 0 (Ubz PZ a0 (Ubf PZ a0 r0_5)).toList)) 105])))
     else (none))
    else (none))
   else (none))
  else (some (.done ((.exit 0),([.a (.i .i64 (y0_19)),.a (.l 12)],[.row r0_5 132,.sl .own m0_10 y0_10 105])))))) (by kernel_rfl) ?_
 simp only [Zcw,Zas,Zat,Zar,Zaq,Zgj,Zlx]
def Zjw (P:Program) (N:Nat) (a0:Array Value) (a1 a2 a3:Int) (z0_19:Int) (q0_5:Array Value) (p0_10:Nat) (z0_10:Array Value):Option (SV×Eff×Bool):=some (.a .x,.newS none p0_10 z0_10 105,true)
theorem Zqe (N:Nat) (a0:Array Value) (a1 a2 a3:Int) (z0_19:Int) (q0_5:Array Value) (p0_10:Nat) (z0_10:Array Value):(Uad 0 (kSeq (veC PZ Zda N (cAt (codeOf Tryz.f61) [1,1,1,1]) (pAt (Uaa (codeOf Tryz.f61) [([19],[5,1000010,105])]).1 [1,1,1,1]) (SV×Eff×Bool)) (finK PZ [] [.tmp 8]))) (.exit 0) (left (writes (cAt (codeOf Tryz.f61) [1,1,1,0,1,0,0])) [19,10] [5,12] (Zel a0 a1 a2 a3) ([.a (.i .i64 (z0_19)),.a (.l 12)],[.row q0_5 132,.sl .own p0_10 z0_10 105]))=Zjw PZ N a0 a1 a2 a3 z0_19 q0_5 p0_10 z0_10:=by
 refine Eq.trans (b:=(some (.a .x,.newS none p0_10 z0_10 105,true))) (by kernel_rfl) ?_
 rfl
theorem Ya8 (N:Nat) (a0:Array Value) (a1 a2 a3:Int):Uah (Uab (Ugk PZ Zda N (cAt (codeOf Tryz.f61) [1,1,1,0,1,0,0]) (pAt (Uaa (codeOf Tryz.f61) [([19],[5,1000010,105])]).1 [1,1,1,0,1,0]) [19] [5] 10 105 12 (Zel a0 a1 a2 a3)) N ([.a (.i .i64 (0:Int)),.a (.l 12)],[.row (Zao PZ a1 (1:Int) a2) 132,.sl .own 1 (spl (repC (zc PZ 105) 1) 0 (Ubz PZ a0 (Zao PZ a1 (1:Int) a2)).toList) 105])) (fun e s=>(Uad 0 (kSeq (veC PZ Zda N (cAt (codeOf Tryz.f61) [1,1,1,1]) (pAt (Uaa (codeOf Tryz.f61) [([19],[5,1000010,105])]).1 [1,1,1,1]) (SV×Eff×Bool)) (finK PZ [] [.tmp 8]))) e (left (writes (cAt (codeOf Tryz.f61) [1,1,1,0,1,0,0])) [19,10] [5,12] (Zel a0 a1 a2 a3) s))=Uai (Uab (Zcw PZ a0 a1 a2 a3) N ((0:Int),(Zao PZ a1 (1:Int) a2),1,(spl (repC (zc PZ 105) 1) 0 (Ubz PZ a0 (Zao PZ a1 (1:Int) a2)).toList))) (fun x=>Zjw PZ N a0 a1 a2 a3 x.1 x.2.1 x.2.2.1 x.2.2.2):=by
 refine Zav Zgj Zlx _ _ (Zzs N a0 a1 a2 a3) N ((0:Int),(Zao PZ a1 (1:Int) a2),1,(spl (repC (zc PZ 105) 1) 0 (Ubz PZ a0 (Zao PZ a1 (1:Int) a2)).toList)) _ _ ?_
 intro x;exact Zqe N a0 a1 a2 a3 x.1 x.2.1 x.2.2.1 x.2.2.2
theorem Zyz (N:Nat) (a0:Array Value) (a1 a2 a3:Int):ansV PZ Zda N Tryz.f61 [([19],[5,1000010,105])] [.g a0 37,.i .i64 (a1),.i .i64 (a2),.i .i64 (a3)] []=(bif (decide (0≤a1)&&decide (a1<36)) then (bif okS a0 then (Uai (Uab (Zcw PZ a0 a1 a2 a3) N ((0:Int),(Zao PZ a1 (1:Int) a2),1,(spl (repC (zc PZ 105) 1) 0 (Ubz PZ a0 (Zao PZ a1 (1:Int) a2)).toList))) (fun x=>Zjw PZ N a0 a1 a2 a3 x.1 x.2.1 x.2.2.1 x.2.2.2))
   else (none))
  else (none)):=by
 refine Eq.trans (b:=(bif (decide (0≤a1)&&decide (a1<36)) then (bif okS a0 then (Uah (Uab (Ugk PZ Zda N (cAt (codeOf Tryz.f61) [1,1,1,0,1,0,0]) (pAt (Uaa (codeOf Tryz.f61) [([19],[5,1000010,105])]).1 [1,1,1,0,1,0]) [19] [5] 10 105 12 (Zel a0 a1 a2 a3)) N ([.a (.i .i64 (0:Int)),.a (.l 12)],[.row (Zao PZ a1 (1:Int) a2) 132,.sl .own 1 (spl (repC (zc PZ 105) 1) 0 (Ubz PZ a0 (Zao PZ a1 (1:Int) a2)).toList) 105])) (fun e s=>(Uad 0 (kSeq (veC PZ Zda N (cAt (codeOf Tryz.f61) [1,1,1,1]) (pAt (Uaa (codeOf Tryz.f61) [([19],[5,1000010,105])]).1 [1,1,1,1]) (SV×Eff×Bool)) (finK PZ [] [.tmp 8]))) e (left (writes (cAt (codeOf Tryz.f61) [1,1,1,0,1,0,0])) [19,10] [5,12] (Zel a0 a1 a2 a3) s)))
   else (none))
  else (none))) (by kernel_rfl) ?_
 simp only [Ya8 N a0 a1 a2 a3]
theorem Zuv (a0:Array Value) (a1 a2 a3:Int) (h_a0:WT PZ 37 a0) (h_a1:i64.min≤a1∧a1≤i64.max) (h_a2:i64.min≤a2∧a2≤i64.max) (h_a3:i64.min≤a3∧a3≤i64.max) (hg:((okS a0&&((Zab a1 a0&&Zaa a2 0 1)&&Zaa a3 0 14)))=true):ansV PZ Zda 1000 Tryz.f61 [([19],[5,1000010,105])] [.g a0 37,.i .i64 (a1),.i .i64 (a2),.i .i64 (a3)] []=some (.a .x,.newS none (a3.toNat+1) (recC PZ a0 a1 a2 a3.toNat) 105,true):=by
 simp only [Q7] at hg
 obtain ⟨q0,⟨q1,q2⟩,q3⟩:=hg
 have r1:=Zhl q1
 have r3:=Zim q3
 obtain ⟨m,rfl⟩:=Int.eq_ofNat_of_zero_le r3.1
 refine (Zyz 1000 a0 a1 a2 (m:Int)).trans ?_
 rw [dec2 r1.1 (show a1<36 by omega),q0]
 simp only [Q1]
 have e0:Zao PZ a1 1 a2=oneX PZ a1 a2:=rfl
 have e1:spl (repC (zc PZ 105) 1) 0 (Ubz PZ a0 (oneX PZ a1 a2)).toList=recC PZ a0 a1 a2 0:=Ykx PZ 105 (by rw [Zyf,Ybs])
 rw [e0,e1,Q9]
 have h:=Zdg (g:=Zcw PZ a0 a1 a2 (m:Int)) (fun j=>((j:Int),Uan PZ a0 (oneX PZ a1 a2) j,j+1,recC PZ a0 a1 a2 j)) (m:=m) (x:=((m:Int),Uan PZ a0 (oneX PZ a1 a2) m,m+1,recC PZ a0 a1 a2 m)) (N:=1000) (fun j hj=>by
  have h1:decide ((j:Int)<(m:Int))=true:=Q3 (by omega)
  have h3:i64.wrap ((j:Int)+1)=((j+1:Nat):Int):=by rw [w64 (by omega)];omega
  have h4:=one_go h_a0 q0 q1 q2 (show j≤14 by omega)
  have h6:Nat.ble ((j+1+1)*bytesOf PZ 105) 140737488355328=true:=Nat.ble_eq_true_of_le (by rw [Ypy];omega)
  have h7:spl (repC (zc PZ 105) 1) 0 (Ubz PZ a0 (Ubf PZ a0 (Uan PZ a0 (oneX PZ a1 a2) j))).toList=byV PZ a0 a1 a2 (j+1):=Ykx PZ 105 (by rw [Zyf,Ybs])
  simp only [Zcw,h1,h3,h4,q0,h6,h7,Q1]
  rfl) (by
  have h1:decide ((m:Int)<(m:Int))=false:=Q4 (by omega)
  simp only [Zcw,h1,Q2]) (by omega)
 have h':Uab (Zcw PZ a0 a1 a2 (m:Int)) 1000 ((0:Int),oneX PZ a1 a2,1,recC PZ a0 a1 a2 0)=some ((m:Int),Uan PZ a0 (oneX PZ a1 a2) m,m+1,recC PZ a0 a1 a2 m):=h
 rw [h']
 rfl
def Zj9:Con:=fun args h=>match args,h with
 | [.g a0 37,.i .i64 a1,.i .i64 a2,.i .i64 a3],[]=>some (.a .x,.newS none (a3.toNat+1) (recC PZ a0 a1 a2 a3.toNat) 105,(okS a0&&((Zab a1 a0&&Zaa a2 0 1)&&Zaa a3 0 14)))
 | _,_=>none
theorem Zua:EntX PZ 61:=Zah (fn:=Tryz.f61) (by kernel_rfl) (by kernel_rfl) (by kernel_rfl)
theorem Yan:Uac (md F) PZ 61 Zj9:=(Zai (N:=1000) (by kernel_rfl) (mkΓ_consX (Zae Yat) Zt6 (mkΓ_consX (Zae Yep) Zy6 (mkΓ_consX (Zae Yco) Zxd mkΓ_nilX))) (fn:=Tryz.f61) (by kernel_rfl) (by kernel_rfl) [([19],[5,1000010,105])]).of (by
 intro ρ h w args vals r e hA hH hr
 unfold Zj9 at hr
 split at hr
 ·rename_i a0 a1 a2 a3
  obtain ⟨rfl,rfl,hg2⟩:=BQi hr
  exact Zuv a0 a1 a2 a3 (hA.wt 0 rfl) (hA.rng 1 rfl) (hA.rng 2 rfl) (hA.rng 3 rfl) hg2
 ·cases hr)
end
end Go.Proofs.YtdfefaanfiheoaaGreatDoor
