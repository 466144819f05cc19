/- Records of what has stranded, in company; where and when a bottle is released. -/
import Derived.Test.YtefjogahegolbaaDoorProg
import Derived.Test.YtefjogahegolbaaDoorCxK
import Derived.Test.YtefjogahegolbaaDoorCxEachLand
import Derived.Test.YtefjogahegolbaaDoorIsX
set_option linter.unusedVariables false
set_option linter.unusedSimpArgs false
open _root_.Array renaming getElem?_setIfInBounds->jA
namespace Go.Proofs.YtefjogahegolbaaDoor
open Tryd (f15 f16 f19 f20 f24 f25 f29 f33 f37 f38 f45 f66)
open Go.ChangeShapes Go.WideShapes Go.ChangeAt Go.RowKit Ve Vc
open Tryd (prog)
open IntKind (i64)
set_option maxRecDepth 100000
noncomputable section
variable {F:Vc.Fd}
def Zg9:Con:=ansV prog (mkΓ [(36,conG isCon)]) 1000 f15 []
theorem Zhi:EntX prog 15:=Zam (fn:=f15)
theorem Zke:Uad (md F) prog 15 Zg9:=ansY (N:=1000) (mKc (Zjw isCon_ok) Yh4 mKn) f15 []
theorem Zzg(N:Nat)(a0:Int):ansV prog (mkΓ [(44,con Zcb)]) N f19 [] [.i .i64 a0] []=(some (.a (.b ((Zaa a0 (1:Int) (14:Int)))),.none,true)):=by kernel_rfl
theorem Zw6(a0:Int)(h_a0:i64.min<=a0/\a0<=i64.max)(hg:(true)=true):ansV prog (mkΓ [(44,con Zcb)]) 1000 f19 [] [.i .i64 a0] []=some (.a (.b ((Zaa a0 (1:Int) (14:Int)))),.none,true):=by refine(Zzg 1000 a0).trans ?_;rfl
def Zic:Con:=λargs h=>match args,h with|[.i .i64 a0],[]=>some (.a (.b ((Zaa a0 (1:Int) (14:Int)))),.none,true)|_,_=>none
theorem Zmu:EntX prog 19:=Zam (fn:=f19)
theorem Zo9:Uad (md F) prog 19 Zic:=(ansY (N:=1000) (mKc (Zah Zjh) Zgb mKn) f19 []).of (by
 intro ρ h w args vals r e hA hH hr;unfold Zic at hr;split at hr
 ·rename_i a0;obtain⟨rfl,rfl,hg2⟩:=BQi hr;exact Zw6 a0 (hA.rng 0 rfl) hg2
 ·cases hr)
theorem Zyr(N:Nat)(a0:Int):ansV prog (mkΓ []) N f24 [] [.i .i64 a0] []=(bif decide (a0>=(1:Int)) then (some (.a (.b (decide (a0<=(14:Int)))),.none,true)) else (some (.a (.b false),.none,true))):=by kernel_rfl
def Zad(a0:Int):Bool:=(bif decide (a0>=(1:Int)) then decide (a0<=(14:Int)) else false)
theorem Zw1(a0:Int)(h_a0:i64.min<=a0/\a0<=i64.max)(hg:(true)=true):ansV prog (mkΓ []) 1000 f24 [] [.i .i64 a0] []=some (.a (.b ((Zad a0))),.none,true):=by
 refine(Zyr 1000 a0).trans ?_;unfold Zad;revert hg;generalize (decide (a0>=(1:Int)))=b2;intro hg;cases b2
 ·skip
  first|rfl|exact(nomatch (hg:false=true))
 ·skip
  first|rfl|exact(nomatch (hg:false=true))
def Zie:Con:=λargs h=>match args,h with|[.i .i64 a0],[]=>some (.a (.b ((Zad a0))),.none,true)|_,_=>none
theorem Zmt:EntX prog 24:=Zam (fn:=f24)
theorem Zpe:Uad (md F) prog 24 Zie:=(ansY (N:=1000) mKn f24 []).of (by
 intro ρ h w args vals r e hA hH hr;unfold Zie at hr;split at hr
 ·rename_i a0;obtain⟨rfl,rfl,hg2⟩:=BQi hr;exact Zw1 a0 (hA.rng 0 rfl) hg2
 ·cases hr)
def Zr6:Cons:=(mkΓ [(30,con Zbn),(31,con Zfl),(41,con Zh7),(50,con Zkx)])
theorem Zys(N:Nat)(a1 a2:Int)(a3:Bool)(a0:Array Value):ansV prog Zr6 N f29 [] [.w 0,.i .i64 a1,.i .i64 a2,.b a3] [.row a0 35]=(bif (!((okS a0))) then (some (.a (.i .i64 1),.none,true)) else (bif (!((Zac a1 a0))) then (some (.a (.i .i64 2),.none,true)) else (bif (!((Zaa a2 (0:Int) (1:Int)))) then (some (.a (.i .i64 2),.none,true)) else (bif (!(a3)) then (some (.a (.i .i64 2),.none,true)) else (bif decide (0<=(IntKind.u64.wrap a1)) then (bif (Zak a1 a0) then (some (.a (.i .i64 4),.none,true)) else (some (.a (.i .i64 0),.none,true))) else (none)))))):=by kernel_rfl
def Zcd(a1 a2:Int)(a3:Bool)(a0:Array Value):Int:=(bif (!((okS a0))) then (1:Int) else (bif (!((Zac a1 a0))) then (2:Int) else (bif (!((Zaa a2 (0:Int) (1:Int)))) then (2:Int) else (bif (!(a3)) then (2:Int) else (bif (Zak a1 a0) then (4:Int) else (0:Int))))))
def Zdn(a1 a2:Int)(a3:Bool)(a0:Array Value):Bool:=(bif (!((okS a0))) then true else (bif (!((Zac a1 a0))) then true else (bif (!((Zaa a2 (0:Int) (1:Int)))) then true else (bif (!(a3)) then true else decide (0<=(IntKind.u64.wrap a1))))))
theorem Zw0(a1 a2:Int)(a3:Bool)(a0:Array Value)(h_a1:i64.min<=a1/\a1<=i64.max)(h_a2:i64.min<=a2/\a2<=i64.max)(h_a0:WT prog 35 a0)(hg:((Zdn a1 a2 a3 a0))=true):ansV prog Zr6 1000 f29 [] [.w 0,.i .i64 a1,.i .i64 a2,.b a3] [.row a0 35]=some (.a (.i .i64 (Zcd a1 a2 a3 a0)),.none,true):=by
 refine(Zys 1000 a1 a2 a3 a0).trans ?_;unfold Zdn at hg;unfold Zcd;revert hg;generalize ((!((okS a0))))=b2;intro hg;cases b2
 ·skip
  revert hg;generalize ((!((Zac a1 a0))))=b4;intro hg;cases b4
  ·skip
   revert hg;generalize ((!((Zaa a2 (0:Int) (1:Int)))))=b6;intro hg;cases b6
   ·skip
    revert hg;generalize ((!(a3)))=b8;intro hg;cases b8
    ·skip
     revert hg;generalize (decide (0<=(IntKind.u64.wrap a1)))=b10;intro hg;cases b10
     ·skip
      first|exact(nomatch (hg:false=true))|rfl
     ·skip
      revert hg;generalize ((Zak a1 a0))=b12;intro hg;cases b12
      ·skip
       first|rfl|exact(nomatch (hg:false=true))
      ·skip
       first|rfl|exact(nomatch (hg:false=true))
    ·skip
     first|rfl|exact(nomatch (hg:false=true))
   ·skip
    first|rfl|exact(nomatch (hg:false=true))
  ·skip
   first|rfl|exact(nomatch (hg:false=true))
 ·skip
  first|rfl|exact(nomatch (hg:false=true))
def Zlg:Con:=λargs h=>match args,h with|[.w 0,.i .i64 a1,.i .i64 a2,.b a3],[.row a0 35]=>some (.a (.i .i64 (Zcd a1 a2 a3 a0)),.none,(Zdn a1 a2 a3 a0))|_,_=>none
theorem Zvu:EntX prog 29:=Zam (fn:=f29)
theorem Ya9:Uad (md F) prog 29 Zlg:=(ansY (N:=1000) (mKc (Zah Zi3) Zf7 (mKc (Zah Zkj) Zhj (mKc (Zah Zoj) Zk9 (mKc (Zah Ycc) Ztu mKn)))) f29 []).of (by
 intro ρ h w args vals r e hA hH hr;unfold Zlg at hr;split at hr
 ·rename_i a1 a2 a3 a0;obtain⟨rfl,rfl,hg2⟩:=BQi hr;exact Zw0 a1 a2 a3 a0 (hA.rng 1 rfl) (hA.rng 2 rfl) (hH.wt 0 rfl) hg2
 ·cases hr)
theorem in_of{x a b:Int}(h:a<=x/\x<=b):Zaa x a b=true:=by unfold Zaa;rw[Q3 (show x>=a from h.1),Q3 h.2];rfl
theorem Yi7{S:Array Value}(hS:WT prog 35 S){c:Int}(hc:0<=c/\c<=35):Zab S c=Zak c S:=by obtain⟨k,rfl⟩:=Int.eq_ofNat_of_zero_le hc.1;exact Yj4 hS (by omega)
theorem Yit(c:Int):decide (0<=IntKind.u64.wrap c)=true:=Q3 (Zip .u64 _).1
theorem from_gd(c b:Int)(f:Bool)(S:Array Value):Zdn c b f S=true:=by unfold Zdn;rw[Yit];cases okS S<;>cases Zac c S<;>cases Zaa b 0 1<;>cases f<;>rfl
def rl(S:Array Value)(c b:Int)(f:Bool):Bool:=Zac c S&&(Zaa b 0 1&&f)
theorem Ym3(c b:Int)(f:Bool)(S:Array Value):Zcd c b f S=bif okS S then (bif rl S c b f then (bif Zak c S then 4 else 0) else 2) else 1:=by unfold Zcd rl;cases okS S<;>cases Zac c S<;>cases Zaa b 0 1<;>cases f<;>rfl
theorem Yms{c b:Int}{f:Bool}{S:Array Value}(h:(Zcd c b f S != (0:Int))=false):okS S=true/\Zac c S=true/\Zaa b 0 1=true/\f=true/\Zak c S=false:=by rw[Ym3]at h;unfold rl at h;cases h1:okS S<;>cases h2:Zac c S<;>cases h3:Zaa b 0 1<;>cases h4:f<;>cases h5:Zak c S<;>first|exact⟨rfl,rfl,rfl,rfl,rfl⟩ | (exfalso;subst h4;rw[h1,h2,h3,h5]at h;revert h;decide)
def Zeh:Cons:=(mkΓ [(34,con Zgh),(49,con Zba),(52,con Zhl),(53,con Zkt)])
theorem Ze5(N:Nat)(a0:Array Value)(a1 a2:Int)(a3:Bool)(g_e0 g_e1 g_e2 g_e3 g_e4:Addr):ansV prog Zeh N f33 [] [.g a0 35,.i .i64 a1,.i .i64 a2,.b a3] [.gl 1 140 g_e0 101973,.gl 2 140 g_e1 93330,.gl 0 140 g_e2 124718,.gl 3 140 g_e3 112315,.gl 4 140 g_e4 94254]=(bif (!((okS a0))) then (some (.a (.e 0),.none,true)) else (bif (!((Zas a0 a1))) then (some (.a (.e 1),.none,true)) else (bif (!((Zcv a2))) then (some (.a (.e 1),.none,true)) else (bif (!(a3)) then (some (.a (.e 1),.none,true)) else (bif decide (0<=a1) then (bif (Zab a0 a1) then (some (.a (.e 2),.none,true)) else (some (.a (.v .nilIface),.none,true))) else (none)))))):=by kernel_rfl
theorem Zom(a0:Array Value)(a1 a2:Int)(a3:Bool)(g_e0 g_e1 g_e2 g_e3 g_e4:Addr)(h_a0:WT prog 35 a0)(h_a1:i64.min<=a1/\a1<=i64.max)(h_a2:i64.min<=a2/\a2<=i64.max)(hc0:(okS a0)=false)(hg:(true)=true):ansV prog Zeh 1000 f33 [] [.g a0 35,.i .i64 a1,.i .i64 a2,.b a3] [.gl 1 140 g_e0 101973,.gl 2 140 g_e1 93330,.gl 0 140 g_e2 124718,.gl 3 140 g_e3 112315,.gl 4 140 g_e4 94254]=some (.a (.e 0),.none,true):=by refine(Ze5 1000 a0 a1 a2 a3 g_e0 g_e1 g_e2 g_e3 g_e4).trans ?_;simp only[hc0,Bool.not_false,Q1]
theorem Zol(a0:Array Value)(a1 a2:Int)(a3:Bool)(g_e0 g_e1 g_e2 g_e3 g_e4:Addr)(h_a0:WT prog 35 a0)(h_a1:i64.min<=a1/\a1<=i64.max)(h_a2:i64.min<=a2/\a2<=i64.max)(hc0:(okS a0)=true)(hc1:(rl a0 a1 a2 a3)=false)(hg:(true)=true):ansV prog Zeh 1000 f33 [] [.g a0 35,.i .i64 a1,.i .i64 a2,.b a3] [.gl 1 140 g_e0 101973,.gl 2 140 g_e1 93330,.gl 0 140 g_e2 124718,.gl 3 140 g_e3 112315,.gl 4 140 g_e4 94254]=some (.a (.e 1),.none,true):=by
 refine(Ze5 1000 a0 a1 a2 a3 g_e0 g_e1 g_e2 g_e3 g_e4).trans ?_;have ht:Zcv a2=Zaa a2 0 1:=Yhy a2;rw[Yef,ht];unfold rl at hc1;rw[hc0];cases q1:Zac a1 a0 with|false=>rfl| true=>cases q2:Zaa a2 0 1 with|false=>rfl|true=>cases q3:a3 with|false=>rfl|true=>rw[q1,q2,q3]at hc1;cases hc1
theorem Znz(a0:Array Value)(a1 a2:Int)(a3:Bool)(g_e0 g_e1 g_e2 g_e3 g_e4:Addr)(h_a0:WT prog 35 a0)(h_a1:i64.min<=a1/\a1<=i64.max)(h_a2:i64.min<=a2/\a2<=i64.max)(hc0:(okS a0)=true)(hc1:(rl a0 a1 a2 a3)=true)(hc2:(Zak a1 a0)=false)(hg:(true)=true):ansV prog Zeh 1000 f33 [] [.g a0 35,.i .i64 a1,.i .i64 a2,.b a3] [.gl 1 140 g_e0 101973,.gl 2 140 g_e1 93330,.gl 0 140 g_e2 124718,.gl 3 140 g_e3 112315,.gl 4 140 g_e4 94254]=some (.a (.v .nilIface),.none,true):=by refine(Ze5 1000 a0 a1 a2 a3 g_e0 g_e1 g_e2 g_e3 g_e4).trans ?_;have ht:Zcv a2=Zaa a2 0 1:=Yhy a2;rw[Yef,ht];unfold rl at hc1;simp only[Q7]at hc1;obtain⟨q1,q2,q3⟩:=hc1;have hr:=Zkk q1;rw[hc0,q1,q2,q3,Yi7 h_a0 hr,hc2,Q3 hr.1];rfl
theorem Zn8(a0:Array Value)(a1 a2:Int)(a3:Bool)(g_e0 g_e1 g_e2 g_e3 g_e4:Addr)(h_a0:WT prog 35 a0)(h_a1:i64.min<=a1/\a1<=i64.max)(h_a2:i64.min<=a2/\a2<=i64.max)(hc0:(okS a0)=true)(hc1:(rl a0 a1 a2 a3)=true)(hc2:(Zak a1 a0)=true)(hg:(true)=true):ansV prog Zeh 1000 f33 [] [.g a0 35,.i .i64 a1,.i .i64 a2,.b a3] [.gl 1 140 g_e0 101973,.gl 2 140 g_e1 93330,.gl 0 140 g_e2 124718,.gl 3 140 g_e3 112315,.gl 4 140 g_e4 94254]=some (.a (.e 2),.none,true):=by refine(Ze5 1000 a0 a1 a2 a3 g_e0 g_e1 g_e2 g_e3 g_e4).trans ?_;have ht:Zcv a2=Zaa a2 0 1:=Yhy a2;rw[Yef,ht];unfold rl at hc1;simp only[Q7]at hc1;obtain⟨q1,q2,q3⟩:=hc1;have hr:=Zkk q1;rw[hc0,q1,q2,q3,Yi7 h_a0 hr,hc2,Q3 hr.1];rfl
def Za3:SCon:=λargs h=>match args,h with|[.g a0 35,.i .i64 a1,.i .i64 a2,.b a3],[.gl 1 140 g_e0 101973,.gl 2 140 g_e1 93330,.gl 0 140 g_e2 124718,.gl 3 140 g_e3 112315,.gl 4 140 g_e4 94254]=>.two (okS a0) (.two (rl a0 a1 a2 a3) (.two (Zak a1 a0) (.one (some (.a (.e 2),.none,true))) (.one (some (.a (.v .nilIface),.none,true)))) (.one (some (.a (.e 1),.none,true)))) (.one (some (.a (.e 0),.none,true)))|_,_=>.one none
theorem Zd2:EntX prog 33:=Zam (fn:=f33)
theorem Zff:Uad (md F) prog 33 (λargs h=>Uay (Za3 args h)):=by
 intro ρ h w args vals r e hn hr hA hH;dsimp only at hr;unfold Za3 at hr;split at hr
 ·rename_i a0 a1 a2 a3 g_e0 g_e1 g_e2 g_e3 g_e4;simp only[Uay]at hr;cases hc0:(okS a0)
  ·rw[hc0]at hr;simp only[Uay,Q1,Q2]at hr;obtain⟨rfl,rfl,hg2⟩:=BQi hr;exact((ansY (N:=1000) (mKc (Zah Zfr) Zdu (mKc (Zah Zd8) Zcj (mKc (Zah Zf9) Zeg (mKc (Zah Zjk) Zgx mKn)))) f33 [])) ρ _ w _ vals _ _ hn ((Zom a0 a1 a2 a3 g_e0 g_e1 g_e2 g_e3 g_e4 (hA.wt 0 rfl) (hA.rng 1 rfl) (hA.rng 2 rfl) hc0 hg2)) hA hH
  ·rw[hc0]at hr;simp only[Uay,Q1,Q2]at hr;cases hc1:(rl a0 a1 a2 a3)
   ·rw[hc1]at hr;simp only[Uay,Q1,Q2]at hr;obtain⟨rfl,rfl,hg2⟩:=BQi hr;exact((ansY (N:=1000) (mKc (Zah Zfr) Zdu (mKc (Zah Zd8) Zcj (mKc (Zah Zf9) Zeg (mKc (Zah Zjk) Zgx mKn)))) f33 [])) ρ _ w _ vals _ _ hn ((Zol a0 a1 a2 a3 g_e0 g_e1 g_e2 g_e3 g_e4 (hA.wt 0 rfl) (hA.rng 1 rfl) (hA.rng 2 rfl) hc0 hc1 hg2)) hA hH
   ·rw[hc1]at hr;simp only[Uay,Q1,Q2]at hr;cases hc2:(Zak a1 a0)
    ·rw[hc2]at hr;simp only[Uay,Q1,Q2]at hr;obtain⟨rfl,rfl,hg2⟩:=BQi hr;exact((ansY (N:=1000) (mKc (Zah Zfr) Zdu (mKc (Zah Zd8) Zcj (mKc (Zah Zf9) Zeg (mKc (Zah Zjk) Zgx mKn)))) f33 [])) ρ _ w _ vals _ _ hn ((Znz a0 a1 a2 a3 g_e0 g_e1 g_e2 g_e3 g_e4 (hA.wt 0 rfl) (hA.rng 1 rfl) (hA.rng 2 rfl) hc0 hc1 hc2 hg2)) hA hH
    ·rw[hc2]at hr;simp only[Uay,Q1,Q2]at hr;obtain⟨rfl,rfl,hg2⟩:=BQi hr;exact((ansY (N:=1000) (mKc (Zah Zfr) Zdu (mKc (Zah Zd8) Zcj (mKc (Zah Zf9) Zeg (mKc (Zah Zjk) Zgx mKn)))) f33 [])) ρ _ w _ vals _ _ hn ((Zn8 a0 a1 a2 a3 g_e0 g_e1 g_e2 g_e3 g_e4 (hA.wt 0 rfl) (hA.rng 1 rfl) (hA.rng 2 rfl) hc0 hc1 hc2 hg2)) hA hH
 ·simp only[Uay]at hr;cases hr
theorem Zt0(N:Nat)(a1 a2 a3:Int)(a0:Array Value):ansV prog (mkΓ [(76,con Zhg)]) N f66 [] [.w 0,.i .i64 a1,.i .i64 a2,.i .i64 a3] [.row a0 35]=(bif (decide (0<=a1)&&decide (a1<36)) then (bif (okS a0&&((decide (0<=num ((((zc prog 77).setIfInBounds 0 (.int .i8 (IntKind.i8.wrap a2))).setIfInBounds 2 (.int .i64 1)).setIfInBounds (3+((a1).toNat*1)) (.int .i64 1)) 0)&&decide (num ((((zc prog 77).setIfInBounds 0 (.int .i8 (IntKind.i8.wrap a2))).setIfInBounds 2 (.int .i64 1)).setIfInBounds (3+((a1).toNat*1)) (.int .i64 1)) 0<2))&&((decide (0<=num ((((zc prog 77).setIfInBounds 0 (.int .i8 (IntKind.i8.wrap a2))).setIfInBounds 2 (.int .i64 1)).setIfInBounds (3+((a1).toNat*1)) (.int .i64 1)) 1)&&decide (num ((((zc prog 77).setIfInBounds 0 (.int .i8 (IntKind.i8.wrap a2))).setIfInBounds 2 (.int .i64 1)).setIfInBounds (3+((a1).toNat*1)) (.int .i64 1)) 1<=14))&&(decide (0<=a3)&&decide (a3<=14))))) then (some (.a (.g (Uat prog a0 ((((zc prog 77).setIfInBounds 0 (.int .i8 (IntKind.i8.wrap a2))).setIfInBounds 2 (.int .i64 1)).setIfInBounds (3+((a1).toNat*1)) (.int .i64 1)) a3.toNat) 77),.none,true)) else (none)) else (none)):=by kernel_rfl
def oneX(P:Program)(c b:Int):Array Value:=(((zc P 77).setIfInBounds 0 (.int .i8 (IntKind.i8.wrap b))).setIfInBounds 2 (.int .i64 1)).setIfInBounds (3+c.toNat*1) (.int .i64 1)
theorem Zum{c b:Int}(hb:0<=b/\b<=1)(hc:0<=c/\c<=35):num (oneX prog c b) 0=b/\num (oneX prog c b) 1=0/\(oneX prog c b).size=40/\∀i,i<36->num (oneX prog c b) (3+i)=if i=c.toNat then 1 else 0:=by
 have hz:(zc prog 77).size=40:=by kernel_rfl
 have hc0:(List.range 36).all (λk=>match (zc prog 77)[3+k]? with|some (.int .i64 0)=>true|_=>false)=true:=by kernel_rfl
 have h1:(zc prog 77)[1]?=some (.int .i8 0):=by kernel_rfl
 unfold oneX;refine⟨?_,?_,by simp[hz],λi hi=> ?_⟩
 ·unfold num;rw[jA,if_neg (by omega),jA,if_neg (by omega),jA,if_pos rfl,if_pos (by omega)];exact IntWalk.i8_in _ (by omega)
 ·unfold num;rw[jA,if_neg (by omega),jA,if_neg (by omega),jA,if_neg (by omega),h1]
 ·unfold num;rw[jA]
  by_cases e:i=c.toNat
  ·rw[if_pos (by omega),if_pos (by simp;omega),if_pos e]
  ·rw[if_neg (by omega),if_neg e,jA,if_neg (by omega),jA,if_neg (by omega)];have:=List.all_eq_true.1 hc0 i (List.mem_range.2 hi);split at this
   ·rename_i e2;rw[e2]
   ·cases this
theorem Zs5(a1 a2 a3:Int)(a0:Array Value)(h_a1:i64.min<=a1/\a1<=i64.max)(h_a2:i64.min<=a2/\a2<=i64.max)(h_a3:i64.min<=a3/\a3<=i64.max)(h_a0:WT prog 35 a0)(hg:((okS a0&&((Zac a1 a0&&Zaa a2 0 1)&&Zaa a3 0 14)))=true):ansV prog (mkΓ [(76,con Zhg)]) 1000 f66 [] [.w 0,.i .i64 a1,.i .i64 a2,.i .i64 a3] [.row a0 35]=some (.a (.g (Uat prog a0 (oneX prog a1 a2) a3.toNat) 77),.none,true):=by simp only[Q7]at hg;obtain⟨hok,⟨his,htd⟩,hhr⟩:=hg;have hc:=Zkk his;have hb:=Zkf htd;have hh:=Zkf hhr;obtain⟨n0,n1,_,_⟩:=Zum (c:=a1) (b:=a2) hb hc;refine(Zt0 1000 a1 a2 a3 a0).trans ?_;unfold oneX at n0 n1;rw[dec2 hc.1 (show a1<36 by omega),n0,n1,hok,dec2 hb.1 (show a2<2 by omega),Q3 hh.1,Q3 hh.2];rfl
def Zjf:Con:=λargs h=>match args,h with|[.w 0,.i .i64 a1,.i .i64 a2,.i .i64 a3],[.row a0 35]=>some (.a (.g (Uat prog a0 (oneX prog a1 a2) a3.toNat) 77),.none,(okS a0&&((Zac a1 a0&&Zaa a2 0 1)&&Zaa a3 0 14)))|_,_=>none
theorem Zrv:EntX prog 66:=Zam (fn:=f66)
theorem Zwu:Uad (md F) prog 66 Zjf:=(ansY (N:=1000) (mKc (Zah Zy4) Zsf mKn) f66 []).of (by
 intro ρ h w args vals r e hA hH hr;unfold Zjf at hr;split at hr
 ·rename_i a1 a2 a3 a0;obtain⟨rfl,rfl,hg2⟩:=BQi hr;exact Zs5 a1 a2 a3 a0 (hA.rng 1 rfl) (hA.rng 2 rfl) (hA.rng 3 rfl) (hH.wt 0 rfl) hg2
 ·cases hr)
theorem Zw3(N:Nat)(a0 a1 a2:Int):ansV prog (mkΓ []) N f37 [] [.i .i64 a0,.i .i64 a1,.i .i64 a2] []=(bif (decide (0<=a0)&&decide (a0<36)) then (some (.a (.g ((((zc prog 77).setIfInBounds 0 (.int .i8 (IntKind.i8.wrap a2))).setIfInBounds 2 (.int .i64 a1)).setIfInBounds (3+((a0).toNat*1)) (.int .i64 a1)) 77),.none,true)) else (none)):=by kernel_rfl
def Zar(P:Program)(a0 a1 a2:Int):Array Value:=((((zc P 77).setIfInBounds 0 (.int .i8 (IntKind.i8.wrap a2))).setIfInBounds 2 (.int .i64 a1)).setIfInBounds (3+((a0).toNat*1)) (.int .i64 a1))
theorem Zvg(a0 a1 a2:Int)(h_a0:i64.min<=a0/\a0<=i64.max)(h_a1:i64.min<=a1/\a1<=i64.max)(h_a2:i64.min<=a2/\a2<=i64.max)(hg:((decide (0<=a0)&&decide (a0<36)))=true):ansV prog (mkΓ []) 1000 f37 [] [.i .i64 a0,.i .i64 a1,.i .i64 a2] []=some (.a (.g (Zar prog a0 a1 a2) 77),.none,true):=by
 refine(Zw3 1000 a0 a1 a2).trans ?_;unfold Zar;revert hg;generalize (decide (0<=a0))=b2;intro hg;cases b2
 ·skip
  first|exact(nomatch (hg:false=true))|rfl
 ·skip
  revert hg;generalize (decide (a0<36))=b4;intro hg;cases b4
  ·skip
   first|exact(nomatch (hg:false=true))|rfl
  ·skip
   first|rfl|exact(nomatch (hg:false=true))
def Zkb:Con:=λargs h=>match args,h with|[.i .i64 a0,.i .i64 a1,.i .i64 a2],[]=>some (.a (.g (Zar prog a0 a1 a2) 77),.none,(decide (0<=a0)&&decide (a0<36)))|_,_=>none
theorem Zs1:EntX prog 37:=Zam (fn:=f37)
theorem Zy0:Uad (md F) prog 37 Zkb:=(ansY (N:=1000) mKn f37 []).of (by
 intro ρ h w args vals r e hA hH hr;unfold Zkb at hr;split at hr
 ·rename_i a0 a1 a2;obtain⟨rfl,rfl,hg2⟩:=BQi hr;exact Zvg a0 a1 a2 (hA.rng 0 rfl) (hA.rng 1 rfl) (hA.rng 2 rfl) hg2
 ·cases hr)
def Uey(X:Array Value)(r:Array Value)(k:Nat):Array Value:=r.setIfInBounds (k*1) (.int .i64 (num X (3+k*1)))
def Ub2(P:Program)(S X:Array Value):Array Value:=folds (λr k=>if inC (num S 0) (num S 1) k&&Zab S (k:Int) then Uey X r k else r) (zc P 60) 36
def byV(P:Program)(S:Array Value)(c b:Int)(n:Nat):Array Value:=Ub2 P S (Uat P S (oneX P c b) n)
def subF(D:Array Value)(m:Int)(r:Array Value)(k:Nat):Array Value:=r.setIfInBounds (k*1) (.int .i64 (i64.wrap (num r (k*1) - i64.wrap (num D (k*1)*m))))
def subV(C D:Array Value)(m:Int):Array Value:=folds (subF D m) C 36
def Zdk:Cons:=(mkΓx [] [(26,Zig)] [(47,Zfd)])
def Zea(a0 a1:Array Value):St:=(⟨.a (.g a0 35)::.a (.g a1 77)::.a (.w 0)::.a (.w 1)::.a (.w 2)::.a (.w 3)::.a (.u)::.a (.g a0 35)::.a (.c 47 [7])::us 8 ([]),[.row a0 35,.row a1 77,.row (zc prog 60) 60,.row (zc prog 60) 60,.no,.no,.no,.row a0 35,.no,.no,.no,.no],[]⟩:St)
def Zkm:Array Value->BS
 |r0_3=>([.row r0_3 60]:BS)
def Zm1:Empty->Exit×BS:=λx=>nomatch x
def Zgm(P:Program)(a0 a1:Array Value)(x0:Int):Array Value->Option (Stp (Array Value) Empty)
 |r0_3=>bif (decide (0<=x0)&&decide (x0<36)) then (bif (decide (0<=x0)&&decide (x0<36)) then (some (.more (r0_3.setIfInBounds ((x0).toNat*1) (.int .i64 (num a1 (3+((x0).toNat*1))))))) else (none)) else (none)
noncomputable abbrev cKCyA38:=codeOf f38
theorem Yc5(N:Nat)(a0 a1:Array Value)(x0:Int):∀t:Array Value,Ucg prog Zdk N (cAt cKCyA38 [1,1,0,1,0,0]) (pAt (Uaa cKCyA38 [([],[3])]).1 [1,1,0,1,0]) 12 [3] [9] [(6,9)] (Zea a0 a1) [.i .i64 x0] (Zkm t)=mapS Zkm Zm1 (Zgm prog a0 a1 x0 t):=by
 rintro r0_3
 conv=>rhs;simp only[Zgm,Zax,Zav,Zaw,Zay,Zkm,Zm1]
 kernel_rfl
def Zk1(P:Program)(N:Nat)(a0 a1:Array Value)(q0_3:Array Value):Option (SV×Eff×Bool):=some (.a (.g q0_3 60),.none,true)
theorem Zsc(N:Nat)(a0 a1:Array Value)(q0_3:Array Value):(Uab 0 (kSeq (veC prog Zdk N (cAt cKCyA38 [1,1,1]) (pAt (Uaa cKCyA38 [([],[3])]).1 [1,1,1]) (SV×Eff×Bool)) (finK prog [] [.cell 4 60]))) .normal (Uaw [3] (Zea a0 a1) ([.row q0_3 60]:BS))=Zk1 prog N a0 a1 q0_3:=by kernel_rfl
theorem Ycs(N:Nat)(a0 a1:Array Value):Uby (Uav (λ(x0:Int) (hb:BS)=>Ucg prog Zdk N (cAt cKCyA38 [1,1,0,1,0,0]) (pAt (Uaa cKCyA38 [([],[3])]).1 [1,1,0,1,0]) 12 [3] [9] [(6,9)] (Zea a0 a1) [.i .i64 x0] hb) ((Uak (num a0 0) (num a0 1) 36).filter (Zab a0)) ([.row (zc prog 60) 60]:BS)) (λhb=>(Uab 0 (kSeq (veC prog Zdk N (cAt cKCyA38 [1,1,1]) (pAt (Uaa cKCyA38 [([],[3])]).1 [1,1,1]) (SV×Eff×Bool)) (finK prog [] [.cell 4 60]))) .normal (Uaw [3] (Zea a0 a1) hb)) (λe hb=>(Uab 0 (kSeq (veC prog Zdk N (cAt cKCyA38 [1,1,1]) (pAt (Uaa cKCyA38 [([],[3])]).1 [1,1,1]) (SV×Eff×Bool)) (finK prog [] [.cell 4 60]))) e (Uaw [3] (Zea a0 a1) hb))=Uci (Uav (Zgm prog a0 a1) ((Uak (num a0 0) (num a0 1) 36).filter (Zab a0)) (zc prog 60)) (λx=>Zk1 prog N a0 a1 x) (λx:Empty=>nomatch x):=by
 refine Zps Zkm Zm1 _ _ (λy t=>Yc5 N a0 a1 y t) _ (zc prog 60) _ _ _ _ ?_ ?_
 ·intro x;exact Zsc N a0 a1 x
 ·intro x;exact nomatch x
theorem Yaf(N:Nat)(a0 a1:Array Value):ansV prog Zdk N f38 [([],[3])] [.g a0 35,.g a1 77] []=(bif (decide (0<=num a0 0)&&decide (num a0 0<=6)&&(decide (0<=num a0 1)&&decide (num a0 1<=6))) then (Uci (Uav (Zgm prog a0 a1) ((Uak (num a0 0) (num a0 1) 36).filter (Zab a0)) (zc prog 60)) (λx=>Zk1 prog N a0 a1 x) (λx:Empty=>nomatch x)) else (none)):=by
 conv=>rhs;simp only[<- Ycs N a0 a1]
 kernel_rfl
theorem Zyf(a0 a1:Array Value)(h_a0:WT prog 35 a0)(h_a1:WT prog 77 a1)(hg:(okS a0)=true):ansV prog Zdk 1000 f38 [([],[3])] [.g a0 35,.g a1 77] []=some (.a (.g (Ub2 prog a0 a1) 60),.none,true):=by
 refine(Yaf 1000 a0 a1).trans ?_;rw[Zzs hg,Q1];have h:=Zn3 (X:=Empty) (g:=Zgm prog a0 a1) (q:=Zab a0) (Uey a1) (wd:=num a0 0) (hi:=num a0 1) (λr k hk hi hq=>by
  have h1:decide ((k:Int)<36)=true:=Q3 (by omega);have h0:decide (0<=(k:Int))=true:=Q3 (by omega);simp only[Zgm,h0,h1,Q9,Bool.and_self,Q1];rfl) (zc prog 60)
 rw[h];rfl
def Zmi:Con:=λargs h=>match args,h with|[.g a0 35,.g a1 77],[]=>some (.a (.g (Ub2 prog a0 a1) 60),.none,okS a0)|_,_=>none
theorem Zwm:EntX prog 38:=Zam (fn:=f38)
theorem Ycx:Uad (md F) prog 38 Zmi:=(ansY (N:=1000) (mkΓx_nX Znu Zma (mkΓx_iX Zmj Zkp mkΓx_nilX)) f38 [([],[3])]).of (by
 intro ρ h w args vals r e hA hH hr;unfold Zmi at hr;split at hr
 ·rename_i a0 a1;obtain⟨rfl,rfl,hg2⟩:=BQi hr;exact Zyf a0 a1 (hA.wt 0 rfl) (hA.wt 1 rfl) hg2
 ·cases hr)
def Zfv:Cons:=(mkΓ [(30,con Zbn),(31,con Zfl),(66,con Zjf)])
def Zhm(a1 a2 a3:Int)(a0:Array Value):St:=(⟨.a (.w 0)::.a (.i .i64 a1)::.a (.i .i64 a2)::.a (.i .i64 a3)::us 4 (.a (.w 1)::.a (.w 7)::.a (.w 10)::.a (.i .i64 0)::.a (.w 0)::.a (.i .i64 a1)::.a (.i .i64 a2)::.a (.i .i64 a3)::.a (.g (Uat prog a0 (oneX prog a1 a2) a3.toNat) 77)::.a (.g (zc prog 60) 60)::us 19 ([])),[.row a0 35,.row (zc prog 60) 60,.no,.no,.no,.no,.no,.row (Uat prog a0 (oneX prog a1 a2) a3.toNat) 77,.no,.no,.row (zc prog 60) 60,.no],[10,7]⟩:St)
def Zju:Int×Array Value->LS
 |(y0_11,r0_10)=>([.a (.i .i64 y0_11)],[.row r0_10 60])
def Zn6:Int×Array Value->Exit×LS
 |t=>((.exit 0),Zju t)
def Zfg(P:Program)(a1 a2 a3:Int)(a0:Array Value):Int×Array Value->Option (Stp (Int×Array Value) (Int×Array Value))
 |(y0_11,r0_10)=>bif decide (y0_11<(36:Int)) then (bif (Zac y0_11 a0) then (bif decide (0<=(IntKind.u64.wrap y0_11)) then (bif (Zak y0_11 a0) then (bif (decide (0<=y0_11)&&decide (y0_11<36)) then (bif (decide (0<=y0_11)&&decide (y0_11<36)) then (some (.more ((i64.wrap (y0_11+(1:Int))),(r0_10.setIfInBounds ((y0_11).toNat*1) (.int .i64 (num (Uat prog a0 (oneX prog a1 a2) a3.toNat) (3+((y0_11).toNat*1)))))))) else (none)) else (none)) else (some (.more ((i64.wrap (y0_11+(1:Int))),r0_10)))) else (none)) else (some (.more ((i64.wrap (y0_11+(1:Int))),r0_10)))) else (some (.done (y0_11,r0_10)))
noncomputable abbrev cKCyA45:=codeOf f45
theorem Yfj(N:Nat)(a1 a2 a3:Int)(a0:Array Value):∀t:Int×Array Value,Ual prog Zfv N (cAt cKCyA45 [1,1,1,0,1,0,0]) (pAt (Uaa cKCyA45 [([11],[10])]).1 [1,1,1,0,1,0]) [11] [10] (Zhm a1 a2 a3 a0) (Zju t)=mapS Zju Zn6 (Zfg prog a1 a2 a3 a0 t):=by
 rintro⟨y0_11,r0_10⟩
 conv=>rhs;simp only[Zfg,Zax,Zav,Zaw,Zay,Zju,Zn6]
 kernel_rfl
def Zmh(P:Program)(N:Nat)(a1 a2 a3:Int)(a0:Array Value)(z0_11:Int)(q0_10:Array Value):Option (SV×Eff×Bool):=some (.a (.g q0_10 60),.none,true)
theorem Zt5(N:Nat)(a1 a2 a3:Int)(a0:Array Value)(z0_11:Int)(q0_10:Array Value):(Uab 0 (kSeq (veC prog Zfv N (cAt cKCyA45 [1,1,1,1]) (pAt (Uaa cKCyA45 [([11],[10])]).1 [1,1,1,1]) (SV×Eff×Bool)) (finK prog [.row a0 35] [.cell 8 60]))) (.exit 0) (left (writes (cAt cKCyA45 [1,1,1,0,1,0,0])) [11] [10] (Zhm a1 a2 a3 a0) ([.a (.i .i64 z0_11)],[.row q0_10 60]))=Zmh prog N a1 a2 a3 a0 z0_11 q0_10:=by kernel_rfl
theorem Yfa(N:Nat)(a1 a2 a3:Int)(a0:Array Value):Uah (Uac (Ual prog Zfv N (cAt cKCyA45 [1,1,1,0,1,0,0]) (pAt (Uaa cKCyA45 [([11],[10])]).1 [1,1,1,0,1,0]) [11] [10] (Zhm a1 a2 a3 a0)) N ([.a (.i .i64 0)],[.row (zc prog 60) 60])) (λe s=>(Uab 0 (kSeq (veC prog Zfv N (cAt cKCyA45 [1,1,1,1]) (pAt (Uaa cKCyA45 [([11],[10])]).1 [1,1,1,1]) (SV×Eff×Bool)) (finK prog [.row a0 35] [.cell 8 60]))) e (left (writes (cAt cKCyA45 [1,1,1,0,1,0,0])) [11] [10] (Zhm a1 a2 a3 a0) s))=Uan (Uac (Zfg prog a1 a2 a3 a0) N ((0:Int),(zc prog 60))) (λx=>Zmh prog N a1 a2 a3 a0 x.1 x.2):=by refine Za5 Zju Zn6 _ _ (Yfj N a1 a2 a3 a0) N ((0:Int),(zc prog 60)) _ _ ?_;intro x;exact Zt5 N a1 a2 a3 a0 x.1 x.2
theorem Ycl(N:Nat)(a1 a2 a3:Int)(a0:Array Value):ansV prog Zfv N f45 [([11],[10])] [.w 0,.i .i64 a1,.i .i64 a2,.i .i64 a3] [.row a0 35]=(bif (okS a0&&((Zac a1 a0&&Zaa a2 0 1)&&Zaa a3 0 14)) then (Uan (Uac (Zfg prog a1 a2 a3 a0) N ((0:Int),(zc prog 60))) (λx=>Zmh prog N a1 a2 a3 a0 x.1 x.2)) else (none)):=by
 conv=>rhs;simp only[<- Yfa N a1 a2 a3 a0]
 kernel_rfl
theorem Ybm(a1 a2 a3:Int)(a0:Array Value)(h_a1:i64.min<=a1/\a1<=i64.max)(h_a2:i64.min<=a2/\a2<=i64.max)(h_a3:i64.min<=a3/\a3<=i64.max)(h_a0:WT prog 35 a0)(hg:((okS a0&&((Zac a1 a0&&Zaa a2 0 1)&&Zaa a3 0 14)))=true):ansV prog Zfv 1000 f45 [([11],[10])] [.w 0,.i .i64 a1,.i .i64 a2,.i .i64 a3] [.row a0 35]=some (.a (.g (byV prog a0 a1 a2 a3.toNat) 60),.none,true):=by
 refine(Ycl 1000 a1 a2 a3 a0).trans ?_;rw[hg,Q1];have h:=Ziw (g:=Zfg prog a1 a2 a3 a0) (λr k=>((k:Int),r)) (λr k=>if inC (num a0 0) (num a0 1) k&&Zab a0 (k:Int) then Uey (Uat prog a0 (oneX prog a1 a2) a3.toNat) r k else r) (m:=36) (t:=zc prog 60) (x:=((36:Int),byV prog a0 a1 a2 a3.toNat)) (N:=1000) (λk s hk _=>by
  have h1:decide ((k:Int)<36)=true:=Q3 (by omega);have h0:decide (0<=(k:Int))=true:=Q3 (by omega);have h3:i64.wrap ((k:Int)+1)=((k+1:Nat):Int):=by rw[w64 (by omega)];omega
  rw[Yj4 h_a0 hk];simp only[Zfg,h1,h0,h3,Ygw h_a0 hk,Yit,Q9,Bool.and_self,Q1];cases inC (num a0 0) (num a0 1) k with
  |false=>rfl
  |true=>cases Zak (k:Int) a0<;>rfl) (by
  have h1:decide (((36:Nat):Int)<36)=false:=by decide
  simp only[Zfg,h1,Q2];rfl) (by omega)
 have h':Uac (Zfg prog a1 a2 a3 a0) 1000 ((0:Int),(zc prog 60))=some ((36:Int),byV prog a0 a1 a2 a3.toNat):=h;rw[h'];rfl
def Zcn:Con:=λargs h=>match args,h with|[.w 0,.i .i64 a1,.i .i64 a2,.i .i64 a3],[.row a0 35]=>some (.a (.g (byV prog a0 a1 a2 a3.toNat) 60),.none,(okS a0&&((Zac a1 a0&&Zaa a2 0 1)&&Zaa a3 0 14)))|_,_=>none
theorem Zy2:EntX prog 45:=Zam (fn:=f45)
theorem Yec:Uad (md F) prog 45 Zcn:=(ansY (N:=1000) (mKc (Zah Zi3) Zf7 (mKc (Zah Zkj) Zhj (mKc (Zah Zwu) Zrv mKn))) f45 [([11],[10])]).of (by
 intro ρ h w args vals r e hA hH hr;unfold Zcn at hr;split at hr
 ·rename_i a1 a2 a3 a0;obtain⟨rfl,rfl,hg2⟩:=BQi hr;exact Ybm a1 a2 a3 a0 (hA.rng 1 rfl) (hA.rng 2 rfl) (hA.rng 3 rfl) (hH.wt 0 rfl) hg2
 ·cases hr)
theorem Zz2:(zc prog 60).size=36:=by kernel_rfl
theorem Yna:bytesOf prog 60=288:=by kernel_rfl
theorem Ymx(P:Program)(T:TypeId){r:Array Value}(h:r.size=(zc P T).size):spl (repC (zc P T) 1) 0 r.toList=r:=by
 have e:repC (zc P T) 1=zc P T:=by unfold repC repL repL;simp
 rw[e];exact Yem h
theorem Zxi(S X:Array Value):(Ub2 prog S X).size=36:=by
 unfold Ub2;refine Zh6 (λ_ (r:Array Value)=>r.size=36) Zz2 (λk s _ hs=> ?_) 36 (Nat.le_refl _);unfold Uey;split
 ·rw[Array.size_setIfInBounds];exact hs
 ·exact hs
theorem Zof(S:Array Value)(c b:Int)(n:Nat):(byV prog S c b n).size=36:=Zxi _ _
theorem Yl9{c b:Int}(hc:0<=c/\c<=35):WT prog 77 (oneX prog c b):=by
 have o1:i64.min<=(1:Int)/\(1:Int)<=i64.max:=by have e1:i64.min=-9223372036854775808:=rfl;have e2:i64.max=9223372036854775807:=rfl;omega
 unfold oneX;exact Zl7 (k:=.i64) (Zl7 (k:=.i64) (Zl7 (k:=.i8) (WT.zero (by kernel_rfl)) Ybk.1 (Zip .i8 _)) (Zlx (by omega) (by omega)) o1) (Zlx (by omega) (by omega)) o1
theorem Ylv{S:Array Value}{c b:Int}(hc:Zac c S=true)(hb:Zaa b 0 1=true):(0<=num (oneX prog c b) 0/\num (oneX prog c b) 0<2)/\(0<=num (oneX prog c b) 1/\num (oneX prog c b) 1<=14):=by have h1:=Zkf hb;obtain⟨n0,n1,_,_⟩:=Zum (c:=c) (b:=b) h1 (Zkk hc);rw[n0,n1];omega
theorem one_zero{S:Array Value}(hS:WT prog 35 S){c b:Int}(hc:Zac c S=true)(hb:Zaa b 0 1=true):ZO S (oneX prog c b):=by
 intro k hk hf;have hr:=Zkk hc;rw[(Zum (c:=c) (b:=b) (Zkf hb) hr).2.2.2 k hk,if_neg];intro e;have hkc:(k:Int)=c:=by omega
 rw[<- hkc,Ygw hS hk,hf]at hc;cases hc
theorem one_go{S:Array Value}(hS:WT prog 35 S)(hok:okS S=true){c b:Int}(hc:Zac c S=true)(hb:Zaa b 0 1=true){j:Nat}(hj:j<=14):goG S (Uat prog S (oneX prog c b) j)=true:=by obtain⟨l0,l1⟩:=Ylv hc hb;have hl:=Yas (S:=S) l0 l1 j hj;have n1:=(Zum (c:=c) (b:=b) (Zkf hb) (Zkk hc)).2.1;exact Ymv.2 ⟨hok,by rw[hl.1];exact l0,by rw[hl.2,n1];omega,Ykt (Yl9 (Zkk hc)) hok hS (one_zero hS hc hb) j⟩
def recC(P:Program)(S:Array Value)(c b:Int):Nat->Array Value
 |0=>byV P S c b 0
 |n+1=>recC P S c b n++byV P S c b (n+1)
theorem Ygz(S:Array Value)(c b:Int):∀n,(recC prog S c b n).size=(n+1)*36
 |0=>Zof _ _ _ _
 |n+1=>by rw[recC,Array.size_append,Ygz S c b n,Zof];omega
theorem Zz7(S:Array Value)(c b:Int):∀(n j:Nat),j<=n->(recC prog S c b n).extract (j*36) (j*36+36)=byV prog S c b j
 |0,j,hj=>by
  obtain rfl:j=0:=by omega
  rw[recC];exact Zsm (Zof _ _ _ _)
 | n+1,j,hj=>by
  have hz:=Ygz S c b n
  by_cases h:j<=n
  ·rw[<- Zz7 S c b n j h,recC];refine Array.ext_getElem? λi=> ?_
   rw[Array.getElem?_extract,Array.getElem?_extract,Array.size_append,hz,Zof]
   by_cases hi:i<min (j*36+36) ((n+1)*36) - j*36
   ·rw[if_pos (by omega),if_pos hi,Array.getElem?_append,if_pos (by omega)]
   ·rw[if_neg (by omega),if_neg hi]
  ·obtain rfl:j=n+1:=by omega
   rw[recC];refine Array.ext_getElem? λi=> ?_
   rw[Array.getElem?_extract,Array.size_append,hz,Zof]
   by_cases hi:i<36
   ·rw[if_pos (by omega),Array.getElem?_append,if_neg (by omega),hz,show (n+1)*36+i - (n+1)*36=i by omega]
   ·rw[if_neg (by omega),Array.getElem?_eq_none (by rw[Zof];omega)]
theorem num_sub1(a:Int)(h:1<=a/\a<=14):i64.wrap (a - 1)=a - 1/\(i64.wrap (a - 1)).toNat=a.toNat - 1:=by rw[w64 (by omega)];omega
def Zhd(a1 a2 a3:Int)(a0:Array Value):St:=(⟨.a (.w 0)::.a (.i .i64 a1)::.a (.i .i64 a2)::.a (.i .i64 a3)::us 4 (.a (.w 1)::.a (.w 7)::.a (.w 15)::.a (.i .i64 0)::.a (.w 0)::.a (.i .i64 a1)::.a (.i .i64 a2)::.a (.i .i64 a3)::.a (.g (byV prog a0 a1 a2 a3.toNat) 60)::.a (.w 0)::.a (.i .i64 a1)::.a (.i .i64 a2)::.a (.i .i64 a3)::.a (.i .i64 (i64.wrap (a3 - (1:Int))))::.a (.g (byV prog a0 a1 a2 (i64.wrap (a3 - (1:Int))).toNat) 60)::us 14 ([])),[.row a0 35,.row (zc prog 60) 60,.no,.no,.no,.no,.no,.row (byV prog a0 a1 a2 a3.toNat) 60,.no,.no,.no,.no,.no,.no,.no,.row (byV prog a0 a1 a2 (i64.wrap (a3 - (1:Int))).toNat) 60,.no],[15,7]⟩:St)
def Zje:Int×Array Value->LS
 |(y0_11,r0_7)=>([.a (.i .i64 y0_11)],[.row r0_7 60])
def Zoh:Int×Array Value->Exit×LS
 |t=>((.exit 0),Zje t)
def Zd3(P:Program)(a1 a2 a3:Int)(a0:Array Value):Int×Array Value->Option (Stp (Int×Array Value) (Int×Array Value))
 |(y0_11,r0_7)=>bif decide (y0_11<(36:Int)) then (bif (decide (0<=y0_11)&&decide (y0_11<36)) then (bif (decide (0<=y0_11)&&decide (y0_11<36)) then (bif (decide (0<=y0_11)&&decide (y0_11<36)) then (some (.more ((i64.wrap (y0_11+(1:Int))),(r0_7.setIfInBounds ((y0_11).toNat*1) (.int .i64 (i64.wrap ((num r0_7 ((y0_11).toNat*1)) - (i64.wrap ((12:Int)*(num (byV prog a0 a1 a2 (i64.wrap (a3 - (1:Int))).toNat) ((y0_11).toNat*1))))))))))) else (none)) else (none)) else (none)) else (some (.done (y0_11,r0_7)))
noncomputable abbrev cKCyA20:=codeOf f20
theorem Yfg(N:Nat)(a1 a2 a3:Int)(a0:Array Value):∀t:Int×Array Value,Ual prog (mkΓ [(45,con Zcn)]) N (cAt cKCyA20 [1,1,1,0,1,0,0]) (pAt (Uaa cKCyA20 [([11],[7])]).1 [1,1,1,0,1,0]) [11] [7] (Zhd a1 a2 a3 a0) (Zje t)=mapS Zje Zoh (Zd3 prog a1 a2 a3 a0 t):=by
 rintro⟨y0_11,r0_7⟩
 conv=>rhs;simp only[Zd3,Zax,Zav,Zaw,Zay,Zje,Zoh]
 kernel_rfl
def Zjv(P:Program)(N:Nat)(a1 a2 a3:Int)(a0:Array Value)(z0_11:Int)(q0_7:Array Value):Option (SV×Eff×Bool):=some (.a (.g q0_7 60),.none,true)
theorem Zuf(N:Nat)(a1 a2 a3:Int)(a0:Array Value)(z0_11:Int)(q0_7:Array Value):(Uab 0 (kSeq (veC prog (mkΓ [(45,con Zcn)]) N (cAt cKCyA20 [1,1,1,1]) (pAt (Uaa cKCyA20 [([11],[7])]).1 [1,1,1,1]) (SV×Eff×Bool)) (finK prog [.row a0 35] [.cell 8 60]))) (.exit 0) (left (writes (cAt cKCyA20 [1,1,1,0,1,0,0])) [11] [7] (Zhd a1 a2 a3 a0) ([.a (.i .i64 z0_11)],[.row q0_7 60]))=Zjv prog N a1 a2 a3 a0 z0_11 q0_7:=by kernel_rfl
theorem Ye0(N:Nat)(a1 a2 a3:Int)(a0:Array Value):Uah (Uac (Ual prog (mkΓ [(45,con Zcn)]) N (cAt cKCyA20 [1,1,1,0,1,0,0]) (pAt (Uaa cKCyA20 [([11],[7])]).1 [1,1,1,0,1,0]) [11] [7] (Zhd a1 a2 a3 a0)) N ([.a (.i .i64 0)],[.row (byV prog a0 a1 a2 a3.toNat) 60])) (λe s=>(Uab 0 (kSeq (veC prog (mkΓ [(45,con Zcn)]) N (cAt cKCyA20 [1,1,1,1]) (pAt (Uaa cKCyA20 [([11],[7])]).1 [1,1,1,1]) (SV×Eff×Bool)) (finK prog [.row a0 35] [.cell 8 60]))) e (left (writes (cAt cKCyA20 [1,1,1,0,1,0,0])) [11] [7] (Zhd a1 a2 a3 a0) s))=Uan (Uac (Zd3 prog a1 a2 a3 a0) N ((0:Int),(byV prog a0 a1 a2 a3.toNat))) (λx=>Zjv prog N a1 a2 a3 a0 x.1 x.2):=by refine Za5 Zje Zoh _ _ (Yfg N a1 a2 a3 a0) N ((0:Int),(byV prog a0 a1 a2 a3.toNat)) _ _ ?_;intro x;exact Zuf N a1 a2 a3 a0 x.1 x.2
theorem Yc6(N:Nat)(a1 a2 a3:Int)(a0:Array Value):ansV prog (mkΓ [(45,con Zcn)]) N f20 [([11],[7])] [.w 0,.i .i64 a1,.i .i64 a2,.i .i64 a3] [.row a0 35]=(bif (okS a0&&((Zac a1 a0&&Zaa a2 0 1)&&Zaa a3 0 14)) then (bif (okS a0&&((Zac a1 a0&&Zaa a2 0 1)&&Zaa (i64.wrap (a3 - (1:Int))) 0 14)) then (Uan (Uac (Zd3 prog a1 a2 a3 a0) N ((0:Int),(byV prog a0 a1 a2 a3.toNat))) (λx=>Zjv prog N a1 a2 a3 a0 x.1 x.2)) else (none)) else (none)):=by
 conv=>rhs;simp only[<- Ye0 N a1 a2 a3 a0]
 kernel_rfl
theorem Yaz(a1 a2 a3:Int)(a0:Array Value)(h_a1:i64.min<=a1/\a1<=i64.max)(h_a2:i64.min<=a2/\a2<=i64.max)(h_a3:i64.min<=a3/\a3<=i64.max)(h_a0:WT prog 35 a0)(hg:((okS a0&&((Zac a1 a0&&Zaa a2 0 1)&&Zaa a3 1 14)))=true):ansV prog (mkΓ [(45,con Zcn)]) 1000 f20 [([11],[7])] [.w 0,.i .i64 a1,.i .i64 a2,.i .i64 a3] [.row a0 35]=some (.a (.g (subV (byV prog a0 a1 a2 a3.toNat) (byV prog a0 a1 a2 (a3.toNat - 1)) 12) 60),.none,true):=by
 simp only[Q7]at hg;obtain⟨q0,⟨q1,q2⟩,q3⟩:=hg;have r3:=Zkf q3;obtain⟨e1,e2⟩:=num_sub1 a3 r3;refine(Yc6 1000 a1 a2 a3 a0).trans ?_;rw[q0,q1,q2,in_of (x:=a3) (a:=0) (b:=14) (by omega),in_of (x:=i64.wrap (a3 - 1)) (a:=0) (b:=14) (by omega)];simp only[Bool.and_self,Q1];have h:=Ziw (g:=Zd3 prog a1 a2 a3 a0) (λr k=>((k:Int),r)) (subF (byV prog a0 a1 a2 (a3.toNat - 1)) 12) (m:=36) (t:=byV prog a0 a1 a2 a3.toNat) (x:=((36:Int),subV (byV prog a0 a1 a2 a3.toNat) (byV prog a0 a1 a2 (a3.toNat - 1)) 12)) (N:=1000) (λk s hk _=>by
  have h1:decide ((k:Int)<36)=true:=Q3 (by omega);have h0:decide (0<=(k:Int))=true:=Q3 (by omega);have h3:i64.wrap ((k:Int)+1)=((k+1:Nat):Int):=by rw[w64 (by omega)];omega
  simp only[Zd3,h1,h0,h3,e2,Q9,Bool.and_self,Q1];unfold subF;rw[Int.mul_comm (12:Int)]) (by
  have h1:decide (((36:Nat):Int)<36)=false:=by decide
  simp only[Zd3,h1,Q2];rfl) (by omega)
 have hq:∀q,Uac (Zd3 prog a1 a2 a3 a0) 1000 ((0:Int),byV prog a0 a1 a2 a3.toNat)=some ((36:Int),q)->Uan (Uac (Zd3 prog a1 a2 a3 a0) 1000 ((0:Int),byV prog a0 a1 a2 a3.toNat)) (λx=>Zjv prog 1000 a1 a2 a3 a0 x.1 x.2)=some (.a (.g q 60),.none,true):=λq e=>by rw[e];rfl
 exact hq _ h
def Zmy:Con:=λargs h=>match args,h with|[.w 0,.i .i64 a1,.i .i64 a2,.i .i64 a3],[.row a0 35]=>some (.a (.g (subV (byV prog a0 a1 a2 a3.toNat) (byV prog a0 a1 a2 (a3.toNat - 1)) 12) 60),.none,(okS a0&&((Zac a1 a0&&Zaa a2 0 1)&&Zaa a3 1 14)))|_,_=>none
theorem Zx9:EntX prog 20:=Zam (fn:=f20)
theorem Ye4:Uad (md F) prog 20 Zmy:=(ansY (N:=1000) (mKc (Zah Yec) Zy2 mKn) f20 [([11],[7])]).of (by
 intro ρ h w args vals r e hA hH hr;unfold Zmy at hr;split at hr
 ·rename_i a1 a2 a3 a0;obtain⟨rfl,rfl,hg2⟩:=BQi hr;exact Yaz a1 a2 a3 a0 (hA.rng 1 rfl) (hA.rng 2 rfl) (hA.rng 3 rfl) (hH.wt 0 rfl) hg2
 ·cases hr)
def Zcz(a1 a2:Int)(b_a0:Option (Option Addr))(n_a0:Nat)(a0:Array Value):St:=(⟨.a (.l 0)::.a (.i .i64 a1)::.a (.i .i64 a2)::us 3 (.a (.w 1)::.a (.w 6)::.a (.u)::.a (.u)::.a (.l 0)::.a (.i .i64 a2)::.a (.q 0 (((a2).toNat*36)) 60)::.a (.g (a0.extract ((a2).toNat*36) (((a2).toNat*36)+36)) 60)::.a (.l 0)::.a (.i .i64 a1)::.a (.q 0 (((a1).toNat*36)) 60)::.a (.g (a0.extract ((a1).toNat*36) (((a1).toNat*36)+36)) 60)::.a (.i .i64 0)::us 16 ([])),[.sl (.came b_a0) n_a0 a0 60,.row (zc prog 60) 60,.no,.no,.no,.no,.row (a0.extract ((a2).toNat*36) (((a2).toNat*36)+36)) 60,.no],[6]⟩:St)
def Zd1:Int×Array Value->LS
 |(y0_18,r0_6)=>([.a (.i .i64 y0_18)],[.row r0_6 60])
def Zhy:Int×Array Value->Exit×LS
 |t=>((.exit 0),Zd1 t)
def Zbd(P:Program)(a1 a2:Int)(b_a0:Option (Option Addr))(n_a0:Nat)(a0:Array Value):Int×Array Value->Option (Stp (Int×Array Value) (Int×Array Value))
 |(y0_18,r0_6)=>bif decide (y0_18<(36:Int)) then (bif (decide (0<=y0_18)&&decide (y0_18<36)) then (bif (decide (0<=y0_18)&&decide (y0_18<36)) then (bif (decide (0<=(i64.wrap (a2 - a1)))&&decide ((i64.wrap (a2 - a1))<=14)) then (bif (decide (0<=y0_18)&&decide (y0_18<36)) then (some (.more ((i64.wrap (y0_18+(1:Int))),(r0_6.setIfInBounds ((y0_18).toNat*1) (.int .i64 (i64.wrap ((num r0_6 ((y0_18).toNat*1)) - (i64.wrap ((num (a0.extract ((a1).toNat*36) (((a1).toNat*36)+36)) ((y0_18).toNat*1))*(12^(i64.wrap (a2 - a1)).toNat)))))))))) else (none)) else (none)) else (none)) else (none)) else (some (.done (y0_18,r0_6)))
noncomputable abbrev cKCyA25:=codeOf f25
theorem Zrj(N:Nat)(a1 a2:Int)(b_a0:Option (Option Addr))(n_a0:Nat)(a0:Array Value):∀t:Int×Array Value,Ual prog (mkΓ [(28,con Za9)]) N (cAt cKCyA25 [1,1,0,1,0,0]) (pAt (Uaa cKCyA25 [([18],[6])]).1 [1,1,0,1,0]) [18] [6] (Zcz a1 a2 b_a0 n_a0 a0) (Zd1 t)=mapS Zd1 Zhy (Zbd prog a1 a2 b_a0 n_a0 a0 t):=by
 rintro⟨y0_18,r0_6⟩
 conv=>rhs;simp only[Zbd,Zax,Zav,Zaw,Zay,Zd1,Zhy]
 kernel_rfl
def Zem(P:Program)(N:Nat)(a1 a2:Int)(b_a0:Option (Option Addr))(n_a0:Nat)(a0:Array Value)(z0_18:Int)(q0_6:Array Value):Option (SV×Eff×Bool):=some (.a (.g q0_6 60),.none,true)
theorem Zm7(N:Nat)(a1 a2:Int)(b_a0:Option (Option Addr))(n_a0:Nat)(a0:Array Value)(z0_18:Int)(q0_6:Array Value):(Uab 0 (kSeq (veC prog (mkΓ [(28,con Za9)]) N (cAt cKCyA25 [1,1,1]) (pAt (Uaa cKCyA25 [([18],[6])]).1 [1,1,1]) (SV×Eff×Bool)) (finK prog [.sl (.came b_a0) n_a0 a0 60] [.cell 6 60]))) (.exit 0) (left (writes (cAt cKCyA25 [1,1,0,1,0,0])) [18] [6] (Zcz a1 a2 b_a0 n_a0 a0) ([.a (.i .i64 z0_18)],[.row q0_6 60]))=Zem prog N a1 a2 b_a0 n_a0 a0 z0_18 q0_6:=by kernel_rfl
theorem Zri(N:Nat)(a1 a2:Int)(b_a0:Option (Option Addr))(n_a0:Nat)(a0:Array Value):Uah (Uac (Ual prog (mkΓ [(28,con Za9)]) N (cAt cKCyA25 [1,1,0,1,0,0]) (pAt (Uaa cKCyA25 [([18],[6])]).1 [1,1,0,1,0]) [18] [6] (Zcz a1 a2 b_a0 n_a0 a0)) N ([.a (.i .i64 0)],[.row (a0.extract ((a2).toNat*36) (((a2).toNat*36)+36)) 60])) (λe s=>(Uab 0 (kSeq (veC prog (mkΓ [(28,con Za9)]) N (cAt cKCyA25 [1,1,1]) (pAt (Uaa cKCyA25 [([18],[6])]).1 [1,1,1]) (SV×Eff×Bool)) (finK prog [.sl (.came b_a0) n_a0 a0 60] [.cell 6 60]))) e (left (writes (cAt cKCyA25 [1,1,0,1,0,0])) [18] [6] (Zcz a1 a2 b_a0 n_a0 a0) s))=Uan (Uac (Zbd prog a1 a2 b_a0 n_a0 a0) N ((0:Int),(a0.extract ((a2).toNat*36) (((a2).toNat*36)+36)))) (λx=>Zem prog N a1 a2 b_a0 n_a0 a0 x.1 x.2):=by refine Za5 Zd1 Zhy _ _ (Zrj N a1 a2 b_a0 n_a0 a0) N ((0:Int),(a0.extract ((a2).toNat*36) (((a2).toNat*36)+36))) _ _ ?_;intro x;exact Zm7 N a1 a2 b_a0 n_a0 a0 x.1 x.2
theorem Zqp(N:Nat)(a1 a2:Int)(b_a0:Option (Option Addr))(n_a0:Nat)(a0:Array Value):ansV prog (mkΓ [(28,con Za9)]) N f25 [([18],[6])] [.l 0,.i .i64 a1,.i .i64 a2] [.sl (.came b_a0) n_a0 a0 60]=(bif (decide (0<=a2)&&decide (a2<(n_a0:Int))) then (bif (decide (0<=a1)&&decide (a1<(n_a0:Int))) then (Uan (Uac (Zbd prog a1 a2 b_a0 n_a0 a0) N ((0:Int),(a0.extract ((a2).toNat*36) (((a2).toNat*36)+36)))) (λx=>Zem prog N a1 a2 b_a0 n_a0 a0 x.1 x.2)) else (none)) else (none)):=by
 conv=>rhs;simp only[<- Zri N a1 a2 b_a0 n_a0 a0]
 kernel_rfl
theorem Zor(a1 a2:Int)(b_a0:Option (Option Addr))(n_a0:Nat)(a0:Array Value)(h_a1:i64.min<=a1/\a1<=i64.max)(h_a2:i64.min<=a2/\a2<=i64.max)(h_a0:a0.size=n_a0*(lay prog 60).length/\(∀k,k<n_a0->WT prog 60 (a0.extract (k*(lay prog 60).length) (k*(lay prog 60).length+(lay prog 60).length)))/\n_a0<=9223372036854775807)(hg:(((decide (0<=a1)&&decide (a1<=a2))&&(decide (a2<=a1+14)&&decide (a2<(n_a0:Int)))))=true):ansV prog (mkΓ [(28,con Za9)]) 1000 f25 [([18],[6])] [.l 0,.i .i64 a1,.i .i64 a2] [.sl (.came b_a0) n_a0 a0 60]=some (.a (.g (subV (a0.extract (a2.toNat*36) (a2.toNat*36+36)) (a0.extract (a1.toNat*36) (a1.toNat*36+36)) (12^(a2 - a1).toNat)) 60),.none,true):=by
 simp only[Q7,decide_eq_true_eq]at hg;obtain⟨⟨q0,q1⟩,q2,q3⟩:=hg;have ew:i64.wrap (a2 - a1)=a2 - a1:=w64 (by omega);refine(Zqp 1000 a1 a2 b_a0 n_a0 a0).trans ?_;rw[dec2 (show 0<=a2 by omega) q3,dec2 q0 (show a1<(n_a0:Int) by omega)];simp only[Q1];have hq:∀q,Uac (Zbd prog a1 a2 b_a0 n_a0 a0) 1000 ((0:Int),a0.extract (a2.toNat*36) (a2.toNat*36+36))=some ((36:Int),q)->Uan (Uac (Zbd prog a1 a2 b_a0 n_a0 a0) 1000 ((0:Int),a0.extract (a2.toNat*36) (a2.toNat*36+36))) (λx=>Zem prog 1000 a1 a2 b_a0 n_a0 a0 x.1 x.2)=some (.a (.g q 60),.none,true):=λq e=>by rw[e];rfl
 refine hq _ ?_;unfold subV;have hF:∀(k:Nat) (s:Array Value),k<36->Zbd prog a1 a2 b_a0 n_a0 a0 ((k:Int),s)=some (.more (((k+1:Nat):Int),subF (a0.extract (a1.toNat*36) (a1.toNat*36+36)) (12^(a2 - a1).toNat) s k)):=λk s hk=>by
  have h1:decide ((k:Int)<36)=true:=Q3 (by omega);have h0:decide (0<=(k:Int))=true:=Q3 (by omega);have h3:i64.wrap ((k:Int)+1)=((k+1:Nat):Int):=by rw[w64 (by omega)];omega
  have h4:decide (0<=a2 - a1)=true:=Q3 (by omega);have h5:decide (a2 - a1<=14)=true:=Q3 (by omega);simp only[Zbd,h1,h0,h3,ew,h4,h5,Q9,Bool.and_self,Q1,subF]
 generalize a0.extract (a2.toNat*36) (a2.toNat*36+36)=C;generalize hD:a0.extract (a1.toNat*36) (a1.toNat*36+36)=D at hF|-
 generalize hm:(12:Int)^(a2 - a1).toNat=m at hF|-
 exact Ziw (g:=Zbd prog a1 a2 b_a0 n_a0 a0) (λr k=>((k:Int),r)) (subF D m) (m:=36) (t:=C) (x:=((36:Int),folds (subF D m) C 36)) (N:=1000) (λk s hk _=>hF k s hk) (by
  have h1:decide (((36:Nat):Int)<36)=false:=by decide
  generalize folds (subF D m) C 36=q;simp only[Zbd,h1,Q2];rfl) (by omega)
def Zg5:Con:=λargs h=>match args,h with|[.l 0,.i .i64 a1,.i .i64 a2],[.sl (.came b_a0) n_a0 a0 60]=>some (.a (.g (subV (a0.extract (a2.toNat*36) (a2.toNat*36+36)) (a0.extract (a1.toNat*36) (a1.toNat*36+36)) (12^(a2 - a1).toNat)) 60),.none,((decide (0<=a1)&&decide (a1<=a2))&&(decide (a2<=a1+14)&&decide (a2<(n_a0:Int)))))|_,_=>none
theorem Zod:EntX prog 25:=Zam (fn:=f25)
theorem Zrq:Uad (md F) prog 25 Zg5:=(ansY (N:=1000) (mKc (Zah Zmv) Zkn mKn) f25 [([18],[6])]).of (by
 intro ρ h w args vals r e hA hH hr;unfold Zg5 at hr;split at hr
 ·rename_i a1 a2 b_a0 n_a0 a0;obtain⟨rfl,rfl,hg2⟩:=BQi hr;exact Zor a1 a2 b_a0 n_a0 a0 (hA.rng 1 rfl) (hA.rng 2 rfl) (hH.slw 0 rfl) hg2
 ·cases hr)
def Zdo:Cons:=(mkΓ [(37,con Zkb),(38,con Zmi),(39,con Zk3)])
def Zeq(a0:Array Value)(a1 a2 a3:Int):St:=(⟨.a (.g a0 35)::.a (.i .i64 a1)::.a (.i .i64 a2)::.a (.i .i64 a3)::.a (.w 0)::us 3 (.a (.v (.slice none 0 0))::.a (.w 5)::.a (.l 12)::.a (.i .i64 a1)::.a (.i .i64 a2)::.a (.g (Zar prog a1 (1:Int) a2) 77)::.a (.g a0 35)::.a (.g (Zar prog a1 (1:Int) a2) 77)::.a (.g (Ub2 prog a0 (Zar prog a1 (1:Int) a2)) 60)::.a (.l 10)::.a (.i .i64 a3)::.a (.i .i64 0)::us 12 ([])),[.row a0 35,.no,.no,.no,.no,.row (Zar prog a1 (1:Int) a2) 77,.no,.no,.no,.no,.sp,.no,.sl .own 1 (spl (repC (zc prog 60) 1) 0 (Ub2 prog a0 (Zar prog a1 (1:Int) a2)).toList) 60],[10,5]⟩:St)
def Zf6:Int×Array Value×Nat×Array Value->LS
 |(y0_19,r0_5,m0_10,y0_10)=>([.a (.i .i64 y0_19),.a (.l 12)],[.row r0_5 77,.sl .own m0_10 y0_10 60])
def Zle:Int×Array Value×Nat×Array Value->Exit×LS
 |t=>((.exit 0),Zf6 t)
def Zc9(P:Program)(a0:Array Value)(a1 a2 a3:Int):Int×Array Value×Nat×Array Value->Option (Stp (Int×Array Value×Nat×Array Value) (Int×Array Value×Nat×Array Value))
 |(y0_19,r0_5,m0_10,y0_10)=>bif decide (y0_19<a3) then (bif (goG a0 r0_5) then (bif okS a0 then (bif (Nat.ble ((m0_10+1)*bytesOf prog 60) 140737488355328) then (some (.more ((i64.wrap (y0_19+(1:Int))),(Ubk prog a0 r0_5),(m0_10+1),(y0_10++(spl (repC (zc prog 60) 1) 0 (Ub2 prog a0 (Ubk prog a0 r0_5)).toList))))) else (none)) else (none)) else (none)) else (some (.done (y0_19,r0_5,m0_10,y0_10)))
noncomputable abbrev cKCyA16:=codeOf f16
theorem Zyc(N:Nat)(a0:Array Value)(a1 a2 a3:Int):∀t:Int×Array Value×Nat×Array Value,Uga prog Zdo N (cAt cKCyA16 [1,1,1,0,1,0,0]) (pAt (Uaa cKCyA16 [([19],[5,1000010,60])]).1 [1,1,1,0,1,0]) [19] [5] 10 60 12 (Zeq a0 a1 a2 a3) (Zf6 t)=mapS Zf6 Zle (Zc9 prog a0 a1 a2 a3 t):=by
 rintro⟨y0_19,r0_5,m0_10,y0_10⟩
 conv=>rhs;simp only[Zc9,Zax,Zav,Zaw,Zay,Zf6,Zle]
 kernel_rfl
def Zjd(P:Program)(N:Nat)(a0:Array Value)(a1 a2 a3:Int)(z0_19:Int)(q0_5:Array Value)(p0_10:Nat)(z0_10:Array Value):Option (SV×Eff×Bool):=some (.a .x,.newS none p0_10 z0_10 60,true)
theorem Zpo(N:Nat)(a0:Array Value)(a1 a2 a3:Int)(z0_19:Int)(q0_5:Array Value)(p0_10:Nat)(z0_10:Array Value):(Uab 0 (kSeq (veC prog Zdo N (cAt cKCyA16 [1,1,1,1]) (pAt (Uaa cKCyA16 [([19],[5,1000010,60])]).1 [1,1,1,1]) (SV×Eff×Bool)) (finK prog [] [.tmp 8]))) (.exit 0) (left (writes (cAt cKCyA16 [1,1,1,0,1,0,0])) [19,10] [5,12] (Zeq a0 a1 a2 a3) ([.a (.i .i64 z0_19),.a (.l 12)],[.row q0_5 77,.sl .own p0_10 z0_10 60]))=Zjd prog N a0 a1 a2 a3 z0_19 q0_5 p0_10 z0_10:=by kernel_rfl
theorem Zye(N:Nat)(a0:Array Value)(a1 a2 a3:Int):Uah (Uac (Uga prog Zdo N (cAt cKCyA16 [1,1,1,0,1,0,0]) (pAt (Uaa cKCyA16 [([19],[5,1000010,60])]).1 [1,1,1,0,1,0]) [19] [5] 10 60 12 (Zeq a0 a1 a2 a3)) N ([.a (.i .i64 0),.a (.l 12)],[.row (Zar prog a1 (1:Int) a2) 77,.sl .own 1 (spl (repC (zc prog 60) 1) 0 (Ub2 prog a0 (Zar prog a1 (1:Int) a2)).toList) 60])) (λe s=>(Uab 0 (kSeq (veC prog Zdo N (cAt cKCyA16 [1,1,1,1]) (pAt (Uaa cKCyA16 [([19],[5,1000010,60])]).1 [1,1,1,1]) (SV×Eff×Bool)) (finK prog [] [.tmp 8]))) e (left (writes (cAt cKCyA16 [1,1,1,0,1,0,0])) [19,10] [5,12] (Zeq a0 a1 a2 a3) s))=Uan (Uac (Zc9 prog a0 a1 a2 a3) N ((0:Int),(Zar prog a1 (1:Int) a2),1,(spl (repC (zc prog 60) 1) 0 (Ub2 prog a0 (Zar prog a1 (1:Int) a2)).toList))) (λx=>Zjd prog N a0 a1 a2 a3 x.1 x.2.1 x.2.2.1 x.2.2.2):=by refine Za5 Zf6 Zle _ _ (Zyc N a0 a1 a2 a3) N ((0:Int),(Zar prog a1 (1:Int) a2),1,(spl (repC (zc prog 60) 1) 0 (Ub2 prog a0 (Zar prog a1 (1:Int) a2)).toList)) _ _ ?_;intro x;exact Zpo N a0 a1 a2 a3 x.1 x.2.1 x.2.2.1 x.2.2.2
theorem Zwd(N:Nat)(a0:Array Value)(a1 a2 a3:Int):ansV prog Zdo N f16 [([19],[5,1000010,60])] [.g a0 35,.i .i64 a1,.i .i64 a2,.i .i64 a3] []=(bif (decide (0<=a1)&&decide (a1<36)) then (bif okS a0 then (Uan (Uac (Zc9 prog a0 a1 a2 a3) N ((0:Int),(Zar prog a1 (1:Int) a2),1,(spl (repC (zc prog 60) 1) 0 (Ub2 prog a0 (Zar prog a1 (1:Int) a2)).toList))) (λx=>Zjd prog N a0 a1 a2 a3 x.1 x.2.1 x.2.2.1 x.2.2.2)) else (none)) else (none)):=by
 conv=>rhs;simp only[<- Zye N a0 a1 a2 a3]
 kernel_rfl
theorem Ztw(a0:Array Value)(a1 a2 a3:Int)(h_a0:WT prog 35 a0)(h_a1:i64.min<=a1/\a1<=i64.max)(h_a2:i64.min<=a2/\a2<=i64.max)(h_a3:i64.min<=a3/\a3<=i64.max)(hg:((okS a0&&((Zac a1 a0&&Zaa a2 0 1)&&Zaa a3 0 14)))=true):ansV prog Zdo 1000 f16 [([19],[5,1000010,60])] [.g a0 35,.i .i64 a1,.i .i64 a2,.i .i64 a3] []=some (.a .x,.newS none (a3.toNat+1) (recC prog a0 a1 a2 a3.toNat) 60,true):=by
 simp only[Q7]at hg;obtain⟨q0,⟨q1,q2⟩,q3⟩:=hg;have r1:=Zkk q1;have r3:=Zkf q3;obtain⟨m,rfl⟩:=Int.eq_ofNat_of_zero_le r3.1;refine(Zwd 1000 a0 a1 a2 (m:Int)).trans ?_;rw[dec2 r1.1 (show a1<36 by omega),q0];simp only[Q1];have e0:Zar prog a1 1 a2=oneX prog a1 a2:=rfl;have e1:spl (repC (zc prog 60) 1) 0 (Ub2 prog a0 (oneX prog a1 a2)).toList=recC prog a0 a1 a2 0:=Ymx prog 60 (by rw[Zxi,Zz2]);rw[e0,e1,Q9];have h:=Zdb (g:=Zc9 prog a0 a1 a2 (m:Int)) (λj=>((j:Int),Uat prog a0 (oneX prog a1 a2) j,j+1,recC prog a0 a1 a2 j)) (m:=m) (x:=((m:Int),Uat prog a0 (oneX prog a1 a2) m,m+1,recC prog a0 a1 a2 m)) (N:=1000) (λj hj=>by
  have h1:decide ((j:Int)<(m:Int))=true:=Q3 (by omega);have h3:i64.wrap ((j:Int)+1)=((j+1:Nat):Int):=by rw[w64 (by omega)];omega
  have h4:=one_go h_a0 q0 q1 q2 (show j<=14 by omega);have h6:Nat.ble ((j+1+1)*bytesOf prog 60) 140737488355328=true:=Nat.ble_eq_true_of_le (by rw[Yna];omega);have h7:spl (repC (zc prog 60) 1) 0 (Ub2 prog a0 (Ubk prog a0 (Uat prog a0 (oneX prog a1 a2) j))).toList=byV prog a0 a1 a2 (j+1):=Ymx prog 60 (by rw[Zxi,Zz2]);simp only[Zc9,h1,h3,h4,q0,h6,h7,Q1];rfl) (by
  have h1:decide ((m:Int)<(m:Int))=false:=Q4 (by omega);simp only[Zc9,h1,Q2]) (by omega)
 have h':Uac (Zc9 prog a0 a1 a2 (m:Int)) 1000 ((0:Int),oneX prog a1 a2,1,recC prog a0 a1 a2 0)=some ((m:Int),Uat prog a0 (oneX prog a1 a2) m,m+1,recC prog a0 a1 a2 m):=h;rw[h'];rfl
def Zj4:Con:=λargs h=>match args,h with|[.g a0 35,.i .i64 a1,.i .i64 a2,.i .i64 a3],[]=>some (.a .x,.newS none (a3.toNat+1) (recC prog a0 a1 a2 a3.toNat) 60,(okS a0&&((Zac a1 a0&&Zaa a2 0 1)&&Zaa a3 0 14)))|_,_=>none
theorem Zsw:EntX prog 16:=Zam (fn:=f16)
theorem Zym:Uad (md F) prog 16 Zj4:=(ansY (N:=1000) (mKc (Zah Zy0) Zs1 (mKc (Zah Ycx) Zwm (mKc (Zah Zz9) Zve mKn))) f16 [([19],[5,1000010,60])]).of (by
 intro ρ h w args vals r e hA hH hr;unfold Zj4 at hr;split at hr
 ·rename_i a0 a1 a2 a3;obtain⟨rfl,rfl,hg2⟩:=BQi hr;exact Ztw a0 a1 a2 a3 (hA.wt 0 rfl) (hA.rng 1 rfl) (hA.rng 2 rfl) (hA.rng 3 rfl) hg2
 ·cases hr)
end
end Go.Proofs.YtefjogahegolbaaDoor
