/- Records of what has stranded, in company; where and when a bottle is released. -/
import Derived.Test.YtefjogahegolbaaDoorProg
import Derived.Test.YtefjogahegolbaaDoorCxK
import Derived.Test.YtefjogahegolbaaDoorCxEachLand
import Derived.Test.YtefjogahegolbaaDoorIsX
set_option linter.unusedVariables false
set_option linter.unusedSimpArgs false
open _root_.Array renaming getElem?_setIfInBounds->jA
namespace Go.Proofs.YtefjogahegolbaaDoor
open Tryd (f15 f16 f20 f25 f29 f33 f37 f38 f45 f66)
open Go.ChangeShapes Go.WideShapes Go.ChangeAt Go.RowKit Ve Vc
open Tryd (prog)
open IntKind (i64)
set_option maxRecDepth 100000
noncomputable section
variable {F:Vc.Fd}
def Ze4:Con:=ansV prog (mkΓ [(36,conG isCon)]) 1000 f15 []
theorem Zd4:EntX prog 15:=Zal (fn:=f15)
theorem Zf1:Uad (md F) prog 15 Ze4:=ansY (N:=1000) (mKc (Zdy isCon_ok) Yfq mKn) f15 []
def Zq0:Cons:=(mkΓ [(30,con Zbj),(31,con Ze6),(41,con Zln),(50,con Zjw)])
theorem Zxc(N:Nat)(a1 a2:Int)(a3:Bool)(a0:Array Value):ansV prog Zq0 N f29 [] [.w 0,.i .i64 a1,.i .i64 a2,.b a3] [.row a0 35]=(bif (!((okS a0))) then (some (.a (.i .i64 1),.none,true)) else (bif (!((Zac a1 a0))) then (some (.a (.i .i64 2),.none,true)) else (bif (!((Zaa a2 (0:Int) (1:Int)))) then (some (.a (.i .i64 2),.none,true)) else (bif (!(a3)) then (some (.a (.i .i64 2),.none,true)) else (bif decide (0<=(IntKind.u64.wrap a1)) then (bif (Zab a1 a0) then (some (.a (.i .i64 4),.none,true)) else (some (.a (.i .i64 0),.none,true))) else (none)))))):=by kernel_rfl
def Zao(a1 a2:Int)(a3:Bool)(a0:Array Value):Int:=(bif (!((okS a0))) then (1:Int) else (bif (!((Zac a1 a0))) then (2:Int) else (bif (!((Zaa a2 (0:Int) (1:Int)))) then (2:Int) else (bif (!(a3)) then (2:Int) else (bif (Zab a1 a0) then (4:Int) else (0:Int))))))
def Zbz(a1 a2:Int)(a3:Bool)(a0:Array Value):Bool:=(bif (!((okS a0))) then true else (bif (!((Zac a1 a0))) then true else (bif (!((Zaa a2 (0:Int) (1:Int)))) then true else (bif (!(a3)) then true else decide (0<=(IntKind.u64.wrap a1))))))
theorem Zu7(a1 a2:Int)(a3:Bool)(a0:Array Value)(h_a1:i64.min<=a1/\a1<=i64.max)(h_a2:i64.min<=a2/\a2<=i64.max)(h_a0:WT prog 35 a0)(hg:((Zbz a1 a2 a3 a0))=true):ansV prog Zq0 1000 f29 [] [.w 0,.i .i64 a1,.i .i64 a2,.b a3] [.row a0 35]=some (.a (.i .i64 (Zao a1 a2 a3 a0)),.none,true):=by
 refine(Zxc 1000 a1 a2 a3 a0).trans ?_;unfold Zbz at hg;unfold Zao;revert hg;generalize ((!((okS a0))))=b2;intro hg;cases b2
 ·skip
  revert hg;generalize ((!((Zac a1 a0))))=b4;intro hg;cases b4
  ·skip
   revert hg;generalize ((!((Zaa a2 (0:Int) (1:Int)))))=b6;intro hg;cases b6
   ·skip
    revert hg;generalize ((!(a3)))=b8;intro hg;cases b8
    ·skip
     revert hg;generalize (decide (0<=(IntKind.u64.wrap a1)))=b10;intro hg;cases b10
     ·skip
      first|exact(nomatch (hg:false=true))|rfl
     ·skip
      revert hg;generalize ((Zab a1 a0))=b12;intro hg;cases b12
      ·skip
       first|rfl|exact(nomatch (hg:false=true))
      ·skip
       first|rfl|exact(nomatch (hg:false=true))
    ·skip
     first|rfl|exact(nomatch (hg:false=true))
   ·skip
    first|rfl|exact(nomatch (hg:false=true))
  ·skip
   first|rfl|exact(nomatch (hg:false=true))
 ·skip
  first|rfl|exact(nomatch (hg:false=true))
def Zj7:Con:=λargs h=>match args,h with|[.w 0,.i .i64 a1,.i .i64 a2,.b a3],[.row a0 35]=>some (.a (.i .i64 (Zao a1 a2 a3 a0)),.none,(Zbz a1 a2 a3 a0))|_,_=>none
theorem Zr3:EntX prog 29:=Zal (fn:=f29)
theorem Zye:Uad (md F) prog 29 Zj7:=(ansY (N:=1000) (mKc (Zah Zim) Zfs (mKc (Zah Zjg) Zgu (mKc (Zah Yco) Zwx (mKc (Zah Zzm) Ztf mKn)))) f29 []).of (by
 intro ρ h w args vals r e hA hH hr;unfold Zj7 at hr;split at hr
 ·rename_i a1 a2 a3 a0;obtain⟨rfl,rfl,hg2⟩:=BQi hr;exact Zu7 a1 a2 a3 a0 (hA.rng 1 rfl) (hA.rng 2 rfl) (hH.wt 0 rfl) hg2
 ·cases hr)
theorem Uf9{x a b:Int}(h:a<=x/\x<=b):Zaa x a b=true:=by unfold Zaa;rw[Q3 (show x>=a from h.1),Q3 h.2];rfl
theorem Yc2{S:Array Value}(hS:WT prog 35 S){c:Int}(hc:0<=c/\c<=35):Zae S c=Zab c S:=by obtain⟨k,rfl⟩:=Int.eq_ofNat_of_zero_le hc.1;exact Ygt hS (by omega)
theorem Ybv(c:Int):decide (0<=IntKind.u64.wrap c)=true:=Q3 (Zhs .u64 _).1
theorem Yjm(c b:Int)(f:Bool)(S:Array Value):Zbz c b f S=true:=by unfold Zbz;rw[Ybv];cases okS S<;>cases Zac c S<;>cases Zaa b 0 1<;>cases f<;>rfl
def rl(S:Array Value)(c b:Int)(f:Bool):Bool:=Zac c S&&(Zaa b 0 1&&f)
theorem Yj5(c b:Int)(f:Bool)(S:Array Value):Zao c b f S=bif okS S then (bif rl S c b f then (bif Zab c S then 4 else 0) else 2) else 1:=by unfold Zao rl;cases okS S<;>cases Zac c S<;>cases Zaa b 0 1<;>cases f<;>rfl
def Zd8:Cons:=(mkΓ [(34,con Zc3),(49,con Za1),(52,con Zi2),(53,con Zj8)])
theorem Zen(N:Nat)(a0:Array Value)(a1 a2:Int)(a3:Bool)(g_e0 g_e1 g_e2 g_e3 g_e4:Addr):ansV prog Zd8 N f33 [] [.g a0 35,.i .i64 a1,.i .i64 a2,.b a3] [.gl 1 140 g_e0 101973,.gl 2 140 g_e1 93330,.gl 0 140 g_e2 124718,.gl 3 140 g_e3 112315,.gl 4 140 g_e4 94254]=(bif (!((okS a0))) then (some (.a (.e 0),.none,true)) else (bif (!((Zak a0 a1))) then (some (.a (.e 1),.none,true)) else (bif (!((Zcl a2))) then (some (.a (.e 1),.none,true)) else (bif (!(a3)) then (some (.a (.e 1),.none,true)) else (bif decide (0<=a1) then (bif (Zae a0 a1) then (some (.a (.e 2),.none,true)) else (some (.a (.v .nilIface),.none,true))) else (none)))))):=by kernel_rfl
theorem Zm6(a0:Array Value)(a1 a2:Int)(a3:Bool)(g_e0 g_e1 g_e2 g_e3 g_e4:Addr)(h_a0:WT prog 35 a0)(h_a1:i64.min<=a1/\a1<=i64.max)(h_a2:i64.min<=a2/\a2<=i64.max)(hc0:(okS a0)=false)(hg:(true)=true):ansV prog Zd8 1000 f33 [] [.g a0 35,.i .i64 a1,.i .i64 a2,.b a3] [.gl 1 140 g_e0 101973,.gl 2 140 g_e1 93330,.gl 0 140 g_e2 124718,.gl 3 140 g_e3 112315,.gl 4 140 g_e4 94254]=some (.a (.e 0),.none,true):=by refine(Zen 1000 a0 a1 a2 a3 g_e0 g_e1 g_e2 g_e3 g_e4).trans ?_;simp only[hc0,Bool.not_false,Q1]
theorem Zml(a0:Array Value)(a1 a2:Int)(a3:Bool)(g_e0 g_e1 g_e2 g_e3 g_e4:Addr)(h_a0:WT prog 35 a0)(h_a1:i64.min<=a1/\a1<=i64.max)(h_a2:i64.min<=a2/\a2<=i64.max)(hc0:(okS a0)=true)(hc1:(rl a0 a1 a2 a3)=false)(hg:(true)=true):ansV prog Zd8 1000 f33 [] [.g a0 35,.i .i64 a1,.i .i64 a2,.b a3] [.gl 1 140 g_e0 101973,.gl 2 140 g_e1 93330,.gl 0 140 g_e2 124718,.gl 3 140 g_e3 112315,.gl 4 140 g_e4 94254]=some (.a (.e 1),.none,true):=by
 refine(Zen 1000 a0 a1 a2 a3 g_e0 g_e1 g_e2 g_e3 g_e4).trans ?_;have ht:Zcl a2=Zaa a2 0 1:=Yf0 a2;rw[Zpg,ht];unfold rl at hc1;rw[hc0];cases q1:Zac a1 a0 with|false=>rfl| true=>cases q2:Zaa a2 0 1 with|false=>rfl|true=>cases q3:a3 with|false=>rfl|true=>rw[q1,q2,q3]at hc1;cases hc1
theorem Zmp(a0:Array Value)(a1 a2:Int)(a3:Bool)(g_e0 g_e1 g_e2 g_e3 g_e4:Addr)(h_a0:WT prog 35 a0)(h_a1:i64.min<=a1/\a1<=i64.max)(h_a2:i64.min<=a2/\a2<=i64.max)(hc0:(okS a0)=true)(hc1:(rl a0 a1 a2 a3)=true)(hc2:(Zab a1 a0)=false)(hg:(true)=true):ansV prog Zd8 1000 f33 [] [.g a0 35,.i .i64 a1,.i .i64 a2,.b a3] [.gl 1 140 g_e0 101973,.gl 2 140 g_e1 93330,.gl 0 140 g_e2 124718,.gl 3 140 g_e3 112315,.gl 4 140 g_e4 94254]=some (.a (.v .nilIface),.none,true):=by refine(Zen 1000 a0 a1 a2 a3 g_e0 g_e1 g_e2 g_e3 g_e4).trans ?_;have ht:Zcl a2=Zaa a2 0 1:=Yf0 a2;rw[Zpg,ht];unfold rl at hc1;simp only[Q7]at hc1;obtain⟨q1,q2,q3⟩:=hc1;have hr:=Zgd q1;rw[hc0,q1,q2,q3,Yc2 h_a0 hr,hc2,Q3 hr.1];rfl
theorem Zmv(a0:Array Value)(a1 a2:Int)(a3:Bool)(g_e0 g_e1 g_e2 g_e3 g_e4:Addr)(h_a0:WT prog 35 a0)(h_a1:i64.min<=a1/\a1<=i64.max)(h_a2:i64.min<=a2/\a2<=i64.max)(hc0:(okS a0)=true)(hc1:(rl a0 a1 a2 a3)=true)(hc2:(Zab a1 a0)=true)(hg:(true)=true):ansV prog Zd8 1000 f33 [] [.g a0 35,.i .i64 a1,.i .i64 a2,.b a3] [.gl 1 140 g_e0 101973,.gl 2 140 g_e1 93330,.gl 0 140 g_e2 124718,.gl 3 140 g_e3 112315,.gl 4 140 g_e4 94254]=some (.a (.e 2),.none,true):=by refine(Zen 1000 a0 a1 a2 a3 g_e0 g_e1 g_e2 g_e3 g_e4).trans ?_;have ht:Zcl a2=Zaa a2 0 1:=Yf0 a2;rw[Zpg,ht];unfold rl at hc1;simp only[Q7]at hc1;obtain⟨q1,q2,q3⟩:=hc1;have hr:=Zgd q1;rw[hc0,q1,q2,q3,Yc2 h_a0 hr,hc2,Q3 hr.1];rfl
def Zaw:SCon:=λargs h=>match args,h with|[.g a0 35,.i .i64 a1,.i .i64 a2,.b a3],[.gl 1 140 g_e0 101973,.gl 2 140 g_e1 93330,.gl 0 140 g_e2 124718,.gl 3 140 g_e3 112315,.gl 4 140 g_e4 94254]=>.two (okS a0) (.two (rl a0 a1 a2 a3) (.two (Zab a1 a0) (.one (some (.a (.e 2),.none,true))) (.one (some (.a (.v .nilIface),.none,true)))) (.one (some (.a (.e 1),.none,true)))) (.one (some (.a (.e 0),.none,true)))|_,_=>.one none
theorem Zcq:EntX prog 33:=Zal (fn:=f33)
theorem Zem:Uad (md F) prog 33 (λargs h=>Uaf (Zaw args h)):=by
 intro ρ h w args vals r e hn hr hA hH;dsimp only at hr;unfold Zaw at hr;split at hr
 ·rename_i a0 a1 a2 a3 g_e0 g_e1 g_e2 g_e3 g_e4;simp only[Uaf]at hr;cases hc0:(okS a0)
  ·rw[hc0]at hr;simp only[Uaf,Q1,Q2]at hr;obtain⟨rfl,rfl,hg2⟩:=BQi hr;exact((ansY (N:=1000) (mKc (Zah Zca) Zbm (mKc (Zah Zd2) Zch (mKc (Zah Zhn) Zfj (mKc (Zah Zh7) Zge mKn)))) f33 [])) ρ _ w _ vals _ _ hn ((Zm6 a0 a1 a2 a3 g_e0 g_e1 g_e2 g_e3 g_e4 (hA.wt 0 rfl) (hA.rng 1 rfl) (hA.rng 2 rfl) hc0 hg2)) hA hH
  ·rw[hc0]at hr;simp only[Uaf,Q1,Q2]at hr;cases hc1:(rl a0 a1 a2 a3)
   ·rw[hc1]at hr;simp only[Uaf,Q1,Q2]at hr;obtain⟨rfl,rfl,hg2⟩:=BQi hr;exact((ansY (N:=1000) (mKc (Zah Zca) Zbm (mKc (Zah Zd2) Zch (mKc (Zah Zhn) Zfj (mKc (Zah Zh7) Zge mKn)))) f33 [])) ρ _ w _ vals _ _ hn ((Zml a0 a1 a2 a3 g_e0 g_e1 g_e2 g_e3 g_e4 (hA.wt 0 rfl) (hA.rng 1 rfl) (hA.rng 2 rfl) hc0 hc1 hg2)) hA hH
   ·rw[hc1]at hr;simp only[Uaf,Q1,Q2]at hr;cases hc2:(Zab a1 a0)
    ·rw[hc2]at hr;simp only[Uaf,Q1,Q2]at hr;obtain⟨rfl,rfl,hg2⟩:=BQi hr;exact((ansY (N:=1000) (mKc (Zah Zca) Zbm (mKc (Zah Zd2) Zch (mKc (Zah Zhn) Zfj (mKc (Zah Zh7) Zge mKn)))) f33 [])) ρ _ w _ vals _ _ hn ((Zmp a0 a1 a2 a3 g_e0 g_e1 g_e2 g_e3 g_e4 (hA.wt 0 rfl) (hA.rng 1 rfl) (hA.rng 2 rfl) hc0 hc1 hc2 hg2)) hA hH
    ·rw[hc2]at hr;simp only[Uaf,Q1,Q2]at hr;obtain⟨rfl,rfl,hg2⟩:=BQi hr;exact((ansY (N:=1000) (mKc (Zah Zca) Zbm (mKc (Zah Zd2) Zch (mKc (Zah Zhn) Zfj (mKc (Zah Zh7) Zge mKn)))) f33 [])) ρ _ w _ vals _ _ hn ((Zmv a0 a1 a2 a3 g_e0 g_e1 g_e2 g_e3 g_e4 (hA.wt 0 rfl) (hA.rng 1 rfl) (hA.rng 2 rfl) hc0 hc1 hc2 hg2)) hA hH
 ·simp only[Uaf]at hr;cases hr
theorem Zsb(N:Nat)(a1 a2 a3:Int)(a0:Array Value):ansV prog (mkΓ [(76,con Zgz)]) N f66 [] [.w 0,.i .i64 a1,.i .i64 a2,.i .i64 a3] [.row a0 35]=(bif (decide (0<=a1)&&decide (a1<36)) then (bif (okS a0&&((decide (0<=num ((((zc prog 77).setIfInBounds 0 (.int .i8 (IntKind.i8.wrap a2))).setIfInBounds 2 (.int .i64 1)).setIfInBounds (3+((a1).toNat*1)) (.int .i64 1)) 0)&&decide (num ((((zc prog 77).setIfInBounds 0 (.int .i8 (IntKind.i8.wrap a2))).setIfInBounds 2 (.int .i64 1)).setIfInBounds (3+((a1).toNat*1)) (.int .i64 1)) 0<2))&&((decide (0<=num ((((zc prog 77).setIfInBounds 0 (.int .i8 (IntKind.i8.wrap a2))).setIfInBounds 2 (.int .i64 1)).setIfInBounds (3+((a1).toNat*1)) (.int .i64 1)) 1)&&decide (num ((((zc prog 77).setIfInBounds 0 (.int .i8 (IntKind.i8.wrap a2))).setIfInBounds 2 (.int .i64 1)).setIfInBounds (3+((a1).toNat*1)) (.int .i64 1)) 1<=14))&&(decide (0<=a3)&&decide (a3<=14))))) then (some (.a (.g (Uaz prog a0 ((((zc prog 77).setIfInBounds 0 (.int .i8 (IntKind.i8.wrap a2))).setIfInBounds 2 (.int .i64 1)).setIfInBounds (3+((a1).toNat*1)) (.int .i64 1)) a3.toNat) 77),.none,true)) else (none)) else (none)):=by kernel_rfl
def oneX(P:Program)(c b:Int):Array Value:=(((zc P 77).setIfInBounds 0 (.int .i8 (IntKind.i8.wrap b))).setIfInBounds 2 (.int .i64 1)).setIfInBounds (3+c.toNat*1) (.int .i64 1)
theorem Zxk{c b:Int}(hb:0<=b/\b<=1)(hc:0<=c/\c<=35):num (oneX prog c b) 0=b/\num (oneX prog c b) 1=0/\(oneX prog c b).size=40/\∀i,i<36->num (oneX prog c b) (3+i)=if i=c.toNat then 1 else 0:=by
 have hz:(zc prog 77).size=40:=by kernel_rfl
 have hc0:(List.range 36).all (λk=>match (zc prog 77)[3+k]? with|some (.int .i64 0)=>true|_=>false)=true:=by kernel_rfl
 have h1:(zc prog 77)[1]?=some (.int .i8 0):=by kernel_rfl
 unfold oneX;refine⟨?_,?_,by simp[hz],λi hi=> ?_⟩
 ·unfold num;rw[jA,if_neg (by omega),jA,if_neg (by omega),jA,if_pos rfl,if_pos (by omega)];exact IntWalk.i8_in _ (by omega)
 ·unfold num;rw[jA,if_neg (by omega),jA,if_neg (by omega),jA,if_neg (by omega),h1]
 ·unfold num;rw[jA]
  by_cases e:i=c.toNat
  ·rw[if_pos (by omega),if_pos (by simp;omega),if_pos e]
  ·rw[if_neg (by omega),if_neg e,jA,if_neg (by omega),jA,if_neg (by omega)];have:=List.all_eq_true.1 hc0 i (List.mem_range.2 hi);split at this
   ·rename_i e2;rw[e2]
   ·cases this
theorem Zrv(a1 a2 a3:Int)(a0:Array Value)(h_a1:i64.min<=a1/\a1<=i64.max)(h_a2:i64.min<=a2/\a2<=i64.max)(h_a3:i64.min<=a3/\a3<=i64.max)(h_a0:WT prog 35 a0)(hg:((okS a0&&((Zac a1 a0&&Zaa a2 0 1)&&Zaa a3 0 14)))=true):ansV prog (mkΓ [(76,con Zgz)]) 1000 f66 [] [.w 0,.i .i64 a1,.i .i64 a2,.i .i64 a3] [.row a0 35]=some (.a (.g (Uaz prog a0 (oneX prog a1 a2) a3.toNat) 77),.none,true):=by simp only[Q7]at hg;obtain⟨hok,⟨his,htd⟩,hhr⟩:=hg;have hc:=Zgd his;have hb:=Zmk htd;have hh:=Zmk hhr;obtain⟨n0,n1,_,_⟩:=Zxk (c:=a1) (b:=a2) hb hc;refine(Zsb 1000 a1 a2 a3 a0).trans ?_;unfold oneX at n0 n1;rw[dec2 hc.1 (show a1<36 by omega),n0,n1,hok,dec2 hb.1 (show a2<2 by omega),Q3 hh.1,Q3 hh.2];rfl
def Zib:Con:=λargs h=>match args,h with|[.w 0,.i .i64 a1,.i .i64 a2,.i .i64 a3],[.row a0 35]=>some (.a (.g (Uaz prog a0 (oneX prog a1 a2) a3.toNat) 77),.none,(okS a0&&((Zac a1 a0&&Zaa a2 0 1)&&Zaa a3 0 14)))|_,_=>none
theorem Zqj:EntX prog 66:=Zal (fn:=f66)
theorem Zun:Uad (md F) prog 66 Zib:=(ansY (N:=1000) (mKc (Zah Zwr) Zrf mKn) f66 []).of (by
 intro ρ h w args vals r e hA hH hr;unfold Zib at hr;split at hr
 ·rename_i a1 a2 a3 a0;obtain⟨rfl,rfl,hg2⟩:=BQi hr;exact Zrv a1 a2 a3 a0 (hA.rng 1 rfl) (hA.rng 2 rfl) (hA.rng 3 rfl) (hH.wt 0 rfl) hg2
 ·cases hr)
theorem Zvm(N:Nat)(a0 a1 a2:Int):ansV prog (mkΓ []) N f37 [] [.i .i64 a0,.i .i64 a1,.i .i64 a2] []=(bif (decide (0<=a0)&&decide (a0<36)) then (some (.a (.g ((((zc prog 77).setIfInBounds 0 (.int .i8 (IntKind.i8.wrap a2))).setIfInBounds 2 (.int .i64 a1)).setIfInBounds (3+((a0).toNat*1)) (.int .i64 a1)) 77),.none,true)) else (none)):=by kernel_rfl
def Zap(P:Program)(a0 a1 a2:Int):Array Value:=((((zc P 77).setIfInBounds 0 (.int .i8 (IntKind.i8.wrap a2))).setIfInBounds 2 (.int .i64 a1)).setIfInBounds (3+((a0).toNat*1)) (.int .i64 a1))
theorem Zsx(a0 a1 a2:Int)(h_a0:i64.min<=a0/\a0<=i64.max)(h_a1:i64.min<=a1/\a1<=i64.max)(h_a2:i64.min<=a2/\a2<=i64.max)(hg:((decide (0<=a0)&&decide (a0<36)))=true):ansV prog (mkΓ []) 1000 f37 [] [.i .i64 a0,.i .i64 a1,.i .i64 a2] []=some (.a (.g (Zap prog a0 a1 a2) 77),.none,true):=by
 refine(Zvm 1000 a0 a1 a2).trans ?_;unfold Zap;revert hg;generalize (decide (0<=a0))=b2;intro hg;cases b2
 ·skip
  first|exact(nomatch (hg:false=true))|rfl
 ·skip
  revert hg;generalize (decide (a0<36))=b4;intro hg;cases b4
  ·skip
   first|exact(nomatch (hg:false=true))|rfl
  ·skip
   first|rfl|exact(nomatch (hg:false=true))
def Ziy:Con:=λargs h=>match args,h with|[.i .i64 a0,.i .i64 a1,.i .i64 a2],[]=>some (.a (.g (Zap prog a0 a1 a2) 77),.none,(decide (0<=a0)&&decide (a0<36)))|_,_=>none
theorem Zri:EntX prog 37:=Zal (fn:=f37)
theorem Zwc:Uad (md F) prog 37 Ziy:=(ansY (N:=1000) mKn f37 []).of (by
 intro ρ h w args vals r e hA hH hr;unfold Ziy at hr;split at hr
 ·rename_i a0 a1 a2;obtain⟨rfl,rfl,hg2⟩:=BQi hr;exact Zsx a0 a1 a2 (hA.rng 0 rfl) (hA.rng 1 rfl) (hA.rng 2 rfl) hg2
 ·cases hr)
def landF(X:Array Value)(r:Array Value)(k:Nat):Array Value:=r.setIfInBounds (k*1) (.int .i64 (num X (3+k*1)))
def Uce(P:Program)(S X:Array Value):Array Value:=folds (λr k=>if inC (num S 0) (num S 1) k&&Zae S (k:Int) then landF X r k else r) (zc P 60) 36
def byV(P:Program)(S:Array Value)(c b:Int)(n:Nat):Array Value:=Uce P S (Uaz P S (oneX P c b) n)
def subF(D:Array Value)(m:Int)(r:Array Value)(k:Nat):Array Value:=r.setIfInBounds (k*1) (.int .i64 (i64.wrap (num r (k*1) - i64.wrap (num D (k*1)*m))))
def subV(C D:Array Value)(m:Int):Array Value:=folds (subF D m) C 36
def Zdd:Cons:=(mkΓx [] [(26,Zj6)] [(47,Zgc)])
def Zd0(a0 a1:Array Value):St:=(⟨.a (.g a0 35)::.a (.g a1 77)::.a (.w 0)::.a (.w 1)::.a (.w 2)::.a (.w 3)::.a (.u)::.a (.g a0 35)::.a (.c 47 [7])::us 8 ([]),[.row a0 35,.row a1 77,.row (zc prog 60) 60,.row (zc prog 60) 60,.no,.no,.no,.row a0 35,.no,.no,.no,.no],[]⟩:St)
def Zjj:Array Value->BS
 |r0_3=>([.row r0_3 60]:BS)
def Zlr:Empty->Exit×BS:=λx=>nomatch x
def Zfx(P:Program)(a0 a1:Array Value)(x0:Int):Array Value->Option (Stp (Array Value) Empty)
 |r0_3=>bif (decide (0<=x0)&&decide (x0<36)) then (bif (decide (0<=x0)&&decide (x0<36)) then (some (.more (r0_3.setIfInBounds ((x0).toNat*1) (.int .i64 (num a1 (3+((x0).toNat*1))))))) else (none)) else (none)
noncomputable abbrev cKCyA38:=codeOf f38
theorem Zz5(N:Nat)(a0 a1:Array Value)(x0:Int):∀t:Array Value,Ud8 prog Zdd N (cAt cKCyA38 [1,1,0,1,0,0]) (pAt (Uaa cKCyA38 [([],[3])]).1 [1,1,0,1,0]) 12 [3] [9] [(6,9)] (Zd0 a0 a1) [.i .i64 x0] (Zjj t)=mapS Zjj Zlr (Zfx prog a0 a1 x0 t):=by
 rintro r0_3
 conv=>rhs;simp only[Zfx,Zbg,Zbe,Zbd,Zbh,Zjj,Zlr]
 kernel_rfl
def Zj9(P:Program)(N:Nat)(a0 a1:Array Value)(q0_3:Array Value):Option (SV×Eff×Bool):=some (.a (.g q0_3 60),.none,true)
theorem Zrw(N:Nat)(a0 a1:Array Value)(q0_3:Array Value):(Uac 0 (kSeq (veC prog Zdd N (cAt cKCyA38 [1,1,1]) (pAt (Uaa cKCyA38 [([],[3])]).1 [1,1,1]) (SV×Eff×Bool)) (finK prog [] [.cell 4 60]))) .normal (Uar [3] (Zd0 a0 a1) ([.row q0_3 60]:BS))=Zj9 prog N a0 a1 q0_3:=by kernel_rfl
theorem Yam(N:Nat)(a0 a1:Array Value):Uby (Uas (λ(x0:Int) (hb:BS)=>Ud8 prog Zdd N (cAt cKCyA38 [1,1,0,1,0,0]) (pAt (Uaa cKCyA38 [([],[3])]).1 [1,1,0,1,0]) 12 [3] [9] [(6,9)] (Zd0 a0 a1) [.i .i64 x0] hb) ((Uap (num a0 0) (num a0 1) 36).filter (Zae a0)) ([.row (zc prog 60) 60]:BS)) (λhb=>(Uac 0 (kSeq (veC prog Zdd N (cAt cKCyA38 [1,1,1]) (pAt (Uaa cKCyA38 [([],[3])]).1 [1,1,1]) (SV×Eff×Bool)) (finK prog [] [.cell 4 60]))) .normal (Uar [3] (Zd0 a0 a1) hb)) (λe hb=>(Uac 0 (kSeq (veC prog Zdd N (cAt cKCyA38 [1,1,1]) (pAt (Uaa cKCyA38 [([],[3])]).1 [1,1,1]) (SV×Eff×Bool)) (finK prog [] [.cell 4 60]))) e (Uar [3] (Zd0 a0 a1) hb))=Ud7 (Uas (Zfx prog a0 a1) ((Uap (num a0 0) (num a0 1) 36).filter (Zae a0)) (zc prog 60)) (λx=>Zj9 prog N a0 a1 x) (λx:Empty=>nomatch x):=by
 refine Ztu Zjj Zlr _ _ (λy t=>Zz5 N a0 a1 y t) _ (zc prog 60) _ _ _ _ ?_ ?_
 ·intro x;exact Zrw N a0 a1 x
 ·intro x;exact nomatch x
theorem Zyx(N:Nat)(a0 a1:Array Value):ansV prog Zdd N f38 [([],[3])] [.g a0 35,.g a1 77] []=(bif (decide (0<=num a0 0)&&decide (num a0 0<=6)&&(decide (0<=num a0 1)&&decide (num a0 1<=6))) then (Ud7 (Uas (Zfx prog a0 a1) ((Uap (num a0 0) (num a0 1) 36).filter (Zae a0)) (zc prog 60)) (λx=>Zj9 prog N a0 a1 x) (λx:Empty=>nomatch x)) else (none)):=by
 conv=>rhs;simp only[<- Yam N a0 a1]
 kernel_rfl
theorem Zw3(a0 a1:Array Value)(h_a0:WT prog 35 a0)(h_a1:WT prog 77 a1)(hg:(okS a0)=true):ansV prog Zdd 1000 f38 [([],[3])] [.g a0 35,.g a1 77] []=some (.a (.g (Uce prog a0 a1) 60),.none,true):=by
 refine(Zyx 1000 a0 a1).trans ?_;rw[Yhe hg,Q1];have h:=Zrx (X:=Empty) (g:=Zfx prog a0 a1) (q:=Zae a0) (landF a1) (wd:=num a0 0) (hi:=num a0 1) (λr k hk hi hq=>by
  have h1:decide ((k:Int)<36)=true:=Q3 (by omega);have h0:decide (0<=(k:Int))=true:=Q3 (by omega);simp only[Zfx,h0,h1,Q9,Bool.and_self,Q1];rfl) (zc prog 60)
 rw[h];rfl
def Zk8:Con:=λargs h=>match args,h with|[.g a0 35,.g a1 77],[]=>some (.a (.g (Uce prog a0 a1) 60),.none,okS a0)|_,_=>none
theorem Zu1:EntX prog 38:=Zal (fn:=f38)
theorem Yaf:Uad (md F) prog 38 Zk8:=(ansY (N:=1000) (mkΓx_nX Zu4 Zry (mkΓx_iX Zrj Zpl mkΓx_nilX)) f38 [([],[3])]).of (by
 intro ρ h w args vals r e hA hH hr;unfold Zk8 at hr;split at hr
 ·rename_i a0 a1;obtain⟨rfl,rfl,hg2⟩:=BQi hr;exact Zw3 a0 a1 (hA.wt 0 rfl) (hA.wt 1 rfl) hg2
 ·cases hr)
def Zfb:Cons:=(mkΓ [(30,con Zbj),(31,con Ze6),(66,con Zib)])
def Zgx(a1 a2 a3:Int)(a0:Array Value):St:=(⟨.a (.w 0)::.a (.i .i64 a1)::.a (.i .i64 a2)::.a (.i .i64 a3)::us 4 (.a (.w 1)::.a (.w 7)::.a (.w 10)::.a (.i .i64 0)::.a (.w 0)::.a (.i .i64 a1)::.a (.i .i64 a2)::.a (.i .i64 a3)::.a (.g (Uaz prog a0 (oneX prog a1 a2) a3.toNat) 77)::.a (.g (zc prog 60) 60)::us 19 ([])),[.row a0 35,.row (zc prog 60) 60,.no,.no,.no,.no,.no,.row (Uaz prog a0 (oneX prog a1 a2) a3.toNat) 77,.no,.no,.row (zc prog 60) 60,.no],[10,7]⟩:St)
def Ziu:Int×Array Value->LS
 |(y0_11,r0_10)=>([.a (.i .i64 y0_11)],[.row r0_10 60])
def Zni:Int×Array Value->Exit×LS
 |t=>((.exit 0),Ziu t)
def Zeq(P:Program)(a1 a2 a3:Int)(a0:Array Value):Int×Array Value->Option (Stp (Int×Array Value) (Int×Array Value))
 |(y0_11,r0_10)=>bif decide (y0_11<(36:Int)) then (bif (Zac y0_11 a0) then (bif decide (0<=(IntKind.u64.wrap y0_11)) then (bif (Zab y0_11 a0) then (bif (decide (0<=y0_11)&&decide (y0_11<36)) then (bif (decide (0<=y0_11)&&decide (y0_11<36)) then (some (.more ((i64.wrap (y0_11+(1:Int))),(r0_10.setIfInBounds ((y0_11).toNat*1) (.int .i64 (num (Uaz prog a0 (oneX prog a1 a2) a3.toNat) (3+((y0_11).toNat*1)))))))) else (none)) else (none)) else (some (.more ((i64.wrap (y0_11+(1:Int))),r0_10)))) else (none)) else (some (.more ((i64.wrap (y0_11+(1:Int))),r0_10)))) else (some (.done (y0_11,r0_10)))
noncomputable abbrev cKCyA45:=codeOf f45
theorem Ycn(N:Nat)(a1 a2 a3:Int)(a0:Array Value):∀t:Int×Array Value,Uaw prog Zfb N (cAt cKCyA45 [1,1,1,0,1,0,0]) (pAt (Uaa cKCyA45 [([11],[10])]).1 [1,1,1,0,1,0]) [11] [10] (Zgx a1 a2 a3 a0) (Ziu t)=mapS Ziu Zni (Zeq prog a1 a2 a3 a0 t):=by
 rintro⟨y0_11,r0_10⟩
 conv=>rhs;simp only[Zeq,Zbg,Zbe,Zbd,Zbh,Ziu,Zni]
 kernel_rfl
def Zky(P:Program)(N:Nat)(a1 a2 a3:Int)(a0:Array Value)(z0_11:Int)(q0_10:Array Value):Option (SV×Eff×Bool):=some (.a (.g q0_10 60),.none,true)
theorem Zse(N:Nat)(a1 a2 a3:Int)(a0:Array Value)(z0_11:Int)(q0_10:Array Value):(Uac 0 (kSeq (veC prog Zfb N (cAt cKCyA45 [1,1,1,1]) (pAt (Uaa cKCyA45 [([11],[10])]).1 [1,1,1,1]) (SV×Eff×Bool)) (finK prog [.row a0 35] [.cell 8 60]))) (.exit 0) (left (writes (cAt cKCyA45 [1,1,1,0,1,0,0])) [11] [10] (Zgx a1 a2 a3 a0) ([.a (.i .i64 z0_11)],[.row q0_10 60]))=Zky prog N a1 a2 a3 a0 z0_11 q0_10:=by kernel_rfl
theorem Yb8(N:Nat)(a1 a2 a3:Int)(a0:Array Value):Ual (Uab (Uaw prog Zfb N (cAt cKCyA45 [1,1,1,0,1,0,0]) (pAt (Uaa cKCyA45 [([11],[10])]).1 [1,1,1,0,1,0]) [11] [10] (Zgx a1 a2 a3 a0)) N ([.a (.i .i64 0)],[.row (zc prog 60) 60])) (λe s=>(Uac 0 (kSeq (veC prog Zfb N (cAt cKCyA45 [1,1,1,1]) (pAt (Uaa cKCyA45 [([11],[10])]).1 [1,1,1,1]) (SV×Eff×Bool)) (finK prog [.row a0 35] [.cell 8 60]))) e (left (writes (cAt cKCyA45 [1,1,1,0,1,0,0])) [11] [10] (Zgx a1 a2 a3 a0) s))=Uay (Uab (Zeq prog a1 a2 a3 a0) N ((0:Int),(zc prog 60))) (λx=>Zky prog N a1 a2 a3 a0 x.1 x.2):=by refine Zbw Ziu Zni _ _ (Ycn N a1 a2 a3 a0) N ((0:Int),(zc prog 60)) _ _ ?_;intro x;exact Zse N a1 a2 a3 a0 x.1 x.2
theorem Zzy(N:Nat)(a1 a2 a3:Int)(a0:Array Value):ansV prog Zfb N f45 [([11],[10])] [.w 0,.i .i64 a1,.i .i64 a2,.i .i64 a3] [.row a0 35]=(bif (okS a0&&((Zac a1 a0&&Zaa a2 0 1)&&Zaa a3 0 14)) then (Uay (Uab (Zeq prog a1 a2 a3 a0) N ((0:Int),(zc prog 60))) (λx=>Zky prog N a1 a2 a3 a0 x.1 x.2)) else (none)):=by
 conv=>rhs;simp only[<- Yb8 N a1 a2 a3 a0]
 kernel_rfl
theorem Zyv(a1 a2 a3:Int)(a0:Array Value)(h_a1:i64.min<=a1/\a1<=i64.max)(h_a2:i64.min<=a2/\a2<=i64.max)(h_a3:i64.min<=a3/\a3<=i64.max)(h_a0:WT prog 35 a0)(hg:((okS a0&&((Zac a1 a0&&Zaa a2 0 1)&&Zaa a3 0 14)))=true):ansV prog Zfb 1000 f45 [([11],[10])] [.w 0,.i .i64 a1,.i .i64 a2,.i .i64 a3] [.row a0 35]=some (.a (.g (byV prog a0 a1 a2 a3.toNat) 60),.none,true):=by
 refine(Zzy 1000 a1 a2 a3 a0).trans ?_;rw[hg,Q1];have h:=Zh4 (g:=Zeq prog a1 a2 a3 a0) (λr k=>((k:Int),r)) (λr k=>if inC (num a0 0) (num a0 1) k&&Zae a0 (k:Int) then landF (Uaz prog a0 (oneX prog a1 a2) a3.toNat) r k else r) (m:=36) (t:=zc prog 60) (x:=((36:Int),byV prog a0 a1 a2 a3.toNat)) (N:=1000) (λk s hk _=>by
  have h1:decide ((k:Int)<36)=true:=Q3 (by omega);have h0:decide (0<=(k:Int))=true:=Q3 (by omega);have h3:i64.wrap ((k:Int)+1)=((k+1:Nat):Int):=by rw[w64 (by omega)];omega
  rw[Ygt h_a0 hk];simp only[Zeq,h1,h0,h3,Ye7 h_a0 hk,Ybv,Q9,Bool.and_self,Q1];cases inC (num a0 0) (num a0 1) k with
  |false=>rfl
  |true=>cases Zab (k:Int) a0<;>rfl) (by
  have h1:decide (((36:Nat):Int)<36)=false:=by decide
  simp only[Zeq,h1,Q2];rfl) (by omega)
 have h':Uab (Zeq prog a1 a2 a3 a0) 1000 ((0:Int),(zc prog 60))=some ((36:Int),byV prog a0 a1 a2 a3.toNat):=h;rw[h'];rfl
def Zcj:Con:=λargs h=>match args,h with|[.w 0,.i .i64 a1,.i .i64 a2,.i .i64 a3],[.row a0 35]=>some (.a (.g (byV prog a0 a1 a2 a3.toNat) 60),.none,(okS a0&&((Zac a1 a0&&Zaa a2 0 1)&&Zaa a3 0 14)))|_,_=>none
theorem Zxa:EntX prog 45:=Zal (fn:=f45)
theorem Yc8:Uad (md F) prog 45 Zcj:=(ansY (N:=1000) (mKc (Zah Zim) Zfs (mKc (Zah Zjg) Zgu (mKc (Zah Zun) Zqj mKn))) f45 [([11],[10])]).of (by
 intro ρ h w args vals r e hA hH hr;unfold Zcj at hr;split at hr
 ·rename_i a1 a2 a3 a0;obtain⟨rfl,rfl,hg2⟩:=BQi hr;exact Zyv a1 a2 a3 a0 (hA.rng 1 rfl) (hA.rng 2 rfl) (hA.rng 3 rfl) (hH.wt 0 rfl) hg2
 ·cases hr)
theorem Ybx:(zc prog 60).size=36:=by kernel_rfl
theorem Yjd:bytesOf prog 60=288:=by kernel_rfl
theorem Yks(P:Program)(T:TypeId){r:Array Value}(h:r.size=(zc P T).size):spl (repC (zc P T) 1) 0 r.toList=r:=by
 have e:repC (zc P T) 1=zc P T:=by unfold repC repL repL;simp
 rw[e];exact Ych h
theorem Zu9(S X:Array Value):(Uce prog S X).size=36:=by
 unfold Uce;refine Zhi (λ_ (r:Array Value)=>r.size=36) Ybx (λk s _ hs=> ?_) 36 (Nat.le_refl _);unfold landF;split
 ·rw[Array.size_setIfInBounds];exact hs
 ·exact hs
theorem Zp0(S:Array Value)(c b:Int)(n:Nat):(byV prog S c b n).size=36:=Zu9 _ _
theorem oneX_wt{c b:Int}(hc:0<=c/\c<=35):WT prog 77 (oneX prog c b):=by
 have o1:i64.min<=(1:Int)/\(1:Int)<=i64.max:=by have e1:i64.min=-9223372036854775808:=rfl;have e2:i64.max=9223372036854775807:=rfl;omega
 unfold oneX;exact Zkm (k:=.i64) (Zkm (k:=.i64) (Zkm (k:=.i8) (WT.zero (by kernel_rfl)) Zyh.1 (Zhs .i8 _)) (Zlc (by omega) (by omega)) o1) (Zlc (by omega) (by omega)) o1
theorem one_low{S:Array Value}{c b:Int}(hc:Zac c S=true)(hb:Zaa b 0 1=true):(0<=num (oneX prog c b) 0/\num (oneX prog c b) 0<2)/\(0<=num (oneX prog c b) 1/\num (oneX prog c b) 1<=14):=by have h1:=Zmk hb;obtain⟨n0,n1,_,_⟩:=Zxk (c:=c) (b:=b) h1 (Zgd hc);rw[n0,n1];omega
theorem one_zero{S:Array Value}(hS:WT prog 35 S){c b:Int}(hc:Zac c S=true)(hb:Zaa b 0 1=true):ZO S (oneX prog c b):=by
 intro k hk hf;have hr:=Zgd hc;rw[(Zxk (c:=c) (b:=b) (Zmk hb) hr).2.2.2 k hk,if_neg];intro e;have hkc:(k:Int)=c:=by omega
 rw[<- hkc,Ye7 hS hk,hf]at hc;cases hc
theorem one_go{S:Array Value}(hS:WT prog 35 S)(hok:okS S=true){c b:Int}(hc:Zac c S=true)(hb:Zaa b 0 1=true){j:Nat}(hj:j<=14):goG S (Uaz prog S (oneX prog c b) j)=true:=by obtain⟨l0,l1⟩:=one_low hc hb;have hl:=Zx1 (S:=S) l0 l1 j hj;have n1:=(Zxk (c:=c) (b:=b) (Zmk hb) (Zgd hc)).2.1;exact Yjj.2 ⟨hok,by rw[hl.1];exact l0,by rw[hl.2,n1];omega,Yiv (oneX_wt (Zgd hc)) hok hS (one_zero hS hc hb) j⟩
def recC(P:Program)(S:Array Value)(c b:Int):Nat->Array Value
 |0=>byV P S c b 0
 |n+1=>recC P S c b n++byV P S c b (n+1)
theorem Yeq(S:Array Value)(c b:Int):∀n,(recC prog S c b n).size=(n+1)*36
 |0=>Zp0 _ _ _ _
 |n+1=>by rw[recC,Array.size_append,Yeq S c b n,Zp0];omega
theorem Yfx(S:Array Value)(c b:Int):∀(n j:Nat),j<=n->(recC prog S c b n).extract (j*36) (j*36+36)=byV prog S c b j
 |0,j,hj=>by
  obtain rfl:j=0:=by omega
  rw[recC];exact Zrb (Zp0 _ _ _ _)
 | n+1,j,hj=>by
  have hz:=Yeq S c b n
  by_cases h:j<=n
  ·rw[<- Yfx S c b n j h,recC];refine Array.ext_getElem? λi=> ?_
   rw[Array.getElem?_extract,Array.getElem?_extract,Array.size_append,hz,Zp0]
   by_cases hi:i<min (j*36+36) ((n+1)*36) - j*36
   ·rw[if_pos (by omega),if_pos hi,Array.getElem?_append,if_pos (by omega)]
   ·rw[if_neg (by omega),if_neg hi]
  ·obtain rfl:j=n+1:=by omega
   rw[recC];refine Array.ext_getElem? λi=> ?_
   rw[Array.getElem?_extract,Array.size_append,hz,Zp0]
   by_cases hi:i<36
   ·rw[if_pos (by omega),Array.getElem?_append,if_neg (by omega),hz,show (n+1)*36+i - (n+1)*36=i by omega]
   ·rw[if_neg (by omega),Array.getElem?_eq_none (by rw[Zp0];omega)]
theorem num_sub1(a:Int)(h:1<=a/\a<=14):i64.wrap (a - 1)=a - 1/\(i64.wrap (a - 1)).toNat=a.toNat - 1:=by rw[w64 (by omega)];omega
def Zgt(a1 a2 a3:Int)(a0:Array Value):St:=(⟨.a (.w 0)::.a (.i .i64 a1)::.a (.i .i64 a2)::.a (.i .i64 a3)::us 4 (.a (.w 1)::.a (.w 7)::.a (.w 15)::.a (.i .i64 0)::.a (.w 0)::.a (.i .i64 a1)::.a (.i .i64 a2)::.a (.i .i64 a3)::.a (.g (byV prog a0 a1 a2 a3.toNat) 60)::.a (.w 0)::.a (.i .i64 a1)::.a (.i .i64 a2)::.a (.i .i64 a3)::.a (.i .i64 (i64.wrap (a3 - (1:Int))))::.a (.g (byV prog a0 a1 a2 (i64.wrap (a3 - (1:Int))).toNat) 60)::us 14 ([])),[.row a0 35,.row (zc prog 60) 60,.no,.no,.no,.no,.no,.row (byV prog a0 a1 a2 a3.toNat) 60,.no,.no,.no,.no,.no,.no,.no,.row (byV prog a0 a1 a2 (i64.wrap (a3 - (1:Int))).toNat) 60,.no],[15,7]⟩:St)
def Zij:Int×Array Value->LS
 |(y0_11,r0_7)=>([.a (.i .i64 y0_11)],[.row r0_7 60])
def Zm2:Int×Array Value->Exit×LS
 |t=>((.exit 0),Zij t)
def Zdt(P:Program)(a1 a2 a3:Int)(a0:Array Value):Int×Array Value->Option (Stp (Int×Array Value) (Int×Array Value))
 |(y0_11,r0_7)=>bif decide (y0_11<(36:Int)) then (bif (decide (0<=y0_11)&&decide (y0_11<36)) then (bif (decide (0<=y0_11)&&decide (y0_11<36)) then (bif (decide (0<=y0_11)&&decide (y0_11<36)) then (some (.more ((i64.wrap (y0_11+(1:Int))),(r0_7.setIfInBounds ((y0_11).toNat*1) (.int .i64 (i64.wrap ((num r0_7 ((y0_11).toNat*1)) - (i64.wrap ((12:Int)*(num (byV prog a0 a1 a2 (i64.wrap (a3 - (1:Int))).toNat) ((y0_11).toNat*1))))))))))) else (none)) else (none)) else (none)) else (some (.done (y0_11,r0_7)))
noncomputable abbrev cKCyA20:=codeOf f20
theorem Ycv(N:Nat)(a1 a2 a3:Int)(a0:Array Value):∀t:Int×Array Value,Uaw prog (mkΓ [(45,con Zcj)]) N (cAt cKCyA20 [1,1,1,0,1,0,0]) (pAt (Uaa cKCyA20 [([11],[7])]).1 [1,1,1,0,1,0]) [11] [7] (Zgt a1 a2 a3 a0) (Zij t)=mapS Zij Zm2 (Zdt prog a1 a2 a3 a0 t):=by
 rintro⟨y0_11,r0_7⟩
 conv=>rhs;simp only[Zdt,Zbg,Zbe,Zbd,Zbh,Zij,Zm2]
 kernel_rfl
def Zia(P:Program)(N:Nat)(a1 a2 a3:Int)(a0:Array Value)(z0_11:Int)(q0_7:Array Value):Option (SV×Eff×Bool):=some (.a (.g q0_7 60),.none,true)
theorem Ztl(N:Nat)(a1 a2 a3:Int)(a0:Array Value)(z0_11:Int)(q0_7:Array Value):(Uac 0 (kSeq (veC prog (mkΓ [(45,con Zcj)]) N (cAt cKCyA20 [1,1,1,1]) (pAt (Uaa cKCyA20 [([11],[7])]).1 [1,1,1,1]) (SV×Eff×Bool)) (finK prog [.row a0 35] [.cell 8 60]))) (.exit 0) (left (writes (cAt cKCyA20 [1,1,1,0,1,0,0])) [11] [7] (Zgt a1 a2 a3 a0) ([.a (.i .i64 z0_11)],[.row q0_7 60]))=Zia prog N a1 a2 a3 a0 z0_11 q0_7:=by kernel_rfl
theorem Yc5(N:Nat)(a1 a2 a3:Int)(a0:Array Value):Ual (Uab (Uaw prog (mkΓ [(45,con Zcj)]) N (cAt cKCyA20 [1,1,1,0,1,0,0]) (pAt (Uaa cKCyA20 [([11],[7])]).1 [1,1,1,0,1,0]) [11] [7] (Zgt a1 a2 a3 a0)) N ([.a (.i .i64 0)],[.row (byV prog a0 a1 a2 a3.toNat) 60])) (λe s=>(Uac 0 (kSeq (veC prog (mkΓ [(45,con Zcj)]) N (cAt cKCyA20 [1,1,1,1]) (pAt (Uaa cKCyA20 [([11],[7])]).1 [1,1,1,1]) (SV×Eff×Bool)) (finK prog [.row a0 35] [.cell 8 60]))) e (left (writes (cAt cKCyA20 [1,1,1,0,1,0,0])) [11] [7] (Zgt a1 a2 a3 a0) s))=Uay (Uab (Zdt prog a1 a2 a3 a0) N ((0:Int),(byV prog a0 a1 a2 a3.toNat))) (λx=>Zia prog N a1 a2 a3 a0 x.1 x.2):=by refine Zbw Zij Zm2 _ _ (Ycv N a1 a2 a3 a0) N ((0:Int),(byV prog a0 a1 a2 a3.toNat)) _ _ ?_;intro x;exact Ztl N a1 a2 a3 a0 x.1 x.2
theorem Zz6(N:Nat)(a1 a2 a3:Int)(a0:Array Value):ansV prog (mkΓ [(45,con Zcj)]) N f20 [([11],[7])] [.w 0,.i .i64 a1,.i .i64 a2,.i .i64 a3] [.row a0 35]=(bif (okS a0&&((Zac a1 a0&&Zaa a2 0 1)&&Zaa a3 0 14)) then (bif (okS a0&&((Zac a1 a0&&Zaa a2 0 1)&&Zaa (i64.wrap (a3 - (1:Int))) 0 14)) then (Uay (Uab (Zdt prog a1 a2 a3 a0) N ((0:Int),(byV prog a0 a1 a2 a3.toNat))) (λx=>Zia prog N a1 a2 a3 a0 x.1 x.2)) else (none)) else (none)):=by
 conv=>rhs;simp only[<- Yc5 N a1 a2 a3 a0]
 kernel_rfl
theorem Zzk(a1 a2 a3:Int)(a0:Array Value)(h_a1:i64.min<=a1/\a1<=i64.max)(h_a2:i64.min<=a2/\a2<=i64.max)(h_a3:i64.min<=a3/\a3<=i64.max)(h_a0:WT prog 35 a0)(hg:((okS a0&&((Zac a1 a0&&Zaa a2 0 1)&&Zaa a3 1 14)))=true):ansV prog (mkΓ [(45,con Zcj)]) 1000 f20 [([11],[7])] [.w 0,.i .i64 a1,.i .i64 a2,.i .i64 a3] [.row a0 35]=some (.a (.g (subV (byV prog a0 a1 a2 a3.toNat) (byV prog a0 a1 a2 (a3.toNat - 1)) 12) 60),.none,true):=by
 simp only[Q7]at hg;obtain⟨q0,⟨q1,q2⟩,q3⟩:=hg;have r3:=Zmk q3;obtain⟨e1,e2⟩:=num_sub1 a3 r3;refine(Zz6 1000 a1 a2 a3 a0).trans ?_;rw[q0,q1,q2,Uf9 (x:=a3) (a:=0) (b:=14) (by omega),Uf9 (x:=i64.wrap (a3 - 1)) (a:=0) (b:=14) (by omega)];simp only[Bool.and_self,Q1];have h:=Zh4 (g:=Zdt prog a1 a2 a3 a0) (λr k=>((k:Int),r)) (subF (byV prog a0 a1 a2 (a3.toNat - 1)) 12) (m:=36) (t:=byV prog a0 a1 a2 a3.toNat) (x:=((36:Int),subV (byV prog a0 a1 a2 a3.toNat) (byV prog a0 a1 a2 (a3.toNat - 1)) 12)) (N:=1000) (λk s hk _=>by
  have h1:decide ((k:Int)<36)=true:=Q3 (by omega);have h0:decide (0<=(k:Int))=true:=Q3 (by omega);have h3:i64.wrap ((k:Int)+1)=((k+1:Nat):Int):=by rw[w64 (by omega)];omega
  simp only[Zdt,h1,h0,h3,e2,Q9,Bool.and_self,Q1];unfold subF;rw[Int.mul_comm (12:Int)]) (by
  have h1:decide (((36:Nat):Int)<36)=false:=by decide
  simp only[Zdt,h1,Q2];rfl) (by omega)
 have hq:∀q,Uab (Zdt prog a1 a2 a3 a0) 1000 ((0:Int),byV prog a0 a1 a2 a3.toNat)=some ((36:Int),q)->Uay (Uab (Zdt prog a1 a2 a3 a0) 1000 ((0:Int),byV prog a0 a1 a2 a3.toNat)) (λx=>Zia prog 1000 a1 a2 a3 a0 x.1 x.2)=some (.a (.g q 60),.none,true):=λq e=>by rw[e];rfl
 exact hq _ h
def Zjf:Con:=λargs h=>match args,h with|[.w 0,.i .i64 a1,.i .i64 a2,.i .i64 a3],[.row a0 35]=>some (.a (.g (subV (byV prog a0 a1 a2 a3.toNat) (byV prog a0 a1 a2 (a3.toNat - 1)) 12) 60),.none,(okS a0&&((Zac a1 a0&&Zaa a2 0 1)&&Zaa a3 1 14)))|_,_=>none
theorem Zw1:EntX prog 20:=Zal (fn:=f20)
theorem Yce:Uad (md F) prog 20 Zjf:=(ansY (N:=1000) (mKc (Zah Yc8) Zxa mKn) f20 [([11],[7])]).of (by
 intro ρ h w args vals r e hA hH hr;unfold Zjf at hr;split at hr
 ·rename_i a1 a2 a3 a0;obtain⟨rfl,rfl,hg2⟩:=BQi hr;exact Zzk a1 a2 a3 a0 (hA.rng 1 rfl) (hA.rng 2 rfl) (hA.rng 3 rfl) (hH.wt 0 rfl) hg2
 ·cases hr)
def Zcv(a1 a2:Int)(b_a0:Option (Option Addr))(n_a0:Nat)(a0:Array Value):St:=(⟨.a (.l 0)::.a (.i .i64 a1)::.a (.i .i64 a2)::us 3 (.a (.w 1)::.a (.w 6)::.a (.u)::.a (.u)::.a (.l 0)::.a (.i .i64 a2)::.a (.q 0 (((a2).toNat*36)) 60)::.a (.g (a0.extract ((a2).toNat*36) (((a2).toNat*36)+36)) 60)::.a (.l 0)::.a (.i .i64 a1)::.a (.q 0 (((a1).toNat*36)) 60)::.a (.g (a0.extract ((a1).toNat*36) (((a1).toNat*36)+36)) 60)::.a (.i .i64 0)::us 16 ([])),[.sl (.came b_a0) n_a0 a0 60,.row (zc prog 60) 60,.no,.no,.no,.no,.row (a0.extract ((a2).toNat*36) (((a2).toNat*36)+36)) 60,.no],[6]⟩:St)
def Zdp:Int×Array Value->LS
 |(y0_18,r0_6)=>([.a (.i .i64 y0_18)],[.row r0_6 60])
def Zhg:Int×Array Value->Exit×LS
 |t=>((.exit 0),Zdp t)
def Za4(P:Program)(a1 a2:Int)(b_a0:Option (Option Addr))(n_a0:Nat)(a0:Array Value):Int×Array Value->Option (Stp (Int×Array Value) (Int×Array Value))
 |(y0_18,r0_6)=>bif decide (y0_18<(36:Int)) then (bif (decide (0<=y0_18)&&decide (y0_18<36)) then (bif (decide (0<=y0_18)&&decide (y0_18<36)) then (bif (decide (0<=(i64.wrap (a2 - a1)))&&decide ((i64.wrap (a2 - a1))<=14)) then (bif (decide (0<=y0_18)&&decide (y0_18<36)) then (some (.more ((i64.wrap (y0_18+(1:Int))),(r0_6.setIfInBounds ((y0_18).toNat*1) (.int .i64 (i64.wrap ((num r0_6 ((y0_18).toNat*1)) - (i64.wrap ((num (a0.extract ((a1).toNat*36) (((a1).toNat*36)+36)) ((y0_18).toNat*1))*(12^(i64.wrap (a2 - a1)).toNat)))))))))) else (none)) else (none)) else (none)) else (none)) else (some (.done (y0_18,r0_6)))
noncomputable abbrev cKCyA25:=codeOf f25
theorem Zp3(N:Nat)(a1 a2:Int)(b_a0:Option (Option Addr))(n_a0:Nat)(a0:Array Value):∀t:Int×Array Value,Uaw prog (mkΓ [(28,con Za8)]) N (cAt cKCyA25 [1,1,0,1,0,0]) (pAt (Uaa cKCyA25 [([18],[6])]).1 [1,1,0,1,0]) [18] [6] (Zcv a1 a2 b_a0 n_a0 a0) (Zdp t)=mapS Zdp Zhg (Za4 prog a1 a2 b_a0 n_a0 a0 t):=by
 rintro⟨y0_18,r0_6⟩
 conv=>rhs;simp only[Za4,Zbg,Zbe,Zbd,Zbh,Zdp,Zhg]
 kernel_rfl
def Zea(P:Program)(N:Nat)(a1 a2:Int)(b_a0:Option (Option Addr))(n_a0:Nat)(a0:Array Value)(z0_18:Int)(q0_6:Array Value):Option (SV×Eff×Bool):=some (.a (.g q0_6 60),.none,true)
theorem Zlm(N:Nat)(a1 a2:Int)(b_a0:Option (Option Addr))(n_a0:Nat)(a0:Array Value)(z0_18:Int)(q0_6:Array Value):(Uac 0 (kSeq (veC prog (mkΓ [(28,con Za8)]) N (cAt cKCyA25 [1,1,1]) (pAt (Uaa cKCyA25 [([18],[6])]).1 [1,1,1]) (SV×Eff×Bool)) (finK prog [.sl (.came b_a0) n_a0 a0 60] [.cell 6 60]))) (.exit 0) (left (writes (cAt cKCyA25 [1,1,0,1,0,0])) [18] [6] (Zcv a1 a2 b_a0 n_a0 a0) ([.a (.i .i64 z0_18)],[.row q0_6 60]))=Zea prog N a1 a2 b_a0 n_a0 a0 z0_18 q0_6:=by kernel_rfl
theorem Zqn(N:Nat)(a1 a2:Int)(b_a0:Option (Option Addr))(n_a0:Nat)(a0:Array Value):Ual (Uab (Uaw prog (mkΓ [(28,con Za8)]) N (cAt cKCyA25 [1,1,0,1,0,0]) (pAt (Uaa cKCyA25 [([18],[6])]).1 [1,1,0,1,0]) [18] [6] (Zcv a1 a2 b_a0 n_a0 a0)) N ([.a (.i .i64 0)],[.row (a0.extract ((a2).toNat*36) (((a2).toNat*36)+36)) 60])) (λe s=>(Uac 0 (kSeq (veC prog (mkΓ [(28,con Za8)]) N (cAt cKCyA25 [1,1,1]) (pAt (Uaa cKCyA25 [([18],[6])]).1 [1,1,1]) (SV×Eff×Bool)) (finK prog [.sl (.came b_a0) n_a0 a0 60] [.cell 6 60]))) e (left (writes (cAt cKCyA25 [1,1,0,1,0,0])) [18] [6] (Zcv a1 a2 b_a0 n_a0 a0) s))=Uay (Uab (Za4 prog a1 a2 b_a0 n_a0 a0) N ((0:Int),(a0.extract ((a2).toNat*36) (((a2).toNat*36)+36)))) (λx=>Zea prog N a1 a2 b_a0 n_a0 a0 x.1 x.2):=by refine Zbw Zdp Zhg _ _ (Zp3 N a1 a2 b_a0 n_a0 a0) N ((0:Int),(a0.extract ((a2).toNat*36) (((a2).toNat*36)+36))) _ _ ?_;intro x;exact Zlm N a1 a2 b_a0 n_a0 a0 x.1 x.2
theorem Zo6(N:Nat)(a1 a2:Int)(b_a0:Option (Option Addr))(n_a0:Nat)(a0:Array Value):ansV prog (mkΓ [(28,con Za8)]) N f25 [([18],[6])] [.l 0,.i .i64 a1,.i .i64 a2] [.sl (.came b_a0) n_a0 a0 60]=(bif (decide (0<=a2)&&decide (a2<(n_a0:Int))) then (bif (decide (0<=a1)&&decide (a1<(n_a0:Int))) then (Uay (Uab (Za4 prog a1 a2 b_a0 n_a0 a0) N ((0:Int),(a0.extract ((a2).toNat*36) (((a2).toNat*36)+36)))) (λx=>Zea prog N a1 a2 b_a0 n_a0 a0 x.1 x.2)) else (none)) else (none)):=by
 conv=>rhs;simp only[<- Zqn N a1 a2 b_a0 n_a0 a0]
 kernel_rfl
theorem Znv(a1 a2:Int)(b_a0:Option (Option Addr))(n_a0:Nat)(a0:Array Value)(h_a1:i64.min<=a1/\a1<=i64.max)(h_a2:i64.min<=a2/\a2<=i64.max)(h_a0:a0.size=n_a0*(lay prog 60).length/\(∀k,k<n_a0->WT prog 60 (a0.extract (k*(lay prog 60).length) (k*(lay prog 60).length+(lay prog 60).length)))/\n_a0<=9223372036854775807)(hg:(((decide (0<=a1)&&decide (a1<=a2))&&(decide (a2<=a1+14)&&decide (a2<(n_a0:Int)))))=true):ansV prog (mkΓ [(28,con Za8)]) 1000 f25 [([18],[6])] [.l 0,.i .i64 a1,.i .i64 a2] [.sl (.came b_a0) n_a0 a0 60]=some (.a (.g (subV (a0.extract (a2.toNat*36) (a2.toNat*36+36)) (a0.extract (a1.toNat*36) (a1.toNat*36+36)) (12^(a2 - a1).toNat)) 60),.none,true):=by
 simp only[Q7,decide_eq_true_eq]at hg;obtain⟨⟨q0,q1⟩,q2,q3⟩:=hg;have ew:i64.wrap (a2 - a1)=a2 - a1:=w64 (by omega);refine(Zo6 1000 a1 a2 b_a0 n_a0 a0).trans ?_;rw[dec2 (show 0<=a2 by omega) q3,dec2 q0 (show a1<(n_a0:Int) by omega)];simp only[Q1];have hq:∀q,Uab (Za4 prog a1 a2 b_a0 n_a0 a0) 1000 ((0:Int),a0.extract (a2.toNat*36) (a2.toNat*36+36))=some ((36:Int),q)->Uay (Uab (Za4 prog a1 a2 b_a0 n_a0 a0) 1000 ((0:Int),a0.extract (a2.toNat*36) (a2.toNat*36+36))) (λx=>Zea prog 1000 a1 a2 b_a0 n_a0 a0 x.1 x.2)=some (.a (.g q 60),.none,true):=λq e=>by rw[e];rfl
 refine hq _ ?_;unfold subV;have hF:∀(k:Nat) (s:Array Value),k<36->Za4 prog a1 a2 b_a0 n_a0 a0 ((k:Int),s)=some (.more (((k+1:Nat):Int),subF (a0.extract (a1.toNat*36) (a1.toNat*36+36)) (12^(a2 - a1).toNat) s k)):=λk s hk=>by
  have h1:decide ((k:Int)<36)=true:=Q3 (by omega);have h0:decide (0<=(k:Int))=true:=Q3 (by omega);have h3:i64.wrap ((k:Int)+1)=((k+1:Nat):Int):=by rw[w64 (by omega)];omega
  have h4:decide (0<=a2 - a1)=true:=Q3 (by omega);have h5:decide (a2 - a1<=14)=true:=Q3 (by omega);simp only[Za4,h1,h0,h3,ew,h4,h5,Q9,Bool.and_self,Q1,subF]
 generalize a0.extract (a2.toNat*36) (a2.toNat*36+36)=C;generalize hD:a0.extract (a1.toNat*36) (a1.toNat*36+36)=D at hF|-
 generalize hm:(12:Int)^(a2 - a1).toNat=m at hF|-
 exact Zh4 (g:=Za4 prog a1 a2 b_a0 n_a0 a0) (λr k=>((k:Int),r)) (subF D m) (m:=36) (t:=C) (x:=((36:Int),folds (subF D m) C 36)) (N:=1000) (λk s hk _=>hF k s hk) (by
  have h1:decide (((36:Nat):Int)<36)=false:=by decide
  generalize folds (subF D m) C 36=q;simp only[Za4,h1,Q2];rfl) (by omega)
def Zgr:Con:=λargs h=>match args,h with|[.l 0,.i .i64 a1,.i .i64 a2],[.sl (.came b_a0) n_a0 a0 60]=>some (.a (.g (subV (a0.extract (a2.toNat*36) (a2.toNat*36+36)) (a0.extract (a1.toNat*36) (a1.toNat*36+36)) (12^(a2 - a1).toNat)) 60),.none,((decide (0<=a1)&&decide (a1<=a2))&&(decide (a2<=a1+14)&&decide (a2<(n_a0:Int)))))|_,_=>none
theorem Zmt:EntX prog 25:=Zal (fn:=f25)
theorem Zqr:Uad (md F) prog 25 Zgr:=(ansY (N:=1000) (mKc (Zah Zr9) Zof mKn) f25 [([18],[6])]).of (by
 intro ρ h w args vals r e hA hH hr;unfold Zgr at hr;split at hr
 ·rename_i a1 a2 b_a0 n_a0 a0;obtain⟨rfl,rfl,hg2⟩:=BQi hr;exact Znv a1 a2 b_a0 n_a0 a0 (hA.rng 1 rfl) (hA.rng 2 rfl) (hH.slw 0 rfl) hg2
 ·cases hr)
def Zdh:Cons:=(mkΓ [(37,con Ziy),(38,con Zk8),(39,con Zj1)])
def Zeg(a0:Array Value)(a1 a2 a3:Int):St:=(⟨.a (.g a0 35)::.a (.i .i64 a1)::.a (.i .i64 a2)::.a (.i .i64 a3)::.a (.w 0)::us 3 (.a (.v (.slice none 0 0))::.a (.w 5)::.a (.l 12)::.a (.i .i64 a1)::.a (.i .i64 a2)::.a (.g (Zap prog a1 (1:Int) a2) 77)::.a (.g a0 35)::.a (.g (Zap prog a1 (1:Int) a2) 77)::.a (.g (Uce prog a0 (Zap prog a1 (1:Int) a2)) 60)::.a (.l 10)::.a (.i .i64 a3)::.a (.i .i64 0)::us 12 ([])),[.row a0 35,.no,.no,.no,.no,.row (Zap prog a1 (1:Int) a2) 77,.no,.no,.no,.no,.sp,.no,.sl .own 1 (spl (repC (zc prog 60) 1) 0 (Uce prog a0 (Zap prog a1 (1:Int) a2)).toList) 60],[10,5]⟩:St)
def Zfq:Int×Array Value×Nat×Array Value->LS
 |(y0_19,r0_5,m0_10,y0_10)=>([.a (.i .i64 y0_19),.a (.l 12)],[.row r0_5 77,.sl .own m0_10 y0_10 60])
def Zkb:Int×Array Value×Nat×Array Value->Exit×LS
 |t=>((.exit 0),Zfq t)
def Zc0(P:Program)(a0:Array Value)(a1 a2 a3:Int):Int×Array Value×Nat×Array Value->Option (Stp (Int×Array Value×Nat×Array Value) (Int×Array Value×Nat×Array Value))
 |(y0_19,r0_5,m0_10,y0_10)=>bif decide (y0_19<a3) then (bif (goG a0 r0_5) then (bif okS a0 then (bif (Nat.ble ((m0_10+1)*bytesOf prog 60) 140737488355328) then (some (.more ((i64.wrap (y0_19+(1:Int))),(Ubz prog a0 r0_5),(m0_10+1),(y0_10++(spl (repC (zc prog 60) 1) 0 (Uce prog a0 (Ubz prog a0 r0_5)).toList))))) else (none)) else (none)) else (none)) else (some (.done (y0_19,r0_5,m0_10,y0_10)))
noncomputable abbrev cKCyA16:=codeOf f16
theorem Zwi(N:Nat)(a0:Array Value)(a1 a2 a3:Int):∀t:Int×Array Value×Nat×Array Value,Uf5 prog Zdh N (cAt cKCyA16 [1,1,1,0,1,0,0]) (pAt (Uaa cKCyA16 [([19],[5,1000010,60])]).1 [1,1,1,0,1,0]) [19] [5] 10 60 12 (Zeg a0 a1 a2 a3) (Zfq t)=mapS Zfq Zkb (Zc0 prog a0 a1 a2 a3 t):=by
 rintro⟨y0_19,r0_5,m0_10,y0_10⟩
 conv=>rhs;simp only[Zc0,Zbg,Zbe,Zbd,Zbh,Zfq,Zkb]
 kernel_rfl
def Zir(P:Program)(N:Nat)(a0:Array Value)(a1 a2 a3:Int)(z0_19:Int)(q0_5:Array Value)(p0_10:Nat)(z0_10:Array Value):Option (SV×Eff×Bool):=some (.a .x,.newS none p0_10 z0_10 60,true)
theorem Zox(N:Nat)(a0:Array Value)(a1 a2 a3:Int)(z0_19:Int)(q0_5:Array Value)(p0_10:Nat)(z0_10:Array Value):(Uac 0 (kSeq (veC prog Zdh N (cAt cKCyA16 [1,1,1,1]) (pAt (Uaa cKCyA16 [([19],[5,1000010,60])]).1 [1,1,1,1]) (SV×Eff×Bool)) (finK prog [] [.tmp 8]))) (.exit 0) (left (writes (cAt cKCyA16 [1,1,1,0,1,0,0])) [19,10] [5,12] (Zeg a0 a1 a2 a3) ([.a (.i .i64 z0_19),.a (.l 12)],[.row q0_5 77,.sl .own p0_10 z0_10 60]))=Zir prog N a0 a1 a2 a3 z0_19 q0_5 p0_10 z0_10:=by kernel_rfl
theorem Zw2(N:Nat)(a0:Array Value)(a1 a2 a3:Int):Ual (Uab (Uf5 prog Zdh N (cAt cKCyA16 [1,1,1,0,1,0,0]) (pAt (Uaa cKCyA16 [([19],[5,1000010,60])]).1 [1,1,1,0,1,0]) [19] [5] 10 60 12 (Zeg a0 a1 a2 a3)) N ([.a (.i .i64 0),.a (.l 12)],[.row (Zap prog a1 (1:Int) a2) 77,.sl .own 1 (spl (repC (zc prog 60) 1) 0 (Uce prog a0 (Zap prog a1 (1:Int) a2)).toList) 60])) (λe s=>(Uac 0 (kSeq (veC prog Zdh N (cAt cKCyA16 [1,1,1,1]) (pAt (Uaa cKCyA16 [([19],[5,1000010,60])]).1 [1,1,1,1]) (SV×Eff×Bool)) (finK prog [] [.tmp 8]))) e (left (writes (cAt cKCyA16 [1,1,1,0,1,0,0])) [19,10] [5,12] (Zeg a0 a1 a2 a3) s))=Uay (Uab (Zc0 prog a0 a1 a2 a3) N ((0:Int),(Zap prog a1 (1:Int) a2),1,(spl (repC (zc prog 60) 1) 0 (Uce prog a0 (Zap prog a1 (1:Int) a2)).toList))) (λx=>Zir prog N a0 a1 a2 a3 x.1 x.2.1 x.2.2.1 x.2.2.2):=by refine Zbw Zfq Zkb _ _ (Zwi N a0 a1 a2 a3) N ((0:Int),(Zap prog a1 (1:Int) a2),1,(spl (repC (zc prog 60) 1) 0 (Uce prog a0 (Zap prog a1 (1:Int) a2)).toList)) _ _ ?_;intro x;exact Zox N a0 a1 a2 a3 x.1 x.2.1 x.2.2.1 x.2.2.2
theorem Zur(N:Nat)(a0:Array Value)(a1 a2 a3:Int):ansV prog Zdh N f16 [([19],[5,1000010,60])] [.g a0 35,.i .i64 a1,.i .i64 a2,.i .i64 a3] []=(bif (decide (0<=a1)&&decide (a1<36)) then (bif okS a0 then (Uay (Uab (Zc0 prog a0 a1 a2 a3) N ((0:Int),(Zap prog a1 (1:Int) a2),1,(spl (repC (zc prog 60) 1) 0 (Uce prog a0 (Zap prog a1 (1:Int) a2)).toList))) (λx=>Zir prog N a0 a1 a2 a3 x.1 x.2.1 x.2.2.1 x.2.2.2)) else (none)) else (none)):=by
 conv=>rhs;simp only[<- Zw2 N a0 a1 a2 a3]
 kernel_rfl
theorem Zt2(a0:Array Value)(a1 a2 a3:Int)(h_a0:WT prog 35 a0)(h_a1:i64.min<=a1/\a1<=i64.max)(h_a2:i64.min<=a2/\a2<=i64.max)(h_a3:i64.min<=a3/\a3<=i64.max)(hg:((okS a0&&((Zac a1 a0&&Zaa a2 0 1)&&Zaa a3 0 14)))=true):ansV prog Zdh 1000 f16 [([19],[5,1000010,60])] [.g a0 35,.i .i64 a1,.i .i64 a2,.i .i64 a3] []=some (.a .x,.newS none (a3.toNat+1) (recC prog a0 a1 a2 a3.toNat) 60,true):=by
 simp only[Q7]at hg;obtain⟨q0,⟨q1,q2⟩,q3⟩:=hg;have r1:=Zgd q1;have r3:=Zmk q3;obtain⟨m,rfl⟩:=Int.eq_ofNat_of_zero_le r3.1;refine(Zur 1000 a0 a1 a2 (m:Int)).trans ?_;rw[dec2 r1.1 (show a1<36 by omega),q0];simp only[Q1];have e0:Zap prog a1 1 a2=oneX prog a1 a2:=rfl;have e1:spl (repC (zc prog 60) 1) 0 (Uce prog a0 (oneX prog a1 a2)).toList=recC prog a0 a1 a2 0:=Yks prog 60 (by rw[Zu9,Ybx]);rw[e0,e1,Q9];have h:=Ziq (g:=Zc0 prog a0 a1 a2 (m:Int)) (λj=>((j:Int),Uaz prog a0 (oneX prog a1 a2) j,j+1,recC prog a0 a1 a2 j)) (m:=m) (x:=((m:Int),Uaz prog a0 (oneX prog a1 a2) m,m+1,recC prog a0 a1 a2 m)) (N:=1000) (λj hj=>by
  have h1:decide ((j:Int)<(m:Int))=true:=Q3 (by omega);have h3:i64.wrap ((j:Int)+1)=((j+1:Nat):Int):=by rw[w64 (by omega)];omega
  have h4:=one_go h_a0 q0 q1 q2 (show j<=14 by omega);have h6:Nat.ble ((j+1+1)*bytesOf prog 60) 140737488355328=true:=Nat.ble_eq_true_of_le (by rw[Yjd];omega);have h7:spl (repC (zc prog 60) 1) 0 (Uce prog a0 (Ubz prog a0 (Uaz prog a0 (oneX prog a1 a2) j))).toList=byV prog a0 a1 a2 (j+1):=Yks prog 60 (by rw[Zu9,Ybx]);simp only[Zc0,h1,h3,h4,q0,h6,h7,Q1];rfl) (by
  have h1:decide ((m:Int)<(m:Int))=false:=Q4 (by omega);simp only[Zc0,h1,Q2]) (by omega)
 have h':Uab (Zc0 prog a0 a1 a2 (m:Int)) 1000 ((0:Int),oneX prog a1 a2,1,recC prog a0 a1 a2 0)=some ((m:Int),Uaz prog a0 (oneX prog a1 a2) m,m+1,recC prog a0 a1 a2 m):=h;rw[h'];rfl
def Zdb:Con:=λargs h=>match args,h with|[.g a0 35,.i .i64 a1,.i .i64 a2,.i .i64 a3],[]=>some (.a .x,.newS none (a3.toNat+1) (recC prog a0 a1 a2 a3.toNat) 60,(okS a0&&((Zac a1 a0&&Zaa a2 0 1)&&Zaa a3 0 14)))|_,_=>none
theorem Zc8:EntX prog 16:=Zal (fn:=f16)
theorem Zeh:Uad (md F) prog 16 Zdb:=(ansY (N:=1000) (mKc (Zah Zwc) Zri (mKc (Zah Yaf) Zu1 (mKc (Zah Zyk) Ztb mKn))) f16 [([19],[5,1000010,60])]).of (by
 intro ρ h w args vals r e hA hH hr;unfold Zdb at hr;split at hr
 ·rename_i a0 a1 a2 a3;obtain⟨rfl,rfl,hg2⟩:=BQi hr;exact Zt2 a0 a1 a2 a3 (hA.wt 0 rfl) (hA.rng 1 rfl) (hA.rng 2 rfl) (hA.rng 3 rfl) hg2
 ·cases hr)
end
end Go.Proofs.YtefjogahegolbaaDoor
