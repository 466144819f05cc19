/- Records of what has stranded, in company; where and when a bottle is released. -/
import Derived.Test.YtdfefaanfiheoaaGreatDoorProg
import Derived.Test.YtdfefaanfiheoaaGreatDoorCxK
import Derived.Test.YtdfefaanfiheoaaGreatDoorCxEachLand
import Derived.Test.YtdfefaanfiheoaaGreatDoorIsX
set_option linter.unusedVariables false
set_option linter.unusedSimpArgs false
open _root_.Array renaming getElem?_setIfInBounds->jA
namespace Go.Proofs.YtdfefaanfiheoaaGreatDoor
open Tryz (f53 f56 f57 f59 f61 f74 f84 f85 f86 f95 f103 f108)
open Go.ChangeShapes Go.WideShapes Go.ChangeAt Go.RowKit Ve Vc
open Tryz renaming prog -> PZ
open IntKind (i64)
set_option maxRecDepth 100000
noncomputable section
variable {F:Vc.Fd}
def Zip:Con:=ansV PZ (mkΓ [(79,conG isCon)]) 1000 f56 []
theorem Zja:EntX PZ 56:=Zaj (fn:=f56)
theorem Zmn:Uac (md F) PZ 56 Zip:=ansY (N:=1000) (mKc (Zle isCon_ok) Yo1 mKn) f56 []
theorem Ydp(N:Nat)(a0:Int):ansV PZ (mkΓ [(47,con Zci)]) N f74 [] [.i .i64 a0] []=(some (.a (.b ((Zaa a0 (1:Int) (14:Int)))),.none,true)):=by kernel_rfl
theorem Ybd(a0:Int)(h_a0:i64.min<=a0/\a0<=i64.max)(hg:(true)=true):ansV PZ (mkΓ [(47,con Zci)]) 1000 f74 [] [.i .i64 a0] []=some (.a (.b ((Zaa a0 (1:Int) (14:Int)))),.none,true):=by refine(Ydp 1000 a0).trans ?_;rfl
def Znh:Con:=λargs h=>match args,h with|[.i .i64 a0],[]=>some (.a (.b ((Zaa a0 (1:Int) (14:Int)))),.none,true)|_,_=>none
theorem Yaf:EntX PZ 74:=Zaj (fn:=f74)
theorem Yfn:Uac (md F) PZ 74 Znh:=(ansY (N:=1000) (mKc (Zae Zkr) Zhu mKn) f74 []).of (by
 intro ρ h w args vals r e hA hH hr;unfold Znh at hr;split at hr
 ·rename_i a0;obtain⟨rfl,rfl,hg2⟩:=BQi hr;exact Ybd a0 (hA.rng 0 rfl) hg2
 ·cases hr)
theorem Ye7(N:Nat)(a0:Int):ansV PZ (mkΓ []) N f95 [] [.i .i64 a0] []=(bif decide (a0>=(1:Int)) then (some (.a (.b (decide (a0<=(14:Int)))),.none,true)) else (some (.a (.b false),.none,true))):=by kernel_rfl
def Zgt(a0:Int):Bool:=(bif decide (a0>=(1:Int)) then decide (a0<=(14:Int)) else false)
theorem Ycg(a0:Int)(h_a0:i64.min<=a0/\a0<=i64.max)(hg:(true)=true):ansV PZ (mkΓ []) 1000 f95 [] [.i .i64 a0] []=some (.a (.b ((Zgt a0))),.none,true):=by
 refine(Ye7 1000 a0).trans ?_;unfold Zgt;revert hg;generalize (decide (a0>=(1:Int)))=b2;intro hg;cases b2
 ·skip
  first|rfl|exact(nomatch (hg:false=true))
 ·skip
  first|rfl|exact(nomatch (hg:false=true))
def Zmz:Con:=λargs h=>match args,h with|[.i .i64 a0],[]=>some (.a (.b ((Zgt a0))),.none,true)|_,_=>none
theorem Zyv:EntX PZ 95:=Zaj (fn:=f95)
theorem Yfp:Uac (md F) PZ 95 Zmz:=(ansY (N:=1000) mKn f95 []).of (by
 intro ρ h w args vals r e hA hH hr;unfold Zmz at hr;split at hr
 ·rename_i a0;obtain⟨rfl,rfl,hg2⟩:=BQi hr;exact Ycg a0 (hA.rng 0 rfl) hg2
 ·cases hr)
def Zwa:Cons:=(mkΓ [(51,con Zj0),(72,con Zb9),(73,con Zgu),(75,con Znk)])
theorem Yd3(N:Nat)(a1 a2:Int)(a3:Bool)(a0:Array Value):ansV PZ Zwa N f53 [] [.w 0,.i .i64 a1,.i .i64 a2,.b a3] [.row a0 37]=(bif (!((okS a0))) then (some (.a (.i .i64 1),.none,true)) else (bif (!((Zab a1 a0))) then (some (.a (.i .i64 2),.none,true)) else (bif (!((Zaa a2 (0:Int) (1:Int)))) then (some (.a (.i .i64 2),.none,true)) else (bif (!(a3)) then (some (.a (.i .i64 2),.none,true)) else (bif decide (0<=(IntKind.u64.wrap a1)) then (bif (Zaf a1 a0) then (some (.a (.i .i64 4),.none,true)) else (some (.a (.i .i64 0),.none,true))) else (none)))))):=by kernel_rfl
def Zb3(a1 a2:Int)(a3:Bool)(a0:Array Value):Int:=(bif (!((okS a0))) then (1:Int) else (bif (!((Zab a1 a0))) then (2:Int) else (bif (!((Zaa a2 (0:Int) (1:Int)))) then (2:Int) else (bif (!(a3)) then (2:Int) else (bif (Zaf a1 a0) then (4:Int) else (0:Int))))))
def Zd6(a1 a2:Int)(a3:Bool)(a0:Array Value):Bool:=(bif (!((okS a0))) then true else (bif (!((Zab a1 a0))) then true else (bif (!((Zaa a2 (0:Int) (1:Int)))) then true else (bif (!(a3)) then true else decide (0<=(IntKind.u64.wrap a1))))))
theorem Ybm(a1 a2:Int)(a3:Bool)(a0:Array Value)(h_a1:i64.min<=a1/\a1<=i64.max)(h_a2:i64.min<=a2/\a2<=i64.max)(h_a0:WT PZ 37 a0)(hg:((Zd6 a1 a2 a3 a0))=true):ansV PZ Zwa 1000 f53 [] [.w 0,.i .i64 a1,.i .i64 a2,.b a3] [.row a0 37]=some (.a (.i .i64 (Zb3 a1 a2 a3 a0)),.none,true):=by
 refine(Yd3 1000 a1 a2 a3 a0).trans ?_;unfold Zd6 at hg;unfold Zb3;revert hg;generalize ((!((okS a0))))=b2;intro hg;cases b2
 ·skip
  revert hg;generalize ((!((Zab a1 a0))))=b4;intro hg;cases b4
  ·skip
   revert hg;generalize ((!((Zaa a2 (0:Int) (1:Int)))))=b6;intro hg;cases b6
   ·skip
    revert hg;generalize ((!(a3)))=b8;intro hg;cases b8
    ·skip
     revert hg;generalize (decide (0<=(IntKind.u64.wrap a1)))=b10;intro hg;cases b10
     ·skip
      first|exact(nomatch (hg:false=true))|rfl
     ·skip
      revert hg;generalize ((Zaf a1 a0))=b12;intro hg;cases b12
      ·skip
       first|rfl|exact(nomatch (hg:false=true))
      ·skip
       first|rfl|exact(nomatch (hg:false=true))
    ·skip
     first|rfl|exact(nomatch (hg:false=true))
   ·skip
    first|rfl|exact(nomatch (hg:false=true))
  ·skip
   first|rfl|exact(nomatch (hg:false=true))
 ·skip
  first|rfl|exact(nomatch (hg:false=true))
def Zm4:Con:=λargs h=>match args,h with|[.w 0,.i .i64 a1,.i .i64 a2,.b a3],[.row a0 37]=>some (.a (.i .i64 (Zb3 a1 a2 a3 a0)),.none,(Zd6 a1 a2 a3 a0))|_,_=>none
theorem Zz6:EntX PZ 53:=Zaj (fn:=f53)
theorem Ygb:Uac (md F) PZ 53 Zm4:=(ansY (N:=1000) (mKc (Zae Zru) Zna (mKc (Zae Zku) Zhp (mKc (Zae Zml) Zi7 (mKc (Zae Yft) Zx3 mKn)))) f53 []).of (by
 intro ρ h w args vals r e hA hH hr;unfold Zm4 at hr;split at hr
 ·rename_i a1 a2 a3 a0;obtain⟨rfl,rfl,hg2⟩:=BQi hr;exact Ybm a1 a2 a3 a0 (hA.rng 1 rfl) (hA.rng 2 rfl) (hH.wt 0 rfl) hg2
 ·cases hr)
theorem in_of{x a b:Int}(h:a<=x/\x<=b):Zaa x a b=true:=by unfold Zaa;rw[Q3 (show x>=a from h.1),Q3 h.2];rfl
theorem Zy1{S:Array Value}(hS:WT PZ 37 S){c:Int}(hc:0<=c/\c<=35):Zad S c=Zaf c S:=by obtain⟨k,rfl⟩:=Int.eq_ofNat_of_zero_le hc.1;exact Ypp hS (by omega)
theorem Ypt(c:Int):decide (0<=IntKind.u64.wrap c)=true:=Q3 (Zgw .u64 _).1
theorem from_gd(c b:Int)(f:Bool)(S:Array Value):Zd6 c b f S=true:=by unfold Zd6;rw[Ypt];cases okS S<;>cases Zab c S<;>cases Zaa b 0 1<;>cases f<;>rfl
def rl(S:Array Value)(c b:Int)(f:Bool):Bool:=Zab c S&&(Zaa b 0 1&&f)
theorem Ys6(c b:Int)(f:Bool)(S:Array Value):Zb3 c b f S=bif okS S then (bif rl S c b f then (bif Zaf c S then 4 else 0) else 2) else 1:=by unfold Zb3 rl;cases okS S<;>cases Zab c S<;>cases Zaa b 0 1<;>cases f<;>rfl
theorem Ysk{c b:Int}{f:Bool}{S:Array Value}(h:(Zb3 c b f S != (0:Int))=false):okS S=true/\Zab c S=true/\Zaa b 0 1=true/\f=true/\Zaf c S=false:=by rw[Ys6]at h;unfold rl at h;cases h1:okS S<;>cases h2:Zab c S<;>cases h3:Zaa b 0 1<;>cases h4:f<;>cases h5:Zaf c S<;>first|exact⟨rfl,rfl,rfl,rfl,rfl⟩ | (exfalso;subst h4;rw[h1,h2,h3,h5]at h;revert h;decide)
def Ze8:Cons:=(mkΓ [(80,con Zi4),(81,con Zhv),(82,con Zns),(83,con Zbl)])
theorem Zf5(N:Nat)(a0:Array Value)(a1 a2:Int)(a3:Bool)(g_e0 g_e1 g_e2 g_e3 g_e4:Addr):ansV PZ Ze8 N f57 [] [.g a0 37,.i .i64 a1,.i .i64 a2,.b a3] [.gl 0 185 g_e0 101973,.gl 1 185 g_e1 93330,.gl 3 185 g_e2 124718,.gl 2 185 g_e3 112315,.gl 4 185 g_e4 94254]=(bif (!((okS a0))) then (some (.a (.e 0),.none,true)) else (bif (!((Zau a0 a1))) then (some (.a (.e 1),.none,true)) else (bif (!((Zc6 a2))) then (some (.a (.e 1),.none,true)) else (bif (!(a3)) then (some (.a (.e 1),.none,true)) else (bif decide (0<=a1) then (bif (Zad a0 a1) then (some (.a (.e 2),.none,true)) else (some (.a (.v .nilIface),.none,true))) else (none)))))):=by kernel_rfl
theorem Zrr(a0:Array Value)(a1 a2:Int)(a3:Bool)(g_e0 g_e1 g_e2 g_e3 g_e4:Addr)(h_a0:WT PZ 37 a0)(h_a1:i64.min<=a1/\a1<=i64.max)(h_a2:i64.min<=a2/\a2<=i64.max)(hc0:(okS a0)=false)(hg:(true)=true):ansV PZ Ze8 1000 f57 [] [.g a0 37,.i .i64 a1,.i .i64 a2,.b a3] [.gl 0 185 g_e0 101973,.gl 1 185 g_e1 93330,.gl 3 185 g_e2 124718,.gl 2 185 g_e3 112315,.gl 4 185 g_e4 94254]=some (.a (.e 0),.none,true):=by refine(Zf5 1000 a0 a1 a2 a3 g_e0 g_e1 g_e2 g_e3 g_e4).trans ?_;simp only[hc0,Bool.not_false,Q1]
theorem Zrt(a0:Array Value)(a1 a2:Int)(a3:Bool)(g_e0 g_e1 g_e2 g_e3 g_e4:Addr)(h_a0:WT PZ 37 a0)(h_a1:i64.min<=a1/\a1<=i64.max)(h_a2:i64.min<=a2/\a2<=i64.max)(hc0:(okS a0)=true)(hc1:(rl a0 a1 a2 a3)=false)(hg:(true)=true):ansV PZ Ze8 1000 f57 [] [.g a0 37,.i .i64 a1,.i .i64 a2,.b a3] [.gl 0 185 g_e0 101973,.gl 1 185 g_e1 93330,.gl 3 185 g_e2 124718,.gl 2 185 g_e3 112315,.gl 4 185 g_e4 94254]=some (.a (.e 1),.none,true):=by
 refine(Zf5 1000 a0 a1 a2 a3 g_e0 g_e1 g_e2 g_e3 g_e4).trans ?_;have ht:Zc6 a2=Zaa a2 0 1:=Yol a2;rw[Zs8,ht];unfold rl at hc1;rw[hc0];cases q1:Zab a1 a0 with|false=>rfl| true=>cases q2:Zaa a2 0 1 with|false=>rfl|true=>cases q3:a3 with|false=>rfl|true=>rw[q1,q2,q3]at hc1;cases hc1
theorem Zre(a0:Array Value)(a1 a2:Int)(a3:Bool)(g_e0 g_e1 g_e2 g_e3 g_e4:Addr)(h_a0:WT PZ 37 a0)(h_a1:i64.min<=a1/\a1<=i64.max)(h_a2:i64.min<=a2/\a2<=i64.max)(hc0:(okS a0)=true)(hc1:(rl a0 a1 a2 a3)=true)(hc2:(Zaf a1 a0)=false)(hg:(true)=true):ansV PZ Ze8 1000 f57 [] [.g a0 37,.i .i64 a1,.i .i64 a2,.b a3] [.gl 0 185 g_e0 101973,.gl 1 185 g_e1 93330,.gl 3 185 g_e2 124718,.gl 2 185 g_e3 112315,.gl 4 185 g_e4 94254]=some (.a (.v .nilIface),.none,true):=by refine(Zf5 1000 a0 a1 a2 a3 g_e0 g_e1 g_e2 g_e3 g_e4).trans ?_;have ht:Zc6 a2=Zaa a2 0 1:=Yol a2;rw[Zs8,ht];unfold rl at hc1;simp only[Q7]at hc1;obtain⟨q1,q2,q3⟩:=hc1;have hr:=Ziz q1;rw[hc0,q1,q2,q3,Zy1 h_a0 hr,hc2,Q3 hr.1];rfl
theorem Zrs(a0:Array Value)(a1 a2:Int)(a3:Bool)(g_e0 g_e1 g_e2 g_e3 g_e4:Addr)(h_a0:WT PZ 37 a0)(h_a1:i64.min<=a1/\a1<=i64.max)(h_a2:i64.min<=a2/\a2<=i64.max)(hc0:(okS a0)=true)(hc1:(rl a0 a1 a2 a3)=true)(hc2:(Zaf a1 a0)=true)(hg:(true)=true):ansV PZ Ze8 1000 f57 [] [.g a0 37,.i .i64 a1,.i .i64 a2,.b a3] [.gl 0 185 g_e0 101973,.gl 1 185 g_e1 93330,.gl 3 185 g_e2 124718,.gl 2 185 g_e3 112315,.gl 4 185 g_e4 94254]=some (.a (.e 2),.none,true):=by refine(Zf5 1000 a0 a1 a2 a3 g_e0 g_e1 g_e2 g_e3 g_e4).trans ?_;have ht:Zc6 a2=Zaa a2 0 1:=Yol a2;rw[Zs8,ht];unfold rl at hc1;simp only[Q7]at hc1;obtain⟨q1,q2,q3⟩:=hc1;have hr:=Ziz q1;rw[hc0,q1,q2,q3,Zy1 h_a0 hr,hc2,Q3 hr.1];rfl
def Za4:SCon:=λargs h=>match args,h with|[.g a0 37,.i .i64 a1,.i .i64 a2,.b a3],[.gl 0 185 g_e0 101973,.gl 1 185 g_e1 93330,.gl 3 185 g_e2 124718,.gl 2 185 g_e3 112315,.gl 4 185 g_e4 94254]=>.two (okS a0) (.two (rl a0 a1 a2 a3) (.two (Zaf a1 a0) (.one (some (.a (.e 2),.none,true))) (.one (some (.a (.v .nilIface),.none,true)))) (.one (some (.a (.e 1),.none,true)))) (.one (some (.a (.e 0),.none,true)))|_,_=>.one none
theorem Zeq:EntX PZ 57:=Zaj (fn:=f57)
theorem Zgh:Uac (md F) PZ 57 (λargs h=>Uat (Za4 args h)):=by
 intro ρ h w args vals r e hn hr hA hH;dsimp only at hr;unfold Za4 at hr;split at hr
 ·rename_i a0 a1 a2 a3 g_e0 g_e1 g_e2 g_e3 g_e4;simp only[Uat]at hr;cases hc0:(okS a0)
  ·rw[hc0]at hr;simp only[Uat,Q1,Q2]at hr;obtain⟨rfl,rfl,hg2⟩:=BQi hr;exact((ansY (N:=1000) (mKc (Zae Zhn) Zfe (mKc (Zae Zgz) Zd7 (mKc (Zae Zla) Zic (mKc (Zae Zez) Zcx mKn)))) f57 [])) ρ _ w _ vals _ _ hn ((Zrr a0 a1 a2 a3 g_e0 g_e1 g_e2 g_e3 g_e4 (hA.wt 0 rfl) (hA.rng 1 rfl) (hA.rng 2 rfl) hc0 hg2)) hA hH
  ·rw[hc0]at hr;simp only[Uat,Q1,Q2]at hr;cases hc1:(rl a0 a1 a2 a3)
   ·rw[hc1]at hr;simp only[Uat,Q1,Q2]at hr;obtain⟨rfl,rfl,hg2⟩:=BQi hr;exact((ansY (N:=1000) (mKc (Zae Zhn) Zfe (mKc (Zae Zgz) Zd7 (mKc (Zae Zla) Zic (mKc (Zae Zez) Zcx mKn)))) f57 [])) ρ _ w _ vals _ _ hn ((Zrt a0 a1 a2 a3 g_e0 g_e1 g_e2 g_e3 g_e4 (hA.wt 0 rfl) (hA.rng 1 rfl) (hA.rng 2 rfl) hc0 hc1 hg2)) hA hH
   ·rw[hc1]at hr;simp only[Uat,Q1,Q2]at hr;cases hc2:(Zaf a1 a0)
    ·rw[hc2]at hr;simp only[Uat,Q1,Q2]at hr;obtain⟨rfl,rfl,hg2⟩:=BQi hr;exact((ansY (N:=1000) (mKc (Zae Zhn) Zfe (mKc (Zae Zgz) Zd7 (mKc (Zae Zla) Zic (mKc (Zae Zez) Zcx mKn)))) f57 [])) ρ _ w _ vals _ _ hn ((Zre a0 a1 a2 a3 g_e0 g_e1 g_e2 g_e3 g_e4 (hA.wt 0 rfl) (hA.rng 1 rfl) (hA.rng 2 rfl) hc0 hc1 hc2 hg2)) hA hH
    ·rw[hc2]at hr;simp only[Uat,Q1,Q2]at hr;obtain⟨rfl,rfl,hg2⟩:=BQi hr;exact((ansY (N:=1000) (mKc (Zae Zhn) Zfe (mKc (Zae Zgz) Zd7 (mKc (Zae Zla) Zic (mKc (Zae Zez) Zcx mKn)))) f57 [])) ρ _ w _ vals _ _ hn ((Zrs a0 a1 a2 a3 g_e0 g_e1 g_e2 g_e3 g_e4 (hA.wt 0 rfl) (hA.rng 1 rfl) (hA.rng 2 rfl) hc0 hc1 hc2 hg2)) hA hH
 ·simp only[Uat]at hr;cases hr
theorem Zyr(N:Nat)(a1 a2 a3:Int)(a0:Array Value):ansV PZ (mkΓ [(113,con Zi5)]) N f103 [] [.w 0,.i .i64 a1,.i .i64 a2,.i .i64 a3] [.row a0 37]=(bif (decide (0<=a1)&&decide (a1<36)) then (bif (okS a0&&((decide (0<=num ((((zc PZ 132).setIfInBounds 0 (.int .i8 (IntKind.i8.wrap a2))).setIfInBounds 2 (.int .i64 1)).setIfInBounds (3+((a1).toNat*1)) (.int .i64 1)) 0)&&decide (num ((((zc PZ 132).setIfInBounds 0 (.int .i8 (IntKind.i8.wrap a2))).setIfInBounds 2 (.int .i64 1)).setIfInBounds (3+((a1).toNat*1)) (.int .i64 1)) 0<2))&&((decide (0<=num ((((zc PZ 132).setIfInBounds 0 (.int .i8 (IntKind.i8.wrap a2))).setIfInBounds 2 (.int .i64 1)).setIfInBounds (3+((a1).toNat*1)) (.int .i64 1)) 1)&&decide (num ((((zc PZ 132).setIfInBounds 0 (.int .i8 (IntKind.i8.wrap a2))).setIfInBounds 2 (.int .i64 1)).setIfInBounds (3+((a1).toNat*1)) (.int .i64 1)) 1<=14))&&(decide (0<=a3)&&decide (a3<=14))))) then (some (.a (.g (Uaq PZ a0 ((((zc PZ 132).setIfInBounds 0 (.int .i8 (IntKind.i8.wrap a2))).setIfInBounds 2 (.int .i64 1)).setIfInBounds (3+((a1).toNat*1)) (.int .i64 1)) a3.toNat) 132),.none,true)) else (none)) else (none)):=by kernel_rfl
def oneX(P:Program)(c b:Int):Array Value:=(((zc P 132).setIfInBounds 0 (.int .i8 (IntKind.i8.wrap b))).setIfInBounds 2 (.int .i64 1)).setIfInBounds (3+c.toNat*1) (.int .i64 1)
theorem Zzb{c b:Int}(hb:0<=b/\b<=1)(hc:0<=c/\c<=35):num (oneX PZ c b) 0=b/\num (oneX PZ c b) 1=0/\(oneX PZ c b).size=40/\∀i,i<36->num (oneX PZ c b) (3+i)=if i=c.toNat then 1 else 0:=by
 have hz:(zc PZ 132).size=40:=by kernel_rfl
 have hc0:(List.range 36).all (λk=>match (zc PZ 132)[3+k]? with|some (.int .i64 0)=>true|_=>false)=true:=by kernel_rfl
 have h1:(zc PZ 132)[1]?=some (.int .i8 0):=by kernel_rfl
 unfold oneX;refine⟨?_,?_,by simp[hz],λi hi=> ?_⟩
 ·unfold num;rw[jA,if_neg (by omega),jA,if_neg (by omega),jA,if_pos rfl,if_pos (by omega)];exact IntWalk.i8_in _ (by omega)
 ·unfold num;rw[jA,if_neg (by omega),jA,if_neg (by omega),jA,if_neg (by omega),h1]
 ·unfold num;rw[jA]
  by_cases e:i=c.toNat
  ·rw[if_pos (by omega),if_pos (by simp;omega),if_pos e]
  ·rw[if_neg (by omega),if_neg e,jA,if_neg (by omega),jA,if_neg (by omega)];have:=List.all_eq_true.1 hc0 i (List.mem_range.2 hi);split at this
   ·rename_i e2;rw[e2]
   ·cases this
theorem Zwl(a1 a2 a3:Int)(a0:Array Value)(h_a1:i64.min<=a1/\a1<=i64.max)(h_a2:i64.min<=a2/\a2<=i64.max)(h_a3:i64.min<=a3/\a3<=i64.max)(h_a0:WT PZ 37 a0)(hg:((okS a0&&((Zab a1 a0&&Zaa a2 0 1)&&Zaa a3 0 14)))=true):ansV PZ (mkΓ [(113,con Zi5)]) 1000 f103 [] [.w 0,.i .i64 a1,.i .i64 a2,.i .i64 a3] [.row a0 37]=some (.a (.g (Uaq PZ a0 (oneX PZ a1 a2) a3.toNat) 132),.none,true):=by simp only[Q7]at hg;obtain⟨hok,⟨his,htd⟩,hhr⟩:=hg;have hc:=Ziz his;have hb:=Zj2 htd;have hh:=Zj2 hhr;obtain⟨n0,n1,_,_⟩:=Zzb (c:=a1) (b:=a2) hb hc;refine(Zyr 1000 a1 a2 a3 a0).trans ?_;unfold oneX at n0 n1;rw[dec2 hc.1 (show a1<36 by omega),n0,n1,hok,dec2 hb.1 (show a2<2 by omega),Q3 hh.1,Q3 hh.2];rfl
def Zlp:Con:=λargs h=>match args,h with|[.w 0,.i .i64 a1,.i .i64 a2,.i .i64 a3],[.row a0 37]=>some (.a (.g (Uaq PZ a0 (oneX PZ a1 a2) a3.toNat) 132),.none,(okS a0&&((Zab a1 a0&&Zaa a2 0 1)&&Zaa a3 0 14)))|_,_=>none
theorem Zvy:EntX PZ 103:=Zaj (fn:=f103)
theorem Ya8:Uac (md F) PZ 103 Zlp:=(ansY (N:=1000) (mKc (Zae Yd0) Zxm mKn) f103 []).of (by
 intro ρ h w args vals r e hA hH hr;unfold Zlp at hr;split at hr
 ·rename_i a1 a2 a3 a0;obtain⟨rfl,rfl,hg2⟩:=BQi hr;exact Zwl a1 a2 a3 a0 (hA.rng 1 rfl) (hA.rng 2 rfl) (hA.rng 3 rfl) (hH.wt 0 rfl) hg2
 ·cases hr)
theorem Yb9(N:Nat)(a0 a1 a2:Int):ansV PZ (mkΓ []) N f85 [] [.i .i64 a0,.i .i64 a1,.i .i64 a2] []=(bif (decide (0<=a0)&&decide (a0<36)) then (some (.a (.g ((((zc PZ 132).setIfInBounds 0 (.int .i8 (IntKind.i8.wrap a2))).setIfInBounds 2 (.int .i64 a1)).setIfInBounds (3+((a0).toNat*1)) (.int .i64 a1)) 132),.none,true)) else (none)):=by kernel_rfl
def Zay(P:Program)(a0 a1 a2:Int):Array Value:=((((zc P 132).setIfInBounds 0 (.int .i8 (IntKind.i8.wrap a2))).setIfInBounds 2 (.int .i64 a1)).setIfInBounds (3+((a0).toNat*1)) (.int .i64 a1))
theorem Zya(a0 a1 a2:Int)(h_a0:i64.min<=a0/\a0<=i64.max)(h_a1:i64.min<=a1/\a1<=i64.max)(h_a2:i64.min<=a2/\a2<=i64.max)(hg:((decide (0<=a0)&&decide (a0<36)))=true):ansV PZ (mkΓ []) 1000 f85 [] [.i .i64 a0,.i .i64 a1,.i .i64 a2] []=some (.a (.g (Zay PZ a0 a1 a2) 132),.none,true):=by
 refine(Yb9 1000 a0 a1 a2).trans ?_;unfold Zay;revert hg;generalize (decide (0<=a0))=b2;intro hg;cases b2
 ·skip
  first|exact(nomatch (hg:false=true))|rfl
 ·skip
  revert hg;generalize (decide (a0<36))=b4;intro hg;cases b4
  ·skip
   first|exact(nomatch (hg:false=true))|rfl
  ·skip
   first|rfl|exact(nomatch (hg:false=true))
def Zmb:Con:=λargs h=>match args,h with|[.i .i64 a0,.i .i64 a1,.i .i64 a2],[]=>some (.a (.g (Zay PZ a0 a1 a2) 132),.none,(decide (0<=a0)&&decide (a0<36)))|_,_=>none
theorem Zwq:EntX PZ 85:=Zaj (fn:=f85)
theorem Ye3:Uac (md F) PZ 85 Zmb:=(ansY (N:=1000) mKn f85 []).of (by
 intro ρ h w args vals r e hA hH hr;unfold Zmb at hr;split at hr
 ·rename_i a0 a1 a2;obtain⟨rfl,rfl,hg2⟩:=BQi hr;exact Zya a0 a1 a2 (hA.rng 0 rfl) (hA.rng 1 rfl) (hA.rng 2 rfl) hg2
 ·cases hr)
def Uey(X:Array Value)(r:Array Value)(k:Nat):Array Value:=r.setIfInBounds (k*1) (.int .i64 (num X (3+k*1)))
def Ub4(P:Program)(S X:Array Value):Array Value:=folds (λr k=>if inC (num S 0) (num S 1) k&&Zad S (k:Int) then Uey X r k else r) (zc P 105) 36
def byV(P:Program)(S:Array Value)(c b:Int)(n:Nat):Array Value:=Ub4 P S (Uaq P S (oneX P c b) n)
def subF(D:Array Value)(m:Int)(r:Array Value)(k:Nat):Array Value:=r.setIfInBounds (k*1) (.int .i64 (i64.wrap (num r (k*1) - i64.wrap (num D (k*1)*m))))
def subV(C D:Array Value)(m:Int):Array Value:=folds (subF D m) C 36
def Zdv:Cons:=(mkΓx [] [(104,Znm)] [(114,Zid)])
def Ze2(a0 a1:Array Value):St:=(⟨.a (.g a0 37)::.a (.g a1 132)::.a (.w 0)::.a (.w 1)::.a (.w 2)::.a (.w 3)::.a (.u)::.a (.g a0 37)::.a (.c 114 [7])::us 8 ([]),[.row a0 37,.row a1 132,.row (zc PZ 105) 105,.row (zc PZ 105) 105,.no,.no,.no,.row a0 37,.no,.no,.no,.no],[]⟩:St)
def Zmj:Array Value->BS
 |r0_3=>([.row r0_3 105]:BS)
def Zp9:Empty->Exit×BS:=λx=>nomatch x
def Zh0(P:Program)(a0 a1:Array Value)(x0:Int):Array Value->Option (Stp (Array Value) Empty)
 |r0_3=>bif (decide (0<=x0)&&decide (x0<36)) then (bif (decide (0<=x0)&&decide (x0<36)) then (some (.more (r0_3.setIfInBounds ((x0).toNat*1) (.int .i64 (num a1 (3+((x0).toNat*1))))))) else (none)) else (none)
noncomputable abbrev cKCyA86:=codeOf f86
theorem Yiz(N:Nat)(a0 a1:Array Value)(x0:Int):∀t:Array Value,Ud7 PZ Zdv N (cAt cKCyA86 [1,1,0,1,0,0]) (pAt (Uaa cKCyA86 [([],[3])]).1 [1,1,0,1,0]) 12 [3] [9] [(6,9)] (Ze2 a0 a1) [.i .i64 x0] (Zmj t)=mapS Zmj Zp9 (Zh0 PZ a0 a1 x0 t):=by
 rintro r0_3
 conv=>rhs;simp only[Zh0,Zao,Zam,Zan,Zap,Zmj,Zp9]
 kernel_rfl
def Zni(P:Program)(N:Nat)(a0 a1:Array Value)(q0_3:Array Value):Option (SV×Eff×Bool):=some (.a (.g q0_3 105),.none,true)
theorem Zxf(N:Nat)(a0 a1:Array Value)(q0_3:Array Value):(Uad 0 (kSeq (veC PZ Zdv N (cAt cKCyA86 [1,1,1]) (pAt (Uaa cKCyA86 [([],[3])]).1 [1,1,1]) (SV×Eff×Bool)) (finK PZ [] [.cell 4 105]))) .normal (Ua2 [3] (Ze2 a0 a1) ([.row q0_3 105]:BS))=Zni PZ N a0 a1 q0_3:=by kernel_rfl
theorem Yis(N:Nat)(a0 a1:Array Value):Ucj (Uas (λ(x0:Int) (hb:BS)=>Ud7 PZ Zdv N (cAt cKCyA86 [1,1,0,1,0,0]) (pAt (Uaa cKCyA86 [([],[3])]).1 [1,1,0,1,0]) 12 [3] [9] [(6,9)] (Ze2 a0 a1) [.i .i64 x0] hb) ((Uak (num a0 0) (num a0 1) 36).filter (Zad a0)) ([.row (zc PZ 105) 105]:BS)) (λhb=>(Uad 0 (kSeq (veC PZ Zdv N (cAt cKCyA86 [1,1,1]) (pAt (Uaa cKCyA86 [([],[3])]).1 [1,1,1]) (SV×Eff×Bool)) (finK PZ [] [.cell 4 105]))) .normal (Ua2 [3] (Ze2 a0 a1) hb)) (λe hb=>(Uad 0 (kSeq (veC PZ Zdv N (cAt cKCyA86 [1,1,1]) (pAt (Uaa cKCyA86 [([],[3])]).1 [1,1,1]) (SV×Eff×Bool)) (finK PZ [] [.cell 4 105]))) e (Ua2 [3] (Ze2 a0 a1) hb))=Uc9 (Uas (Zh0 PZ a0 a1) ((Uak (num a0 0) (num a0 1) 36).filter (Zad a0)) (zc PZ 105)) (λx=>Zni PZ N a0 a1 x) (λx:Empty=>nomatch x):=by
 refine Zzo Zmj Zp9 _ _ (λy t=>Yiz N a0 a1 y t) _ (zc PZ 105) _ _ _ _ ?_ ?_
 ·intro x;exact Zxf N a0 a1 x
 ·intro x;exact nomatch x
theorem Ygt(N:Nat)(a0 a1:Array Value):ansV PZ Zdv N f86 [([],[3])] [.g a0 37,.g a1 132] []=(bif (decide (0<=num a0 0)&&decide (num a0 0<=6)&&(decide (0<=num a0 1)&&decide (num a0 1<=6))) then (Uc9 (Uas (Zh0 PZ a0 a1) ((Uak (num a0 0) (num a0 1) 36).filter (Zad a0)) (zc PZ 105)) (λx=>Zni PZ N a0 a1 x) (λx:Empty=>nomatch x)) else (none)):=by
 conv=>rhs;simp only[<- Yis N a0 a1]
 kernel_rfl
theorem Yez(a0 a1:Array Value)(h_a0:WT PZ 37 a0)(h_a1:WT PZ 132 a1)(hg:(okS a0)=true):ansV PZ Zdv 1000 f86 [([],[3])] [.g a0 37,.g a1 132] []=some (.a (.g (Ub4 PZ a0 a1) 105),.none,true):=by
 refine(Ygt 1000 a0 a1).trans ?_;rw[Yly hg,Q1];have h:=Zwf (X:=Empty) (g:=Zh0 PZ a0 a1) (q:=Zad a0) (Uey a1) (wd:=num a0 0) (hi:=num a0 1) (λr k hk hi hq=>by
  have h1:decide ((k:Int)<36)=true:=Q3 (by omega);have h0:decide (0<=(k:Int))=true:=Q3 (by omega);simp only[Zh0,h0,h1,Q9,Bool.and_self,Q1];rfl) (zc PZ 105)
 rw[h];rfl
def Zo9:Con:=λargs h=>match args,h with|[.g a0 37,.g a1 132],[]=>some (.a (.g (Ub4 PZ a0 a1) 105),.none,okS a0)|_,_=>none
theorem Yci:EntX PZ 86:=Zaj (fn:=f86)
theorem Yja:Uac (md F) PZ 86 Zo9:=(ansY (N:=1000) (mkΓx_nX Ya2 Zwr (mkΓx_iX Zxb Zsf mkΓx_nilX)) f86 [([],[3])]).of (by
 intro ρ h w args vals r e hA hH hr;unfold Zo9 at hr;split at hr
 ·rename_i a0 a1;obtain⟨rfl,rfl,hg2⟩:=BQi hr;exact Yez a0 a1 (hA.wt 0 rfl) (hA.wt 1 rfl) hg2
 ·cases hr)
def Zg4:Cons:=(mkΓ [(72,con Zb9),(73,con Zgu),(103,con Zlp)])
def Zjb(a1 a2 a3:Int)(a0:Array Value):St:=(⟨.a (.w 0)::.a (.i .i64 a1)::.a (.i .i64 a2)::.a (.i .i64 a3)::us 4 (.a (.w 1)::.a (.w 7)::.a (.w 10)::.a (.i .i64 0)::.a (.w 0)::.a (.i .i64 a1)::.a (.i .i64 a2)::.a (.i .i64 a3)::.a (.g (Uaq PZ a0 (oneX PZ a1 a2) a3.toNat) 132)::.a (.g (zc PZ 105) 105)::us 19 ([])),[.row a0 37,.row (zc PZ 105) 105,.no,.no,.no,.no,.no,.row (Uaq PZ a0 (oneX PZ a1 a2) a3.toNat) 132,.no,.no,.row (zc PZ 105) 105,.no],[10,7]⟩:St)
def Zk2:Int×Array Value->LS
 |(y0_11,r0_10)=>([.a (.i .i64 y0_11)],[.row r0_10 105])
def Zrj:Int×Array Value->Exit×LS
 |t=>((.exit 0),Zk2 t)
def Zga(P:Program)(a1 a2 a3:Int)(a0:Array Value):Int×Array Value->Option (Stp (Int×Array Value) (Int×Array Value))
 |(y0_11,r0_10)=>bif decide (y0_11<(36:Int)) then (bif (Zab y0_11 a0) then (bif decide (0<=(IntKind.u64.wrap y0_11)) then (bif (Zaf y0_11 a0) then (bif (decide (0<=y0_11)&&decide (y0_11<36)) then (bif (decide (0<=y0_11)&&decide (y0_11<36)) then (some (.more ((i64.wrap (y0_11+(1:Int))),(r0_10.setIfInBounds ((y0_11).toNat*1) (.int .i64 (num (Uaq PZ a0 (oneX PZ a1 a2) a3.toNat) (3+((y0_11).toNat*1)))))))) else (none)) else (none)) else (some (.more ((i64.wrap (y0_11+(1:Int))),r0_10)))) else (none)) else (some (.more ((i64.wrap (y0_11+(1:Int))),r0_10)))) else (some (.done (y0_11,r0_10)))
noncomputable abbrev cKCyA84:=codeOf f84
theorem Yk9(N:Nat)(a1 a2 a3:Int)(a0:Array Value):∀t:Int×Array Value,Uah PZ Zg4 N (cAt cKCyA84 [1,1,1,0,1,0,0]) (pAt (Uaa cKCyA84 [([11],[10])]).1 [1,1,1,0,1,0]) [11] [10] (Zjb a1 a2 a3 a0) (Zk2 t)=mapS Zk2 Zrj (Zga PZ a1 a2 a3 a0 t):=by
 rintro⟨y0_11,r0_10⟩
 conv=>rhs;simp only[Zga,Zao,Zam,Zan,Zap,Zk2,Zrj]
 kernel_rfl
def Zpf(P:Program)(N:Nat)(a1 a2 a3:Int)(a0:Array Value)(z0_11:Int)(q0_10:Array Value):Option (SV×Eff×Bool):=some (.a (.g q0_10 105),.none,true)
theorem Yah(N:Nat)(a1 a2 a3:Int)(a0:Array Value)(z0_11:Int)(q0_10:Array Value):(Uad 0 (kSeq (veC PZ Zg4 N (cAt cKCyA84 [1,1,1,1]) (pAt (Uaa cKCyA84 [([11],[10])]).1 [1,1,1,1]) (SV×Eff×Bool)) (finK PZ [.row a0 37] [.cell 8 105]))) (.exit 0) (left (writes (cAt cKCyA84 [1,1,1,0,1,0,0])) [11] [10] (Zjb a1 a2 a3 a0) ([.a (.i .i64 z0_11)],[.row q0_10 105]))=Zpf PZ N a1 a2 a3 a0 z0_11 q0_10:=by kernel_rfl
theorem Yks(N:Nat)(a1 a2 a3:Int)(a0:Array Value):Uag (Uab (Uah PZ Zg4 N (cAt cKCyA84 [1,1,1,0,1,0,0]) (pAt (Uaa cKCyA84 [([11],[10])]).1 [1,1,1,0,1,0]) [11] [10] (Zjb a1 a2 a3 a0)) N ([.a (.i .i64 0)],[.row (zc PZ 105) 105])) (λe s=>(Uad 0 (kSeq (veC PZ Zg4 N (cAt cKCyA84 [1,1,1,1]) (pAt (Uaa cKCyA84 [([11],[10])]).1 [1,1,1,1]) (SV×Eff×Bool)) (finK PZ [.row a0 37] [.cell 8 105]))) e (left (writes (cAt cKCyA84 [1,1,1,0,1,0,0])) [11] [10] (Zjb a1 a2 a3 a0) s))=Uai (Uab (Zga PZ a1 a2 a3 a0) N ((0:Int),(zc PZ 105))) (λx=>Zpf PZ N a1 a2 a3 a0 x.1 x.2):=by refine Zar Zk2 Zrj _ _ (Yk9 N a1 a2 a3 a0) N ((0:Int),(zc PZ 105)) _ _ ?_;intro x;exact Yah N a1 a2 a3 a0 x.1 x.2
theorem Yiy(N:Nat)(a1 a2 a3:Int)(a0:Array Value):ansV PZ Zg4 N f84 [([11],[10])] [.w 0,.i .i64 a1,.i .i64 a2,.i .i64 a3] [.row a0 37]=(bif (okS a0&&((Zab a1 a0&&Zaa a2 0 1)&&Zaa a3 0 14)) then (Uai (Uab (Zga PZ a1 a2 a3 a0) N ((0:Int),(zc PZ 105))) (λx=>Zpf PZ N a1 a2 a3 a0 x.1 x.2)) else (none)):=by
 conv=>rhs;simp only[<- Yks N a1 a2 a3 a0]
 kernel_rfl
theorem Ygl(a1 a2 a3:Int)(a0:Array Value)(h_a1:i64.min<=a1/\a1<=i64.max)(h_a2:i64.min<=a2/\a2<=i64.max)(h_a3:i64.min<=a3/\a3<=i64.max)(h_a0:WT PZ 37 a0)(hg:((okS a0&&((Zab a1 a0&&Zaa a2 0 1)&&Zaa a3 0 14)))=true):ansV PZ Zg4 1000 f84 [([11],[10])] [.w 0,.i .i64 a1,.i .i64 a2,.i .i64 a3] [.row a0 37]=some (.a (.g (byV PZ a0 a1 a2 a3.toNat) 105),.none,true):=by
 refine(Yiy 1000 a1 a2 a3 a0).trans ?_;rw[hg,Q1];have h:=Zi6 (g:=Zga PZ a1 a2 a3 a0) (λr k=>((k:Int),r)) (λr k=>if inC (num a0 0) (num a0 1) k&&Zad a0 (k:Int) then Uey (Uaq PZ a0 (oneX PZ a1 a2) a3.toNat) r k else r) (m:=36) (t:=zc PZ 105) (x:=((36:Int),byV PZ a0 a1 a2 a3.toNat)) (N:=1000) (λk s hk _=>by
  have h1:decide ((k:Int)<36)=true:=Q3 (by omega);have h0:decide (0<=(k:Int))=true:=Q3 (by omega);have h3:i64.wrap ((k:Int)+1)=((k+1:Nat):Int):=by rw[w64 (by omega)];omega
  rw[Ypp h_a0 hk];simp only[Zga,h1,h0,h3,Ymw h_a0 hk,Ypt,Q9,Bool.and_self,Q1];cases inC (num a0 0) (num a0 1) k with
  |false=>rfl
  |true=>cases Zaf (k:Int) a0<;>rfl) (by
  have h1:decide (((36:Nat):Int)<36)=false:=by decide
  simp only[Zga,h1,Q2];rfl) (by omega)
 have h':Uab (Zga PZ a1 a2 a3 a0) 1000 ((0:Int),(zc PZ 105))=some ((36:Int),byV PZ a0 a1 a2 a3.toNat):=h;rw[h'];rfl
def Zcz:Con:=λargs h=>match args,h with|[.w 0,.i .i64 a1,.i .i64 a2,.i .i64 a3],[.row a0 37]=>some (.a (.g (byV PZ a0 a1 a2 a3.toNat) 105),.none,(okS a0&&((Zab a1 a0&&Zaa a2 0 1)&&Zaa a3 0 14)))|_,_=>none
theorem Ydt:EntX PZ 84:=Zaj (fn:=f84)
theorem Ylu:Uac (md F) PZ 84 Zcz:=(ansY (N:=1000) (mKc (Zae Zku) Zhp (mKc (Zae Zml) Zi7 (mKc (Zae Ya8) Zvy mKn))) f84 [([11],[10])]).of (by
 intro ρ h w args vals r e hA hH hr;unfold Zcz at hr;split at hr
 ·rename_i a1 a2 a3 a0;obtain⟨rfl,rfl,hg2⟩:=BQi hr;exact Ygl a1 a2 a3 a0 (hA.rng 1 rfl) (hA.rng 2 rfl) (hA.rng 3 rfl) (hH.wt 0 rfl) hg2
 ·cases hr)
theorem Yfh:(zc PZ 105).size=36:=by kernel_rfl
theorem Ys2:bytesOf PZ 105=288:=by kernel_rfl
theorem Ys4(P:Program)(T:TypeId){r:Array Value}(h:r.size=(zc P T).size):spl (repC (zc P T) 1) 0 r.toList=r:=by
 have e:repC (zc P T) 1=zc P T:=by unfold repC repL repL;simp
 rw[e];exact Ylp h
theorem Yaz(S X:Array Value):(Ub4 PZ S X).size=36:=by
 unfold Ub4;refine Zkt (λ_ (r:Array Value)=>r.size=36) Yfh (λk s _ hs=> ?_) 36 (Nat.le_refl _);unfold Uey;split
 ·rw[Array.size_setIfInBounds];exact hs
 ·exact hs
theorem Zra(S:Array Value)(c b:Int)(n:Nat):(byV PZ S c b n).size=36:=Yaz _ _
theorem Ysm{c b:Int}(hc:0<=c/\c<=35):WT PZ 132 (oneX PZ c b):=by
 have o1:i64.min<=(1:Int)/\(1:Int)<=i64.max:=by have e1:i64.min=-9223372036854775808:=rfl;have e2:i64.max=9223372036854775807:=rfl;omega
 unfold oneX;exact Zpd (k:=.i64) (Zpd (k:=.i64) (Zpd (k:=.i8) (WT.zero (by kernel_rfl)) Yid.1 (Zgw .i8 _)) (Zoe (by omega) (by omega)) o1) (Zoe (by omega) (by omega)) o1
theorem Ys9{S:Array Value}{c b:Int}(hc:Zab c S=true)(hb:Zaa b 0 1=true):(0<=num (oneX PZ c b) 0/\num (oneX PZ c b) 0<2)/\(0<=num (oneX PZ c b) 1/\num (oneX PZ c b) 1<=14):=by have h1:=Zj2 hb;obtain⟨n0,n1,_,_⟩:=Zzb (c:=c) (b:=b) h1 (Ziz hc);rw[n0,n1];omega
theorem one_zero{S:Array Value}(hS:WT PZ 37 S){c b:Int}(hc:Zab c S=true)(hb:Zaa b 0 1=true):ZO S (oneX PZ c b):=by
 intro k hk hf;have hr:=Ziz hc;rw[(Zzb (c:=c) (b:=b) (Zj2 hb) hr).2.2.2 k hk,if_neg];intro e;have hkc:(k:Int)=c:=by omega
 rw[<- hkc,Ymw hS hk,hf]at hc;cases hc
theorem one_go{S:Array Value}(hS:WT PZ 37 S)(hok:okS S=true){c b:Int}(hc:Zab c S=true)(hb:Zaa b 0 1=true){j:Nat}(hj:j<=14):goG S (Uaq PZ S (oneX PZ c b) j)=true:=by obtain⟨l0,l1⟩:=Ys9 hc hb;have hl:=Yhh (S:=S) l0 l1 j hj;have n1:=(Zzb (c:=c) (b:=b) (Zj2 hb) (Ziz hc)).2.1;exact Ysv.2 ⟨hok,by rw[hl.1];exact l0,by rw[hl.2,n1];omega,Yrw (Ysm (Ziz hc)) hok hS (one_zero hS hc hb) j⟩
def recC(P:Program)(S:Array Value)(c b:Int):Nat->Array Value
 |0=>byV P S c b 0
 |n+1=>recC P S c b n++byV P S c b (n+1)
theorem Ynk(S:Array Value)(c b:Int):∀n,(recC PZ S c b n).size=(n+1)*36
 |0=>Zra _ _ _ _
 |n+1=>by rw[recC,Array.size_append,Ynk S c b n,Zra];omega
theorem Ypc(S:Array Value)(c b:Int):∀(n j:Nat),j<=n->(recC PZ S c b n).extract (j*36) (j*36+36)=byV PZ S c b j
 |0,j,hj=>by
  obtain rfl:j=0:=by omega
  rw[recC];exact Zwg (Zra _ _ _ _)
 | n+1,j,hj=>by
  have hz:=Ynk S c b n
  by_cases h:j<=n
  ·rw[<- Ypc S c b n j h,recC];refine Array.ext_getElem? λi=> ?_
   rw[Array.getElem?_extract,Array.getElem?_extract,Array.size_append,hz,Zra]
   by_cases hi:i<min (j*36+36) ((n+1)*36) - j*36
   ·rw[if_pos (by omega),if_pos hi,Array.getElem?_append,if_pos (by omega)]
   ·rw[if_neg (by omega),if_neg hi]
  ·obtain rfl:j=n+1:=by omega
   rw[recC];refine Array.ext_getElem? λi=> ?_
   rw[Array.getElem?_extract,Array.size_append,hz,Zra]
   by_cases hi:i<36
   ·rw[if_pos (by omega),Array.getElem?_append,if_neg (by omega),hz,show (n+1)*36+i - (n+1)*36=i by omega]
   ·rw[if_neg (by omega),Array.getElem?_eq_none (by rw[Zra];omega)]
theorem num_sub1(a:Int)(h:1<=a/\a<=14):i64.wrap (a - 1)=a - 1/\(i64.wrap (a - 1)).toNat=a.toNat - 1:=by rw[w64 (by omega)];omega
def Zi1(a1 a2 a3:Int)(a0:Array Value):St:=(⟨.a (.w 0)::.a (.i .i64 a1)::.a (.i .i64 a2)::.a (.i .i64 a3)::us 4 (.a (.w 1)::.a (.w 7)::.a (.w 15)::.a (.i .i64 0)::.a (.w 0)::.a (.i .i64 a1)::.a (.i .i64 a2)::.a (.i .i64 a3)::.a (.g (byV PZ a0 a1 a2 a3.toNat) 105)::.a (.w 0)::.a (.i .i64 a1)::.a (.i .i64 a2)::.a (.i .i64 a3)::.a (.i .i64 (i64.wrap (a3 - (1:Int))))::.a (.g (byV PZ a0 a1 a2 (i64.wrap (a3 - (1:Int))).toNat) 105)::us 14 ([])),[.row a0 37,.row (zc PZ 105) 105,.no,.no,.no,.no,.no,.row (byV PZ a0 a1 a2 a3.toNat) 105,.no,.no,.no,.no,.no,.no,.no,.row (byV PZ a0 a1 a2 (i64.wrap (a3 - (1:Int))).toNat) 105,.no],[15,7]⟩:St)
def Zlc:Int×Array Value->LS
 |(y0_11,r0_7)=>([.a (.i .i64 y0_11)],[.row r0_7 105])
def Zq2:Int×Array Value->Exit×LS
 |t=>((.exit 0),Zlc t)
def Zex(P:Program)(a1 a2 a3:Int)(a0:Array Value):Int×Array Value->Option (Stp (Int×Array Value) (Int×Array Value))
 |(y0_11,r0_7)=>bif decide (y0_11<(36:Int)) then (bif (decide (0<=y0_11)&&decide (y0_11<36)) then (bif (decide (0<=y0_11)&&decide (y0_11<36)) then (bif (decide (0<=y0_11)&&decide (y0_11<36)) then (some (.more ((i64.wrap (y0_11+(1:Int))),(r0_7.setIfInBounds ((y0_11).toNat*1) (.int .i64 (i64.wrap ((num r0_7 ((y0_11).toNat*1)) - (i64.wrap ((12:Int)*(num (byV PZ a0 a1 a2 (i64.wrap (a3 - (1:Int))).toNat) ((y0_11).toNat*1))))))))))) else (none)) else (none)) else (none)) else (some (.done (y0_11,r0_7)))
noncomputable abbrev cKCyA59:=codeOf f59
theorem Ylj(N:Nat)(a1 a2 a3:Int)(a0:Array Value):∀t:Int×Array Value,Uah PZ (mkΓ [(84,con Zcz)]) N (cAt cKCyA59 [1,1,1,0,1,0,0]) (pAt (Uaa cKCyA59 [([11],[7])]).1 [1,1,1,0,1,0]) [11] [7] (Zi1 a1 a2 a3 a0) (Zlc t)=mapS Zlc Zq2 (Zex PZ a1 a2 a3 a0 t):=by
 rintro⟨y0_11,r0_7⟩
 conv=>rhs;simp only[Zex,Zao,Zam,Zan,Zap,Zlc,Zq2]
 kernel_rfl
def Zld(P:Program)(N:Nat)(a1 a2 a3:Int)(a0:Array Value)(z0_11:Int)(q0_7:Array Value):Option (SV×Eff×Bool):=some (.a (.g q0_7 105),.none,true)
theorem Zy9(N:Nat)(a1 a2 a3:Int)(a0:Array Value)(z0_11:Int)(q0_7:Array Value):(Uad 0 (kSeq (veC PZ (mkΓ [(84,con Zcz)]) N (cAt cKCyA59 [1,1,1,1]) (pAt (Uaa cKCyA59 [([11],[7])]).1 [1,1,1,1]) (SV×Eff×Bool)) (finK PZ [.row a0 37] [.cell 8 105]))) (.exit 0) (left (writes (cAt cKCyA59 [1,1,1,0,1,0,0])) [11] [7] (Zi1 a1 a2 a3 a0) ([.a (.i .i64 z0_11)],[.row q0_7 105]))=Zld PZ N a1 a2 a3 a0 z0_11 q0_7:=by kernel_rfl
theorem Ykw(N:Nat)(a1 a2 a3:Int)(a0:Array Value):Uag (Uab (Uah PZ (mkΓ [(84,con Zcz)]) N (cAt cKCyA59 [1,1,1,0,1,0,0]) (pAt (Uaa cKCyA59 [([11],[7])]).1 [1,1,1,0,1,0]) [11] [7] (Zi1 a1 a2 a3 a0)) N ([.a (.i .i64 0)],[.row (byV PZ a0 a1 a2 a3.toNat) 105])) (λe s=>(Uad 0 (kSeq (veC PZ (mkΓ [(84,con Zcz)]) N (cAt cKCyA59 [1,1,1,1]) (pAt (Uaa cKCyA59 [([11],[7])]).1 [1,1,1,1]) (SV×Eff×Bool)) (finK PZ [.row a0 37] [.cell 8 105]))) e (left (writes (cAt cKCyA59 [1,1,1,0,1,0,0])) [11] [7] (Zi1 a1 a2 a3 a0) s))=Uai (Uab (Zex PZ a1 a2 a3 a0) N ((0:Int),(byV PZ a0 a1 a2 a3.toNat))) (λx=>Zld PZ N a1 a2 a3 a0 x.1 x.2):=by refine Zar Zlc Zq2 _ _ (Ylj N a1 a2 a3 a0) N ((0:Int),(byV PZ a0 a1 a2 a3.toNat)) _ _ ?_;intro x;exact Zy9 N a1 a2 a3 a0 x.1 x.2
theorem Yi3(N:Nat)(a1 a2 a3:Int)(a0:Array Value):ansV PZ (mkΓ [(84,con Zcz)]) N f59 [([11],[7])] [.w 0,.i .i64 a1,.i .i64 a2,.i .i64 a3] [.row a0 37]=(bif (okS a0&&((Zab a1 a0&&Zaa a2 0 1)&&Zaa a3 0 14)) then (bif (okS a0&&((Zab a1 a0&&Zaa a2 0 1)&&Zaa (i64.wrap (a3 - (1:Int))) 0 14)) then (Uai (Uab (Zex PZ a1 a2 a3 a0) N ((0:Int),(byV PZ a0 a1 a2 a3.toNat))) (λx=>Zld PZ N a1 a2 a3 a0 x.1 x.2)) else (none)) else (none)):=by
 conv=>rhs;simp only[<- Ykw N a1 a2 a3 a0]
 kernel_rfl
theorem Yhu(a1 a2 a3:Int)(a0:Array Value)(h_a1:i64.min<=a1/\a1<=i64.max)(h_a2:i64.min<=a2/\a2<=i64.max)(h_a3:i64.min<=a3/\a3<=i64.max)(h_a0:WT PZ 37 a0)(hg:((okS a0&&((Zab a1 a0&&Zaa a2 0 1)&&Zaa a3 1 14)))=true):ansV PZ (mkΓ [(84,con Zcz)]) 1000 f59 [([11],[7])] [.w 0,.i .i64 a1,.i .i64 a2,.i .i64 a3] [.row a0 37]=some (.a (.g (subV (byV PZ a0 a1 a2 a3.toNat) (byV PZ a0 a1 a2 (a3.toNat - 1)) 12) 105),.none,true):=by
 simp only[Q7]at hg;obtain⟨q0,⟨q1,q2⟩,q3⟩:=hg;have r3:=Zj2 q3;obtain⟨e1,e2⟩:=num_sub1 a3 r3;refine(Yi3 1000 a1 a2 a3 a0).trans ?_;rw[q0,q1,q2,in_of (x:=a3) (a:=0) (b:=14) (by omega),in_of (x:=i64.wrap (a3 - 1)) (a:=0) (b:=14) (by omega)];simp only[Bool.and_self,Q1];have h:=Zi6 (g:=Zex PZ a1 a2 a3 a0) (λr k=>((k:Int),r)) (subF (byV PZ a0 a1 a2 (a3.toNat - 1)) 12) (m:=36) (t:=byV PZ a0 a1 a2 a3.toNat) (x:=((36:Int),subV (byV PZ a0 a1 a2 a3.toNat) (byV PZ a0 a1 a2 (a3.toNat - 1)) 12)) (N:=1000) (λk s hk _=>by
  have h1:decide ((k:Int)<36)=true:=Q3 (by omega);have h0:decide (0<=(k:Int))=true:=Q3 (by omega);have h3:i64.wrap ((k:Int)+1)=((k+1:Nat):Int):=by rw[w64 (by omega)];omega
  simp only[Zex,h1,h0,h3,e2,Q9,Bool.and_self,Q1];unfold subF;rw[Int.mul_comm (12:Int)]) (by
  have h1:decide (((36:Nat):Int)<36)=false:=by decide
  simp only[Zex,h1,Q2];rfl) (by omega)
 have hq:∀q,Uab (Zex PZ a1 a2 a3 a0) 1000 ((0:Int),byV PZ a0 a1 a2 a3.toNat)=some ((36:Int),q)->Uai (Uab (Zex PZ a1 a2 a3 a0) 1000 ((0:Int),byV PZ a0 a1 a2 a3.toNat)) (λx=>Zld PZ 1000 a1 a2 a3 a0 x.1 x.2)=some (.a (.g q 105),.none,true):=λq e=>by rw[e];rfl
 exact hq _ h
def Zp2:Con:=λargs h=>match args,h with|[.w 0,.i .i64 a1,.i .i64 a2,.i .i64 a3],[.row a0 37]=>some (.a (.g (subV (byV PZ a0 a1 a2 a3.toNat) (byV PZ a0 a1 a2 (a3.toNat - 1)) 12) 105),.none,(okS a0&&((Zab a1 a0&&Zaa a2 0 1)&&Zaa a3 1 14)))|_,_=>none
theorem Yeo:EntX PZ 59:=Zaj (fn:=f59)
theorem Yk2:Uac (md F) PZ 59 Zp2:=(ansY (N:=1000) (mKc (Zae Ylu) Ydt mKn) f59 [([11],[7])]).of (by
 intro ρ h w args vals r e hA hH hr;unfold Zp2 at hr;split at hr
 ·rename_i a1 a2 a3 a0;obtain⟨rfl,rfl,hg2⟩:=BQi hr;exact Yhu a1 a2 a3 a0 (hA.rng 1 rfl) (hA.rng 2 rfl) (hA.rng 3 rfl) (hH.wt 0 rfl) hg2
 ·cases hr)
def Zdf(a1 a2:Int)(b_a0:Option (Option Addr))(n_a0:Nat)(a0:Array Value):St:=(⟨.a (.l 0)::.a (.i .i64 a1)::.a (.i .i64 a2)::us 3 (.a (.w 1)::.a (.w 6)::.a (.u)::.a (.u)::.a (.l 0)::.a (.i .i64 a2)::.a (.q 0 (((a2).toNat*36)) 105)::.a (.g (a0.extract ((a2).toNat*36) (((a2).toNat*36)+36)) 105)::.a (.l 0)::.a (.i .i64 a1)::.a (.q 0 (((a1).toNat*36)) 105)::.a (.g (a0.extract ((a1).toNat*36) (((a1).toNat*36)+36)) 105)::.a (.i .i64 0)::us 16 ([])),[.sl (.came b_a0) n_a0 a0 105,.row (zc PZ 105) 105,.no,.no,.no,.no,.row (a0.extract ((a2).toNat*36) (((a2).toNat*36)+36)) 105,.no],[6]⟩:St)
def Zel:Int×Array Value->LS
 |(y0_18,r0_6)=>([.a (.i .i64 y0_18)],[.row r0_6 105])
def Zjm:Int×Array Value->Exit×LS
 |t=>((.exit 0),Zel t)
def Zbd(P:Program)(a1 a2:Int)(b_a0:Option (Option Addr))(n_a0:Nat)(a0:Array Value):Int×Array Value->Option (Stp (Int×Array Value) (Int×Array Value))
 |(y0_18,r0_6)=>bif decide (y0_18<(36:Int)) then (bif (decide (0<=y0_18)&&decide (y0_18<36)) then (bif (decide (0<=y0_18)&&decide (y0_18<36)) then (bif (decide (0<=(i64.wrap (a2 - a1)))&&decide ((i64.wrap (a2 - a1))<=14)) then (bif (decide (0<=y0_18)&&decide (y0_18<36)) then (some (.more ((i64.wrap (y0_18+(1:Int))),(r0_6.setIfInBounds ((y0_18).toNat*1) (.int .i64 (i64.wrap ((num r0_6 ((y0_18).toNat*1)) - (i64.wrap ((num (a0.extract ((a1).toNat*36) (((a1).toNat*36)+36)) ((y0_18).toNat*1))*(12^(i64.wrap (a2 - a1)).toNat)))))))))) else (none)) else (none)) else (none)) else (none)) else (some (.done (y0_18,r0_6)))
noncomputable abbrev cKCyA108:=codeOf f108
theorem Zvn(N:Nat)(a1 a2:Int)(b_a0:Option (Option Addr))(n_a0:Nat)(a0:Array Value):∀t:Int×Array Value,Uah PZ (mkΓ [(117,con Zbh)]) N (cAt cKCyA108 [1,1,0,1,0,0]) (pAt (Uaa cKCyA108 [([18],[6])]).1 [1,1,0,1,0]) [18] [6] (Zdf a1 a2 b_a0 n_a0 a0) (Zel t)=mapS Zel Zjm (Zbd PZ a1 a2 b_a0 n_a0 a0 t):=by
 rintro⟨y0_18,r0_6⟩
 conv=>rhs;simp only[Zbd,Zao,Zam,Zan,Zap,Zel,Zjm]
 kernel_rfl
def Zfi(P:Program)(N:Nat)(a1 a2:Int)(b_a0:Option (Option Addr))(n_a0:Nat)(a0:Array Value)(z0_18:Int)(q0_6:Array Value):Option (SV×Eff×Bool):=some (.a (.g q0_6 105),.none,true)
theorem Zpy(N:Nat)(a1 a2:Int)(b_a0:Option (Option Addr))(n_a0:Nat)(a0:Array Value)(z0_18:Int)(q0_6:Array Value):(Uad 0 (kSeq (veC PZ (mkΓ [(117,con Zbh)]) N (cAt cKCyA108 [1,1,1]) (pAt (Uaa cKCyA108 [([18],[6])]).1 [1,1,1]) (SV×Eff×Bool)) (finK PZ [.sl (.came b_a0) n_a0 a0 105] [.cell 6 105]))) (.exit 0) (left (writes (cAt cKCyA108 [1,1,0,1,0,0])) [18] [6] (Zdf a1 a2 b_a0 n_a0 a0) ([.a (.i .i64 z0_18)],[.row q0_6 105]))=Zfi PZ N a1 a2 b_a0 n_a0 a0 z0_18 q0_6:=by kernel_rfl
theorem Zvh(N:Nat)(a1 a2:Int)(b_a0:Option (Option Addr))(n_a0:Nat)(a0:Array Value):Uag (Uab (Uah PZ (mkΓ [(117,con Zbh)]) N (cAt cKCyA108 [1,1,0,1,0,0]) (pAt (Uaa cKCyA108 [([18],[6])]).1 [1,1,0,1,0]) [18] [6] (Zdf a1 a2 b_a0 n_a0 a0)) N ([.a (.i .i64 0)],[.row (a0.extract ((a2).toNat*36) (((a2).toNat*36)+36)) 105])) (λe s=>(Uad 0 (kSeq (veC PZ (mkΓ [(117,con Zbh)]) N (cAt cKCyA108 [1,1,1]) (pAt (Uaa cKCyA108 [([18],[6])]).1 [1,1,1]) (SV×Eff×Bool)) (finK PZ [.sl (.came b_a0) n_a0 a0 105] [.cell 6 105]))) e (left (writes (cAt cKCyA108 [1,1,0,1,0,0])) [18] [6] (Zdf a1 a2 b_a0 n_a0 a0) s))=Uai (Uab (Zbd PZ a1 a2 b_a0 n_a0 a0) N ((0:Int),(a0.extract ((a2).toNat*36) (((a2).toNat*36)+36)))) (λx=>Zfi PZ N a1 a2 b_a0 n_a0 a0 x.1 x.2):=by refine Zar Zel Zjm _ _ (Zvn N a1 a2 b_a0 n_a0 a0) N ((0:Int),(a0.extract ((a2).toNat*36) (((a2).toNat*36)+36))) _ _ ?_;intro x;exact Zpy N a1 a2 b_a0 n_a0 a0 x.1 x.2
theorem Zss(N:Nat)(a1 a2:Int)(b_a0:Option (Option Addr))(n_a0:Nat)(a0:Array Value):ansV PZ (mkΓ [(117,con Zbh)]) N f108 [([18],[6])] [.l 0,.i .i64 a1,.i .i64 a2] [.sl (.came b_a0) n_a0 a0 105]=(bif (decide (0<=a2)&&decide (a2<(n_a0:Int))) then (bif (decide (0<=a1)&&decide (a1<(n_a0:Int))) then (Uai (Uab (Zbd PZ a1 a2 b_a0 n_a0 a0) N ((0:Int),(a0.extract ((a2).toNat*36) (((a2).toNat*36)+36)))) (λx=>Zfi PZ N a1 a2 b_a0 n_a0 a0 x.1 x.2)) else (none)) else (none)):=by
 conv=>rhs;simp only[<- Zvh N a1 a2 b_a0 n_a0 a0]
 kernel_rfl
theorem Zr6(a1 a2:Int)(b_a0:Option (Option Addr))(n_a0:Nat)(a0:Array Value)(h_a1:i64.min<=a1/\a1<=i64.max)(h_a2:i64.min<=a2/\a2<=i64.max)(h_a0:a0.size=n_a0*(lay PZ 105).length/\(∀k,k<n_a0->WT PZ 105 (a0.extract (k*(lay PZ 105).length) (k*(lay PZ 105).length+(lay PZ 105).length)))/\n_a0<=9223372036854775807)(hg:(((decide (0<=a1)&&decide (a1<=a2))&&(decide (a2<=a1+14)&&decide (a2<(n_a0:Int)))))=true):ansV PZ (mkΓ [(117,con Zbh)]) 1000 f108 [([18],[6])] [.l 0,.i .i64 a1,.i .i64 a2] [.sl (.came b_a0) n_a0 a0 105]=some (.a (.g (subV (a0.extract (a2.toNat*36) (a2.toNat*36+36)) (a0.extract (a1.toNat*36) (a1.toNat*36+36)) (12^(a2 - a1).toNat)) 105),.none,true):=by
 simp only[Q7,decide_eq_true_eq]at hg;obtain⟨⟨q0,q1⟩,q2,q3⟩:=hg;have ew:i64.wrap (a2 - a1)=a2 - a1:=w64 (by omega);refine(Zss 1000 a1 a2 b_a0 n_a0 a0).trans ?_;rw[dec2 (show 0<=a2 by omega) q3,dec2 q0 (show a1<(n_a0:Int) by omega)];simp only[Q1];have hq:∀q,Uab (Zbd PZ a1 a2 b_a0 n_a0 a0) 1000 ((0:Int),a0.extract (a2.toNat*36) (a2.toNat*36+36))=some ((36:Int),q)->Uai (Uab (Zbd PZ a1 a2 b_a0 n_a0 a0) 1000 ((0:Int),a0.extract (a2.toNat*36) (a2.toNat*36+36))) (λx=>Zfi PZ 1000 a1 a2 b_a0 n_a0 a0 x.1 x.2)=some (.a (.g q 105),.none,true):=λq e=>by rw[e];rfl
 refine hq _ ?_;unfold subV;have hF:∀(k:Nat) (s:Array Value),k<36->Zbd PZ a1 a2 b_a0 n_a0 a0 ((k:Int),s)=some (.more (((k+1:Nat):Int),subF (a0.extract (a1.toNat*36) (a1.toNat*36+36)) (12^(a2 - a1).toNat) s k)):=λk s hk=>by
  have h1:decide ((k:Int)<36)=true:=Q3 (by omega);have h0:decide (0<=(k:Int))=true:=Q3 (by omega);have h3:i64.wrap ((k:Int)+1)=((k+1:Nat):Int):=by rw[w64 (by omega)];omega
  have h4:decide (0<=a2 - a1)=true:=Q3 (by omega);have h5:decide (a2 - a1<=14)=true:=Q3 (by omega);simp only[Zbd,h1,h0,h3,ew,h4,h5,Q9,Bool.and_self,Q1,subF]
 generalize a0.extract (a2.toNat*36) (a2.toNat*36+36)=C;generalize hD:a0.extract (a1.toNat*36) (a1.toNat*36+36)=D at hF|-
 generalize hm:(12:Int)^(a2 - a1).toNat=m at hF|-
 exact Zi6 (g:=Zbd PZ a1 a2 b_a0 n_a0 a0) (λr k=>((k:Int),r)) (subF D m) (m:=36) (t:=C) (x:=((36:Int),folds (subF D m) C 36)) (N:=1000) (λk s hk _=>hF k s hk) (by
  have h1:decide (((36:Nat):Int)<36)=false:=by decide
  generalize folds (subF D m) C 36=q;simp only[Zbd,h1,Q2];rfl) (by omega)
def Zf4:Con:=λargs h=>match args,h with|[.l 0,.i .i64 a1,.i .i64 a2],[.sl (.came b_a0) n_a0 a0 105]=>some (.a (.g (subV (a0.extract (a2.toNat*36) (a2.toNat*36+36)) (a0.extract (a1.toNat*36) (a1.toNat*36+36)) (12^(a2 - a1).toNat)) 105),.none,((decide (0<=a1)&&decide (a1<=a2))&&(decide (a2<=a1+14)&&decide (a2<(n_a0:Int)))))|_,_=>none
theorem Zrf:EntX PZ 108:=Zaj (fn:=f108)
theorem Zu0:Uac (md F) PZ 108 Zf4:=(ansY (N:=1000) (mKc (Zae Zzq) Zsz mKn) f108 [([18],[6])]).of (by
 intro ρ h w args vals r e hA hH hr;unfold Zf4 at hr;split at hr
 ·rename_i a1 a2 b_a0 n_a0 a0;obtain⟨rfl,rfl,hg2⟩:=BQi hr;exact Zr6 a1 a2 b_a0 n_a0 a0 (hA.rng 1 rfl) (hA.rng 2 rfl) (hH.slw 0 rfl) hg2
 ·cases hr)
def Zdy:Cons:=(mkΓ [(85,con Zmb),(86,con Zo9),(87,con Znf)])
def Zfs(a0:Array Value)(a1 a2 a3:Int):St:=(⟨.a (.g a0 37)::.a (.i .i64 a1)::.a (.i .i64 a2)::.a (.i .i64 a3)::.a (.w 0)::us 3 (.a (.v (.slice none 0 0))::.a (.w 5)::.a (.l 12)::.a (.i .i64 a1)::.a (.i .i64 a2)::.a (.g (Zay PZ a1 (1:Int) a2) 132)::.a (.g a0 37)::.a (.g (Zay PZ a1 (1:Int) a2) 132)::.a (.g (Ub4 PZ a0 (Zay PZ a1 (1:Int) a2)) 105)::.a (.l 10)::.a (.i .i64 a3)::.a (.i .i64 0)::us 12 ([])),[.row a0 37,.no,.no,.no,.no,.row (Zay PZ a1 (1:Int) a2) 132,.no,.no,.no,.no,.sp,.no,.sl .own 1 (spl (repC (zc PZ 105) 1) 0 (Ub4 PZ a0 (Zay PZ a1 (1:Int) a2)).toList) 105],[10,5]⟩:St)
def Zhi:Int×Array Value×Nat×Array Value->LS
 |(y0_19,r0_5,m0_10,y0_10)=>([.a (.i .i64 y0_19),.a (.l 12)],[.row r0_5 132,.sl .own m0_10 y0_10 105])
def Znp:Int×Array Value×Nat×Array Value->Exit×LS
 |t=>((.exit 0),Zhi t)
def Zdj(P:Program)(a0:Array Value)(a1 a2 a3:Int):Int×Array Value×Nat×Array Value->Option (Stp (Int×Array Value×Nat×Array Value) (Int×Array Value×Nat×Array Value))
 |(y0_19,r0_5,m0_10,y0_10)=>bif decide (y0_19<a3) then (bif (goG a0 r0_5) then (bif okS a0 then (bif (Nat.ble ((m0_10+1)*bytesOf PZ 105) 140737488355328) then (some (.more ((i64.wrap (y0_19+(1:Int))),(Ubk PZ a0 r0_5),(m0_10+1),(y0_10++(spl (repC (zc PZ 105) 1) 0 (Ub4 PZ a0 (Ubk PZ a0 r0_5)).toList))))) else (none)) else (none)) else (none)) else (some (.done (y0_19,r0_5,m0_10,y0_10)))
noncomputable abbrev cKCyA61:=codeOf f61
theorem Ydn(N:Nat)(a0:Array Value)(a1 a2 a3:Int):∀t:Int×Array Value×Nat×Array Value,Uck PZ Zdy N (cAt cKCyA61 [1,1,1,0,1,0,0]) (pAt (Uaa cKCyA61 [([19],[5,1000010,105])]).1 [1,1,1,0,1,0]) [19] [5] 10 105 12 (Zfs a0 a1 a2 a3) (Zhi t)=mapS Zhi Znp (Zdj PZ a0 a1 a2 a3 t):=by
 rintro⟨y0_19,r0_5,m0_10,y0_10⟩
 conv=>rhs;simp only[Zdj,Zao,Zam,Zan,Zap,Zhi,Znp]
 kernel_rfl
def Zk6(P:Program)(N:Nat)(a0:Array Value)(a1 a2 a3:Int)(z0_19:Int)(q0_5:Array Value)(p0_10:Nat)(z0_10:Array Value):Option (SV×Eff×Bool):=some (.a .x,.newS none p0_10 z0_10 105,true)
theorem Zty(N:Nat)(a0:Array Value)(a1 a2 a3:Int)(z0_19:Int)(q0_5:Array Value)(p0_10:Nat)(z0_10:Array Value):(Uad 0 (kSeq (veC PZ Zdy N (cAt cKCyA61 [1,1,1,1]) (pAt (Uaa cKCyA61 [([19],[5,1000010,105])]).1 [1,1,1,1]) (SV×Eff×Bool)) (finK PZ [] [.tmp 8]))) (.exit 0) (left (writes (cAt cKCyA61 [1,1,1,0,1,0,0])) [19,10] [5,12] (Zfs a0 a1 a2 a3) ([.a (.i .i64 z0_19),.a (.l 12)],[.row q0_5 132,.sl .own p0_10 z0_10 105]))=Zk6 PZ N a0 a1 a2 a3 z0_19 q0_5 p0_10 z0_10:=by kernel_rfl
theorem Ydd(N:Nat)(a0:Array Value)(a1 a2 a3:Int):Uag (Uab (Uck PZ Zdy N (cAt cKCyA61 [1,1,1,0,1,0,0]) (pAt (Uaa cKCyA61 [([19],[5,1000010,105])]).1 [1,1,1,0,1,0]) [19] [5] 10 105 12 (Zfs a0 a1 a2 a3)) N ([.a (.i .i64 0),.a (.l 12)],[.row (Zay PZ a1 (1:Int) a2) 132,.sl .own 1 (spl (repC (zc PZ 105) 1) 0 (Ub4 PZ a0 (Zay PZ a1 (1:Int) a2)).toList) 105])) (λe s=>(Uad 0 (kSeq (veC PZ Zdy N (cAt cKCyA61 [1,1,1,1]) (pAt (Uaa cKCyA61 [([19],[5,1000010,105])]).1 [1,1,1,1]) (SV×Eff×Bool)) (finK PZ [] [.tmp 8]))) e (left (writes (cAt cKCyA61 [1,1,1,0,1,0,0])) [19,10] [5,12] (Zfs a0 a1 a2 a3) s))=Uai (Uab (Zdj PZ a0 a1 a2 a3) N ((0:Int),(Zay PZ a1 (1:Int) a2),1,(spl (repC (zc PZ 105) 1) 0 (Ub4 PZ a0 (Zay PZ a1 (1:Int) a2)).toList))) (λx=>Zk6 PZ N a0 a1 a2 a3 x.1 x.2.1 x.2.2.1 x.2.2.2):=by refine Zar Zhi Znp _ _ (Ydn N a0 a1 a2 a3) N ((0:Int),(Zay PZ a1 (1:Int) a2),1,(spl (repC (zc PZ 105) 1) 0 (Ub4 PZ a0 (Zay PZ a1 (1:Int) a2)).toList)) _ _ ?_;intro x;exact Zty N a0 a1 a2 a3 x.1 x.2.1 x.2.2.1 x.2.2.2
theorem Ycd(N:Nat)(a0:Array Value)(a1 a2 a3:Int):ansV PZ Zdy N f61 [([19],[5,1000010,105])] [.g a0 37,.i .i64 a1,.i .i64 a2,.i .i64 a3] []=(bif (decide (0<=a1)&&decide (a1<36)) then (bif okS a0 then (Uai (Uab (Zdj PZ a0 a1 a2 a3) N ((0:Int),(Zay PZ a1 (1:Int) a2),1,(spl (repC (zc PZ 105) 1) 0 (Ub4 PZ a0 (Zay PZ a1 (1:Int) a2)).toList))) (λx=>Zk6 PZ N a0 a1 a2 a3 x.1 x.2.1 x.2.2.1 x.2.2.2)) else (none)) else (none)):=by
 conv=>rhs;simp only[<- Ydd N a0 a1 a2 a3]
 kernel_rfl
theorem Zzr(a0:Array Value)(a1 a2 a3:Int)(h_a0:WT PZ 37 a0)(h_a1:i64.min<=a1/\a1<=i64.max)(h_a2:i64.min<=a2/\a2<=i64.max)(h_a3:i64.min<=a3/\a3<=i64.max)(hg:((okS a0&&((Zab a1 a0&&Zaa a2 0 1)&&Zaa a3 0 14)))=true):ansV PZ Zdy 1000 f61 [([19],[5,1000010,105])] [.g a0 37,.i .i64 a1,.i .i64 a2,.i .i64 a3] []=some (.a .x,.newS none (a3.toNat+1) (recC PZ a0 a1 a2 a3.toNat) 105,true):=by
 simp only[Q7]at hg;obtain⟨q0,⟨q1,q2⟩,q3⟩:=hg;have r1:=Ziz q1;have r3:=Zj2 q3;obtain⟨m,rfl⟩:=Int.eq_ofNat_of_zero_le r3.1;refine(Ycd 1000 a0 a1 a2 (m:Int)).trans ?_;rw[dec2 r1.1 (show a1<36 by omega),q0];simp only[Q1];have e0:Zay PZ a1 1 a2=oneX PZ a1 a2:=rfl;have e1:spl (repC (zc PZ 105) 1) 0 (Ub4 PZ a0 (oneX PZ a1 a2)).toList=recC PZ a0 a1 a2 0:=Ys4 PZ 105 (by rw[Yaz,Yfh]);rw[e0,e1,Q9];have h:=Zcr (g:=Zdj PZ a0 a1 a2 (m:Int)) (λj=>((j:Int),Uaq PZ a0 (oneX PZ a1 a2) j,j+1,recC PZ a0 a1 a2 j)) (m:=m) (x:=((m:Int),Uaq PZ a0 (oneX PZ a1 a2) m,m+1,recC PZ a0 a1 a2 m)) (N:=1000) (λj hj=>by
  have h1:decide ((j:Int)<(m:Int))=true:=Q3 (by omega);have h3:i64.wrap ((j:Int)+1)=((j+1:Nat):Int):=by rw[w64 (by omega)];omega
  have h4:=one_go h_a0 q0 q1 q2 (show j<=14 by omega);have h6:Nat.ble ((j+1+1)*bytesOf PZ 105) 140737488355328=true:=Nat.ble_eq_true_of_le (by rw[Ys2];omega);have h7:spl (repC (zc PZ 105) 1) 0 (Ub4 PZ a0 (Ubk PZ a0 (Uaq PZ a0 (oneX PZ a1 a2) j))).toList=byV PZ a0 a1 a2 (j+1):=Ys4 PZ 105 (by rw[Yaz,Yfh]);simp only[Zdj,h1,h3,h4,q0,h6,h7,Q1];rfl) (by
  have h1:decide ((m:Int)<(m:Int))=false:=Q4 (by omega);simp only[Zdj,h1,Q2]) (by omega)
 have h':Uab (Zdj PZ a0 a1 a2 (m:Int)) 1000 ((0:Int),oneX PZ a1 a2,1,recC PZ a0 a1 a2 0)=some ((m:Int),Uaq PZ a0 (oneX PZ a1 a2) m,m+1,recC PZ a0 a1 a2 m):=h;rw[h'];rfl
def Zl9:Con:=λargs h=>match args,h with|[.g a0 37,.i .i64 a1,.i .i64 a2,.i .i64 a3],[]=>some (.a .x,.newS none (a3.toNat+1) (recC PZ a0 a1 a2 a3.toNat) 105,(okS a0&&((Zab a1 a0&&Zaa a2 0 1)&&Zaa a3 0 14)))|_,_=>none
theorem Zxh:EntX PZ 61:=Zaj (fn:=f61)
theorem Yew:Uac (md F) PZ 61 Zl9:=(ansY (N:=1000) (mKc (Zae Ye3) Zwq (mKc (Zae Yja) Yci (mKc (Zae Ygk) Zyx mKn))) f61 [([19],[5,1000010,105])]).of (by
 intro ρ h w args vals r e hA hH hr;unfold Zl9 at hr;split at hr
 ·rename_i a0 a1 a2 a3;obtain⟨rfl,rfl,hg2⟩:=BQi hr;exact Zzr a0 a1 a2 a3 (hA.wt 0 rfl) (hA.rng 1 rfl) (hA.rng 2 rfl) (hA.rng 3 rfl) hg2
 ·cases hr)
end
end Go.Proofs.YtdfefaanfiheoaaGreatDoor
