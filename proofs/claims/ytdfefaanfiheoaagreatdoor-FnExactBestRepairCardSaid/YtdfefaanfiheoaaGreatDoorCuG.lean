/- The better one of two seas: both sides. -/
import Derived.Test.YtdfefaanfiheoaaGreatDoorProg
import Derived.Test.YtdfefaanfiheoaaGreatDoorCuD
set_option linter.unusedVariables false
set_option linter.unusedSimpArgs false
namespace Go.Proofs.YtdfefaanfiheoaaGreatDoor
open Go.ChangeShapes Go.WideShapes Go.ChangeAt Go.RowKit Ve Vc
open Tryz renaming prog -> PZ
set_option maxRecDepth 100000
noncomputable section
variable {F:Vc.Fd}
theorem Yrg(A C:Array Value):Zbp C A=Zah A C:=by
 have bc:∀x y:Int,(x==y)=(y==x):=λx y=>by rw[Bool.eq_iff_iff,beq_iff_eq,beq_iff_eq];exact eq_comm
 unfold Zbp Zah;rw[bc (num C 0),bc (num C 1),bc (num C 2)]
def Uao(A C:Array Value)(n:Nat)(D:Array Value)(c b:Int)(f:Bool):Int:=bif (vf A n D&&vf C n D) then (bif Zah A C then Zb3 c b f A else 4) else 1
theorem with_two{A C:Array Value}(hA:A.size=363)(hC:C.size=363)(n:Nat)(D:Array Value)(c b:Int)(f:Bool):Ugk 2 (spl (spl (repC (zc PZ 37) 2) 0 A.toList) 363 C.toList) n D c b f=Uao A C n D c b f:=by
 obtain⟨p0,p1⟩:=pair_ext hA hC;generalize spl (spl (repC (zc PZ 37) 2) 0 A.toList) 363 C.toList=W at p0 p1|-
 have e0:W.extract (0*363) (0*363+363)=A:=p0;have e1:W.extract (1*363) (1*363+363)=C:=p1;have hm:Ua5 2 W n D=bif (vf A n D&&vf C n D) then (bif Zah A C then 0 else 4) else 1:=by unfold Ua5;have r2:List.range 2=[0,1]:=rfl;rw[r2];simp only[List.find?,badM,offM,e0,e1,Ypg,Yrg,Bool.not_true];cases vf A n D<;>cases vf C n D<;>cases Zah A C<;>rfl
 unfold Ugk Uao;rw[hm,p0];cases (vf A n D&&vf C n D)<;>cases Zah A C<;>rfl
theorem Yju{A C D:Array Value}{n:Nat}{c b:Int}{f:Bool}(h:(Uao A C n D c b f != (0:Int))=false):vf A n D=true/\vf C n D=true/\Zah A C=true/\Zab c A=true/\Zab c C=true/\Zaa b 0 1=true/\f=true/\Zaf c A=false:=by
 unfold Uao at h;cases h1:vf A n D with
 |false=>rw[h1,Bool.false_and,Q2]at h;exact absurd h (by decide)
 |true=>
 cases h2:vf C n D with
 |false=>rw[h1,h2,Bool.and_false,Q2]at h;exact absurd h (by decide)
 |true=>
 rw[h1,h2,Bool.and_self,Q1]at h;cases h3:Zah A C with
 |false=>rw[h3,Q2]at h;exact absurd h (by decide)
 |true=>
 rw[h3,Q1]at h;obtain⟨_,q1,q2,q3,q4⟩:=Ysk h;refine⟨rfl,rfl,rfl,q1,?_,q2,q3,q4⟩;unfold Zah at h3;have e:num A 0=num C 0/\num A 1=num C 1:=by cases h0:(num A 0==num C 0)<;>cases h1:(num A 1==num C 1)<;>rw[h0,h1]at h3<;>first|exact⟨eq_of_beq h0,eq_of_beq h1⟩|cases h3
 unfold Zab at q1|-
 rw[<- e.1,<- e.2];exact q1
def betV(z z':Bool)(x y:Int):Int:=bif z then (bif z' then 0 else -1) else bif z' then 1 else bif decide (x > y) then 1 else bif decide (x<y) then -1 else 0
theorem cmp_bet(z z':Bool)(x y:Int):Zb1 (scV z x) (scV z' y)=betV z z' x y:=by
 unfold Zb1 betV;simp only[(Ybn z x).1,(Ybn z x).2,(Ybn z' y).1,(Ybn z' y).2];cases z<;>cases z'
 ·simp only[Q2,show ((0:Int) != 0)=false from rfl,Za6,bne_self_eq_false]
  by_cases h:x<y
  ·rw[Q3 h,Q4 (show ¬x > y by omega)];rfl
  ·rw[Q4 h];rfl
 ·exact(by decide:Za6 6 0=1)
 ·exact(by decide:Za6 0 6=-1)
 ·exact(by decide:Za6 0 0=0)
def Zv7:Cons:=(mkΓ [(51,con Zj0),(52,con Zl6),(53,con Zm4),(65,con Zmx)])
theorem Yek(N:Nat)(a2 a3:Int)(a5:Bool)(a0 a1:Array Value)(b_a4:Option (Option Addr))(n_a4:Nat)(a4:Array Value):ansV PZ Zv7 N Tryz.f44 [] [.w 0,.w 1,.i .i64 a2,.i .i64 a3,.l 2,.b a5] [.row a0 37,.row a1 37,.sl (.came b_a4) n_a4 a4 70]=(bif (okS a0) then (bif (okS a1) then (bif (!((Ubb a0 n_a4 a4&&decide ((n_a4:Int)<=60)))) then (some (.a (.i .i64 1),.none,true)) else (bif (!((Ubb a1 n_a4 a4&&decide ((n_a4:Int)<=60)))) then (some (.a (.i .i64 1),.none,true)) else (bif ((Zcj a0 a1) != (0:Int)) then (some (.a (.i .i64 (Zcj a0 a1)),.none,true)) else (bif (Zd6 a2 a3 a5 a0) then (some (.a (.i .i64 (Zb3 a2 a3 a5 a0)),.none,true)) else (none))))) else (bif ((Zcj a0 a1) != (0:Int)) then (some (.a (.i .i64 (Zcj a0 a1)),.none,true)) else (bif (Zd6 a2 a3 a5 a0) then (some (.a (.i .i64 (Zb3 a2 a3 a5 a0)),.none,true)) else (none)))) else (bif ((Zcj a0 a1) != (0:Int)) then (some (.a (.i .i64 (Zcj a0 a1)),.none,true)) else (bif (Zd6 a2 a3 a5 a0) then (some (.a (.i .i64 (Zb3 a2 a3 a5 a0)),.none,true)) else (none)))):=by kernel_rfl
theorem Yb5(a2 a3:Int)(a5:Bool)(a0 a1:Array Value)(b_a4:Option (Option Addr))(n_a4:Nat)(a4:Array Value)(h_a2:IntKind.i64.min<=a2/\a2<=IntKind.i64.max)(h_a3:IntKind.i64.min<=a3/\a3<=IntKind.i64.max)(h_a0:WT PZ 37 a0)(h_a1:WT PZ 37 a1)(h_a4:a4.size=n_a4*(lay PZ 70).length/\(∀k,k<n_a4->WT PZ 70 (a4.extract (k*(lay PZ 70).length) (k*(lay PZ 70).length+(lay PZ 70).length)))/\n_a4<=9223372036854775807)(hg:(true)=true):ansV PZ Zv7 1000 Tryz.f44 [] [.w 0,.w 1,.i .i64 a2,.i .i64 a3,.l 2,.b a5] [.row a0 37,.row a1 37,.sl (.came b_a4) n_a4 a4 70]=some (.a (.i .i64 (Uao a0 a1 n_a4 a4 a2 a3 a5)),.none,true):=by refine(Yek 1000 a2 a3 a5 a0 a1 b_a4 n_a4 a4).trans ?_;rw[from_gd];unfold Uao vf Zcj;generalize (Ubb a0 n_a4 a4&&decide ((n_a4:Int)<=60))=p;generalize (Ubb a1 n_a4 a4&&decide ((n_a4:Int)<=60))=q;cases okS a0<;>cases okS a1<;>cases p<;>cases q<;>cases Zah a0 a1<;>rfl
def Znj:Con:=λargs h=>match args,h with|[.w 0,.w 1,.i .i64 a2,.i .i64 a3,.l 2,.b a5],[.row a0 37,.row a1 37,.sl (.came b_a4) n_a4 a4 70]=>some (.a (.i .i64 (Uao a0 a1 n_a4 a4 a2 a3 a5)),.none,true)|_,_=>none
theorem Zzh:EntX PZ 44:=Zaj (fn:=Tryz.f44)
theorem Ygq:Uac (md F) PZ 44 Znj:=(ansY (N:=1000) (mKc (Zae Zru) Zna (mKc (Zae Ye9) Zwz (mKc (Zae Ygb) Zz6 (mKc (Zae Yf8) Zy6 mKn)))) Tryz.f44 []).of (by
 intro ρ h w args vals r e hA hH hr;unfold Znj at hr;split at hr
 ·rename_i a2 a3 a5 a0 a1 b_a4 n_a4 a4;obtain⟨rfl,rfl,hg2⟩:=BQi hr;exact Yb5 a2 a3 a5 a0 a1 b_a4 n_a4 a4 (hA.rng 2 rfl) (hA.rng 3 rfl) (hH.wt 0 rfl) (hH.wt 1 rfl) (hH.slw 2 rfl) hg2
 ·cases hr)
end
end Go.Proofs.YtdfefaanfiheoaaGreatDoor
