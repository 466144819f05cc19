/- The better one of two seas: both sides. -/
import Derived.Test.YtdfefaanfiheoaaGreatDoorProg
import Derived.Test.YtdfefaanfiheoaaGreatDoorCuD
set_option linter.unusedVariables false
set_option linter.unusedSimpArgs false
namespace Go.Proofs.YtdfefaanfiheoaaGreatDoor
open Tryz (f23 f24 f44)
open Go.ChangeShapes Go.WideShapes Go.ChangeAt Go.RowKit Ve Vc
open Tryz renaming prog -> PZ
open IntKind (i64)
set_option maxRecDepth 100000
noncomputable section
variable {F:Vc.Fd}
theorem Ynz (A C:Array Value):Zbf C A=Zaw A C:=by
 have bc:∀ x y:Int,(x==y)=(y==x):=λ x y=>by rw [Bool.eq_iff_iff,beq_iff_eq,beq_iff_eq];exact eq_comm
 unfold Zbf Zaw
 rw [bc (num C 0),bc (num C 1),bc (num C 2)]
def Uam (A C:Array Value) (n:Nat) (D:Array Value) (c b:Int) (f:Bool):Int:=bif (vf A n D&&vf C n D) then (bif Zaw A C then Zbp c b f A else 4) else 1
theorem with_two {A C:Array Value} (hA:A.size=363) (hC:C.size=363) (n:Nat) (D:Array Value) (c b:Int) (f:Bool):Ufu 2 (spl (spl (repC (zc PZ 37) 2) 0 A.toList) 363 C.toList) n D c b f=Uam A C n D c b f:=by
 obtain ⟨p0,p1⟩:=pair_ext hA hC
 generalize spl (spl (repC (zc PZ 37) 2) 0 A.toList) 363 C.toList=W at p0 p1|-
 have e0:W.extract (0*363) (0*363+363)=A:=p0
 have e1:W.extract (1*363) (1*363+363)=C:=p1
 have hm:Uav 2 W n D=bif (vf A n D&&vf C n D) then (bif Zaw A C then 0 else 4) else 1:=by
  unfold Uav
  have r2:List.range 2=[0,1]:=rfl
  rw [r2]
  simp only [List.find?,badM,offM,e0,e1,Ylh,Ynz,Bool.not_true]
  cases vf A n D<;>cases vf C n D<;>cases Zaw A C<;>rfl
 unfold Ufu Uam
 rw [hm,p0]
 cases (vf A n D&&vf C n D)<;>cases Zaw A C<;>rfl
theorem Ygu {A C D:Array Value} {n:Nat} {c b:Int} {f:Bool} (h:(Uam A C n D c b f != (0:Int))=false):vf A n D=true/\vf C n D=true/\Zaw A C=true/\Zab c A=true/\Zab c C=true/\Zaa b 0 1=true/\f=true/\Zag c A=false:=by
 unfold Uam at h
 cases h1:vf A n D with
 | false=>
  rw [h1,Bool.false_and,Q2] at h
  exact absurd h (by decide)
 | true=>
 cases h2:vf C n D with
 | false=>
  rw [h1,h2,Bool.and_false,Q2] at h
  exact absurd h (by decide)
 | true=>
 rw [h1,h2,Bool.and_self,Q1] at h
 cases h3:Zaw A C with
 | false=>
  rw [h3,Q2] at h
  exact absurd h (by decide)
 | true=>
 rw [h3,Q1] at h
 obtain ⟨_,q1,q2,q3,q4⟩:=Yp6 h
 refine ⟨rfl,rfl,rfl,q1, ?_,q2,q3,q4⟩
 unfold Zaw at h3
 have e:num A 0=num C 0/\num A 1=num C 1:=by
  cases h0:(num A 0==num C 0)<;>cases h1:(num A 1==num C 1)<;>rw [h0,h1] at h3<;>first | exact ⟨eq_of_beq h0,eq_of_beq h1⟩ | cases h3
 unfold Zab at q1|-
 rw [<- e.1,<- e.2]
 exact q1
def betV (z z':Bool) (x y:Int):Int:=bif z then (bif z' then 0 else -1) else bif z' then 1 else bif decide (x > y) then 1 else bif decide (x<y) then -1 else 0
def difV (z z':Bool) (x y:Int):Int:=bif (z||z') then 0 else i64.wrap (x - y)
theorem cmp_bet (z z':Bool) (x y:Int):Zay (scV z x) (scV z' y)=betV z z' x y:=by
 unfold Zay betV
 simp only [(Zre z x).1,(Zre z x).2,(Zre z' y).1,(Zre z' y).2]
 cases z<;>cases z'
 ·simp only [Q2,show ((0:Int) != 0)=false from rfl,Za1,bne_self_eq_false]
  by_cases h:x<y
  ·rw [Q3 h,Q4 (show ¬ x > y by omega)];rfl
  ·rw [Q4 h];rfl
 ·exact (by decide:Za1 6 0=1)
 ·exact (by decide:Za1 0 6 = -1)
 ·exact (by decide:Za1 0 0=0)
def Zt0:Cons:=(mkΓ [(51,con Zin),(52,con Zkx),(53,con Zl6),(65,con Zl7)])
theorem Yb2 (N:Nat) (a2 a3:Int) (a5:Bool) (a0 a1:Array Value) (b_a4:Option (Option Addr)) (n_a4:Nat) (a4:Array Value):ansV PZ Zt0 N f44 [] [.w 0,.w 1,.i .i64 (a2),.i .i64 (a3),.l 2,.b (a5)] [.row a0 37,.row a1 37,.sl (.came b_a4) n_a4 a4 70]=(bif (okS a0) then (bif (okS a1) then (bif (!((Ubc a0 n_a4 a4&&decide ((n_a4:Int)≤60)))) then (some (.a (.i .i64 (1:Int)),.none,true))
        else (bif (!((Ubc a1 n_a4 a4&&decide ((n_a4:Int)≤60)))) then (some (.a (.i .i64 (1:Int)),.none,true))
          else (bif ((Zb3 a0 a1) != (0:Int)) then (some (.a (.i .i64 (Zb3 a0 a1)),.none,true))
            else (bif (Zdb a2 a3 a5 a0) then (some (.a (.i .i64 (Zbp a2 a3 a5 a0)),.none,true))
              else (none)))))
      else (bif ((Zb3 a0 a1) != (0:Int)) then (some (.a (.i .i64 (Zb3 a0 a1)),.none,true))
        else (bif (Zdb a2 a3 a5 a0) then (some (.a (.i .i64 (Zbp a2 a3 a5 a0)),.none,true))
          else (none))))
    else (bif ((Zb3 a0 a1) != (0:Int)) then (some (.a (.i .i64 (Zb3 a0 a1)),.none,true))
      else (bif (Zdb a2 a3 a5 a0) then (some (.a (.i .i64 (Zbp a2 a3 a5 a0)),.none,true))
        else (none)))):=by kernel_rfl
theorem Zy2 (a2 a3:Int) (a5:Bool) (a0 a1:Array Value) (b_a4:Option (Option Addr)) (n_a4:Nat) (a4:Array Value) (h_a2:i64.min<=a2/\a2<=i64.max) (h_a3:i64.min<=a3/\a3<=i64.max) (h_a0:WT PZ 37 a0) (h_a1:WT PZ 37 a1) (h_a4:a4.size=n_a4*(lay PZ 70).length/\(∀ k,k<n_a4->WT PZ 70 (a4.extract (k*(lay PZ 70).length) (k*(lay PZ 70).length+(lay PZ 70).length)))/\n_a4<=9223372036854775807) (hg:(true)=true):ansV PZ Zt0 1000 f44 [] [.w 0,.w 1,.i .i64 (a2),.i .i64 (a3),.l 2,.b (a5)] [.row a0 37,.row a1 37,.sl (.came b_a4) n_a4 a4 70]=some (.a (.i .i64 (Uam a0 a1 n_a4 a4 a2 a3 a5)),.none,true):=by
 refine (Yb2 1000 a2 a3 a5 a0 a1 b_a4 n_a4 a4).trans ?_
 rw [from_gd]
 unfold Uam vf Zb3
 generalize (Ubc a0 n_a4 a4&&decide ((n_a4:Int)<=60))=p
 generalize (Ubc a1 n_a4 a4&&decide ((n_a4:Int)<=60))=q
 cases okS a0<;>cases okS a1<;>cases p<;>cases q<;>cases Zaw a0 a1<;>rfl
def Zlk:Con:=λ args h=>match args,h with
 | [.w 0,.w 1,.i .i64 a2,.i .i64 a3,.l 2,.b a5],[.row a0 37,.row a1 37,.sl (.came b_a4) n_a4 a4 70]=>some (.a (.i .i64 (Uam a0 a1 n_a4 a4 a2 a3 a5)),.none,true)
 | _,_=>none
theorem Zvy:EntX PZ 44:=Zah (fn:=f44)
theorem Ydl:Uac (md F) PZ 44 Zlk:=(ansY (N:=1000) (mKc (Zae Zo4) Zlm (mKc (Zae Ya5) Zuj (mKc (Zae Yd1) Zwd (mKc (Zae Yeb) Zv4 mKn)))) f44 []).of (by
 intro ρ h w args vals r e hA hH hr
 unfold Zlk at hr
 split at hr
 ·rename_i a2 a3 a5 a0 a1 b_a4 n_a4 a4
  obtain ⟨rfl,rfl,hg2⟩:=BQi hr
  exact Zy2 a2 a3 a5 a0 a1 b_a4 n_a4 a4 (hA.rng 2 rfl) (hA.rng 3 rfl) (hH.wt 0 rfl) (hH.wt 1 rfl) (hH.slw 2 rfl) hg2
 ·cases hr)
def Zpz : Cons := (withM [("loop.example/g01300/impl.told", Zv6)] (mkΓ [(38, conG Zel), (39, con Zeg), (43, con Zg2)]))
theorem Zvq (N:Nat) (a0 a1:Array Value) (a2 a3:Int) (g_e0 g_e1 g_e2 g_e3 g_e4:Addr) (b_a4:Option (Option Addr)) (n_a4:Nat) (a4:Array Value):ansV PZ Zpz N f24 [] [.g a0 37,.g a1 37,.i .i64 (a2),.i .i64 (a3),.l 5] [.gl 0 185 g_e0 101973,.gl 1 185 g_e1 93330,.gl 3 185 g_e2 124718,.gl 2 185 g_e3 112315,.gl 4 185 g_e4 94254,.sl (.came b_a4) n_a4 a4 70]=(bif (Nat.ble 1 2&&Nat.ble 2 8) then (bif ((Ufu 2 (spl (spl (repC (zc PZ 37) 2) 0 a0.toList) 363 a1.toList) n_a4 a4 (num (#[.int .i64 (a2),.int .i64 (a3),.slice none 0 0]:Array Value) 0) (num (#[.int .i64 (a2),.int .i64 (a3),.slice none 0 0]:Array Value) 1) true) != (0:Int)) then (some (.t [.i .i64 (0:Int),.i .i64 (0:Int),.i .i64 (Ufu 2 (spl (spl (repC (zc PZ 37) 2) 0 a0.toList) 363 a1.toList) n_a4 a4 (num (#[.int .i64 (a2),.int .i64 (a3),.slice none 0 0]:Array Value) 0) (num (#[.int .i64 (a2),.int .i64 (a3),.slice none 0 0]:Array Value) 1) true)],.none,true))
      else (bif (vf a0 n_a4 a4&&(Zab (num (#[.int .i64 (a2),.int .i64 (a3),.slice none 0 0]:Array Value) 0) a0&&Zaa (num (#[.int .i64 (a2),.int .i64 (a3),.slice none 0 0]:Array Value) 1) 0 1)) then (bif (vf a1 n_a4 a4&&(Zab (num (#[.int .i64 (a2),.int .i64 (a3),.slice none 0 0]:Array Value) 0) a1&&Zaa (num (#[.int .i64 (a2),.int .i64 (a3),.slice none 0 0]:Array Value) 1) 0 1)) then (bif (isSc (scV (finZ PZ a0 (num (#[.int .i64 (a2),.int .i64 (a3),.slice none 0 0]:Array Value) 0) (num (#[.int .i64 (a2),.int .i64 (a3),.slice none 0 0]:Array Value) 1) a4 n_a4) (finS PZ a0 (num (#[.int .i64 (a2),.int .i64 (a3),.slice none 0 0]:Array Value) 0) (num (#[.int .i64 (a2),.int .i64 (a3),.slice none 0 0]:Array Value) 1) a4 n_a4))) then (bif (isSc (scV (finZ PZ a1 (num (#[.int .i64 (a2),.int .i64 (a3),.slice none 0 0]:Array Value) 0) (num (#[.int .i64 (a2),.int .i64 (a3),.slice none 0 0]:Array Value) 1) a4 n_a4) (finS PZ a1 (num (#[.int .i64 (a2),.int .i64 (a3),.slice none 0 0]:Array Value) 0) (num (#[.int .i64 (a2),.int .i64 (a3),.slice none 0 0]:Array Value) 1) a4 n_a4))) then (bif ((Ub1 (scV (finZ PZ a0 (num (#[.int .i64 (a2),.int .i64 (a3),.slice none 0 0]:Array Value) 0) (num (#[.int .i64 (a2),.int .i64 (a3),.slice none 0 0]:Array Value) 1) a4 n_a4) (finS PZ a0 (num (#[.int .i64 (a2),.int .i64 (a3),.slice none 0 0]:Array Value) 0) (num (#[.int .i64 (a2),.int .i64 (a3),.slice none 0 0]:Array Value) 1) a4 n_a4))) != (0:Int)) then (bif ((Ub1 (scV (finZ PZ a1 (num (#[.int .i64 (a2),.int .i64 (a3),.slice none 0 0]:Array Value) 0) (num (#[.int .i64 (a2),.int .i64 (a3),.slice none 0 0]:Array Value) 1) a4 n_a4) (finS PZ a1 (num (#[.int .i64 (a2),.int .i64 (a3),.slice none 0 0]:Array Value) 0) (num (#[.int .i64 (a2),.int .i64 (a3),.slice none 0 0]:Array Value) 1) a4 n_a4))) != (0:Int)) then (some (.t [.i .i64 (0:Int),.i .i64 (0:Int),.i .i64 (6:Int)],.none,true))
                  else (bif (bif (isSc (scV (finZ PZ a0 (num (#[.int .i64 (a2),.int .i64 (a3),.slice none 0 0]:Array Value) 0) (num (#[.int .i64 (a2),.int .i64 (a3),.slice none 0 0]:Array Value) 1) a4 n_a4) (finS PZ a0 (num (#[.int .i64 (a2),.int .i64 (a3),.slice none 0 0]:Array Value) 0) (num (#[.int .i64 (a2),.int .i64 (a3),.slice none 0 0]:Array Value) 1) a4 n_a4))) then (isSc (scV (finZ PZ a1 (num (#[.int .i64 (a2),.int .i64 (a3),.slice none 0 0]:Array Value) 0) (num (#[.int .i64 (a2),.int .i64 (a3),.slice none 0 0]:Array Value) 1) a4 n_a4) (finS PZ a1 (num (#[.int .i64 (a2),.int .i64 (a3),.slice none 0 0]:Array Value) 0) (num (#[.int .i64 (a2),.int .i64 (a3),.slice none 0 0]:Array Value) 1) a4 n_a4))) else false) then (bif ((Ub1 (scV (finZ PZ a0 (num (#[.int .i64 (a2),.int .i64 (a3),.slice none 0 0]:Array Value) 0) (num (#[.int .i64 (a2),.int .i64 (a3),.slice none 0 0]:Array Value) 1) a4 n_a4) (finS PZ a0 (num (#[.int .i64 (a2),.int .i64 (a3),.slice none 0 0]:Array Value) 0) (num (#[.int .i64 (a2),.int .i64 (a3),.slice none 0 0]:Array Value) 1) a4 n_a4))) != (0:Int)) then (some (.t [.i .i64 (Zay (scV (finZ PZ a0 (num (#[.int .i64 (a2),.int .i64 (a3),.slice none 0 0]:Array Value) 0) (num (#[.int .i64 (a2),.int .i64 (a3),.slice none 0 0]:Array Value) 1) a4 n_a4) (finS PZ a0 (num (#[.int .i64 (a2),.int .i64 (a3),.slice none 0 0]:Array Value) 0) (num (#[.int .i64 (a2),.int .i64 (a3),.slice none 0 0]:Array Value) 1) a4 n_a4)) (scV (finZ PZ a1 (num (#[.int .i64 (a2),.int .i64 (a3),.slice none 0 0]:Array Value) 0) (num (#[.int .i64 (a2),.int .i64 (a3),.slice none 0 0]:Array Value) 1) a4 n_a4) (finS PZ a1 (num (#[.int .i64 (a2),.int .i64 (a3),.slice none 0 0]:Array Value) 0) (num (#[.int .i64 (a2),.int .i64 (a3),.slice none 0 0]:Array Value) 1) a4 n_a4))),.i .i64 (0:Int),.i .i64 (0:Int)],.none,true))
                      else (bif ((Ub1 (scV (finZ PZ a1 (num (#[.int .i64 (a2),.int .i64 (a3),.slice none 0 0]:Array Value) 0) (num (#[.int .i64 (a2),.int .i64 (a3),.slice none 0 0]:Array Value) 1) a4 n_a4) (finS PZ a1 (num (#[.int .i64 (a2),.int .i64 (a3),.slice none 0 0]:Array Value) 0) (num (#[.int .i64 (a2),.int .i64 (a3),.slice none 0 0]:Array Value) 1) a4 n_a4))) != (0:Int)) then (some (.t [.i .i64 (Zay (scV (finZ PZ a0 (num (#[.int .i64 (a2),.int .i64 (a3),.slice none 0 0]:Array Value) 0) (num (#[.int .i64 (a2),.int .i64 (a3),.slice none 0 0]:Array Value) 1) a4 n_a4) (finS PZ a0 (num (#[.int .i64 (a2),.int .i64 (a3),.slice none 0 0]:Array Value) 0) (num (#[.int .i64 (a2),.int .i64 (a3),.slice none 0 0]:Array Value) 1) a4 n_a4)) (scV (finZ PZ a1 (num (#[.int .i64 (a2),.int .i64 (a3),.slice none 0 0]:Array Value) 0) (num (#[.int .i64 (a2),.int .i64 (a3),.slice none 0 0]:Array Value) 1) a4 n_a4) (finS PZ a1 (num (#[.int .i64 (a2),.int .i64 (a3),.slice none 0 0]:Array Value) 0) (num (#[.int .i64 (a2),.int .i64 (a3),.slice none 0 0]:Array Value) 1) a4 n_a4))),.i .i64 (0:Int),.i .i64 (0:Int)],.none,true))
                        else (some (.t [.i .i64 (Zay (scV (finZ PZ a0 (num (#[.int .i64 (a2),.int .i64 (a3),.slice none 0 0]:Array Value) 0) (num (#[.int .i64 (a2),.int .i64 (a3),.slice none 0 0]:Array Value) 1) a4 n_a4) (finS PZ a0 (num (#[.int .i64 (a2),.int .i64 (a3),.slice none 0 0]:Array Value) 0) (num (#[.int .i64 (a2),.int .i64 (a3),.slice none 0 0]:Array Value) 1) a4 n_a4)) (scV (finZ PZ a1 (num (#[.int .i64 (a2),.int .i64 (a3),.slice none 0 0]:Array Value) 0) (num (#[.int .i64 (a2),.int .i64 (a3),.slice none 0 0]:Array Value) 1) a4 n_a4) (finS PZ a1 (num (#[.int .i64 (a2),.int .i64 (a3),.slice none 0 0]:Array Value) 0) (num (#[.int .i64 (a2),.int .i64 (a3),.slice none 0 0]:Array Value) 1) a4 n_a4))),.i .i64 (i64.wrap ((Udf (scV (finZ PZ a0 (num (#[.int .i64 (a2),.int .i64 (a3),.slice none 0 0]:Array Value) 0) (num (#[.int .i64 (a2),.int .i64 (a3),.slice none 0 0]:Array Value) 1) a4 n_a4) (finS PZ a0 (num (#[.int .i64 (a2),.int .i64 (a3),.slice none 0 0]:Array Value) 0) (num (#[.int .i64 (a2),.int .i64 (a3),.slice none 0 0]:Array Value) 1) a4 n_a4))) - (Udf (scV (finZ PZ a1 (num (#[.int .i64 (a2),.int .i64 (a3),.slice none 0 0]:Array Value) 0) (num (#[.int .i64 (a2),.int .i64 (a3),.slice none 0 0]:Array Value) 1) a4 n_a4) (finS PZ a1 (num (#[.int .i64 (a2),.int .i64 (a3),.slice none 0 0]:Array Value) 0) (num (#[.int .i64 (a2),.int .i64 (a3),.slice none 0 0]:Array Value) 1) a4 n_a4))))),.i .i64 (0:Int)],.none,true))))
                    else (none)))
                else (bif (bif (isSc (scV (finZ PZ a0 (num (#[.int .i64 (a2),.int .i64 (a3),.slice none 0 0]:Array Value) 0) (num (#[.int .i64 (a2),.int .i64 (a3),.slice none 0 0]:Array Value) 1) a4 n_a4) (finS PZ a0 (num (#[.int .i64 (a2),.int .i64 (a3),.slice none 0 0]:Array Value) 0) (num (#[.int .i64 (a2),.int .i64 (a3),.slice none 0 0]:Array Value) 1) a4 n_a4))) then (isSc (scV (finZ PZ a1 (num (#[.int .i64 (a2),.int .i64 (a3),.slice none 0 0]:Array Value) 0) (num (#[.int .i64 (a2),.int .i64 (a3),.slice none 0 0]:Array Value) 1) a4 n_a4) (finS PZ a1 (num (#[.int .i64 (a2),.int .i64 (a3),.slice none 0 0]:Array Value) 0) (num (#[.int .i64 (a2),.int .i64 (a3),.slice none 0 0]:Array Value) 1) a4 n_a4))) else false) then (bif ((Ub1 (scV (finZ PZ a0 (num (#[.int .i64 (a2),.int .i64 (a3),.slice none 0 0]:Array Value) 0) (num (#[.int .i64 (a2),.int .i64 (a3),.slice none 0 0]:Array Value) 1) a4 n_a4) (finS PZ a0 (num (#[.int .i64 (a2),.int .i64 (a3),.slice none 0 0]:Array Value) 0) (num (#[.int .i64 (a2),.int .i64 (a3),.slice none 0 0]:Array Value) 1) a4 n_a4))) != (0:Int)) then (some (.t [.i .i64 (Zay (scV (finZ PZ a0 (num (#[.int .i64 (a2),.int .i64 (a3),.slice none 0 0]:Array Value) 0) (num (#[.int .i64 (a2),.int .i64 (a3),.slice none 0 0]:Array Value) 1) a4 n_a4) (finS PZ a0 (num (#[.int .i64 (a2),.int .i64 (a3),.slice none 0 0]:Array Value) 0) (num (#[.int .i64 (a2),.int .i64 (a3),.slice none 0 0]:Array Value) 1) a4 n_a4)) (scV (finZ PZ a1 (num (#[.int .i64 (a2),.int .i64 (a3),.slice none 0 0]:Array Value) 0) (num (#[.int .i64 (a2),.int .i64 (a3),.slice none 0 0]:Array Value) 1) a4 n_a4) (finS PZ a1 (num (#[.int .i64 (a2),.int .i64 (a3),.slice none 0 0]:Array Value) 0) (num (#[.int .i64 (a2),.int .i64 (a3),.slice none 0 0]:Array Value) 1) a4 n_a4))),.i .i64 (0:Int),.i .i64 (0:Int)],.none,true))
                    else (bif ((Ub1 (scV (finZ PZ a1 (num (#[.int .i64 (a2),.int .i64 (a3),.slice none 0 0]:Array Value) 0) (num (#[.int .i64 (a2),.int .i64 (a3),.slice none 0 0]:Array Value) 1) a4 n_a4) (finS PZ a1 (num (#[.int .i64 (a2),.int .i64 (a3),.slice none 0 0]:Array Value) 0) (num (#[.int .i64 (a2),.int .i64 (a3),.slice none 0 0]:Array Value) 1) a4 n_a4))) != (0:Int)) then (some (.t [.i .i64 (Zay (scV (finZ PZ a0 (num (#[.int .i64 (a2),.int .i64 (a3),.slice none 0 0]:Array Value) 0) (num (#[.int .i64 (a2),.int .i64 (a3),.slice none 0 0]:Array Value) 1) a4 n_a4) (finS PZ a0 (num (#[.int .i64 (a2),.int .i64 (a3),.slice none 0 0]:Array Value) 0) (num (#[.int .i64 (a2),.int .i64 (a3),.slice none 0 0]:Array Value) 1) a4 n_a4)) (scV (finZ PZ a1 (num (#[.int .i64 (a2),.int .i64 (a3),.slice none 0 0]:Array Value) 0) (num (#[.int .i64 (a2),.int .i64 (a3),.slice none 0 0]:Array Value) 1) a4 n_a4) (finS PZ a1 (num (#[.int .i64 (a2),.int .i64 (a3),.slice none 0 0]:Array Value) 0) (num (#[.int .i64 (a2),.int .i64 (a3),.slice none 0 0]:Array Value) 1) a4 n_a4))),.i .i64 (0:Int),.i .i64 (0:Int)],.none,true))
                      else (some (.t [.i .i64 (Zay (scV (finZ PZ a0 (num (#[.int .i64 (a2),.int .i64 (a3),.slice none 0 0]:Array Value) 0) (num (#[.int .i64 (a2),.int .i64 (a3),.slice none 0 0]:Array Value) 1) a4 n_a4) (finS PZ a0 (num (#[.int .i64 (a2),.int .i64 (a3),.slice none 0 0]:Array Value) 0) (num (#[.int .i64 (a2),.int .i64 (a3),.slice none 0 0]:Array Value) 1) a4 n_a4)) (scV (finZ PZ a1 (num (#[.int .i64 (a2),.int .i64 (a3),.slice none 0 0]:Array Value) 0) (num (#[.int .i64 (a2),.int .i64 (a3),.slice none 0 0]:Array Value) 1) a4 n_a4) (finS PZ a1 (num (#[.int .i64 (a2),.int .i64 (a3),.slice none 0 0]:Array Value) 0) (num (#[.int .i64 (a2),.int .i64 (a3),.slice none 0 0]:Array Value) 1) a4 n_a4))),.i .i64 (i64.wrap ((Udf (scV (finZ PZ a0 (num (#[.int .i64 (a2),.int .i64 (a3),.slice none 0 0]:Array Value) 0) (num (#[.int .i64 (a2),.int .i64 (a3),.slice none 0 0]:Array Value) 1) a4 n_a4) (finS PZ a0 (num (#[.int .i64 (a2),.int .i64 (a3),.slice none 0 0]:Array Value) 0) (num (#[.int .i64 (a2),.int .i64 (a3),.slice none 0 0]:Array Value) 1) a4 n_a4))) - (Udf (scV (finZ PZ a1 (num (#[.int .i64 (a2),.int .i64 (a3),.slice none 0 0]:Array Value) 0) (num (#[.int .i64 (a2),.int .i64 (a3),.slice none 0 0]:Array Value) 1) a4 n_a4) (finS PZ a1 (num (#[.int .i64 (a2),.int .i64 (a3),.slice none 0 0]:Array Value) 0) (num (#[.int .i64 (a2),.int .i64 (a3),.slice none 0 0]:Array Value) 1) a4 n_a4))))),.i .i64 (0:Int)],.none,true))))
                  else (none)))
              else (none))
            else (none))
          else (none))
        else (none)))
    else (none)):=by kernel_rfl
theorem Zux (a0 a1:Array Value) (a2 a3:Int) (g_e0 g_e1 g_e2 g_e3 g_e4:Addr) (b_a4:Option (Option Addr)) (n_a4:Nat) (a4:Array Value) (h_a0:WT PZ 37 a0) (h_a1:WT PZ 37 a1) (h_a2:i64.min<=a2/\a2<=i64.max) (h_a3:i64.min<=a3/\a3<=i64.max) (h_a4:a4.size=n_a4*(lay PZ 70).length/\(∀ k,k<n_a4->WT PZ 70 (a4.extract (k*(lay PZ 70).length) (k*(lay PZ 70).length+(lay PZ 70).length)))/\n_a4<=9223372036854775807) (hg:(true)=true):ansV PZ Zpz 1000 f24 [] [.g a0 37,.g a1 37,.i .i64 (a2),.i .i64 (a3),.l 5] [.gl 0 185 g_e0 101973,.gl 1 185 g_e1 93330,.gl 3 185 g_e2 124718,.gl 2 185 g_e3 112315,.gl 4 185 g_e4 94254,.sl (.came b_a4) n_a4 a4 70]=some (.t [.i .i64 (bif ((Uam a0 a1 n_a4 a4 a2 a3 true) != (0:Int)) then 0 else betV (finZ PZ a0 a2 a3 a4 n_a4) (finZ PZ a1 a2 a3 a4 n_a4) (finS PZ a0 a2 a3 a4 n_a4) (finS PZ a1 a2 a3 a4 n_a4)),.i .i64 (bif ((Uam a0 a1 n_a4 a4 a2 a3 true) != (0:Int)) then 0 else difV (finZ PZ a0 a2 a3 a4 n_a4) (finZ PZ a1 a2 a3 a4 n_a4) (finS PZ a0 a2 a3 a4 n_a4) (finS PZ a1 a2 a3 a4 n_a4)),.i .i64 (bif ((Uam a0 a1 n_a4 a4 a2 a3 true) != (0:Int)) then (Uam a0 a1 n_a4 a4 a2 a3 true) else bif ((finZ PZ a0 a2 a3 a4 n_a4)&&(finZ PZ a1 a2 a3 a4 n_a4)) then 6 else 0)],.none,true):=by
 refine (Zvq 1000 a0 a1 a2 a3 g_e0 g_e1 g_e2 g_e3 g_e4 b_a4 n_a4 a4).trans ?_
 obtain ⟨n0,n1⟩:=ev_num a2 a3
 rw [n0,n1,with_two (Ymt h_a0) (Ymt h_a1),show (Nat.ble 1 2&&Nat.ble 2 8)=true from rfl]
 rw [Q1]
 cases hl:((Uam a0 a1 n_a4 a4 a2 a3 true) != (0:Int)) with
 | true=>rfl
 | false=>
  obtain ⟨v1,v2,_,i1,i2,t0,_,_⟩:=Ygu hl
  have hx:=Yhh a0 a2 a3 a4 n_a4
  have hy:=Yhh a1 a2 a3 a4 n_a4
  rw [v1,v2,i1,i2,t0]
  generalize (finZ PZ a0 a2 a3 a4 n_a4)=z1
  generalize (finZ PZ a1 a2 a3 a4 n_a4)=z2
  generalize (finS PZ a0 a2 a3 a4 n_a4)=x at hx|-
  generalize (finS PZ a1 a2 a3 a4 n_a4)=y at hy|-
  simp only [sc_is hx,sc_is hy,(Zre z1 x).1,(Zre z1 x).2,(Zre z2 y).1,(Zre z2 y).2,cmp_bet,Bool.and_self,Q1,Q2]
  unfold difV
  cases z1<;>cases z2<;>rfl
def Zj7:Con:=λ args h=>match args,h with
 | [.g a0 37,.g a1 37,.i .i64 a2,.i .i64 a3,.l 5],[.gl 0 185 g_e0 101973,.gl 1 185 g_e1 93330,.gl 3 185 g_e2 124718,.gl 2 185 g_e3 112315,.gl 4 185 g_e4 94254,.sl (.came b_a4) n_a4 a4 70]=>some (.t [.i .i64 (bif ((Uam a0 a1 n_a4 a4 a2 a3 true) != (0:Int)) then 0 else betV (finZ PZ a0 a2 a3 a4 n_a4) (finZ PZ a1 a2 a3 a4 n_a4) (finS PZ a0 a2 a3 a4 n_a4) (finS PZ a1 a2 a3 a4 n_a4)),.i .i64 (bif ((Uam a0 a1 n_a4 a4 a2 a3 true) != (0:Int)) then 0 else difV (finZ PZ a0 a2 a3 a4 n_a4) (finZ PZ a1 a2 a3 a4 n_a4) (finS PZ a0 a2 a3 a4 n_a4) (finS PZ a1 a2 a3 a4 n_a4)),.i .i64 (bif ((Uam a0 a1 n_a4 a4 a2 a3 true) != (0:Int)) then (Uam a0 a1 n_a4 a4 a2 a3 true) else bif ((finZ PZ a0 a2 a3 a4 n_a4)&&(finZ PZ a1 a2 a3 a4 n_a4)) then 6 else 0)],.none,true)
 | _,_=>none
theorem Ztu:EntX PZ 24:=Zah (fn:=f24)
theorem Yaa : Uac (md F) PZ 24 Zj7 := (ansY (N := 1000) (Yjp (m := [("loop.example/g01300/impl.told", Zv6)]) (λ q hq => by simp only [List.mem_cons, List.not_mem_nil, or_false] at hq; subst hq; first | exact Ym6) (mKc (Zj5 Zn3) Zmo (mKc (Zae Znr) Zle (mKc (Zae Zr8) Zoh mKn)))) f24 []).of (by
 intro ρ h w args vals r e hA hH hr
 unfold Zj7 at hr
 split at hr
 ·rename_i a0 a1 a2 a3 g_e0 g_e1 g_e2 g_e3 g_e4 b_a4 n_a4 a4
  obtain ⟨rfl,rfl,hg2⟩:=BQi hr
  exact Zux a0 a1 a2 a3 g_e0 g_e1 g_e2 g_e3 g_e4 b_a4 n_a4 a4 (hA.wt 0 rfl) (hA.wt 1 rfl) (hA.rng 2 rfl) (hA.rng 3 rfl) (hH.slw 5 rfl) hg2
 ·cases hr)
def Zpy:Cons:=(mkΓ [(35,con Zkm),(44,con Zlk)])
theorem Zvm (N:Nat) (a0 a1:Array Value) (a2 a3:Int) (b_a4:Option (Option Addr)) (n_a4:Nat) (a4:Array Value):ansV PZ Zpy N f23 [] [.g a0 37,.g a1 37,.i .i64 (a2),.i .i64 (a3),.l 0] [.sl (.came b_a4) n_a4 a4 70]=(bif ((Uam a0 a1 n_a4 a4 a2 a3 true) != (0:Int)) then (some (.t [.i .i64 (0:Int),.i .i64 (0:Int),.i .i64 (Uam a0 a1 n_a4 a4 a2 a3 true)],.none,true))
    else (bif (vf a0 n_a4 a4&&(Zab a2 a0&&Zaa a3 0 1)) then (bif (vf a1 n_a4 a4&&(Zab a2 a1&&Zaa a3 0 1)) then (bif (!((!(finZ PZ a0 a2 a3 a4 n_a4)))) then (bif (!((!(finZ PZ a1 a2 a3 a4 n_a4)))) then (some (.t [.i .i64 (0:Int),.i .i64 (0:Int),.i .i64 (6:Int)],.none,true))
            else (bif (!((!(finZ PZ a1 a2 a3 a4 n_a4)))) then (some (.t [.i .i64 (1:Int),.i .i64 (0:Int),.i .i64 (0:Int)],.none,true))
              else (bif (!((!(finZ PZ a0 a2 a3 a4 n_a4)))) then (some (.t [.i .i64 (-1:Int),.i .i64 (0:Int),.i .i64 (0:Int)],.none,true))
                else (bif decide ((bif (finZ PZ a0 a2 a3 a4 n_a4) then 0 else (finS PZ a0 a2 a3 a4 n_a4)) > (bif (finZ PZ a1 a2 a3 a4 n_a4) then 0 else (finS PZ a1 a2 a3 a4 n_a4))) then (some (.t [.i .i64 (1:Int),.i .i64 (i64.wrap ((bif (finZ PZ a0 a2 a3 a4 n_a4) then 0 else (finS PZ a0 a2 a3 a4 n_a4)) - (bif (finZ PZ a1 a2 a3 a4 n_a4) then 0 else (finS PZ a1 a2 a3 a4 n_a4)))),.i .i64 (0:Int)],.none,true))
                  else (bif decide ((bif (finZ PZ a0 a2 a3 a4 n_a4) then 0 else (finS PZ a0 a2 a3 a4 n_a4))<(bif (finZ PZ a1 a2 a3 a4 n_a4) then 0 else (finS PZ a1 a2 a3 a4 n_a4))) then (some (.t [.i .i64 (-1:Int),.i .i64 (i64.wrap ((bif (finZ PZ a0 a2 a3 a4 n_a4) then 0 else (finS PZ a0 a2 a3 a4 n_a4)) - (bif (finZ PZ a1 a2 a3 a4 n_a4) then 0 else (finS PZ a1 a2 a3 a4 n_a4)))),.i .i64 (0:Int)],.none,true))
                    else (some (.t [.i .i64 (0:Int),.i .i64 (0:Int),.i .i64 (0:Int)],.none,true)))))))
          else (bif (!((!(finZ PZ a1 a2 a3 a4 n_a4)))) then (some (.t [.i .i64 (1:Int),.i .i64 (0:Int),.i .i64 (0:Int)],.none,true))
            else (bif (!((!(finZ PZ a0 a2 a3 a4 n_a4)))) then (some (.t [.i .i64 (-1:Int),.i .i64 (0:Int),.i .i64 (0:Int)],.none,true))
              else (bif decide ((bif (finZ PZ a0 a2 a3 a4 n_a4) then 0 else (finS PZ a0 a2 a3 a4 n_a4)) > (bif (finZ PZ a1 a2 a3 a4 n_a4) then 0 else (finS PZ a1 a2 a3 a4 n_a4))) then (some (.t [.i .i64 (1:Int),.i .i64 (i64.wrap ((bif (finZ PZ a0 a2 a3 a4 n_a4) then 0 else (finS PZ a0 a2 a3 a4 n_a4)) - (bif (finZ PZ a1 a2 a3 a4 n_a4) then 0 else (finS PZ a1 a2 a3 a4 n_a4)))),.i .i64 (0:Int)],.none,true))
                else (bif decide ((bif (finZ PZ a0 a2 a3 a4 n_a4) then 0 else (finS PZ a0 a2 a3 a4 n_a4))<(bif (finZ PZ a1 a2 a3 a4 n_a4) then 0 else (finS PZ a1 a2 a3 a4 n_a4))) then (some (.t [.i .i64 (-1:Int),.i .i64 (i64.wrap ((bif (finZ PZ a0 a2 a3 a4 n_a4) then 0 else (finS PZ a0 a2 a3 a4 n_a4)) - (bif (finZ PZ a1 a2 a3 a4 n_a4) then 0 else (finS PZ a1 a2 a3 a4 n_a4)))),.i .i64 (0:Int)],.none,true))
                  else (some (.t [.i .i64 (0:Int),.i .i64 (0:Int),.i .i64 (0:Int)],.none,true)))))))
        else (none))
      else (none))):=by kernel_rfl
theorem Zua (a0 a1:Array Value) (a2 a3:Int) (b_a4:Option (Option Addr)) (n_a4:Nat) (a4:Array Value) (h_a0:WT PZ 37 a0) (h_a1:WT PZ 37 a1) (h_a2:i64.min<=a2/\a2<=i64.max) (h_a3:i64.min<=a3/\a3<=i64.max) (h_a4:a4.size=n_a4*(lay PZ 70).length/\(∀ k,k<n_a4->WT PZ 70 (a4.extract (k*(lay PZ 70).length) (k*(lay PZ 70).length+(lay PZ 70).length)))/\n_a4<=9223372036854775807) (hg:(true)=true):ansV PZ Zpy 1000 f23 [] [.g a0 37,.g a1 37,.i .i64 (a2),.i .i64 (a3),.l 0] [.sl (.came b_a4) n_a4 a4 70]=some (.t [.i .i64 (bif ((Uam a0 a1 n_a4 a4 a2 a3 true) != (0:Int)) then 0 else betV (finZ PZ a0 a2 a3 a4 n_a4) (finZ PZ a1 a2 a3 a4 n_a4) (finS PZ a0 a2 a3 a4 n_a4) (finS PZ a1 a2 a3 a4 n_a4)),.i .i64 (bif ((Uam a0 a1 n_a4 a4 a2 a3 true) != (0:Int)) then 0 else difV (finZ PZ a0 a2 a3 a4 n_a4) (finZ PZ a1 a2 a3 a4 n_a4) (finS PZ a0 a2 a3 a4 n_a4) (finS PZ a1 a2 a3 a4 n_a4)),.i .i64 (bif ((Uam a0 a1 n_a4 a4 a2 a3 true) != (0:Int)) then (Uam a0 a1 n_a4 a4 a2 a3 true) else bif ((finZ PZ a0 a2 a3 a4 n_a4)&&(finZ PZ a1 a2 a3 a4 n_a4)) then 6 else 0)],.none,true):=by
 refine (Zvm 1000 a0 a1 a2 a3 b_a4 n_a4 a4).trans ?_
 cases hl:((Uam a0 a1 n_a4 a4 a2 a3 true) != (0:Int)) with
 | true=>rfl
 | false=>
  obtain ⟨v1,v2,_,i1,i2,t0,_,_⟩:=Ygu hl
  have hx:=Yhh a0 a2 a3 a4 n_a4
  have hy:=Yhh a1 a2 a3 a4 n_a4
  rw [v1,v2,i1,i2,t0]
  generalize (finZ PZ a0 a2 a3 a4 n_a4)=z1
  generalize (finZ PZ a1 a2 a3 a4 n_a4)=z2
  generalize (finS PZ a0 a2 a3 a4 n_a4)=x at hx|-
  generalize (finS PZ a1 a2 a3 a4 n_a4)=y at hy|-
  unfold difV betV
  cases z1<;>cases z2
  ·simp only [Bool.and_self,Bool.not_false,Bool.not_true,Q1,Q2,Bool.or_self]
   by_cases h1:x > y
   ·simp only [Q3 h1,Q1]
   ·by_cases h2:x<y
    ·simp only [Q4 h1,Q3 h2,Q1,Q2]
    ·obtain rfl:x=y:=by omega
     simp only [Q4 h1,Q4 h2,Q1,Q2,Int.sub_self]
     rfl
  ·rfl
  ·rfl
  ·rfl
def Zke:Con:=λ args h=>match args,h with
 | [.g a0 37,.g a1 37,.i .i64 a2,.i .i64 a3,.l 0],[.sl (.came b_a4) n_a4 a4 70]=>some (.t [.i .i64 (bif ((Uam a0 a1 n_a4 a4 a2 a3 true) != (0:Int)) then 0 else betV (finZ PZ a0 a2 a3 a4 n_a4) (finZ PZ a1 a2 a3 a4 n_a4) (finS PZ a0 a2 a3 a4 n_a4) (finS PZ a1 a2 a3 a4 n_a4)),.i .i64 (bif ((Uam a0 a1 n_a4 a4 a2 a3 true) != (0:Int)) then 0 else difV (finZ PZ a0 a2 a3 a4 n_a4) (finZ PZ a1 a2 a3 a4 n_a4) (finS PZ a0 a2 a3 a4 n_a4) (finS PZ a1 a2 a3 a4 n_a4)),.i .i64 (bif ((Uam a0 a1 n_a4 a4 a2 a3 true) != (0:Int)) then (Uam a0 a1 n_a4 a4 a2 a3 true) else bif ((finZ PZ a0 a2 a3 a4 n_a4)&&(finZ PZ a1 a2 a3 a4 n_a4)) then 6 else 0)],.none,true)
 | _,_=>none
theorem Ztf:EntX PZ 23:=Zah (fn:=f23)
theorem Zyu:Uac (md F) PZ 23 Zke:=(ansY (N:=1000) (mKc (Zae Ybm) Zu4 (mKc (Zae Ydl) Zvy mKn)) f23 []).of (by
 intro ρ h w args vals r e hA hH hr
 unfold Zke at hr
 split at hr
 ·rename_i a0 a1 a2 a3 b_a4 n_a4 a4
  obtain ⟨rfl,rfl,hg2⟩:=BQi hr
  exact Zua a0 a1 a2 a3 b_a4 n_a4 a4 (hA.wt 0 rfl) (hA.wt 1 rfl) (hA.rng 2 rfl) (hA.rng 3 rfl) (hH.slw 0 rfl) hg2
 ·cases hr)
end
end Go.Proofs.YtdfefaanfiheoaaGreatDoor
