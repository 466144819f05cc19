/- The score of finds: both sides. -/
import Derived.Test.YtdfefaanfiheoaaGreatDoorProg
import Derived.Test.YtdfefaanfiheoaaGreatDoorCuC
set_option linter.unusedVariables false
set_option linter.unusedSimpArgs false
namespace Go.Proofs.YtdfefaanfiheoaaGreatDoor
open Go.ChangeShapes Go.WideShapes Go.ChangeAt Go.RowKit Ve Vc
open Tryz renaming prog -> PZ
open IntKind (i64)
set_option maxRecDepth 100000
noncomputable section
variable {F:Vc.Fd}
def Zy4:Cons:=(mkΓ [(59,con Zoh),(60,con Znw)])
theorem Yez(N:Nat)(a1 a2:Int)(a3 a0:Array Value):ansV PZ Zy4 N Tryz.f41 [] [.w 0,.i .i64 (a1),.i .i64 (a2),.g a3 70] [.row a0 37]=(bif (okS a0&&((Zab a1 a0&&Zaa a2 0 1)&&Zaa (i64.wrap (num a3 1)) 1 14)) then (bif (decide (0<=(num a3 0))&&decide ((num a3 0)<36)) then (bif ((num (subV (byV PZ a0 a1 a2 (i64.wrap (num a3 1)).toNat) (byV PZ a0 a1 a2 ((i64.wrap (num a3 1)).toNat - 1)) 12) ((num a3 0).toNat*1))==(0:Int)) then (some (.t [.i .i64 (0:Int),.b (false)],.none,true))
        else (bif (decide (0<=(num a3 0))&&decide ((num a3 0)<36)) then (bif decide (1<=(num (subV (byV PZ a0 a1 a2 (i64.wrap (num a3 1)).toNat) (byV PZ a0 a1 a2 ((i64.wrap (num a3 1)).toNat - 1)) 12) ((num a3 0).toNat*1))) then (bif decide (1<=(12:Int)) then (some (.t [.i .i64 (i64.wrap ((lg (num (subV (byV PZ a0 a1 a2 (i64.wrap (num a3 1)).toNat) (byV PZ a0 a1 a2 ((i64.wrap (num a3 1)).toNat - 1)) 12) ((num a3 0).toNat*1))) - (i64.wrap ((i64.wrap (num a3 1))*(lg (12:Int)))))),.b (true)],.none,true))
              else (none))
            else (none))
          else (none)))
      else (none))
    else (none)):=by kernel_rfl
theorem Ybw(a1 a2:Int)(a3 a0:Array Value)(h_a1:i64.min<=a1/\a1<=i64.max)(h_a2:i64.min<=a2/\a2<=i64.max)(h_a3:WT PZ 70 a3)(h_a0:WT PZ 37 a0)(hg:(((okS a0&&(Zab a1 a0&&Zaa a2 0 1))&&(Zaa (num a3 1) 1 14&&(decide (0<=num a3 0)&&decide (num a3 0<36)))))=true):ansV PZ Zy4 1000 Tryz.f41 [] [.w 0,.i .i64 (a1),.i .i64 (a2),.g a3 70] [.row a0 37]=some (.t [.i .i64 (bif ((num (inH PZ a0 a1 a2 (num a3 1).toNat) (num a3 0).toNat)==(0:Int)) then 0 else scN (num (inH PZ a0 a1 a2 (num a3 1).toNat) (num a3 0).toNat) (num a3 1)),.b ((!((num (inH PZ a0 a1 a2 (num a3 1).toNat) (num a3 0).toNat)==(0:Int))))],.none,true):=by
 obtain⟨z,e0,e1,_,_⟩:=Zrz h_a3;simp only[Q7,decide_eq_true_eq]at hg;obtain⟨⟨o0,i0,t0⟩,q3,q4,q5⟩:=hg;have r3:=Zjb q3;have hp:=(Yq4 h_a0 o0 i0 t0 (k:=(num a3 0).toNat) (n:=(num a3 1).toNat) (by omega) (by omega)).2.1;have eI:subV (byV PZ a0 a1 a2 (num a3 1).toNat) (byV PZ a0 a1 a2 ((num a3 1).toNat - 1)) 12=inH PZ a0 a1 a2 (num a3 1).toNat:=rfl;refine(Yez 1000 a1 a2 a3 a0).trans ?_;simp only[e1,o0,i0,t0,q3,Q3 q4,Q3 q5,Nat.mul_one,Bool.and_self,Q1]
 try rw[eI]
 generalize (num (inH PZ a0 a1 a2 (num a3 1).toNat) (num a3 0).toNat)=p at hp|-
 cases h0:(p==(0:Int)) with
 |true=>rfl
 |false=>have h1:=one_le hp h0;simp only[h1,Q1,Q2,Bool.not_false];rfl
def Znc:Con:=λargs h=>match args,h with
 |[.w 0,.i .i64 a1,.i .i64 a2,.g a3 70],[.row a0 37]=>some (.t [.i .i64 (bif ((num (inH PZ a0 a1 a2 (num a3 1).toNat) (num a3 0).toNat)==(0:Int)) then 0 else scN (num (inH PZ a0 a1 a2 (num a3 1).toNat) (num a3 0).toNat) (num a3 1)),.b ((!((num (inH PZ a0 a1 a2 (num a3 1).toNat) (num a3 0).toNat)==(0:Int))))],.none,((okS a0&&(Zab a1 a0&&Zaa a2 0 1))&&(Zaa (num a3 1) 1 14&&(decide (0<=num a3 0)&&decide (num a3 0<36)))))
 |_,_=>none
theorem Zzg:EntX PZ 41:=Zah (fn:=Tryz.f41)
theorem Ygc:Uac (md F) PZ 41 Znc:=(ansY (N:=1000) (mKc (Zae Yh5) Yb8 (mKc (Zae Ygh) Zz5 mKn)) Tryz.f41 []).of (by
 intro ρ h w args vals r e hA hH hr;unfold Znc at hr;split at hr
 ·rename_i a1 a2 a3 a0
  obtain⟨rfl,rfl,hg2⟩:=BQi hr;exact Ybw a1 a2 a3 a0 (hA.rng 1 rfl) (hA.rng 2 rfl) (hA.wt 3 rfl) (hH.wt 0 rfl) hg2
 ·cases hr)
theorem Yqn(z:Bool)(n:Int):toldV (scV z n)=(bif z then 0 else n)/\Ugd (scV z n)=(bif z then 6 else 0):=by cases z<;>exact⟨rfl,rfl⟩
theorem Yqr(a b:Int):num (#[.int .i64 a,.int .i64 b,.slice none 0 0]:Array Value) 0=a/\num (#[.int .i64 a,.int .i64 b,.slice none 0 0]:Array Value) 1=b:=⟨rfl,rfl⟩
def lisC(S:Array Value)(n:Nat)(D:Array Value)(c b:Int):Int:=bif vf S n D then Zas c b true S else 1
theorem Ydd{S D:Array Value}{n:Nat}{c b:Int}(h:(lisC S n D c b != (0:Int))=false):vf S n D=true/\okS S=true/\Zab c S=true/\Zaa b 0 1=true:=by
 unfold lisC at h;cases hv:vf S n D with
 |false=>rw[hv,Q2]at h;exact absurd h (by decide)
 |true=>rw[hv,Q1]at h;obtain⟨h1,h2,h3,_,_⟩:=Yrg h;exact⟨rfl,h1,h2,h3⟩
end
end Go.Proofs.YtdfefaanfiheoaaGreatDoor
