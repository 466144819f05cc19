/- The fewest cells from which some cells can be reached: both sides. -/
import Derived.Test.YtgllknjdblkhnaaGreatDoorProg
import Derived.Test.YtgllknjdblkhnaaGreatDoorCfE
set_option linter.unusedVariables false
set_option linter.unusedSimpArgs false
namespace Go.Proofs.YtgllknjdblkhnaaGreatDoor
open Go.ChangeShapes Go.WideShapes Go.ChangeAt Go.RowKit Ve Vc
open Tryz renaming prog -> PZ
set_option maxRecDepth 100000
noncomputable section
open Pop
variable {mn:Md}
def fcC(P:Program)(S:Array Value)(b h c:Int):Int:=bif okS S then (bif (Zaa b 0 1&&(Zaa h 1 8&&Zac S c)) then lfC P S b h c else 2) else 1
def fcV(P:Program)(S:Array Value)(b h c:Int):Int:=bif okS S then (bif (Zaa b 0 1&&(Zaa h 1 8&&Zac S c)) then lfV P S b h c else 0) else 0
def Zoh:Cons:=(mkΓ [(20,con Zl3),(21,con Zkq)])
theorem Zuq(N:Nat)(a0:Array Value)(a1 a2 a3:Int):ansV PZ Zoh N Tryz.f10 [] [.g a0 38,.i .i64 a1,.i .i64 a2,.i .u64 a3] []=(bif ((Zeq a1 a2 a3 a0) != (0:Int)) then (some (.t [.i .u64 0,.i .i64 (Zeq a1 a2 a3 a0)],.none,true)) else (bif (((okS a0&&(decide (0<=a1)&&decide (a1<=1)))&&(decide (1<=a2)&&decide (a2<=8)))&&Zac a0 a3) then (some (.t [.i .u64 (lfV PZ a0 a1 a2 a3),.i .i64 (lfC PZ a0 a1 a2 a3)],.none,true)) else (none))):=by kernel_rfl
theorem Zsb(a0:Array Value)(a1 a2 a3:Int)(h_a0:WT PZ 38 a0)(h_a1:IntKind.i64.min<=a1/\a1<=IntKind.i64.max)(h_a2:IntKind.i64.min<=a2/\a2<=IntKind.i64.max)(h_a3:IntKind.u64.min<=a3/\a3<=IntKind.u64.max)(hg:(true)=true):ansV PZ Zoh 1000 Tryz.f10 [] [.g a0 38,.i .i64 a1,.i .i64 a2,.i .u64 a3] []=some (.t [.i .u64 (fcV PZ a0 a1 a2 a3),.i .i64 (fcC PZ a0 a1 a2 a3)],.none,true):=by refine(Zuq 1000 a0 a1 a2 a3).trans ?_;rw[begun_eq];unfold ctrC fcC fcV;cases hok:okS a0 with|false=>simp only[Q1,Q2,show ((1:Int) != 0)=true from rfl]| true=>cases hr:(Zaa a1 0 1&&(Zaa a2 1 8&&Zac a0 a3)) with|false=>simp only[Q1,Q2,show ((2:Int) != 0)=true from rfl]|true=>simp only[Q1,Q2,show ((0:Int) != 0)=false from rfl];have hr':=hr;rw[Q7,Q7]at hr';obtain⟨g0,g1,hc⟩:=hr';have hb:=Zoi g0;have hh:=Zoi g1;rw[Q3 (show 0<=a1 by omega),Q3 (show a1<=1 by omega),Q3 (show 1<=a2 by omega),Q3 (show a2<=8 by omega),hc];rfl
def Za9:Con:=λargs h=>match args,h with|[.g a0 38,.i .i64 a1,.i .i64 a2,.i .u64 a3],[]=>some (.t [.i .u64 (fcV PZ a0 a1 a2 a3),.i .i64 (fcC PZ a0 a1 a2 a3)],.none,true)|_,_=>none
theorem Zli:EntX PZ 10:=Zak (fn:=Tryz.f10)
theorem Znq:Uac mn PZ 10 Za9:=(ansY (N:=1000) (mKc (Zag Ybe) Zvp (mKc (Zag Zzi) Zt8 mKn)) Tryz.f10 []).of (by
 intro ρ h w args vals r e hA hH hr;unfold Za9 at hr;split at hr
 ·rename_i a0 a1 a2 a3;obtain⟨rfl,rfl,hg2⟩:=BQi hr;exact Zsb a0 a1 a2 a3 (hA.wt 0 rfl) (hA.rng 1 rfl) (hA.rng 2 rfl) (hA.rng 3 rfl) hg2
 ·cases hr)
end
end Go.Proofs.YtgllknjdblkhnaaGreatDoor
