/- Steps, and rows of numbers that go back, in company. -/
import Derived.Test.YtohnggmlmglhmaaGreatDoorProg
import Derived.Test.YtohnggmlmglhmaaGreatDoorCmB
import Derived.Test.YtohnggmlmglhmaaGreatDoorTzX
namespace Go.Proofs.YtohnggmlmglhmaaGreatDoor
open Go.ChangeShapes Go.WideShapes Go.ChangeAt Go.RowKit Ve Vc
open Tryz renaming prog → PZ
open IntKind (i64)
set_option linter.unusedVariables false
set_option linter.unusedSimpArgs false
set_option maxRecDepth 100000
noncomputable section
variable {mn:Md}
theorem Zvf (N:Nat)  : ansV PZ (mkΓ []) N Tryz.f128 [] [] []=(some (.a (.g #[.int .u8 (1:Int),.int .u8 (4:Int),.int .u8 (0:Int),.int .u8 (2:Int),.int .u8 (3:Int)] 24),.none,true)):=by kernel_rfl
theorem Ztr   (hg:(true)=true):ansV PZ (mkΓ []) 1000 Tryz.f128 [] [] []=some (.a (.g #[.int .u8 (1:Int),.int .u8 (4:Int),.int .u8 (0:Int),.int .u8 (2:Int),.int .u8 (3:Int)] 24),.none,true):=by
 refine (Zvf 1000 ).trans ?_
 rfl
def Zja:Con:=fun args h=>match args,h with
 | [],[]=>some (.a (.g #[.int .u8 (1:Int),.int .u8 (4:Int),.int .u8 (0:Int),.int .u8 (2:Int),.int .u8 (3:Int)] 24),.none,true)
 | _,_=>none
theorem Zq3:EntX PZ 128:=Zag (fn:=Tryz.f128) (by kernel_rfl) (by kernel_rfl) (by kernel_rfl)
theorem Zyl:Uad mn PZ 128 Zja:=(Zai (N:=1000) (by kernel_rfl) mkΓ_nilX (fn:=Tryz.f128) (by kernel_rfl) (by kernel_rfl) []).of (by
 intro ρ h w args vals r e hA hH hr
 unfold Zja at hr
 split at hr
 ·obtain ⟨rfl,rfl,hg2⟩:=BQi hr
  exact Ztr hg2
 ·cases hr)
def pl (c:Int):Nat→Array Value
 | 0=>#[.int .i64 (c.tmod 6),.int .i64 (i64.wrap (c.tdiv 6))]
 | 1=>#[.int .i64 (c.tmod 6),.int .i64 (i64.wrap (i64.wrap (c.tdiv 6) - 1))]
 | 2=>#[.int .i64 (i64.wrap (c.tmod 6+1)),.int .i64 (i64.wrap (c.tdiv 6))]
 | 3=>#[.int .i64 (c.tmod 6),.int .i64 (i64.wrap (i64.wrap (c.tdiv 6)+1))]
 | _=>#[.int .i64 (i64.wrap (c.tmod 6 - 1)),.int .i64 (i64.wrap (c.tdiv 6))]
theorem Ufd {S:Array Value} (h0:1≤num S 0∧num S 0≤6∧1≤num S 1∧num S 1≤6) (x y:Int):Zas S #[.int .i64 x,.int .i64 y]=decide (0≤x∧x<num S 0∧0≤y∧y<num S 1):=by
 obtain ⟨a1,a2,a3,a4⟩:=h0
 show (bif decide (x ≥ 0) then (bif decide (x<i64.wrap (num S 0)) then (bif decide (y ≥ 0) then decide (y<i64.wrap (num S 1)) else false) else false) else false)=_
 rw [w64 (n:=num S 0) (by omega),w64 (n:=num S 1) (by omega)]
 have:∀ a b c d:Prop,[Decidable a]→[Decidable b]→[Decidable c]→[Decidable d]→(bif decide a then (bif decide b then (bif decide c then decide d else false) else false) else false)=decide (a∧b∧c∧d):=by
  intro a b c d _ _ _ _
  by_cases a<;>by_cases b<;>by_cases c<;>by_cases d<;>simp [*]
 exact this _ _ _ _
theorem Ym9 {S:Array Value} (h0:1≤num S 0∧num S 0≤6∧1≤num S 1∧num S 1≤6) {k:Nat} (hk:k<36) (hi:inC (num S 0) (num S 1) k=true) (w:Nat) (hw:w<5) :
  Zas S (pl (k:Int) w)=decide (gw S k w ≠ -1)∧(gw S k w ≠ -1→i64.wrap (num (pl (k:Int) w) 0+i64.wrap (6*num (pl (k:Int) w) 1))=gw S k w):=by
 obtain ⟨hx,hy⟩:=Yn3 hi
 obtain ⟨ex,ey⟩:=xy hk
 have hxl:k % 6<6:=Nat.mod_lt _ (by omega)
 have hyl:k / 6<6:=by omega
 have hk6:k=6*(k / 6)+k % 6:=by omega
 have h0':=h0
 obtain ⟨a1,a2,a3,a4⟩:=h0
 generalize hX:k % 6=X at *
 generalize hY:k / 6=Y at *
 have eY:i64.wrap ((Y:Nat):Int)=Y:=w64 (by omega)
 match w,hw with
 | 0,_=>
  have e:pl (k:Int) 0=#[.int .i64 (X:Int),.int .i64 (Y:Int)]:=by unfold pl;rw [ex,ey,eY];rfl
  rw [e,Ufd h0']
  refine ⟨decide_eq_decide.2 ?_,fun _=> ?_⟩
  ·show _ ↔ (k:Int) ≠ -1;omega
  ·show i64.wrap ((X:Int)+i64.wrap (6*(Y:Int)))=(k:Int)
   rw [w64 (n:=6*(Y:Int)) (by omega),w64 (by omega)];omega
 | 1,_=>
  have e:pl (k:Int) 1=#[.int .i64 (X:Int),.int .i64 ((Y:Int) - 1)]:=by unfold pl;rw [ex,ey,eY,w64 (n:=(Y:Int) - 1) (by omega)];rfl
  rw [e,Ufd h0']
  have hg:gw S k 1=if 6≤k then (k:Int) - 6 else -1:=by unfold gw;by_cases c:6≤k<;>simp [c]
  rw [hg]
  refine ⟨decide_eq_decide.2 ?_,fun hn=> ?_⟩
  ·split<;>omega
  ·show i64.wrap ((X:Int)+i64.wrap (6*((Y:Int) - 1)))=_
   rw [w64 (n:=6*((Y:Int) - 1)) (by omega),w64 (by omega)]
   split at hn<;>split<;>omega
 | 2,_=>
  have e:pl (k:Int) 2=#[.int .i64 ((X:Int)+1),.int .i64 (Y:Int)]:=by unfold pl;rw [ex,ey,eY,w64 (n:=(X:Int)+1) (by omega)];rfl
  rw [e,Ufd h0']
  have hg:gw S k 2=if (X:Int)+1<num S 0 then (k:Int)+1 else -1:=by unfold gw;rw [hX];by_cases c:(X:Int)+1<num S 0<;>simp [c]
  rw [hg]
  refine ⟨decide_eq_decide.2 ?_,fun hn=> ?_⟩
  ·split<;>omega
  ·show i64.wrap ((X:Int)+1+i64.wrap (6*(Y:Int)))=_
   rw [w64 (n:=6*(Y:Int)) (by omega),w64 (by omega)]
   split at hn<;>split<;>omega
 | 3,_=>
  have e:pl (k:Int) 3=#[.int .i64 (X:Int),.int .i64 ((Y:Int)+1)]:=by unfold pl;rw [ex,ey,eY,w64 (n:=(Y:Int)+1) (by omega)];rfl
  rw [e,Ufd h0']
  have hg:gw S k 3=if (Y:Int)+1<num S 1 then (k:Int)+6 else -1:=by unfold gw;rw [hY];by_cases c:(Y:Int)+1<num S 1<;>simp [c]
  rw [hg]
  refine ⟨decide_eq_decide.2 ?_,fun hn=> ?_⟩
  ·split<;>omega
  ·show i64.wrap ((X:Int)+i64.wrap (6*((Y:Int)+1)))=_
   rw [w64 (n:=6*((Y:Int)+1)) (by omega),w64 (by omega)]
   split at hn<;>split<;>omega
 | 4,_=>
  have e:pl (k:Int) 4=#[.int .i64 ((X:Int) - 1),.int .i64 (Y:Int)]:=by unfold pl;rw [ex,ey,eY,w64 (n:=(X:Int) - 1) (by omega)];rfl
  rw [e,Ufd h0']
  have hg:gw S k 4=if 1≤X then (k:Int) - 1 else -1:=by unfold gw;rw [hX];by_cases c:1≤X<;>simp [c]
  rw [hg]
  refine ⟨decide_eq_decide.2 ?_,fun hn=> ?_⟩
  ·split<;>omega
  ·show i64.wrap ((X:Int) - 1+i64.wrap (6*(Y:Int)))=_
   rw [w64 (n:=6*(Y:Int)) (by omega),w64 (by omega)]
   split at hn<;>split<;>omega
def Uba (S:Array Value) (t:Int) (k w:Nat):List (Int×Int):=bif decide (chW S t (k:Int) w > 0)&&decide (gw S k w ≠ -1) then [(gw S k w,chW S t (k:Int) w)] else []
def stL (S:Array Value) (t:Int) (k:Nat):List (Int×Int):=bif Zal S (k:Int) then [((k:Int),12)] else Uba S t k 1++Uba S t k 4++Uba S t k 0++Uba S t k 2++Uba S t k 3
def Ubk (l:List (Int×Int)):Array Value:=⟨l.flatMap fun p=>[.int .i64 p.1,.int .i64 p.2]⟩
theorem Yix (l m:List (Int×Int)):Ubk (l++m)=Ubk l++Ubk m:=by unfold Ubk;simp
def stF (S:Array Value) (t c:Int) (w:Nat) (q:Nat×Array Value):Nat×Array Value:=
 bif decide (chW S t c w > 0) then (bif Zas S (pl c w) then (q.1+1,q.2++#[.int .i64 (i64.wrap (num (pl c w) 0+i64.wrap (6*num (pl c w) 1))),.int .i64 (chW S t c w)]) else (q.1,q.2)) else (q.1,q.2)
theorem Yb8 {S:Array Value} (h0:1≤num S 0∧num S 0≤6∧1≤num S 1∧num S 1≤6) {k:Nat} (hk:k<36) (hi:inC (num S 0) (num S 1) k=true) (t:Int) {w:Nat} (hw:w<5) (l:List (Int×Int)) :
  stF S t (k:Int) w (l.length,Ubk l)=((l++Uba S t k w).length,Ubk (l++Uba S t k w)):=by
 obtain ⟨h1,h2⟩:=Ym9 h0 hk hi w hw
 unfold stF Uba
 rw [h1]
 cases decide (chW S t (k:Int) w > 0) with
 | false=>simp
 | true=>
  cases hd:decide (gw S k w ≠ -1) with
  | false=>simp
  | true=>
   rw [h2 (of_decide_eq_true hd)]
   simp only [Q1,Bool.and_self,List.length_append,List.length_cons,List.length_nil,Yix]
   rfl
def Za9:Cons:=(mkΓ [(34,con Zhc),(62,con Zhp),(63,con Zis),(115,con Zkc),(127,con Zlf),(128,con Zja),(130,con Zi0),(131,con Zh8),(132,con Zi8),(133,con Zib),(134,con Zjd)])
def Zi4 (t:Nat×Array Value):LS:=([.a (.i .i64 (0:Int)),.a (.l 5)],[.sl .own t.1 t.2 181])
def Zm8 (t:Nat×Array Value):LS:=([.a (.i .i64 (1:Int)),.a (.l 5)],[.sl .own t.1 t.2 181])
def Znd (t:Nat×Array Value):LS:=([.a (.i .i64 (2:Int)),.a (.l 5)],[.sl .own t.1 t.2 181])
def Znb (t:Nat×Array Value):LS:=([.a (.i .i64 (3:Int)),.a (.l 5)],[.sl .own t.1 t.2 181])
def Zmc (t:Nat×Array Value):LS:=([.a (.i .i64 (4:Int)),.a (.l 5)],[.sl .own t.1 t.2 181])
def Zf9 (t:Nat×Array Value):LS:=([.a (.i .i64 (5:Int)),.a (.l 5)],[.sl .own t.1 t.2 181])
def Zat (a0:Array Value) (a1 a2:Int) (t:Nat×Array Value):Nat×Array Value:=bif decide ((i64.wrap (num a0 (((3+((a2).toNat*180))+((a1).toNat*5))+1))) > (0:Int)) then (bif (Zas a0 (#[.int .i64 (num (#[.int .i64 ((a1).tmod (6:Int)),.int .i64 (i64.wrap ((a1).tdiv (6:Int)))]:Array Value) 0),.int .i64 (i64.wrap ((num (#[.int .i64 ((a1).tmod (6:Int)),.int .i64 (i64.wrap ((a1).tdiv (6:Int)))]:Array Value) 1) - (1:Int)))]:Array Value)) then (((t.1+1),(t.2++(#[.int .i64 (i64.wrap ((num (#[.int .i64 (num (#[.int .i64 ((a1).tmod (6:Int)),.int .i64 (i64.wrap ((a1).tdiv (6:Int)))]:Array Value) 0),.int .i64 (i64.wrap ((num (#[.int .i64 ((a1).tmod (6:Int)),.int .i64 (i64.wrap ((a1).tdiv (6:Int)))]:Array Value) 1) - (1:Int)))]:Array Value) 0)+(i64.wrap ((6:Int)*(num (#[.int .i64 (num (#[.int .i64 ((a1).tmod (6:Int)),.int .i64 (i64.wrap ((a1).tdiv (6:Int)))]:Array Value) 0),.int .i64 (i64.wrap ((num (#[.int .i64 ((a1).tmod (6:Int)),.int .i64 (i64.wrap ((a1).tdiv (6:Int)))]:Array Value) 1) - (1:Int)))]:Array Value) 1))))),.int .i64 (i64.wrap (num a0 (((3+((a2).toNat*180))+((a1).toNat*5))+1)))]:Array Value)))) else ((t.1,t.2))) else ((t.1,t.2))
theorem Zvq (N:Nat) (a0:Array Value) (a1 a2:Int) (hq0:(decide (0≤a2)&&decide (a2<2))=true) (hq1:(decide (0≤a1)&&decide (a1<36))=true) (t:Nat×Array Value) (hl:t.1≤1000000):Ubp PZ Za9 N (cAt (codeOf Tryz.f123) [1,1,1,1,0,1,0,0]) (pAt (Uaa (codeOf Tryz.f123) [([21],[1000007,181])]).1 [1,1,1,1,0,1,0]) [21] [] 7 181 5 (⟨.a (.g a0 41) :: .a (.i .i64 (a1)) :: .a (.i .i64 (a2)) :: .a (.w 0) :: .a (.u) :: .a (.u) :: .a (.v (.slice none 0 0)) :: .a (.l 5) :: .a (.w 3)::us 4 (.a (.g a0 41) :: .a (.i .i64 (a1)) :: .a (.b ((Zal a0 a1)))::us 3 (.a (.g #[.func (.func 130) #[] #[],.func (.func 131) #[] #[],.func (.func 132) #[] #[],.func (.func 133) #[] #[],.func (.func 134) #[] #[]] 210) :: .a (.g #[.int .u8 (1:Int),.int .u8 (4:Int),.int .u8 (0:Int),.int .u8 (2:Int),.int .u8 (3:Int)] 24) :: .a (.i .i64 (0:Int))::us 34 ([]))),[.row a0 41,.no,.no,.row #[.func (.func 130) #[] #[],.func (.func 131) #[] #[],.func (.func 132) #[] #[],.func (.func 133) #[] #[],.func (.func 134) #[] #[]] 210,.no,.sl .own 0 (#[]:Array Value) 181],[3]⟩:St) (Zi4 t)=some (.more (Zm8 (Zat a0 a1 a2 t))):=by
 refine Eq.trans (b:=(bif (decide (0≤a2)&&decide (a2<2)) then (bif (decide (0≤a1)&&decide (a1<36)) then (bif decide ((i64.wrap (num a0 (((3+((a2).toNat*180))+((a1).toNat*5))+1))) > (0:Int)) then (bif (Zas a0 (#[.int .i64 (num (#[.int .i64 ((a1).tmod (6:Int)),.int .i64 (i64.wrap ((a1).tdiv (6:Int)))]:Array Value) 0),.int .i64 (i64.wrap ((num (#[.int .i64 ((a1).tmod (6:Int)),.int .i64 (i64.wrap ((a1).tdiv (6:Int)))]:Array Value) 1) - (1:Int)))]:Array Value)) then (bif (Nat.ble ((t.1+1)*bytesOf PZ 181) 140737488355328) then (some (.more ([.a (.i .i64 (1:Int)),.a (.l 5)],[.sl .own (t.1+1) (t.2++(#[.int .i64 (i64.wrap ((num (#[.int .i64 (num (#[.int .i64 ((a1).tmod (6:Int)),.int .i64 (i64.wrap ((a1).tdiv (6:Int)))]:Array Value) 0),.int .i64 (i64.wrap ((num (#[.int .i64 ((a1).tmod (6:Int)),.int .i64 (i64.wrap ((a1).tdiv (6:Int)))]:Array Value) 1) - (1:Int)))]:Array Value) 0)+(i64.wrap ((6:Int)*(num (#[.int .i64 (num (#[.int .i64 ((a1).tmod (6:Int)),.int .i64 (i64.wrap ((a1).tdiv (6:Int)))]:Array Value) 0),.int .i64 (i64.wrap ((num (#[.int .i64 ((a1).tmod (6:Int)),.int .i64 (i64.wrap ((a1).tdiv (6:Int)))]:Array Value) 1) - (1:Int)))]:Array Value) 1))))),.int .i64 (i64.wrap (num a0 (((3+((a2).toNat*180))+((a1).toNat*5))+1)))]:Array Value)) 181]))) else (none)) else (some (.more ([.a (.i .i64 (1:Int)),.a (.l 5)],[.sl .own t.1 t.2 181])))) else (some (.more ([.a (.i .i64 (1:Int)),.a (.l 5)],[.sl .own t.1 t.2 181])))) else (none)) else (none))) (by kernel_rfl) ?_
 have hb:bytesOf PZ 181≤1000000:=Nat.le_of_ble_eq_true (by kernel_rfl)
 have g2:(Nat.ble ((t.1+1)*bytesOf PZ 181) 140737488355328)=true:=Nat.ble_eq_true_of_le (Nat.le_trans (Nat.mul_le_mul (show _≤1000001 by omega) hb) (by decide))
 simp only [Zat,Zr5,g2,hq0,hq1,Q1]
 rfl
theorem Zvv (a0:Array Value) (a1 a2:Int) (t:Nat×Array Value):(Zat a0 a1 a2 t).1≤t.1+1:=by
 unfold Zat
 repeat (first | exact Nat.le_refl _ | exact Nat.le_succ _ | refine Zmu ?_ ?_)
def Za0 (a0:Array Value) (a1 a2:Int) (t:Nat×Array Value):Nat×Array Value:=bif decide ((i64.wrap (num a0 (((3+((a2).toNat*180))+((a1).toNat*5))+4))) > (0:Int)) then (bif (Zas a0 (#[.int .i64 (i64.wrap ((num (#[.int .i64 ((a1).tmod (6:Int)),.int .i64 (i64.wrap ((a1).tdiv (6:Int)))]:Array Value) 0) - (1:Int))),.int .i64 (num (#[.int .i64 ((a1).tmod (6:Int)),.int .i64 (i64.wrap ((a1).tdiv (6:Int)))]:Array Value) 1)]:Array Value)) then (((t.1+1),(t.2++(#[.int .i64 (i64.wrap ((num (#[.int .i64 (i64.wrap ((num (#[.int .i64 ((a1).tmod (6:Int)),.int .i64 (i64.wrap ((a1).tdiv (6:Int)))]:Array Value) 0) - (1:Int))),.int .i64 (num (#[.int .i64 ((a1).tmod (6:Int)),.int .i64 (i64.wrap ((a1).tdiv (6:Int)))]:Array Value) 1)]:Array Value) 0)+(i64.wrap ((6:Int)*(num (#[.int .i64 (i64.wrap ((num (#[.int .i64 ((a1).tmod (6:Int)),.int .i64 (i64.wrap ((a1).tdiv (6:Int)))]:Array Value) 0) - (1:Int))),.int .i64 (num (#[.int .i64 ((a1).tmod (6:Int)),.int .i64 (i64.wrap ((a1).tdiv (6:Int)))]:Array Value) 1)]:Array Value) 1))))),.int .i64 (i64.wrap (num a0 (((3+((a2).toNat*180))+((a1).toNat*5))+4)))]:Array Value)))) else ((t.1,t.2))) else ((t.1,t.2))
theorem Zvn (N:Nat) (a0:Array Value) (a1 a2:Int) (hq0:(decide (0≤a2)&&decide (a2<2))=true) (hq1:(decide (0≤a1)&&decide (a1<36))=true) (t:Nat×Array Value) (hl:t.1≤1000000):Ubp PZ Za9 N (cAt (codeOf Tryz.f123) [1,1,1,1,0,1,0,0]) (pAt (Uaa (codeOf Tryz.f123) [([21],[1000007,181])]).1 [1,1,1,1,0,1,0]) [21] [] 7 181 5 (⟨.a (.g a0 41) :: .a (.i .i64 (a1)) :: .a (.i .i64 (a2)) :: .a (.w 0) :: .a (.u) :: .a (.u) :: .a (.v (.slice none 0 0)) :: .a (.l 5) :: .a (.w 3)::us 4 (.a (.g a0 41) :: .a (.i .i64 (a1)) :: .a (.b ((Zal a0 a1)))::us 3 (.a (.g #[.func (.func 130) #[] #[],.func (.func 131) #[] #[],.func (.func 132) #[] #[],.func (.func 133) #[] #[],.func (.func 134) #[] #[]] 210) :: .a (.g #[.int .u8 (1:Int),.int .u8 (4:Int),.int .u8 (0:Int),.int .u8 (2:Int),.int .u8 (3:Int)] 24) :: .a (.i .i64 (0:Int))::us 34 ([]))),[.row a0 41,.no,.no,.row #[.func (.func 130) #[] #[],.func (.func 131) #[] #[],.func (.func 132) #[] #[],.func (.func 133) #[] #[],.func (.func 134) #[] #[]] 210,.no,.sl .own 0 (#[]:Array Value) 181],[3]⟩:St) (Zm8 t)=some (.more (Znd (Za0 a0 a1 a2 t))):=by
 refine Eq.trans (b:=(bif (decide (0≤a2)&&decide (a2<2)) then (bif (decide (0≤a1)&&decide (a1<36)) then (bif decide ((i64.wrap (num a0 (((3+((a2).toNat*180))+((a1).toNat*5))+4))) > (0:Int)) then (bif (Zas a0 (#[.int .i64 (i64.wrap ((num (#[.int .i64 ((a1).tmod (6:Int)),.int .i64 (i64.wrap ((a1).tdiv (6:Int)))]:Array Value) 0) - (1:Int))),.int .i64 (num (#[.int .i64 ((a1).tmod (6:Int)),.int .i64 (i64.wrap ((a1).tdiv (6:Int)))]:Array Value) 1)]:Array Value)) then (bif (Nat.ble ((t.1+1)*bytesOf PZ 181) 140737488355328) then (some (.more ([.a (.i .i64 (2:Int)),.a (.l 5)],[.sl .own (t.1+1) (t.2++(#[.int .i64 (i64.wrap ((num (#[.int .i64 (i64.wrap ((num (#[.int .i64 ((a1).tmod (6:Int)),.int .i64 (i64.wrap ((a1).tdiv (6:Int)))]:Array Value) 0) - (1:Int))),.int .i64 (num (#[.int .i64 ((a1).tmod (6:Int)),.int .i64 (i64.wrap ((a1).tdiv (6:Int)))]:Array Value) 1)]:Array Value) 0)+(i64.wrap ((6:Int)*(num (#[.int .i64 (i64.wrap ((num (#[.int .i64 ((a1).tmod (6:Int)),.int .i64 (i64.wrap ((a1).tdiv (6:Int)))]:Array Value) 0) - (1:Int))),.int .i64 (num (#[.int .i64 ((a1).tmod (6:Int)),.int .i64 (i64.wrap ((a1).tdiv (6:Int)))]:Array Value) 1)]:Array Value) 1))))),.int .i64 (i64.wrap (num a0 (((3+((a2).toNat*180))+((a1).toNat*5))+4)))]:Array Value)) 181]))) else (none)) else (some (.more ([.a (.i .i64 (2:Int)),.a (.l 5)],[.sl .own t.1 t.2 181])))) else (some (.more ([.a (.i .i64 (2:Int)),.a (.l 5)],[.sl .own t.1 t.2 181])))) else (none)) else (none))) (by kernel_rfl) ?_
 have hb:bytesOf PZ 181≤1000000:=Nat.le_of_ble_eq_true (by kernel_rfl)
 have g2:(Nat.ble ((t.1+1)*bytesOf PZ 181) 140737488355328)=true:=Nat.ble_eq_true_of_le (Nat.le_trans (Nat.mul_le_mul (show _≤1000001 by omega) hb) (by decide))
 simp only [Za0,Zr5,g2,hq0,hq1,Q1]
 rfl
theorem Zul (a0:Array Value) (a1 a2:Int) (t:Nat×Array Value):(Za0 a0 a1 a2 t).1≤t.1+1:=by
 unfold Za0
 repeat (first | exact Nat.le_refl _ | exact Nat.le_succ _ | refine Zmu ?_ ?_)
def Zba (a0:Array Value) (a1 a2:Int) (t:Nat×Array Value):Nat×Array Value:=bif decide ((i64.wrap (num a0 (((3+((a2).toNat*180))+((a1).toNat*5))+0))) > (0:Int)) then (bif (Zas a0 (#[.int .i64 ((a1).tmod (6:Int)),.int .i64 (i64.wrap ((a1).tdiv (6:Int)))]:Array Value)) then (((t.1+1),(t.2++(#[.int .i64 (i64.wrap ((num (#[.int .i64 ((a1).tmod (6:Int)),.int .i64 (i64.wrap ((a1).tdiv (6:Int)))]:Array Value) 0)+(i64.wrap ((6:Int)*(num (#[.int .i64 ((a1).tmod (6:Int)),.int .i64 (i64.wrap ((a1).tdiv (6:Int)))]:Array Value) 1))))),.int .i64 (i64.wrap (num a0 (((3+((a2).toNat*180))+((a1).toNat*5))+0)))]:Array Value)))) else ((t.1,t.2))) else ((t.1,t.2))
theorem Zvl (N:Nat) (a0:Array Value) (a1 a2:Int) (hq0:(decide (0≤a2)&&decide (a2<2))=true) (hq1:(decide (0≤a1)&&decide (a1<36))=true) (t:Nat×Array Value) (hl:t.1≤1000000):Ubp PZ Za9 N (cAt (codeOf Tryz.f123) [1,1,1,1,0,1,0,0]) (pAt (Uaa (codeOf Tryz.f123) [([21],[1000007,181])]).1 [1,1,1,1,0,1,0]) [21] [] 7 181 5 (⟨.a (.g a0 41) :: .a (.i .i64 (a1)) :: .a (.i .i64 (a2)) :: .a (.w 0) :: .a (.u) :: .a (.u) :: .a (.v (.slice none 0 0)) :: .a (.l 5) :: .a (.w 3)::us 4 (.a (.g a0 41) :: .a (.i .i64 (a1)) :: .a (.b ((Zal a0 a1)))::us 3 (.a (.g #[.func (.func 130) #[] #[],.func (.func 131) #[] #[],.func (.func 132) #[] #[],.func (.func 133) #[] #[],.func (.func 134) #[] #[]] 210) :: .a (.g #[.int .u8 (1:Int),.int .u8 (4:Int),.int .u8 (0:Int),.int .u8 (2:Int),.int .u8 (3:Int)] 24) :: .a (.i .i64 (0:Int))::us 34 ([]))),[.row a0 41,.no,.no,.row #[.func (.func 130) #[] #[],.func (.func 131) #[] #[],.func (.func 132) #[] #[],.func (.func 133) #[] #[],.func (.func 134) #[] #[]] 210,.no,.sl .own 0 (#[]:Array Value) 181],[3]⟩:St) (Znd t)=some (.more (Znb (Zba a0 a1 a2 t))):=by
 refine Eq.trans (b:=(bif (decide (0≤a2)&&decide (a2<2)) then (bif (decide (0≤a1)&&decide (a1<36)) then (bif decide ((i64.wrap (num a0 (((3+((a2).toNat*180))+((a1).toNat*5))+0))) > (0:Int)) then (bif (Zas a0 (#[.int .i64 ((a1).tmod (6:Int)),.int .i64 (i64.wrap ((a1).tdiv (6:Int)))]:Array Value)) then (bif (Nat.ble ((t.1+1)*bytesOf PZ 181) 140737488355328) then (some (.more ([.a (.i .i64 (3:Int)),.a (.l 5)],[.sl .own (t.1+1) (t.2++(#[.int .i64 (i64.wrap ((num (#[.int .i64 ((a1).tmod (6:Int)),.int .i64 (i64.wrap ((a1).tdiv (6:Int)))]:Array Value) 0)+(i64.wrap ((6:Int)*(num (#[.int .i64 ((a1).tmod (6:Int)),.int .i64 (i64.wrap ((a1).tdiv (6:Int)))]:Array Value) 1))))),.int .i64 (i64.wrap (num a0 (((3+((a2).toNat*180))+((a1).toNat*5))+0)))]:Array Value)) 181]))) else (none)) else (some (.more ([.a (.i .i64 (3:Int)),.a (.l 5)],[.sl .own t.1 t.2 181])))) else (some (.more ([.a (.i .i64 (3:Int)),.a (.l 5)],[.sl .own t.1 t.2 181])))) else (none)) else (none))) (by kernel_rfl) ?_
 have hb:bytesOf PZ 181≤1000000:=Nat.le_of_ble_eq_true (by kernel_rfl)
 have g2:(Nat.ble ((t.1+1)*bytesOf PZ 181) 140737488355328)=true:=Nat.ble_eq_true_of_le (Nat.le_trans (Nat.mul_le_mul (show _≤1000001 by omega) hb) (by decide))
 simp only [Zba,Zr5,g2,hq0,hq1,Q1]
 rfl
theorem Zuy (a0:Array Value) (a1 a2:Int) (t:Nat×Array Value):(Zba a0 a1 a2 t).1≤t.1+1:=by
 unfold Zba
 repeat (first | exact Nat.le_refl _ | exact Nat.le_succ _ | refine Zmu ?_ ?_)
def Zbs (a0:Array Value) (a1 a2:Int) (t:Nat×Array Value):Nat×Array Value:=bif decide ((i64.wrap (num a0 (((3+((a2).toNat*180))+((a1).toNat*5))+2))) > (0:Int)) then (bif (Zas a0 (#[.int .i64 (i64.wrap ((num (#[.int .i64 ((a1).tmod (6:Int)),.int .i64 (i64.wrap ((a1).tdiv (6:Int)))]:Array Value) 0)+(1:Int))),.int .i64 (num (#[.int .i64 ((a1).tmod (6:Int)),.int .i64 (i64.wrap ((a1).tdiv (6:Int)))]:Array Value) 1)]:Array Value)) then (((t.1+1),(t.2++(#[.int .i64 (i64.wrap ((num (#[.int .i64 (i64.wrap ((num (#[.int .i64 ((a1).tmod (6:Int)),.int .i64 (i64.wrap ((a1).tdiv (6:Int)))]:Array Value) 0)+(1:Int))),.int .i64 (num (#[.int .i64 ((a1).tmod (6:Int)),.int .i64 (i64.wrap ((a1).tdiv (6:Int)))]:Array Value) 1)]:Array Value) 0)+(i64.wrap ((6:Int)*(num (#[.int .i64 (i64.wrap ((num (#[.int .i64 ((a1).tmod (6:Int)),.int .i64 (i64.wrap ((a1).tdiv (6:Int)))]:Array Value) 0)+(1:Int))),.int .i64 (num (#[.int .i64 ((a1).tmod (6:Int)),.int .i64 (i64.wrap ((a1).tdiv (6:Int)))]:Array Value) 1)]:Array Value) 1))))),.int .i64 (i64.wrap (num a0 (((3+((a2).toNat*180))+((a1).toNat*5))+2)))]:Array Value)))) else ((t.1,t.2))) else ((t.1,t.2))
theorem Zuk (N:Nat) (a0:Array Value) (a1 a2:Int) (hq0:(decide (0≤a2)&&decide (a2<2))=true) (hq1:(decide (0≤a1)&&decide (a1<36))=true) (t:Nat×Array Value) (hl:t.1≤1000000):Ubp PZ Za9 N (cAt (codeOf Tryz.f123) [1,1,1,1,0,1,0,0]) (pAt (Uaa (codeOf Tryz.f123) [([21],[1000007,181])]).1 [1,1,1,1,0,1,0]) [21] [] 7 181 5 (⟨.a (.g a0 41) :: .a (.i .i64 (a1)) :: .a (.i .i64 (a2)) :: .a (.w 0) :: .a (.u) :: .a (.u) :: .a (.v (.slice none 0 0)) :: .a (.l 5) :: .a (.w 3)::us 4 (.a (.g a0 41) :: .a (.i .i64 (a1)) :: .a (.b ((Zal a0 a1)))::us 3 (.a (.g #[.func (.func 130) #[] #[],.func (.func 131) #[] #[],.func (.func 132) #[] #[],.func (.func 133) #[] #[],.func (.func 134) #[] #[]] 210) :: .a (.g #[.int .u8 (1:Int),.int .u8 (4:Int),.int .u8 (0:Int),.int .u8 (2:Int),.int .u8 (3:Int)] 24) :: .a (.i .i64 (0:Int))::us 34 ([]))),[.row a0 41,.no,.no,.row #[.func (.func 130) #[] #[],.func (.func 131) #[] #[],.func (.func 132) #[] #[],.func (.func 133) #[] #[],.func (.func 134) #[] #[]] 210,.no,.sl .own 0 (#[]:Array Value) 181],[3]⟩:St) (Znb t)=some (.more (Zmc (Zbs a0 a1 a2 t))):=by
 refine Eq.trans (b:=(bif (decide (0≤a2)&&decide (a2<2)) then (bif (decide (0≤a1)&&decide (a1<36)) then (bif decide ((i64.wrap (num a0 (((3+((a2).toNat*180))+((a1).toNat*5))+2))) > (0:Int)) then (bif (Zas a0 (#[.int .i64 (i64.wrap ((num (#[.int .i64 ((a1).tmod (6:Int)),.int .i64 (i64.wrap ((a1).tdiv (6:Int)))]:Array Value) 0)+(1:Int))),.int .i64 (num (#[.int .i64 ((a1).tmod (6:Int)),.int .i64 (i64.wrap ((a1).tdiv (6:Int)))]:Array Value) 1)]:Array Value)) then (bif (Nat.ble ((t.1+1)*bytesOf PZ 181) 140737488355328) then (some (.more ([.a (.i .i64 (4:Int)),.a (.l 5)],[.sl .own (t.1+1) (t.2++(#[.int .i64 (i64.wrap ((num (#[.int .i64 (i64.wrap ((num (#[.int .i64 ((a1).tmod (6:Int)),.int .i64 (i64.wrap ((a1).tdiv (6:Int)))]:Array Value) 0)+(1:Int))),.int .i64 (num (#[.int .i64 ((a1).tmod (6:Int)),.int .i64 (i64.wrap ((a1).tdiv (6:Int)))]:Array Value) 1)]:Array Value) 0)+(i64.wrap ((6:Int)*(num (#[.int .i64 (i64.wrap ((num (#[.int .i64 ((a1).tmod (6:Int)),.int .i64 (i64.wrap ((a1).tdiv (6:Int)))]:Array Value) 0)+(1:Int))),.int .i64 (num (#[.int .i64 ((a1).tmod (6:Int)),.int .i64 (i64.wrap ((a1).tdiv (6:Int)))]:Array Value) 1)]:Array Value) 1))))),.int .i64 (i64.wrap (num a0 (((3+((a2).toNat*180))+((a1).toNat*5))+2)))]:Array Value)) 181]))) else (none)) else (some (.more ([.a (.i .i64 (4:Int)),.a (.l 5)],[.sl .own t.1 t.2 181])))) else (some (.more ([.a (.i .i64 (4:Int)),.a (.l 5)],[.sl .own t.1 t.2 181])))) else (none)) else (none))) (by kernel_rfl) ?_
 have hb:bytesOf PZ 181≤1000000:=Nat.le_of_ble_eq_true (by kernel_rfl)
 have g2:(Nat.ble ((t.1+1)*bytesOf PZ 181) 140737488355328)=true:=Nat.ble_eq_true_of_le (Nat.le_trans (Nat.mul_le_mul (show _≤1000001 by omega) hb) (by decide))
 simp only [Zbs,Zr5,g2,hq0,hq1,Q1]
 rfl
theorem Zvi (a0:Array Value) (a1 a2:Int) (t:Nat×Array Value):(Zbs a0 a1 a2 t).1≤t.1+1:=by
 unfold Zbs
 repeat (first | exact Nat.le_refl _ | exact Nat.le_succ _ | refine Zmu ?_ ?_)
def Zc0 (a0:Array Value) (a1 a2:Int) (t:Nat×Array Value):Nat×Array Value:=bif decide ((i64.wrap (num a0 (((3+((a2).toNat*180))+((a1).toNat*5))+3))) > (0:Int)) then (bif (Zas a0 (#[.int .i64 (num (#[.int .i64 ((a1).tmod (6:Int)),.int .i64 (i64.wrap ((a1).tdiv (6:Int)))]:Array Value) 0),.int .i64 (i64.wrap ((num (#[.int .i64 ((a1).tmod (6:Int)),.int .i64 (i64.wrap ((a1).tdiv (6:Int)))]:Array Value) 1)+(1:Int)))]:Array Value)) then (((t.1+1),(t.2++(#[.int .i64 (i64.wrap ((num (#[.int .i64 (num (#[.int .i64 ((a1).tmod (6:Int)),.int .i64 (i64.wrap ((a1).tdiv (6:Int)))]:Array Value) 0),.int .i64 (i64.wrap ((num (#[.int .i64 ((a1).tmod (6:Int)),.int .i64 (i64.wrap ((a1).tdiv (6:Int)))]:Array Value) 1)+(1:Int)))]:Array Value) 0)+(i64.wrap ((6:Int)*(num (#[.int .i64 (num (#[.int .i64 ((a1).tmod (6:Int)),.int .i64 (i64.wrap ((a1).tdiv (6:Int)))]:Array Value) 0),.int .i64 (i64.wrap ((num (#[.int .i64 ((a1).tmod (6:Int)),.int .i64 (i64.wrap ((a1).tdiv (6:Int)))]:Array Value) 1)+(1:Int)))]:Array Value) 1))))),.int .i64 (i64.wrap (num a0 (((3+((a2).toNat*180))+((a1).toNat*5))+3)))]:Array Value)))) else ((t.1,t.2))) else ((t.1,t.2))
theorem Zvj (N:Nat) (a0:Array Value) (a1 a2:Int) (hq0:(decide (0≤a2)&&decide (a2<2))=true) (hq1:(decide (0≤a1)&&decide (a1<36))=true) (t:Nat×Array Value) (hl:t.1≤1000000):Ubp PZ Za9 N (cAt (codeOf Tryz.f123) [1,1,1,1,0,1,0,0]) (pAt (Uaa (codeOf Tryz.f123) [([21],[1000007,181])]).1 [1,1,1,1,0,1,0]) [21] [] 7 181 5 (⟨.a (.g a0 41) :: .a (.i .i64 (a1)) :: .a (.i .i64 (a2)) :: .a (.w 0) :: .a (.u) :: .a (.u) :: .a (.v (.slice none 0 0)) :: .a (.l 5) :: .a (.w 3)::us 4 (.a (.g a0 41) :: .a (.i .i64 (a1)) :: .a (.b ((Zal a0 a1)))::us 3 (.a (.g #[.func (.func 130) #[] #[],.func (.func 131) #[] #[],.func (.func 132) #[] #[],.func (.func 133) #[] #[],.func (.func 134) #[] #[]] 210) :: .a (.g #[.int .u8 (1:Int),.int .u8 (4:Int),.int .u8 (0:Int),.int .u8 (2:Int),.int .u8 (3:Int)] 24) :: .a (.i .i64 (0:Int))::us 34 ([]))),[.row a0 41,.no,.no,.row #[.func (.func 130) #[] #[],.func (.func 131) #[] #[],.func (.func 132) #[] #[],.func (.func 133) #[] #[],.func (.func 134) #[] #[]] 210,.no,.sl .own 0 (#[]:Array Value) 181],[3]⟩:St) (Zmc t)=some (.more (Zf9 (Zc0 a0 a1 a2 t))):=by
 refine Eq.trans (b:=(bif (decide (0≤a2)&&decide (a2<2)) then (bif (decide (0≤a1)&&decide (a1<36)) then (bif decide ((i64.wrap (num a0 (((3+((a2).toNat*180))+((a1).toNat*5))+3))) > (0:Int)) then (bif (Zas a0 (#[.int .i64 (num (#[.int .i64 ((a1).tmod (6:Int)),.int .i64 (i64.wrap ((a1).tdiv (6:Int)))]:Array Value) 0),.int .i64 (i64.wrap ((num (#[.int .i64 ((a1).tmod (6:Int)),.int .i64 (i64.wrap ((a1).tdiv (6:Int)))]:Array Value) 1)+(1:Int)))]:Array Value)) then (bif (Nat.ble ((t.1+1)*bytesOf PZ 181) 140737488355328) then (some (.more ([.a (.i .i64 (5:Int)),.a (.l 5)],[.sl .own (t.1+1) (t.2++(#[.int .i64 (i64.wrap ((num (#[.int .i64 (num (#[.int .i64 ((a1).tmod (6:Int)),.int .i64 (i64.wrap ((a1).tdiv (6:Int)))]:Array Value) 0),.int .i64 (i64.wrap ((num (#[.int .i64 ((a1).tmod (6:Int)),.int .i64 (i64.wrap ((a1).tdiv (6:Int)))]:Array Value) 1)+(1:Int)))]:Array Value) 0)+(i64.wrap ((6:Int)*(num (#[.int .i64 (num (#[.int .i64 ((a1).tmod (6:Int)),.int .i64 (i64.wrap ((a1).tdiv (6:Int)))]:Array Value) 0),.int .i64 (i64.wrap ((num (#[.int .i64 ((a1).tmod (6:Int)),.int .i64 (i64.wrap ((a1).tdiv (6:Int)))]:Array Value) 1)+(1:Int)))]:Array Value) 1))))),.int .i64 (i64.wrap (num a0 (((3+((a2).toNat*180))+((a1).toNat*5))+3)))]:Array Value)) 181]))) else (none)) else (some (.more ([.a (.i .i64 (5:Int)),.a (.l 5)],[.sl .own t.1 t.2 181])))) else (some (.more ([.a (.i .i64 (5:Int)),.a (.l 5)],[.sl .own t.1 t.2 181])))) else (none)) else (none))) (by kernel_rfl) ?_
 have hb:bytesOf PZ 181≤1000000:=Nat.le_of_ble_eq_true (by kernel_rfl)
 have g2:(Nat.ble ((t.1+1)*bytesOf PZ 181) 140737488355328)=true:=Nat.ble_eq_true_of_le (Nat.le_trans (Nat.mul_le_mul (show _≤1000001 by omega) hb) (by decide))
 simp only [Zc0,Zr5,g2,hq0,hq1,Q1]
 rfl
theorem Zu6 (a0:Array Value) (a1 a2:Int) (t:Nat×Array Value):(Zc0 a0 a1 a2 t).1≤t.1+1:=by
 unfold Zc0
 repeat (first | exact Nat.le_refl _ | exact Nat.le_succ _ | refine Zmu ?_ ?_)
theorem Zug (N:Nat) (a0:Array Value) (a1 a2:Int) (hq0:(decide (0≤a2)&&decide (a2<2))=true) (hq1:(decide (0≤a1)&&decide (a1<36))=true) (t:Nat×Array Value):Ubp PZ Za9 N (cAt (codeOf Tryz.f123) [1,1,1,1,0,1,0,0]) (pAt (Uaa (codeOf Tryz.f123) [([21],[1000007,181])]).1 [1,1,1,1,0,1,0]) [21] [] 7 181 5 (⟨.a (.g a0 41) :: .a (.i .i64 (a1)) :: .a (.i .i64 (a2)) :: .a (.w 0) :: .a (.u) :: .a (.u) :: .a (.v (.slice none 0 0)) :: .a (.l 5) :: .a (.w 3)::us 4 (.a (.g a0 41) :: .a (.i .i64 (a1)) :: .a (.b ((Zal a0 a1)))::us 3 (.a (.g #[.func (.func 130) #[] #[],.func (.func 131) #[] #[],.func (.func 132) #[] #[],.func (.func 133) #[] #[],.func (.func 134) #[] #[]] 210) :: .a (.g #[.int .u8 (1:Int),.int .u8 (4:Int),.int .u8 (0:Int),.int .u8 (2:Int),.int .u8 (3:Int)] 24) :: .a (.i .i64 (0:Int))::us 34 ([]))),[.row a0 41,.no,.no,.row #[.func (.func 130) #[] #[],.func (.func 131) #[] #[],.func (.func 132) #[] #[],.func (.func 133) #[] #[],.func (.func 134) #[] #[]] 210,.no,.sl .own 0 (#[]:Array Value) 181],[3]⟩:St) (Zf9 t)=some (.done ((.exit 0),Zf9 t)):=by kernel_rfl
def Zc2 (a0:Array Value) (a1 a2:Int):Nat×Array Value:=(Zc0 a0 a1 a2 (Zbs a0 a1 a2 (Zba a0 a1 a2 (Za0 a0 a1 a2 (Zat a0 a1 a2 (0,(#[]:Array Value)))))))
theorem Zyy (N:Nat) (hN:5<N) (a0:Array Value) (a1 a2:Int) (hq0:(decide (0≤a2)&&decide (a2<2))=true) (hq1:(decide (0≤a1)&&decide (a1<36))=true):Uac (Ubp PZ Za9 N (cAt (codeOf Tryz.f123) [1,1,1,1,0,1,0,0]) (pAt (Uaa (codeOf Tryz.f123) [([21],[1000007,181])]).1 [1,1,1,1,0,1,0]) [21] [] 7 181 5 (⟨.a (.g a0 41) :: .a (.i .i64 (a1)) :: .a (.i .i64 (a2)) :: .a (.w 0) :: .a (.u) :: .a (.u) :: .a (.v (.slice none 0 0)) :: .a (.l 5) :: .a (.w 3)::us 4 (.a (.g a0 41) :: .a (.i .i64 (a1)) :: .a (.b ((Zal a0 a1)))::us 3 (.a (.g #[.func (.func 130) #[] #[],.func (.func 131) #[] #[],.func (.func 132) #[] #[],.func (.func 133) #[] #[],.func (.func 134) #[] #[]] 210) :: .a (.g #[.int .u8 (1:Int),.int .u8 (4:Int),.int .u8 (0:Int),.int .u8 (2:Int),.int .u8 (3:Int)] 24) :: .a (.i .i64 (0:Int))::us 34 ([]))),[.row a0 41,.no,.no,.row #[.func (.func 130) #[] #[],.func (.func 131) #[] #[],.func (.func 132) #[] #[],.func (.func 133) #[] #[],.func (.func 134) #[] #[]] 210,.no,.sl .own 0 (#[]:Array Value) 181],[3]⟩:St)) N (Zi4 (0,(#[]:Array Value)))=some ((.exit 0),Zf9 (Zc2 a0 a1 a2)):=by
 have l0:((0,(#[]:Array Value)):Nat×Array Value).1≤0:=Nat.le_refl _
 have l1:=Zvv a0 a1 a2 (0,(#[]:Array Value))
 have l2:=Zul a0 a1 a2 (Zat a0 a1 a2 (0,(#[]:Array Value)))
 have l3:=Zuy a0 a1 a2 (Za0 a0 a1 a2 (Zat a0 a1 a2 (0,(#[]:Array Value))))
 have l4:=Zvi a0 a1 a2 (Zba a0 a1 a2 (Za0 a0 a1 a2 (Zat a0 a1 a2 (0,(#[]:Array Value)))))
 have l5:=Zu6 a0 a1 a2 (Zbs a0 a1 a2 (Zba a0 a1 a2 (Za0 a0 a1 a2 (Zat a0 a1 a2 (0,(#[]:Array Value))))))
 have q0:=Zvq N a0 a1 a2 hq0 hq1 (0,(#[]:Array Value)) (by omega)
 have q1:=Zvn N a0 a1 a2 hq0 hq1 (Zat a0 a1 a2 (0,(#[]:Array Value))) (by omega)
 have q2:=Zvl N a0 a1 a2 hq0 hq1 (Za0 a0 a1 a2 (Zat a0 a1 a2 (0,(#[]:Array Value)))) (by omega)
 have q3:=Zuk N a0 a1 a2 hq0 hq1 (Zba a0 a1 a2 (Za0 a0 a1 a2 (Zat a0 a1 a2 (0,(#[]:Array Value))))) (by omega)
 have q4:=Zvj N a0 a1 a2 hq0 hq1 (Zbs a0 a1 a2 (Zba a0 a1 a2 (Za0 a0 a1 a2 (Zat a0 a1 a2 (0,(#[]:Array Value)))))) (by omega)
 have q5:=Zug N a0 a1 a2 hq0 hq1 (Zc0 a0 a1 a2 (Zbs a0 a1 a2 (Zba a0 a1 a2 (Za0 a0 a1 a2 (Zat a0 a1 a2 (0,(#[]:Array Value)))))))
 unfold Zc2
 obtain ⟨N0,e0⟩:∃ N0,N=N0+5+1:=⟨N - 5 - 1,by omega⟩
 generalize hf:Ubp PZ Za9 N (cAt (codeOf Tryz.f123) [1,1,1,1,0,1,0,0]) (pAt (Uaa (codeOf Tryz.f123) [([21],[1000007,181])]).1 [1,1,1,1,0,1,0]) [21] [] 7 181 5 (⟨.a (.g a0 41) :: .a (.i .i64 (a1)) :: .a (.i .i64 (a2)) :: .a (.w 0) :: .a (.u) :: .a (.u) :: .a (.v (.slice none 0 0)) :: .a (.l 5) :: .a (.w 3)::us 4 (.a (.g a0 41) :: .a (.i .i64 (a1)) :: .a (.b ((Zal a0 a1)))::us 3 (.a (.g #[.func (.func 130) #[] #[],.func (.func 131) #[] #[],.func (.func 132) #[] #[],.func (.func 133) #[] #[],.func (.func 134) #[] #[]] 210) :: .a (.g #[.int .u8 (1:Int),.int .u8 (4:Int),.int .u8 (0:Int),.int .u8 (2:Int),.int .u8 (3:Int)] 24) :: .a (.i .i64 (0:Int))::us 34 ([]))),[.row a0 41,.no,.no,.row #[.func (.func 130) #[] #[],.func (.func 131) #[] #[],.func (.func 132) #[] #[],.func (.func 133) #[] #[],.func (.func 134) #[] #[]] 210,.no,.sl .own 0 (#[]:Array Value) 181],[3]⟩:St)=f at q0 q1 q2 q3 q4 q5⊢
 rw [e0]
 refine (Zmm q0 (N0+5)).trans ?_
 refine (Zmm q1 (N0+4)).trans ?_
 refine (Zmm q2 (N0+3)).trans ?_
 refine (Zmm q3 (N0+2)).trans ?_
 refine (Zmm q4 (N0+1)).trans ?_
 exact Yd7 q5 N0
theorem Zzi (N:Nat) (hN:5<N) (a0:Array Value) (a1 a2:Int) (hq0:(decide (0≤a2)&&decide (a2<2))=true) (hq1:(decide (0≤a1)&&decide (a1<36))=true):Uag (Uac (Ubp PZ Za9 N (cAt (codeOf Tryz.f123) [1,1,1,1,0,1,0,0]) (pAt (Uaa (codeOf Tryz.f123) [([21],[1000007,181])]).1 [1,1,1,1,0,1,0]) [21] [] 7 181 5 (⟨.a (.g a0 41) :: .a (.i .i64 (a1)) :: .a (.i .i64 (a2)) :: .a (.w 0) :: .a (.u) :: .a (.u) :: .a (.v (.slice none 0 0)) :: .a (.l 5) :: .a (.w 3)::us 4 (.a (.g a0 41) :: .a (.i .i64 (a1)) :: .a (.b ((Zal a0 a1)))::us 3 (.a (.g #[.func (.func 130) #[] #[],.func (.func 131) #[] #[],.func (.func 132) #[] #[],.func (.func 133) #[] #[],.func (.func 134) #[] #[]] 210) :: .a (.g #[.int .u8 (1:Int),.int .u8 (4:Int),.int .u8 (0:Int),.int .u8 (2:Int),.int .u8 (3:Int)] 24) :: .a (.i .i64 (0:Int))::us 34 ([]))),[.row a0 41,.no,.no,.row #[.func (.func 130) #[] #[],.func (.func 131) #[] #[],.func (.func 132) #[] #[],.func (.func 133) #[] #[],.func (.func 134) #[] #[]] 210,.no,.sl .own 0 (#[]:Array Value) 181],[3]⟩:St)) N ([.a (.i .i64 (0:Int)),.a (.l 5)],[.sl .own 0 (#[]:Array Value) 181])) (fun e s=>(Uab 0 (kSeq (veC PZ Za9 N (cAt (codeOf Tryz.f123) [1,1,1,1,1]) (pAt (Uaa (codeOf Tryz.f123) [([21],[1000007,181])]).1 [1,1,1,1,1]) (SV×Eff×Bool)) (finK PZ [] [.tmp 6]))) e (left (writes (cAt (codeOf Tryz.f123) [1,1,1,1,0,1,0,0])) [21,7] [5] (⟨.a (.g a0 41) :: .a (.i .i64 (a1)) :: .a (.i .i64 (a2)) :: .a (.w 0) :: .a (.u) :: .a (.u) :: .a (.v (.slice none 0 0)) :: .a (.l 5) :: .a (.w 3)::us 4 (.a (.g a0 41) :: .a (.i .i64 (a1)) :: .a (.b ((Zal a0 a1)))::us 3 (.a (.g #[.func (.func 130) #[] #[],.func (.func 131) #[] #[],.func (.func 132) #[] #[],.func (.func 133) #[] #[],.func (.func 134) #[] #[]] 210) :: .a (.g #[.int .u8 (1:Int),.int .u8 (4:Int),.int .u8 (0:Int),.int .u8 (2:Int),.int .u8 (3:Int)] 24) :: .a (.i .i64 (0:Int))::us 34 ([]))),[.row a0 41,.no,.no,.row #[.func (.func 130) #[] #[],.func (.func 131) #[] #[],.func (.func 132) #[] #[],.func (.func 133) #[] #[],.func (.func 134) #[] #[]] 210,.no,.sl .own 0 (#[]:Array Value) 181],[3]⟩:St) s))=(some (.a .x,.newS none (Zc2 a0 a1 a2).1 (Zc2 a0 a1 a2).2 181,true)):=by
 have e0:(([.a (.i .i64 (0:Int)),.a (.l 5)],[.sl .own 0 (#[]:Array Value) 181]):LS)=Zi4 (0,(#[]:Array Value)):=rfl
 rw [e0,Zyy N hN a0 a1 a2 hq0 hq1 ]
 change _=_
 kernel_rfl
theorem Zwc (N:Nat) (hN:5<N) (a0:Array Value) (a1 a2:Int) (hq0:(decide (0≤a2)&&decide (a2<2))=true) (hq1:(decide (0≤a1)&&decide (a1<36))=true):ansV PZ Za9 N Tryz.f123 [([21],[1000007,181])] [.g a0 41,.i .i64 (a1),.i .i64 (a2)] []=(bif decide (0≤a1) then (bif (Zal a0 a1) then (some (.a .x,.newS none 1 (#[.int .i64 (a1),.int .i64 (12:Int)]:Array Value) 181,true))
   else (some (.a .x,.newS none (Zc2 a0 a1 a2).1 (Zc2 a0 a1 a2).2 181,true)))
  else (none)):=by
 refine Eq.trans (b:=(bif decide (0≤a1) then (bif (Zal a0 a1) then (some (.a .x,.newS none 1 (#[.int .i64 (a1),.int .i64 (12:Int)]:Array Value) 181,true))
   else (Uag (Uac (Ubp PZ Za9 N (cAt (codeOf Tryz.f123) [1,1,1,1,0,1,0,0]) (pAt (Uaa (codeOf Tryz.f123) [([21],[1000007,181])]).1 [1,1,1,1,0,1,0]) [21] [] 7 181 5 (⟨.a (.g a0 41) :: .a (.i .i64 (a1)) :: .a (.i .i64 (a2)) :: .a (.w 0) :: .a (.u) :: .a (.u) :: .a (.v (.slice none 0 0)) :: .a (.l 5) :: .a (.w 3)::us 4 (.a (.g a0 41) :: .a (.i .i64 (a1)) :: .a (.b ((Zal a0 a1)))::us 3 (.a (.g #[.func (.func 130) #[] #[],.func (.func 131) #[] #[],.func (.func 132) #[] #[],.func (.func 133) #[] #[],.func (.func 134) #[] #[]] 210) :: .a (.g #[.int .u8 (1:Int),.int .u8 (4:Int),.int .u8 (0:Int),.int .u8 (2:Int),.int .u8 (3:Int)] 24) :: .a (.i .i64 (0:Int))::us 34 ([]))),[.row a0 41,.no,.no,.row #[.func (.func 130) #[] #[],.func (.func 131) #[] #[],.func (.func 132) #[] #[],.func (.func 133) #[] #[],.func (.func 134) #[] #[]] 210,.no,.sl .own 0 (#[]:Array Value) 181],[3]⟩:St)) N ([.a (.i .i64 (0:Int)),.a (.l 5)],[.sl .own 0 (#[]:Array Value) 181])) (fun e s=>(Uab 0 (kSeq (veC PZ Za9 N (cAt (codeOf Tryz.f123) [1,1,1,1,1]) (pAt (Uaa (codeOf Tryz.f123) [([21],[1000007,181])]).1 [1,1,1,1,1]) (SV×Eff×Bool)) (finK PZ [] [.tmp 6]))) e (left (writes (cAt (codeOf Tryz.f123) [1,1,1,1,0,1,0,0])) [21,7] [5] (⟨.a (.g a0 41) :: .a (.i .i64 (a1)) :: .a (.i .i64 (a2)) :: .a (.w 0) :: .a (.u) :: .a (.u) :: .a (.v (.slice none 0 0)) :: .a (.l 5) :: .a (.w 3)::us 4 (.a (.g a0 41) :: .a (.i .i64 (a1)) :: .a (.b ((Zal a0 a1)))::us 3 (.a (.g #[.func (.func 130) #[] #[],.func (.func 131) #[] #[],.func (.func 132) #[] #[],.func (.func 133) #[] #[],.func (.func 134) #[] #[]] 210) :: .a (.g #[.int .u8 (1:Int),.int .u8 (4:Int),.int .u8 (0:Int),.int .u8 (2:Int),.int .u8 (3:Int)] 24) :: .a (.i .i64 (0:Int))::us 34 ([]))),[.row a0 41,.no,.no,.row #[.func (.func 130) #[] #[],.func (.func 131) #[] #[],.func (.func 132) #[] #[],.func (.func 133) #[] #[],.func (.func 134) #[] #[]] 210,.no,.sl .own 0 (#[]:Array Value) 181],[3]⟩:St) s))))
  else (none))) (by kernel_rfl) ?_
 simp only [Zzi N hN a0 a1 a2 hq0 hq1 ]
theorem sf_F0 (S:Array Value) (c t:Int) (q:Nat×Array Value):Zat S c t q=stF S t c 1 q:=rfl
theorem sf_F1 (S:Array Value) (c t:Int) (q:Nat×Array Value):Za0 S c t q=stF S t c 4 q:=rfl
theorem sf_F2 (S:Array Value) (c t:Int) (q:Nat×Array Value):Zba S c t q=stF S t c 0 q:=rfl
theorem sf_F3 (S:Array Value) (c t:Int) (q:Nat×Array Value):Zbs S c t q=stF S t c 2 q:=rfl
theorem sf_F4 (S:Array Value) (c t:Int) (q:Nat×Array Value):Zc0 S c t q=stF S t c 3 q:=rfl
theorem sf_v {S:Array Value} (h0:1≤num S 0∧num S 0≤6∧1≤num S 1∧num S 1≤6) {k:Nat} (hk:k<36) (hi:inC (num S 0) (num S 1) k=true) (t:Int) :
  Zc2 S (k:Int) t=((Uba S t k 1++Uba S t k 4++Uba S t k 0++Uba S t k 2++Uba S t k 3).length,Ubk (Uba S t k 1++Uba S t k 4++Uba S t k 0++Uba S t k 2++Uba S t k 3)):=by
 unfold Zc2
 rw [sf_F0,sf_F1,sf_F2,sf_F3,sf_F4,show ((0,(#[]:Array Value)):Nat×Array Value)=(([]:List (Int×Int)).length,Ubk []) from rfl,Yb8 h0 hk hi t (by omega),Yb8 h0 hk hi t (by omega),Yb8 h0 hk hi t (by omega),Yb8 h0 hk hi t (by omega),Yb8 h0 hk hi t (by omega),List.nil_append]
theorem Zvp (a0:Array Value) (a1 a2:Int) (h_a0:WT PZ 41 a0) (h_a1:i64.min≤a1∧a1≤i64.max) (h_a2:i64.min≤a2∧a2≤i64.max) (hg:((okS a0&&(Zaz a1 a0&&(decide (0≤a2)&&decide (a2<2)))))=true):ansV PZ Za9 1000 Tryz.f123 [([21],[1000007,181])] [.g a0 41,.i .i64 (a1),.i .i64 (a2)] []=some (.a .x,.newS none (stL a0 a2 a1.toNat).length (Ubk (stL a0 a2 a1.toNat)) 181,true):=by
 rw [Q7,Q7] at hg
 obtain ⟨hok,his,ht⟩:=hg
 have h0:=Zs0 hok
 obtain ⟨c0,c1⟩:=Ylf his
 obtain ⟨k,rfl⟩:∃ k:Nat,a1=(k:Int):=⟨a1.toNat,by omega⟩
 have hk:k<36:=by omega
 rw [Yh6 h_a0 hk] at his
 have hc:(decide (0≤(k:Int))&&decide ((k:Int)<36))=true:=by rw [Q3 c0,Q3 (show (k:Int)<36 by omega)];rfl
 refine (Zwc 1000 (by decide) a0 (k:Int) a2 ht hc).trans ?_
 rw [sf_v h0 hk his,Q9,Q3 c0]
 unfold stL
 cases Zal a0 (k:Int)<;>rfl
def Zjx:Con:=fun args h=>match args,h with
 | [.g a0 41,.i .i64 a1,.i .i64 a2],[]=>some (.a .x,.newS none (stL a0 a2 a1.toNat).length (Ubk (stL a0 a2 a1.toNat)) 181,(okS a0&&(Zaz a1 a0&&(decide (0≤a2)&&decide (a2<2)))))
 | _,_=>none
theorem Zta:EntX PZ 123:=Zag (fn:=Tryz.f123) (by kernel_rfl) (by kernel_rfl) (by kernel_rfl)
theorem Zzg:Uad mn PZ 123 Zjx:=(Zai (N:=1000) (by kernel_rfl) (mkΓ_consX (Zad Zua) Zo0 (mkΓ_consX (Zad Zp9) Znc (mkΓ_consX (Zad Zsn) Znp (mkΓ_consX (Zad Zt8) Zo2 (mkΓ_consX (Zad Ydi) Zx5 (mkΓ_consX (Zad Zyl) Zq3 (mkΓ_consX (Zad Zyb) Zq6 (mkΓ_consX (Zad Zvw) Zqr (mkΓ_consX (Zad Zx7) Zsq (mkΓ_consX (Zad Zu9) Zq0 (mkΓ_consX (Zad Zwg) Zrj mkΓ_nilX))))))))))) (fn:=Tryz.f123) (by kernel_rfl) (by kernel_rfl) [([21],[1000007,181])]).of (by
 intro ρ h w args vals r e hA hH hr
 unfold Zjx at hr
 split at hr
 ·rename_i a0 a1 a2
  obtain ⟨rfl,rfl,hg2⟩:=BQi hr
  exact Zvp a0 a1 a2 (hA.wt 0 rfl) (hA.rng 1 rfl) (hA.rng 2 rfl) hg2
 ·cases hr)
theorem Ydx {C:Array Value} {b m o:Nat} (ho:o<m):num (C.extract b (b+m)) o=num C (b+o):=by
 have e2:(C.extract b (b+m))[o]? = C[b+o]? := by
  simp only [Array.getElem?_extract]
  by_cases h:b+o<C.size
  ·rw [if_pos (by omega)]
  ·rw [if_neg (by omega),Array.getElem?_eq_none (by omega)]
 unfold num;rw [e2]
def rdSt (n:Nat) (C:Array Value):List (Int×Int):=(List.range n).map fun k=>(num C (k*2+0),num C (k*2+1))
def okSt (n:Nat) (C:Array Value):Bool:=(List.range n).all fun k=>decide (0≤num C (k*2+0))&&decide (num C (k*2+0)<36)
def Ub8 (L:Array Value) (c:Int):Int:=num L (c.toNat*1)
def sumF (L:Array Value) (s:Int) (p:Int×Int):Int:=i64.wrap (s+i64.wrap (p.2*Ub8 L p.1))
def sumL (l:List (Int×Int)) (L:Array Value):Int:=l.foldl (sumF L) 0
theorem okSt_at {n:Nat} {C:Array Value} (h:okSt n C=true) {k:Nat} (hk:k<n):(decide (0≤num C (k*2+0))&&decide (num C (k*2+0)<36))=true:=List.all_eq_true.1 h k (List.mem_range.2 hk)
theorem rd_fold {T:Type} (f:T→Int×Int→T) (t:T) (n:Nat) (C:Array Value):folds (fun s k=>f s (num C (k*2+0),num C (k*2+1))) t n=(rdSt n C).foldl f t:=by
 unfold folds rdSt;rw [List.foldl_map]
theorem Yd3:∀ (l:List (Int×Int)) (k:Nat) (p:Int×Int),l[k]? = some p→num (Ubk l) (k*2+0)=p.1∧num (Ubk l) (k*2+1)=p.2
 | [],k,p,h=>by simp at h
 | q::r,k,p,h=>by
  have e:Ubk (q::r)=#[.int .i64 q.1,.int .i64 q.2]++Ubk r:=by rw [show q::r=[q]++r from rfl,Yix];rfl
  cases k with
  | zero=>
   simp only [List.getElem?_cons_zero,Q8] at h
   subst h
   rw [e];unfold num
   constructor<;>rw [Array.getElem?_append_left (by simp)]<;>rfl
  | succ k=>
   have:=Yd3 r k p (by simpa using h)
   rw [e]
   have s:∀ o,num (#[Value.int .i64 q.1,.int .i64 q.2]++Ubk r) (o+2)=num (Ubk r) o:=fun o=>by
    unfold num;rw [Array.getElem?_append_right (by simp)];rfl
   rw [show (k+1)*2+0=(k*2+0)+2 by omega,show (k+1)*2+1=(k*2+1)+2 by omega,s,s]
   exact this
theorem rd_enc (l:List (Int×Int)):rdSt l.length (Ubk l)=l:=by
 refine List.ext_getElem? fun k=> ?_
 unfold rdSt
 rw [List.getElem?_map]
 by_cases hk:k<l.length
 ·rw [List.getElem?_range hk,List.getElem?_eq_getElem hk]
  obtain ⟨h1,h2⟩:=Yd3 l k l[k] (List.getElem?_eq_getElem hk)
  simp only [Option.map_some,h1,h2]
 ·rw [List.getElem?_eq_none (by simpa using hk),List.getElem?_eq_none (by omega)];rfl
theorem ok_enc {l:List (Int×Int)} (h:∀ p ∈ l,0≤p.1∧p.1<36):okSt l.length (Ubk l)=true:=by
 unfold okSt
 refine List.all_eq_true.2 fun k hk=> ?_
 have hk:=List.mem_range.1 hk
 obtain ⟨h1,h2⟩:=Yd3 l k l[k] (List.getElem?_eq_getElem hk)
 have:=h l[k] (List.getElem_mem hk)
 rw [h1,Q3 this.1,Q3 this.2];rfl
def Zew (a1:Array Value) (b_a0:Option (Option Addr)) (n_a0:Nat) (a0:Array Value):St:=(⟨.a (.l 0) :: .a (.g a1 142) :: .a (.u) :: .a (.w 1) :: .a (.i .i64 (0:Int)) :: .a (.i .i64 (0:Int)) :: .a (.u) :: .a (.u) :: .a (.l 0) :: .a (.i .i64 (n_a0:Int)) :: .a (.i .i64 (0:Int))::us 14 ([]),[.sl (.came b_a0) n_a0 a0 181,.row a1 142,.no],[]⟩:St)
def Zft:Int×Int→LS
 | (y0_5,y0_10)=>([.a (.i .i64 (y0_5)),.a (.i .i64 (y0_10))],[])
def Zk0:Int×Int→Exit×LS
 | t=>((.exit 0),Zft t)
def Zc3 (P : Program) (a1 : Array Value) (b_a0 : Option (Option Addr)) (n_a0 : Nat) (a0 : Array Value) : Int × Int → Option (Stp (Int × Int) (Int × Int))
 | (y0_5, y0_10) => bif decide (y0_10 < (n_a0 : Int)) then (bif (decide (0 ≤ y0_10) && decide (y0_10 < (n_a0 : Int))) then (bif (decide (0 ≤ (num (a0.extract ((y0_10).toNat * 2) (((y0_10).toNat * 2) + 2)) 0)) && decide ((num (a0.extract ((y0_10).toNat * 2) (((y0_10).toNat * 2) + 2)) 0) < 36)) then (some (.more ((i64.wrap (y0_5 + (i64.wrap ((num (a0.extract ((y0_10).toNat * 2) (((y0_10).toNat * 2) + 2)) 1) * (num a1 ((num (a0.extract ((y0_10).toNat * 2) (((y0_10).toNat * 2) + 2)) 0).toNat * 1)))))), (i64.wrap (y0_10 + (1 : Int))))))
    else (none))
   else (none))
  else (some (.done (y0_5, y0_10)))
theorem Zz1 (N:Nat) (a1:Array Value) (b_a0:Option (Option Addr)) (n_a0:Nat) (a0:Array Value):∀ t:Int×Int,Uai PZ (mkΓ []) N (cAt (codeOf Tryz.f80) [1,1,0,1,0,0]) (pAt (Uaa (codeOf Tryz.f80) [([5,10],[])]).1 [1,1,0,1,0]) [5,10] [] (Zew a1 b_a0 n_a0 a0) (Zft t)=mapS Zft Zk0 (Zc3 PZ a1 b_a0 n_a0 a0 t):=by
 rintro ⟨y0_5,y0_10⟩
 refine Eq.trans (b:=(bif decide (y0_10<(n_a0:Int)) then (bif (decide (0≤y0_10)&&decide (y0_10<(n_a0:Int))) then (bif (decide (0≤(num (a0.extract ((y0_10).toNat*2) (((y0_10).toNat*2)+2)) 0))&&decide ((num (a0.extract ((y0_10).toNat*2) (((y0_10).toNat*2)+2)) 0)<36)) then (some (.more ([.a (.i .i64 (i64.wrap (y0_5+(i64.wrap ((num (a0.extract ((y0_10).toNat*2) (((y0_10).toNat*2)+2)) 1)*(num a1 ((num (a0.extract ((y0_10).toNat*2) (((y0_10).toNat*2)+2)) 0).toNat*1))))))),.a (.i .i64 (i64.wrap (y0_10+(1:Int))))],[])))
    else (none))
   else (none))
  else (some (.done ((.exit 0),([.a (.i .i64 (y0_5)),.a (.i .i64 (y0_10))],[])))))) (by kernel_rfl) ?_
 simp only [Zc3,Za3,Za4,Za5,Za2,Zft,Zk0]
def Zjc (P:Program) (N:Nat) (a1:Array Value) (b_a0:Option (Option Addr)) (n_a0:Nat) (a0:Array Value) (z0_5:Int) (z0_10:Int):Option (SV×Eff×Bool):=some (.a (.i .i64 (z0_5)),.none,true)
theorem Zqj (N:Nat) (a1:Array Value) (b_a0:Option (Option Addr)) (n_a0:Nat) (a0:Array Value) (z0_5:Int) (z0_10:Int):(Uab 0 (kSeq (veC PZ (mkΓ []) N (cAt (codeOf Tryz.f80) [1,1,1]) (pAt (Uaa (codeOf Tryz.f80) [([5,10],[])]).1 [1,1,1]) (SV×Eff×Bool)) (finK PZ [.sl (.came b_a0) n_a0 a0 181] [.tmp 4]))) (.exit 0) (left (writes (cAt (codeOf Tryz.f80) [1,1,0,1,0,0])) [5,10] [] (Zew a1 b_a0 n_a0 a0) ([.a (.i .i64 (z0_5)),.a (.i .i64 (z0_10))],[]))=Zjc PZ N a1 b_a0 n_a0 a0 z0_5 z0_10:=by
 refine Eq.trans (b:=(some (.a (.i .i64 (z0_5)),.none,true))) (by kernel_rfl) ?_
 rfl
theorem Zzx (N:Nat) (a1:Array Value) (b_a0:Option (Option Addr)) (n_a0:Nat) (a0:Array Value):Uag (Uac (Uai PZ (mkΓ []) N (cAt (codeOf Tryz.f80) [1,1,0,1,0,0]) (pAt (Uaa (codeOf Tryz.f80) [([5,10],[])]).1 [1,1,0,1,0]) [5,10] [] (Zew a1 b_a0 n_a0 a0)) N ([.a (.i .i64 (0:Int)),.a (.i .i64 (0:Int))],[])) (fun e s=>(Uab 0 (kSeq (veC PZ (mkΓ []) N (cAt (codeOf Tryz.f80) [1,1,1]) (pAt (Uaa (codeOf Tryz.f80) [([5,10],[])]).1 [1,1,1]) (SV×Eff×Bool)) (finK PZ [.sl (.came b_a0) n_a0 a0 181] [.tmp 4]))) e (left (writes (cAt (codeOf Tryz.f80) [1,1,0,1,0,0])) [5,10] [] (Zew a1 b_a0 n_a0 a0) s))=Ual (Uac (Zc3 PZ a1 b_a0 n_a0 a0) N ((0:Int),(0:Int))) (fun x=>Zjc PZ N a1 b_a0 n_a0 a0 x.1 x.2):=by
 refine Zbg Zft Zk0 _ _ (Zz1 N a1 b_a0 n_a0 a0) N ((0:Int),(0:Int)) _ _ ?_
 intro x;exact Zqj N a1 b_a0 n_a0 a0 x.1 x.2
theorem Zyj (N:Nat) (a1:Array Value) (b_a0:Option (Option Addr)) (n_a0:Nat) (a0:Array Value):ansV PZ (mkΓ []) N Tryz.f80 [([5,10],[])] [.l 0,.g a1 142] [.sl (.came b_a0) n_a0 a0 181]=(Ual (Uac (Zc3 PZ a1 b_a0 n_a0 a0) N ((0:Int),(0:Int))) (fun x=>Zjc PZ N a1 b_a0 n_a0 a0 x.1 x.2)):=by
 refine Eq.trans (b:=(Uag (Uac (Uai PZ (mkΓ []) N (cAt (codeOf Tryz.f80) [1,1,0,1,0,0]) (pAt (Uaa (codeOf Tryz.f80) [([5,10],[])]).1 [1,1,0,1,0]) [5,10] [] (Zew a1 b_a0 n_a0 a0)) N ([.a (.i .i64 (0:Int)),.a (.i .i64 (0:Int))],[])) (fun e s=>(Uab 0 (kSeq (veC PZ (mkΓ []) N (cAt (codeOf Tryz.f80) [1,1,1]) (pAt (Uaa (codeOf Tryz.f80) [([5,10],[])]).1 [1,1,1]) (SV×Eff×Bool)) (finK PZ [.sl (.came b_a0) n_a0 a0 181] [.tmp 4]))) e (left (writes (cAt (codeOf Tryz.f80) [1,1,0,1,0,0])) [5,10] [] (Zew a1 b_a0 n_a0 a0) s)))) (by kernel_rfl) ?_
 simp only [Zzx N a1 b_a0 n_a0 a0]
theorem Zuo (a1:Array Value) (b_a0:Option (Option Addr)) (n_a0:Nat) (a0:Array Value) (h_a1:WT PZ 142 a1) (h_a0:a0.size=n_a0*(lay PZ 181).length∧(∀ k,k<n_a0→WT PZ 181 (a0.extract (k*(lay PZ 181).length) (k*(lay PZ 181).length+(lay PZ 181).length)))∧n_a0≤9223372036854775807) (hg:((okSt n_a0 a0))=true):ansV PZ (mkΓ []) 18446744073709551616 Tryz.f80 [([5,10],[])] [.l 0,.g a1 142] [.sl (.came b_a0) n_a0 a0 181]=some (.a (.i .i64 (sumL (rdSt n_a0 a0) a1)),.none,true):=by
 have hn:=h_a0.2.2
 refine (Zyj 18446744073709551616 a1 b_a0 n_a0 a0).trans ?_
 have h:=Zsy (g:=Zc3 PZ a1 b_a0 n_a0 a0) (fun s k=>(s,(k:Int))) (fun s k=>sumF a1 s (num a0 (k*2+0),num a0 (k*2+1))) (m:=n_a0) (t:=(0:Int)) (x:=(sumL (rdSt n_a0 a0) a1,(n_a0:Int))) (N:=18446744073709551616) (fun k s hk _=>by
  have h1:decide ((k:Int)<(n_a0:Int))=true:=Q3 (by omega)
  have h0:decide (0≤(k:Int))=true:=Q3 (by omega)
  have h3:i64.wrap ((k:Int)+1)=((k+1:Nat):Int):=by rw [IntWalk.i64_in _ (by omega)];omega
  have hx0:num (a0.extract (k*2) (k*2+2)) 0=num a0 (k*2+0):=Ydx (by omega)
  have hx1:num (a0.extract (k*2) (k*2+2)) 1=num a0 (k*2+1):=Ydx (by omega)
  have hok:=okSt_at hg hk
  simp only [Zc3,h1,h0,h3,Q9,Bool.and_self,Q1,hx0,hx1,hok]
  rfl) (by
  have h1:decide ((n_a0:Int)<(n_a0:Int))=false:=Q4 (by omega)
  simp only [Zc3,h1,Q2]
  rw [rd_fold (sumF a1)]
  rfl) (by omega)
 have h':Uac (Zc3 PZ a1 b_a0 n_a0 a0) 18446744073709551616 ((0:Int),(0:Int))=some (sumL (rdSt n_a0 a0) a1,(n_a0:Int)):=h
 rw [h']
 rfl
def Zjo:Con:=fun args h=>match args,h with
 | [.l 0,.g a1 142],[.sl (.came b_a0) n_a0 a0 181]=>some (.a (.i .i64 (sumL (rdSt n_a0 a0) a1)),.none,(okSt n_a0 a0))
 | _,_=>none
theorem Zt2:EntX PZ 80:=Zag (fn:=Tryz.f80) (by kernel_rfl) (by kernel_rfl) (by kernel_rfl)
theorem Zzm:Uad mn PZ 80 Zjo:=(Zai (N:=18446744073709551616) (by kernel_rfl) mkΓ_nilX (fn:=Tryz.f80) (by kernel_rfl) (by kernel_rfl) [([5,10],[])]).of (by
 intro ρ h w args vals r e hA hH hr
 unfold Zjo at hr
 split at hr
 ·rename_i a1 b_a0 n_a0 a0
  obtain ⟨rfl,rfl,hg2⟩:=BQi hr
  exact Zuo a1 b_a0 n_a0 a0 (hA.wt 1 rfl) (hH.slw 0 rfl) hg2
 ·cases hr)
theorem Zmq {S:Array Value} (h0:1≤num S 0∧num S 0≤6∧1≤num S 1∧num S 1≤6) {k:Nat} (hk:k<36) (hi:inC (num S 0) (num S 1) k=true) (t:Int) (w:Nat) (hw:w<5):∀ p ∈ Uba S t k w,0≤p.1∧p.1<36:=by
 intro p hp
 unfold Uba at hp
 cases hc:decide (chW S t (k:Int) w > 0)&&decide (gw S k w ≠ -1) with
 | false=>rw [hc] at hp;simp at hp
 | true=>
  rw [hc] at hp
  simp only [Q1,List.mem_singleton] at hp
  subst hp
  rw [Q7] at hc
  exact Ygx h0 hk hi w hw (of_decide_eq_true hc.2)
theorem Yo0 {S:Array Value} (h0:1≤num S 0∧num S 0≤6∧1≤num S 1∧num S 1≤6) {k:Nat} (hk:k<36) (hi:inC (num S 0) (num S 1) k=true) (t:Int):∀ p ∈ stL S t k,0≤p.1∧p.1<36:=by
 intro p hp
 unfold stL at hp
 cases hl:Zal S (k:Int) with
 | true=>
  rw [hl] at hp
  simp only [Q1,List.mem_singleton] at hp
  subst hp
  exact ⟨by show 0≤(k:Int);omega,by show (k:Int)<36;omega⟩
 | false=>
  rw [hl] at hp
  simp only [Q2,List.mem_append] at hp
  rcases hp with (((hp | hp) | hp) | hp) | hp
  ·exact Zmq h0 hk hi t 1 (by omega) p hp
  ·exact Zmq h0 hk hi t 4 (by omega) p hp
  ·exact Zmq h0 hk hi t 0 (by omega) p hp
  ·exact Zmq h0 hk hi t 2 (by omega) p hp
  ·exact Zmq h0 hk hi t 3 (by omega) p hp
def rowF (P:Program) (V:List (Int×Int)→Array Value→Int) (S L:Array Value) (t:Int):Array Value:=folds (fun r k=>if inC (num S 0) (num S 1) k then r.setIfInBounds (k*1) (.int .i64 (V (stL S t k) L)) else r) (zc P 142) 36
def Zbq:Cons:=(mkΓx [(80,con Zjo),(123,con Zjx)] [(94,Ziw)] [(114,Zee)])
def Zb5 (a0 a1:Array Value) (a2:Int):St:=(⟨.a (.g a0 41) :: .a (.g a1 142) :: .a (.i .i64 (a2)) :: .a (.c 80 []) :: .a (.w 0) :: .a (.w 1) :: .a (.w 2) :: .a (.w 3) :: .a (.w 4) :: .a (.w 5) :: .a (.u) :: .a (.g a0 41) :: .a (.c 114 [9,11])::us 11 ([]),[.row a0 41,.row a1 142,.row #[.int .i64 (a2)] 2,.row #[.func (.func 80) #[] #[]] 178,.row (zc PZ 142) 142,.row (zc PZ 142) 142,.no,.no,.no,.row #[.int .i64 (num a0 1)] 2,.no,.row #[.int .i64 (num a0 0)] 2,.no,.no],[]⟩:St)
def Zgh:Array Value→BS
 | r0_5=>([.row r0_5 142]:BS)
def Ziz:Empty→Exit×BS:=fun x=>nomatch x
def Zdz (P:Program) (a0 a1:Array Value) (a2:Int) (x0:Int):Array Value→Option (Stp (Array Value) Empty)
 | r0_5=>bif (okS a0&&(Zaz x0 a0&&(decide (0≤a2)&&decide (a2<2)))) then (bif (okSt ((stL a0 a2 x0.toNat).length) (Ubk (stL a0 a2 x0.toNat))) then (bif (decide (0≤x0)&&decide (x0<36)) then (some (.more (r0_5.setIfInBounds ((x0).toNat*1) (.int .i64 (sumL (rdSt ((stL a0 a2 x0.toNat).length) (Ubk (stL a0 a2 x0.toNat))) a1)))))
    else (none))
   else (none))
  else (none)
theorem Zun (N:Nat) (a0 a1:Array Value) (a2:Int) (x0:Int):∀ t:Array Value,Ud1 PZ Zbq N (cAt (codeOf Tryz.f106) [1,1,0,1,0,0]) (pAt (Uaa (codeOf Tryz.f106) [([],[5])]).1 [1,1,0,1,0]) 14 [5] [13] [(10,13)] (Zb5 a0 a1 a2) [.i .i64 (x0)] (Zgh t)=mapS Zgh Ziz (Zdz PZ a0 a1 a2 x0 t):=by
 rintro r0_5
 refine Eq.trans (b:=(bif (okS a0&&(Zaz x0 a0&&(decide (0≤a2)&&decide (a2<2)))) then (bif (okSt ((stL a0 a2 x0.toNat).length) (Ubk (stL a0 a2 x0.toNat))) then (bif (decide (0≤x0)&&decide (x0<36)) then (some (.more ([.row (r0_5.setIfInBounds ((x0).toNat*1) (.int .i64 (sumL (rdSt ((stL a0 a2 x0.toNat).length) (Ubk (stL a0 a2 x0.toNat))) a1))) 142]:BS)))
    else (none))
   else (none))
  else (none))) (by kernel_rfl) ?_
 simp only [Zdz,Za3,Za4,Za5,Za2,Zgh,Ziz]
def Zhb (P:Program) (N:Nat) (a0 a1:Array Value) (a2:Int) (q0_5:Array Value):Option (SV×Eff×Bool):=some (.a (.g q0_5 142),.none,true)
theorem Zop (N:Nat) (a0 a1:Array Value) (a2:Int) (q0_5:Array Value):(Uab 0 (kSeq (veC PZ Zbq N (cAt (codeOf Tryz.f106) [1,1,1]) (pAt (Uaa (codeOf Tryz.f106) [([],[5])]).1 [1,1,1]) (SV×Eff×Bool)) (finK PZ [] [.cell 8 142]))) .normal (Ua1 [5] (Zb5 a0 a1 a2) ([.row q0_5 142]:BS))=Zhb PZ N a0 a1 a2 q0_5:=by
 refine Eq.trans (b:=(some (.a (.g q0_5 142),.none,true))) (by kernel_rfl) ?_
 rfl
theorem Zvd (N:Nat) (a0 a1:Array Value) (a2:Int):Ub9 (Uaq (fun (x0:Int) (hb:BS)=>Ud1 PZ Zbq N (cAt (codeOf Tryz.f106) [1,1,0,1,0,0]) (pAt (Uaa (codeOf Tryz.f106) [([],[5])]).1 [1,1,0,1,0]) 14 [5] [13] [(10,13)] (Zb5 a0 a1 a2) [.i .i64 (x0)] hb) (Uas (num a0 0) (num a0 1) 36) ([.row (zc PZ 142) 142]:BS)) (fun hb=>(Uab 0 (kSeq (veC PZ Zbq N (cAt (codeOf Tryz.f106) [1,1,1]) (pAt (Uaa (codeOf Tryz.f106) [([],[5])]).1 [1,1,1]) (SV×Eff×Bool)) (finK PZ [] [.cell 8 142]))) .normal (Ua1 [5] (Zb5 a0 a1 a2) hb)) (fun e hb=>(Uab 0 (kSeq (veC PZ Zbq N (cAt (codeOf Tryz.f106) [1,1,1]) (pAt (Uaa (codeOf Tryz.f106) [([],[5])]).1 [1,1,1]) (SV×Eff×Bool)) (finK PZ [] [.cell 8 142]))) e (Ua1 [5] (Zb5 a0 a1 a2) hb))=Udz (Uaq (Zdz PZ a0 a1 a2) (Uas (num a0 0) (num a0 1) 36) (zc PZ 142)) (fun x=>Zhb PZ N a0 a1 a2 x) (fun x:Empty=>nomatch x):=by
 refine Zxu Zgh Ziz _ _ (fun y t=>Zun N a0 a1 a2 y t) _ (zc PZ 142) _ _ _ _ ?_ ?_
 ·intro x;exact Zop N a0 a1 a2 x
 ·intro x;exact nomatch x
theorem Zs8 (N:Nat) (a0 a1:Array Value) (a2:Int):ansV PZ Zbq N Tryz.f106 [([],[5])] [.g a0 41,.g a1 142,.i .i64 (a2),.c 80 []] []=(bif (decide (0≤(num a0 0))&&decide ((num a0 0)≤6)&&(decide (0≤(num a0 1))&&decide ((num a0 1)≤6))) then (Udz (Uaq (Zdz PZ a0 a1 a2) (Uas (num a0 0) (num a0 1) 36) (zc PZ 142)) (fun x=>Zhb PZ N a0 a1 a2 x) (fun x:Empty=>nomatch x))
  else (none)):=by
 refine Eq.trans (b:=(bif (decide (0≤(num a0 0))&&decide ((num a0 0)≤6)&&(decide (0≤(num a0 1))&&decide ((num a0 1)≤6))) then (Ub9 (Uaq (fun (x0:Int) (hb:BS)=>Ud1 PZ Zbq N (cAt (codeOf Tryz.f106) [1,1,0,1,0,0]) (pAt (Uaa (codeOf Tryz.f106) [([],[5])]).1 [1,1,0,1,0]) 14 [5] [13] [(10,13)] (Zb5 a0 a1 a2) [.i .i64 (x0)] hb) (Uas (num a0 0) (num a0 1) 36) ([.row (zc PZ 142) 142]:BS)) (fun hb=>(Uab 0 (kSeq (veC PZ Zbq N (cAt (codeOf Tryz.f106) [1,1,1]) (pAt (Uaa (codeOf Tryz.f106) [([],[5])]).1 [1,1,1]) (SV×Eff×Bool)) (finK PZ [] [.cell 8 142]))) .normal (Ua1 [5] (Zb5 a0 a1 a2) hb)) (fun e hb=>(Uab 0 (kSeq (veC PZ Zbq N (cAt (codeOf Tryz.f106) [1,1,1]) (pAt (Uaa (codeOf Tryz.f106) [([],[5])]).1 [1,1,1]) (SV×Eff×Bool)) (finK PZ [] [.cell 8 142]))) e (Ua1 [5] (Zb5 a0 a1 a2) hb)))
  else (none))) (by kernel_rfl) ?_
 simp only [Zvd N a0 a1 a2]
theorem Zsg (a0 a1:Array Value) (a2:Int) (h_a0:WT PZ 41 a0) (h_a1:WT PZ 142 a1) (h_a2:i64.min≤a2∧a2≤i64.max) (hg:((okS a0&&(decide (0≤a2)&&decide (a2<2))))=true):ansV PZ Zbq 1000 Tryz.f106 [([],[5])] [.g a0 41,.g a1 142,.i .i64 (a2),.c 80 []] []=some (.a (.g (rowF PZ sumL a0 a1 a2) 142),.none,true):=by
 rw [Q7] at hg
 obtain ⟨hok,ht⟩:=hg
 have h0:=Zs0 hok
 refine (Zs8 1000 a0 a1 a2).trans ?_
 have h:=Yfh (X:=Empty) (g:=Zdz PZ a0 a1 a2) (fun r k=>r.setIfInBounds (k*1) (.int .i64 (sumL (stL a0 a2 k) a1))) (wd:=num a0 0) (hi:=num a0 1) (fun s k hk hi=>by
  have hs:okSt (stL a0 a2 k).length (Ubk (stL a0 a2 k))=true:=ok_enc (Yo0 h0 hk hi a2)
  have hc:(decide (0≤(k:Int))&&decide ((k:Int)<36))=true:=by rw [Q3 (show 0≤(k:Int) by omega),Q3 (show (k:Int)<36 by omega)];rfl
  have hi':Zaz (k:Int) a0=true:=(Yh6 h_a0 hk).trans hi
  simp only [Zdz,Q9,hok,hi',ht,hs,hc,Bool.and_self,Q1,rd_enc]
  first | done | rfl) (zc PZ 142)
 have hgd:=Ybz hok
 simp only [hgd,Q1,h]
 rfl
def Zih:Con:=fun args h=>match args,h with
 | [.g a0 41,.g a1 142,.i .i64 a2,.c 80 []],[]=>some (.a (.g (rowF PZ sumL a0 a1 a2) 142),.none,(okS a0&&(decide (0≤a2)&&decide (a2<2))))
 | _,_=>none
theorem Zqu:EntX PZ 106:=Zag (fn:=Tryz.f106) (by kernel_rfl) (by kernel_rfl) (by kernel_rfl)
theorem Zus:Uad mn PZ 106 Zih:=(Zai (N:=1000) (by kernel_rfl) (mkΓx_cX (Zad Zzm) Zt2 (mkΓx_cX (Zad Zzg) Zta (mkΓx_nX Zog Zmg (mkΓx_iX Zm0 Zk9 mkΓx_nilX)))) (fn:=Tryz.f106) (by kernel_rfl) (by kernel_rfl) [([],[5])]).of (by
 intro ρ h w args vals r e hA hH hr
 unfold Zih at hr
 split at hr
 ·rename_i a0 a1 a2
  obtain ⟨rfl,rfl,hg2⟩:=BQi hr
  exact Zsg a0 a1 a2 (hA.wt 0 rfl) (hA.wt 1 rfl) (hA.rng 2 rfl) hg2
 ·cases hr)
theorem Ypr (P:Program) (T:TypeId) {r:Array Value} (h:r.size=(zc P T).size):spl (repC (zc P T) 1) 0 r.toList=r:=by
 have e:repC (zc P T) 1=zc P T:=by unfold repC repL repL;simp
 rw [e]
 refine Zfs fun i=> ?_
 rw [Zgi _ _ _ (by simp;omega)]
 by_cases hi:i<r.size
 ·rw [if_pos (by simp;omega)];simp
 ·rw [if_neg (by simp;omega),Array.getElem?_eq_none (by omega),Array.getElem?_eq_none (by omega)]
theorem Yh2:(zc PZ 142).size=36:=by kernel_rfl
theorem Yjx (V:List (Int×Int)→Array Value→Int) (S L:Array Value) (t:Int):(rowF PZ V S L t).size=36:=by
 unfold rowF
 exact Zjm (fun _ (r:Array Value)=>r.size=36) Yh2 (fun k s _ h=>by split<;>simp [h]) 36 (Nat.le_refl _)
def rowR (P:Program) (V:List (Int×Int)→Array Value→Int) (S L:Array Value) (b h:Int):Nat→Array Value
 | 0=>L
 | j+1=>rowF P V S (rowR P V S L b h j) ((i64.wrap (b+i64.wrap (h - ((j+1:Nat):Int)))).tmod 2)
def catR (P:Program) (V:List (Int×Int)→Array Value→Int) (S L:Array Value) (b h:Int):Nat→Array Value
 | 0=>#[]
 | j+1=>catR P V S L b h j++rowR P V S L b h j
theorem Yi2 (V:List (Int×Int)→Array Value→Int) (S:Array Value) {L:Array Value} (hL:L.size=36) (b h:Int):∀ j,(rowR PZ V S L b h j).size=36
 | 0=>hL
 | j+1=>Yjx V S _ _
theorem Ydl (V:List (Int×Int)→Array Value→Int) (S:Array Value) {L:Array Value} (hL:L.size=36) (b h:Int):∀ j,(catR PZ V S L b h j).size=j*36
 | 0=>rfl
 | j+1=>by rw [catR,Array.size_append,Ydl V S hL b h j,Yi2 V S hL b h j];omega
theorem ext_last {A R:Array Value} {m q:Nat} (hA:A.size=m) (hR:R.size=q):(A++R).extract m (m+q)=R:=by
 refine Zfs fun i=> ?_
 rw [Array.getElem?_extract]
 by_cases hi:i<q
 ·rw [if_pos (by simp;omega),Array.getElem?_append_right (by omega),show m+i - A.size=i by omega]
 ·rw [if_neg (by simp;omega),Array.getElem?_eq_none (by omega)]
theorem Ypd {A R:Array Value} {m q:Nat} (h:m+q≤A.size):(A++R).extract m (m+q)=A.extract m (m+q):=by
 refine Zfs fun i=> ?_
 rw [Array.getElem?_extract,Array.getElem?_extract]
 by_cases hi:i<q
 ·rw [if_pos (by simp;omega),if_pos (by omega),Array.getElem?_append_left (by omega)]
 ·rw [if_neg (by simp;omega),if_neg (by omega)]
theorem Ykb (V:List (Int×Int)→Array Value→Int) (S:Array Value) {L:Array Value} (hL:L.size=36) (b h:Int) {j:Nat}:∀ n,j<n→(catR PZ V S L b h n).extract (j*36) (j*36+36)=rowR PZ V S L b h j
 | 0,hj=>by omega
 | n+1,hj=>by
  rw [catR]
  by_cases e:j=n
  ·subst e;exact ext_last (Ydl V S hL b h j) (Yi2 V S hL b h j)
  ·rw [Ypd (by rw [Ydl V S hL b h n];omega)]
   exact Ykb V S hL b h n (by omega)
theorem tide_in {b h:Int} (hb:0≤b∧b<2) (hh:0≤h∧h≤14):(decide (0≤(i64.wrap (b+i64.wrap h)).tmod 2)&&decide ((i64.wrap (b+i64.wrap h)).tmod 2<2))=true:=by
 rw [w64 (n:=h) (by omega),w64 (n:=b+h) (by omega),Int.tmod_eq_emod_of_nonneg (by omega),Q3 (by omega),Q3 (by omega)];rfl
theorem Yoj:bytesOf PZ 142=288:=by kernel_rfl
def Zb6:Cons:=(mkΓ [(106,con Zih),(107,con Zmv)])
def Zdf (a0 a1:Array Value) (a2 a3:Int):St:=(⟨.a (.g a0 41) :: .a (.g a1 142) :: .a (.i .i64 (a2)) :: .a (.i .i64 (a3)) :: .a (.c 80 []) :: .a (.w 0) :: .a (.w 1)::us 3 (.a (.v (.slice none 0 0)) :: .a (.l 6) :: .a (.i .i64 (1:Int)) :: .a (.g a1 142) :: .a (.l 4)::us 22 ([])),[.row a0 41,.row a1 142,.no,.no,.sp,.no,.sl .own 1 (spl (repC (zc PZ 142) 1) 0 a1.toList) 142],[4]⟩:St)
def Zen:Int×Nat×Array Value→LS
 | (y0_12,m0_11,y0_11)=>([.a (.i .i64 (y0_12)),.a (.l 6)],[.sl .own m0_11 y0_11 142])
def Zia:Int×Nat×Array Value→Exit×LS
 | t=>((.exit 0),Zen t)
def Zbz (P : Program) (a0 a1 : Array Value) (a2 a3 : Int) : Int × Nat × Array Value → Option (Stp (Int × Nat × Array Value) (Int × Nat × Array Value))
 | (y0_12, m0_11, y0_11) => bif decide (y0_12 ≤ a3) then (bif (decide (0 ≤ (i64.wrap (y0_12 - (1 : Int)))) && decide ((i64.wrap (y0_12 - (1 : Int))) < (m0_11 : Int))) then (bif (okS a0 && (decide (0 ≤ (((i64.wrap (a2 + (i64.wrap (a3 - y0_12))))).tmod (2 : Int))) && decide ((((i64.wrap (a2 + (i64.wrap (a3 - y0_12))))).tmod (2 : Int)) < 2))) then (bif (Nat.ble ((m0_11 + 1) * bytesOf PZ 142) 140737488355328) then (some (.more ((i64.wrap (y0_12 + (1 : Int))), (m0_11 + 1), (y0_11 ++ (spl (repC (zc PZ 142) 1) 0 (rowF PZ sumL a0 (y0_11.extract ((i64.wrap (y0_12 - (1 : Int))).toNat * 36) (((i64.wrap (y0_12 - (1 : Int))).toNat * 36) + 36)) (((i64.wrap (a2 + (i64.wrap (a3 - y0_12))))).tmod (2 : Int))).toList)))))
     else (none))
    else (none))
   else (none))
  else (some (.done (y0_12, m0_11, y0_11)))
theorem Ztg (N:Nat) (a0 a1:Array Value) (a2 a3:Int):∀ t:Int×Nat×Array Value,Ubp PZ Zb6 N (cAt (codeOf Tryz.f79) [1,1,0,1,0,0]) (pAt (Uaa (codeOf Tryz.f79) [([12],[1000011,142])]).1 [1,1,0,1,0]) [12] [] 11 142 6 (Zdf a0 a1 a2 a3) (Zen t)=mapS Zen Zia (Zbz PZ a0 a1 a2 a3 t):=by
 rintro ⟨y0_12,m0_11,y0_11⟩
 refine Eq.trans (b:=(bif decide (y0_12≤a3) then (bif (decide (0≤(i64.wrap (y0_12 - (1:Int))))&&decide ((i64.wrap (y0_12 - (1:Int)))<(m0_11:Int))) then (bif (okS a0&&(decide (0≤(((i64.wrap (a2+(i64.wrap (a3 - y0_12))))).tmod (2:Int)))&&decide ((((i64.wrap (a2+(i64.wrap (a3 - y0_12))))).tmod (2:Int))<2))) then (bif (Nat.ble ((m0_11+1)*bytesOf PZ 142) 140737488355328) then (some (.more ([.a (.i .i64 (i64.wrap (y0_12+(1:Int)))),.a (.l 6)],[.sl .own (m0_11+1) (y0_11++(spl (repC (zc PZ 142) 1) 0 (rowF PZ sumL a0 (y0_11.extract ((i64.wrap (y0_12 - (1:Int))).toNat*36) (((i64.wrap (y0_12 - (1:Int))).toNat*36)+36)) (((i64.wrap (a2+(i64.wrap (a3 - y0_12))))).tmod (2:Int))).toList)) 142])))
     else (none))
    else (none))
   else (none))
  else (some (.done ((.exit 0),([.a (.i .i64 (y0_12)),.a (.l 6)],[.sl .own m0_11 y0_11 142])))))) (by kernel_rfl) ?_
 simp only [Zbz,Za3,Za4,Za5,Za2,Zen,Zia]
def Zgz (P:Program) (N:Nat) (a0 a1:Array Value) (a2 a3:Int) (z0_12:Int) (p0_11:Nat) (z0_11:Array Value):Option (SV×Eff×Bool):=some (.a .x,.newS none p0_11 z0_11 142,true)
theorem Znt (N:Nat) (a0 a1:Array Value) (a2 a3:Int) (z0_12:Int) (p0_11:Nat) (z0_11:Array Value):(Uab 0 (kSeq (veC PZ Zb6 N (cAt (codeOf Tryz.f79) [1,1,1]) (pAt (Uaa (codeOf Tryz.f79) [([12],[1000011,142])]).1 [1,1,1]) (SV×Eff×Bool)) (finK PZ [] [.tmp 10]))) (.exit 0) (left (writes (cAt (codeOf Tryz.f79) [1,1,0,1,0,0])) [12,11] [6] (Zdf a0 a1 a2 a3) ([.a (.i .i64 (z0_12)),.a (.l 6)],[.sl .own p0_11 z0_11 142]))=Zgz PZ N a0 a1 a2 a3 z0_12 p0_11 z0_11:=by
 refine Eq.trans (b:=(some (.a .x,.newS none p0_11 z0_11 142,true))) (by kernel_rfl) ?_
 rfl
theorem Ztp (N:Nat) (a0 a1:Array Value) (a2 a3:Int):Uag (Uac (Ubp PZ Zb6 N (cAt (codeOf Tryz.f79) [1,1,0,1,0,0]) (pAt (Uaa (codeOf Tryz.f79) [([12],[1000011,142])]).1 [1,1,0,1,0]) [12] [] 11 142 6 (Zdf a0 a1 a2 a3)) N ([.a (.i .i64 (1:Int)),.a (.l 6)],[.sl .own 1 (spl (repC (zc PZ 142) 1) 0 a1.toList) 142])) (fun e s=>(Uab 0 (kSeq (veC PZ Zb6 N (cAt (codeOf Tryz.f79) [1,1,1]) (pAt (Uaa (codeOf Tryz.f79) [([12],[1000011,142])]).1 [1,1,1]) (SV×Eff×Bool)) (finK PZ [] [.tmp 10]))) e (left (writes (cAt (codeOf Tryz.f79) [1,1,0,1,0,0])) [12,11] [6] (Zdf a0 a1 a2 a3) s))=Ual (Uac (Zbz PZ a0 a1 a2 a3) N ((1:Int),1,(spl (repC (zc PZ 142) 1) 0 a1.toList))) (fun x=>Zgz PZ N a0 a1 a2 a3 x.1 x.2.1 x.2.2):=by
 refine Zbg Zen Zia _ _ (Ztg N a0 a1 a2 a3) N ((1:Int),1,(spl (repC (zc PZ 142) 1) 0 a1.toList)) _ _ ?_
 intro x;exact Znt N a0 a1 a2 a3 x.1 x.2.1 x.2.2
theorem Zsj (N:Nat) (a0 a1:Array Value) (a2 a3:Int):ansV PZ Zb6 N Tryz.f79 [([12],[1000011,142])] [.g a0 41,.g a1 142,.i .i64 (a2),.i .i64 (a3),.c 80 []] []=(Ual (Uac (Zbz PZ a0 a1 a2 a3) N ((1:Int),1,(spl (repC (zc PZ 142) 1) 0 a1.toList))) (fun x=>Zgz PZ N a0 a1 a2 a3 x.1 x.2.1 x.2.2)):=by
 refine Eq.trans (b:=(Uag (Uac (Ubp PZ Zb6 N (cAt (codeOf Tryz.f79) [1,1,0,1,0,0]) (pAt (Uaa (codeOf Tryz.f79) [([12],[1000011,142])]).1 [1,1,0,1,0]) [12] [] 11 142 6 (Zdf a0 a1 a2 a3)) N ([.a (.i .i64 (1:Int)),.a (.l 6)],[.sl .own 1 (spl (repC (zc PZ 142) 1) 0 a1.toList) 142])) (fun e s=>(Uab 0 (kSeq (veC PZ Zb6 N (cAt (codeOf Tryz.f79) [1,1,1]) (pAt (Uaa (codeOf Tryz.f79) [([12],[1000011,142])]).1 [1,1,1]) (SV×Eff×Bool)) (finK PZ [] [.tmp 10]))) e (left (writes (cAt (codeOf Tryz.f79) [1,1,0,1,0,0])) [12,11] [6] (Zdf a0 a1 a2 a3) s)))) (by kernel_rfl) ?_
 simp only [Ztp N a0 a1 a2 a3]
theorem Zqo (a0 a1:Array Value) (a2 a3:Int) (h_a0:WT PZ 41 a0) (h_a1:WT PZ 142 a1) (h_a2:i64.min≤a2∧a2≤i64.max) (h_a3:i64.min≤a3∧a3≤i64.max) (hg:(((okS a0&&(decide (0≤a2)&&decide (a2<2)))&&(decide (0≤a3)&&decide (a3≤14))))=true):ansV PZ Zb6 1000 Tryz.f79 [([12],[1000011,142])] [.g a0 41,.g a1 142,.i .i64 (a2),.i .i64 (a3),.c 80 []] []=some (.a .x,.newS none (a3.toNat+1) (catR PZ sumL a0 a1 a2 a3 (a3.toNat+1)) 142,true):=by
 rw [Q7,Q7 (decide (0≤a3))] at hg
 obtain ⟨hg,hh0,hh1⟩:=hg
 have hh:0≤a3∧a3≤14:=⟨of_decide_eq_true hh0,of_decide_eq_true hh1⟩
 have hok:=hg
 rw [Q7,Q7] at hok
 have hb:0≤a2∧a2<2:=⟨of_decide_eq_true hok.2.1,of_decide_eq_true hok.2.2⟩
 have hL:a1.size=36:=by rw [h_a1.layLen];kernel_rfl
 obtain ⟨m,rfl⟩:∃ m:Nat,a3=(m:Int):=⟨a3.toNat,by omega⟩
 refine (Zsj 1000 a0 a1 a2 (m:Int)).trans ?_
 rw [Ypr PZ 142 (by rw [hL,Yh2]),Q9]
 have h:=Zdr (g:=Zbz PZ a0 a1 a2 (m:Int)) (fun j=>(((1+j:Nat):Int),1+j,catR PZ sumL a0 a1 a2 (m:Int) (1+j))) (m:=m) (x:=(((1+m:Nat):Int),1+m,catR PZ sumL a0 a1 a2 (m:Int) (1+m))) (N:=1000) (fun j hj=>by
  have h1:decide (((1+j:Nat):Int)≤(m:Int))=true:=Q3 (by omega)
  have h2:i64.wrap (((1+j:Nat):Int) - 1)=(j:Int):=by rw [w64 (by omega)];omega
  have h3:i64.wrap (((1+j:Nat):Int)+1)=((1+(j+1):Nat):Int):=by rw [w64 (by omega)];omega
  have h4:(decide (0≤(j:Int))&&decide ((j:Int)<((1+j:Nat):Int)))=true:=by rw [Q3 (by omega),Q3 (by omega)];rfl
  have h5:=tide_in (b:=a2) (h:=(m:Int) - ((1+j:Nat):Int)) hb (by omega)
  have h6:Nat.ble ((1+j+1)*bytesOf PZ 142) 140737488355328=true:=Nat.ble_eq_true_of_le (by rw [Yoj];omega)
  have h7:(catR PZ sumL a0 a1 a2 (m:Int) (1+j)).extract (j*36) (j*36+36)=rowR PZ sumL a0 a1 a2 (m:Int) j:=Ykb sumL a0 hL a2 _ (1+j) (by omega)
  simp only [Zbz,h1,h2,h3,h4,h5,h6,h7,hok.1,Bool.and_self,Q9,Q1]
  rw [Ypr PZ 142 (by rw [Yjx,Yh2])]
  rw [show 1+(j+1)=(1+j)+1 by omega,catR,show 1+j=j+1 by omega,rowR]) (by
  have h1:decide (((1+m:Nat):Int)≤(m:Int))=false:=Q4 (by omega)
  simp only [Zbz,h1,Q2]) (by omega)
 have hc:catR PZ sumL a0 a1 a2 (m:Int) 1=a1:=by rw [catR,catR,rowR];simp
 have h':Uac (Zbz PZ a0 a1 a2 (m:Int)) 1000 ((1:Int),1,a1)=some (((1+m:Nat):Int),1+m,catR PZ sumL a0 a1 a2 (m:Int) (1+m)):=by
  have h2:=h
  simp only [Nat.add_zero,hc] at h2
  exact h2
 rw [h',show 1+m=m+1 by omega]
 rfl
def Zhh:Con:=fun args h=>match args,h with
 | [.g a0 41,.g a1 142,.i .i64 a2,.i .i64 a3,.c 80 []],[]=>some (.a .x,.newS none (a3.toNat+1) (catR PZ sumL a0 a1 a2 a3 (a3.toNat+1)) 142,((okS a0&&(decide (0≤a2)&&decide (a2<2)))&&(decide (0≤a3)&&decide (a3≤14))))
 | _,_=>none
theorem Zpm:EntX PZ 79:=Zag (fn:=Tryz.f79) (by kernel_rfl) (by kernel_rfl) (by kernel_rfl)
theorem Zti:Uad mn PZ 79 Zhh:=(Zai (N:=1000) (by kernel_rfl) (mkΓ_consX (Zad Zus) Zqu (mkΓ_consX (Zad Ye7) Zzp mkΓ_nilX)) (fn:=Tryz.f79) (by kernel_rfl) (by kernel_rfl) [([12],[1000011,142])]).of (by
 intro ρ h w args vals r e hA hH hr
 unfold Zhh at hr
 split at hr
 ·rename_i a0 a1 a2 a3
  obtain ⟨rfl,rfl,hg2⟩:=BQi hr
  exact Zqo a0 a1 a2 a3 (hA.wt 0 rfl) (hA.wt 1 rfl) (hA.rng 2 rfl) (hA.rng 3 rfl) hg2
 ·cases hr)
end
end Go.Proofs.YtohnggmlmglhmaaGreatDoor
