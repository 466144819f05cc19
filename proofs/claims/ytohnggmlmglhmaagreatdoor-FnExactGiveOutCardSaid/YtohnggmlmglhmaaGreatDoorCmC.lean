/- Steps, and rows of numbers that go back, in company. -/
import Derived.Test.YtohnggmlmglhmaaGreatDoorProg
import Derived.Test.YtohnggmlmglhmaaGreatDoorCmB
import Derived.Test.YtohnggmlmglhmaaGreatDoorTzX
open _root_.Array renaming getElem?_extract→jF,getElem?_eq_none→jG
open _root_.Nat renaming ble→jA,le_refl→jB,ble_eq_true_of_le→jC,le_of_ble_eq_true→jD,mul_le_mul→jE
namespace Go.Proofs.YtohnggmlmglhmaaGreatDoor
open Go.ChangeShapes Go.WideShapes Go.ChangeAt Go.RowKit Ve Vc
open Tryz renaming prog → PZ
open IntKind (i64)
set_option linter.unusedVariables false
set_option linter.unusedSimpArgs false
set_option maxRecDepth 100000
noncomputable section
variable {mn:Md}
theorem Zv9 (N:Nat)  : ansV PZ (mkΓ []) N Tryz.f128 [] [] []=(some (.a (.g #[.int .u8 (1:Int),.int .u8 (4:Int),.int .u8 (0:Int),.int .u8 (2:Int),.int .u8 (3:Int)] 24),.none,true)):=by kernel_rfl
theorem Zup   (hg:(true)=true):ansV PZ (mkΓ []) 1000 Tryz.f128 [] [] []=some (.a (.g #[.int .u8 (1:Int),.int .u8 (4:Int),.int .u8 (0:Int),.int .u8 (2:Int),.int .u8 (3:Int)] 24),.none,true):=by
 refine (Zv9 1000 ).trans ?_
 rfl
def Zjz:Con:=fun args h=>match args,h with
 | [],[]=>some (.a (.g #[.int .u8 (1:Int),.int .u8 (4:Int),.int .u8 (0:Int),.int .u8 (2:Int),.int .u8 (3:Int)] 24),.none,true)
 | _,_=>none
theorem Ztt:EntX PZ 128:=Zag (fn:=Tryz.f128) (by kernel_rfl) (by kernel_rfl) (by kernel_rfl)
theorem Zx4:Uab mn PZ 128 Zjz:=(Zaf (N:=1000) (by kernel_rfl) mkΓ_nilX (fn:=Tryz.f128) (by kernel_rfl) (by kernel_rfl) []).of (by
 intro ρ h w args vals r e hA hH hr
 unfold Zjz at hr
 split at hr
 ·obtain ⟨rfl,rfl,hg2⟩:=BQi hr
  exact Zup hg2
 ·cases hr)
def pl (c:Int):Nat→Array Value
 | 0=>#[.int .i64 (c.tmod 6),.int .i64 (i64.wrap (c.tdiv 6))]
 | 1=>#[.int .i64 (c.tmod 6),.int .i64 (i64.wrap (i64.wrap (c.tdiv 6) - 1))]
 | 2=>#[.int .i64 (i64.wrap (c.tmod 6+1)),.int .i64 (i64.wrap (c.tdiv 6))]
 | 3=>#[.int .i64 (c.tmod 6),.int .i64 (i64.wrap (i64.wrap (c.tdiv 6)+1))]
 | _=>#[.int .i64 (i64.wrap (c.tmod 6 - 1)),.int .i64 (i64.wrap (c.tdiv 6))]
theorem Uhb {S:Array Value} (h0:1≤num S 0∧num S 0≤6∧1≤num S 1∧num S 1≤6) (x y:Int):Zas S #[.int .i64 x,.int .i64 y]=decide (0≤x∧x<num S 0∧0≤y∧y<num S 1):=by
 obtain ⟨a1,a2,a3,a4⟩:=h0
 show (bif decide (x ≥ 0) then (bif decide (x<i64.wrap (num S 0)) then (bif decide (y ≥ 0) then decide (y<i64.wrap (num S 1)) else false) else false) else false)=_
 rw [w64 (n:=num S 0) (by omega),w64 (n:=num S 1) (by omega)]
 have:∀ a b c d:Prop,[Decidable a]→[Decidable b]→[Decidable c]→[Decidable d]→(bif decide a then (bif decide b then (bif decide c then decide d else false) else false) else false)=decide (a∧b∧c∧d):=by
  intro a b c d _ _ _ _
  by_cases a<;>by_cases b<;>by_cases c<;>by_cases d<;>simp [*]
 exact this _ _ _ _
theorem Ynq {S:Array Value} (h0:1≤num S 0∧num S 0≤6∧1≤num S 1∧num S 1≤6) {k:Nat} (hk:k<36) (hi:inC (num S 0) (num S 1) k=true) (w:Nat) (hw:w<5) :
  Zas S (pl (k:Int) w)=decide (gw S k w ≠ -1)∧(gw S k w ≠ -1→i64.wrap (num (pl (k:Int) w) 0+i64.wrap (6*num (pl (k:Int) w) 1))=gw S k w):=by
 obtain ⟨hx,hy⟩:=Yox hi
 obtain ⟨ex,ey⟩:=xy hk
 have hxl:k % 6<6:=Nat.mod_lt _ (by omega)
 have hyl:k / 6<6:=by omega
 have hk6:k=6*(k / 6)+k % 6:=by omega
 have h0':=h0
 obtain ⟨a1,a2,a3,a4⟩:=h0
 generalize hX:k % 6=X at *
 generalize hY:k / 6=Y at *
 have eY:i64.wrap ((Y:Nat):Int)=Y:=w64 (by omega)
 match w,hw with
 | 0,_=>
  have e:pl (k:Int) 0=#[.int .i64 (X:Int),.int .i64 (Y:Int)]:=by unfold pl;rw [ex,ey,eY];rfl
  rw [e,Uhb h0']
  refine ⟨decide_eq_decide.2 ?_,fun _=> ?_⟩
  ·show _ ↔ (k:Int) ≠ -1;omega
  ·show i64.wrap ((X:Int)+i64.wrap (6*(Y:Int)))=(k:Int)
   rw [w64 (n:=6*(Y:Int)) (by omega),w64 (by omega)];omega
 | 1,_=>
  have e:pl (k:Int) 1=#[.int .i64 (X:Int),.int .i64 ((Y:Int) - 1)]:=by unfold pl;rw [ex,ey,eY,w64 (n:=(Y:Int) - 1) (by omega)];rfl
  rw [e,Uhb h0']
  have hg:gw S k 1=if 6≤k then (k:Int) - 6 else -1:=by unfold gw;by_cases c:6≤k<;>simp [c]
  rw [hg]
  refine ⟨decide_eq_decide.2 ?_,fun hn=> ?_⟩
  ·split<;>omega
  ·show i64.wrap ((X:Int)+i64.wrap (6*((Y:Int) - 1)))=_
   rw [w64 (n:=6*((Y:Int) - 1)) (by omega),w64 (by omega)]
   split at hn<;>split<;>omega
 | 2,_=>
  have e:pl (k:Int) 2=#[.int .i64 ((X:Int)+1),.int .i64 (Y:Int)]:=by unfold pl;rw [ex,ey,eY,w64 (n:=(X:Int)+1) (by omega)];rfl
  rw [e,Uhb h0']
  have hg:gw S k 2=if (X:Int)+1<num S 0 then (k:Int)+1 else -1:=by unfold gw;rw [hX];by_cases c:(X:Int)+1<num S 0<;>simp [c]
  rw [hg]
  refine ⟨decide_eq_decide.2 ?_,fun hn=> ?_⟩
  ·split<;>omega
  ·show i64.wrap ((X:Int)+1+i64.wrap (6*(Y:Int)))=_
   rw [w64 (n:=6*(Y:Int)) (by omega),w64 (by omega)]
   split at hn<;>split<;>omega
 | 3,_=>
  have e:pl (k:Int) 3=#[.int .i64 (X:Int),.int .i64 ((Y:Int)+1)]:=by unfold pl;rw [ex,ey,eY,w64 (n:=(Y:Int)+1) (by omega)];rfl
  rw [e,Uhb h0']
  have hg:gw S k 3=if (Y:Int)+1<num S 1 then (k:Int)+6 else -1:=by unfold gw;rw [hY];by_cases c:(Y:Int)+1<num S 1<;>simp [c]
  rw [hg]
  refine ⟨decide_eq_decide.2 ?_,fun hn=> ?_⟩
  ·split<;>omega
  ·show i64.wrap ((X:Int)+i64.wrap (6*((Y:Int)+1)))=_
   rw [w64 (n:=6*((Y:Int)+1)) (by omega),w64 (by omega)]
   split at hn<;>split<;>omega
 | 4,_=>
  have e:pl (k:Int) 4=#[.int .i64 ((X:Int) - 1),.int .i64 (Y:Int)]:=by unfold pl;rw [ex,ey,eY,w64 (n:=(X:Int) - 1) (by omega)];rfl
  rw [e,Uhb h0']
  have hg:gw S k 4=if 1≤X then (k:Int) - 1 else -1:=by unfold gw;rw [hX];by_cases c:1≤X<;>simp [c]
  rw [hg]
  refine ⟨decide_eq_decide.2 ?_,fun hn=> ?_⟩
  ·split<;>omega
  ·show i64.wrap ((X:Int) - 1+i64.wrap (6*(Y:Int)))=_
   rw [w64 (n:=6*(Y:Int)) (by omega),w64 (by omega)]
   split at hn<;>split<;>omega
def Uba (S:Array Value) (t:Int) (k w:Nat):List (Int×Int):=bif decide (chW S t (k:Int) w > 0)&&decide (gw S k w ≠ -1) then [(gw S k w,chW S t (k:Int) w)] else []
def stL (S:Array Value) (t:Int) (k:Nat):List (Int×Int):=bif Za9 S (k:Int) then [((k:Int),12)] else Uba S t k 1++Uba S t k 4++Uba S t k 0++Uba S t k 2++Uba S t k 3
def Ubi (l:List (Int×Int)):Array Value:=⟨l.flatMap fun p=>[.int .i64 p.1,.int .i64 p.2]⟩
theorem Yjr (l m:List (Int×Int)):Ubi (l++m)=Ubi l++Ubi m:=by unfold Ubi;simp
def stF (S:Array Value) (t c:Int) (w:Nat) (q:Nat×Array Value):Nat×Array Value:=
 bif decide (chW S t c w > 0) then (bif Zas S (pl c w) then (q.1+1,q.2++#[.int .i64 (i64.wrap (num (pl c w) 0+i64.wrap (6*num (pl c w) 1))),.int .i64 (chW S t c w)]) else (q.1,q.2)) else (q.1,q.2)
theorem Ydl {S:Array Value} (h0:1≤num S 0∧num S 0≤6∧1≤num S 1∧num S 1≤6) {k:Nat} (hk:k<36) (hi:inC (num S 0) (num S 1) k=true) (t:Int) {w:Nat} (hw:w<5) (l:List (Int×Int)) :
  stF S t (k:Int) w (l.length,Ubi l)=((l++Uba S t k w).length,Ubi (l++Uba S t k w)):=by
 obtain ⟨h1,h2⟩:=Ynq h0 hk hi w hw
 unfold stF Uba
 rw [h1]
 cases decide (chW S t (k:Int) w > 0) with
 | false=>simp
 | true=>
  cases hd:decide (gw S k w ≠ -1) with
  | false=>simp
  | true=>
   rw [h2 (of_decide_eq_true hd)]
   simp only [Q1,Bool.and_self,List.length_append,List.length_cons,List.length_nil,Yjr]
   rfl
def Zbc:Cons:=(mkΓ [(34,con Zhz),(62,con Zik),(63,con Zjf),(115,con Zkb),(127,con Zmm),(128,con Zjz),(130,con Zjx),(131,con Zip),(132,con Zjq),(133,con Zi1),(134,con Zju)])
def Zj2 (t:Nat×Array Value):LS:=([.a (.i .i64 (0:Int)),.a (.l 5)],[.sl .own t.1 t.2 181])
def Znr (t:Nat×Array Value):LS:=([.a (.i .i64 (1:Int)),.a (.l 5)],[.sl .own t.1 t.2 181])
def Zm3 (t:Nat×Array Value):LS:=([.a (.i .i64 (2:Int)),.a (.l 5)],[.sl .own t.1 t.2 181])
def Zm5 (t:Nat×Array Value):LS:=([.a (.i .i64 (3:Int)),.a (.l 5)],[.sl .own t.1 t.2 181])
def Znq (t:Nat×Array Value):LS:=([.a (.i .i64 (4:Int)),.a (.l 5)],[.sl .own t.1 t.2 181])
def Zgr (t:Nat×Array Value):LS:=([.a (.i .i64 (5:Int)),.a (.l 5)],[.sl .own t.1 t.2 181])
def Zat (a0:Array Value) (a1 a2:Int) (t:Nat×Array Value):Nat×Array Value:=bif decide ((i64.wrap (num a0 (((3+((a2).toNat*180))+((a1).toNat*5))+1))) > (0:Int)) then (bif (Zas a0 (#[.int .i64 (num (#[.int .i64 ((a1).tmod (6:Int)),.int .i64 (i64.wrap ((a1).tdiv (6:Int)))]:Array Value) 0),.int .i64 (i64.wrap ((num (#[.int .i64 ((a1).tmod (6:Int)),.int .i64 (i64.wrap ((a1).tdiv (6:Int)))]:Array Value) 1) - (1:Int)))]:Array Value)) then (((t.1+1),(t.2++(#[.int .i64 (i64.wrap ((num (#[.int .i64 (num (#[.int .i64 ((a1).tmod (6:Int)),.int .i64 (i64.wrap ((a1).tdiv (6:Int)))]:Array Value) 0),.int .i64 (i64.wrap ((num (#[.int .i64 ((a1).tmod (6:Int)),.int .i64 (i64.wrap ((a1).tdiv (6:Int)))]:Array Value) 1) - (1:Int)))]:Array Value) 0)+(i64.wrap ((6:Int)*(num (#[.int .i64 (num (#[.int .i64 ((a1).tmod (6:Int)),.int .i64 (i64.wrap ((a1).tdiv (6:Int)))]:Array Value) 0),.int .i64 (i64.wrap ((num (#[.int .i64 ((a1).tmod (6:Int)),.int .i64 (i64.wrap ((a1).tdiv (6:Int)))]:Array Value) 1) - (1:Int)))]:Array Value) 1))))),.int .i64 (i64.wrap (num a0 (((3+((a2).toNat*180))+((a1).toNat*5))+1)))]:Array Value)))) else ((t.1,t.2))) else ((t.1,t.2))
def Ub2:=(Uaf (codeOf Tryz.f123) [([21],[1000007,181])]).1
def Ubz (a0:Array Value) (a1 a2:Int):=(⟨.a (.g a0 41) :: .a (.i .i64 (a1)) :: .a (.i .i64 (a2)) :: .a (.w 0) :: .a (.u) :: .a (.u) :: .a (.v (.slice none 0 0)) :: .a (.l 5) :: .a (.w 3)::us 4 (.a (.g a0 41) :: .a (.i .i64 (a1)) :: .a (.b ((Za9 a0 a1)))::us 3 (.a (.g #[.func (.func 130) #[] #[],.func (.func 131) #[] #[],.func (.func 132) #[] #[],.func (.func 133) #[] #[],.func (.func 134) #[] #[]] 210) :: .a (.g #[.int .u8 (1:Int),.int .u8 (4:Int),.int .u8 (0:Int),.int .u8 (2:Int),.int .u8 (3:Int)] 24) :: .a (.i .i64 (0:Int))::us 34 ([]))),[.row a0 41,.no,.no,.row #[.func (.func 130) #[] #[],.func (.func 131) #[] #[],.func (.func 132) #[] #[],.func (.func 133) #[] #[],.func (.func 134) #[] #[]] 210,.no,.sl .own 0 (#[]:Array Value) 181],[3]⟩:St)
theorem Zwb (N:Nat) (a0:Array Value) (a1 a2:Int) (hq0:(decide (0≤a2)&&decide (a2<2))=true) (hq1:(decide (0≤a1)&&decide (a1<36))=true) (t:Nat×Array Value) (hl:t.1≤1000000):Ubu PZ Zbc N (cAt (codeOf Tryz.f123) [1,1,1,1,0,1,0,0]) (pAt Ub2 [1,1,1,1,0,1,0]) [21] [] 7 181 5 (Ubz a0 a1 a2) (Zj2 t)=some (.more (Znr (Zat a0 a1 a2 t))):=by
 refine Eq.trans (b:=(bif (decide (0≤a2)&&decide (a2<2)) then (bif (decide (0≤a1)&&decide (a1<36)) then (bif decide ((i64.wrap (num a0 (((3+((a2).toNat*180))+((a1).toNat*5))+1))) > (0:Int)) then (bif (Zas a0 (#[.int .i64 (num (#[.int .i64 ((a1).tmod (6:Int)),.int .i64 (i64.wrap ((a1).tdiv (6:Int)))]:Array Value) 0),.int .i64 (i64.wrap ((num (#[.int .i64 ((a1).tmod (6:Int)),.int .i64 (i64.wrap ((a1).tdiv (6:Int)))]:Array Value) 1) - (1:Int)))]:Array Value)) then (bif (jA ((t.1+1)*bytesOf PZ 181) 140737488355328) then (some (.more ([.a (.i .i64 (1:Int)),.a (.l 5)],[.sl .own (t.1+1) (t.2++(#[.int .i64 (i64.wrap ((num (#[.int .i64 (num (#[.int .i64 ((a1).tmod (6:Int)),.int .i64 (i64.wrap ((a1).tdiv (6:Int)))]:Array Value) 0),.int .i64 (i64.wrap ((num (#[.int .i64 ((a1).tmod (6:Int)),.int .i64 (i64.wrap ((a1).tdiv (6:Int)))]:Array Value) 1) - (1:Int)))]:Array Value) 0)+(i64.wrap ((6:Int)*(num (#[.int .i64 (num (#[.int .i64 ((a1).tmod (6:Int)),.int .i64 (i64.wrap ((a1).tdiv (6:Int)))]:Array Value) 0),.int .i64 (i64.wrap ((num (#[.int .i64 ((a1).tmod (6:Int)),.int .i64 (i64.wrap ((a1).tdiv (6:Int)))]:Array Value) 1) - (1:Int)))]:Array Value) 1))))),.int .i64 (i64.wrap (num a0 (((3+((a2).toNat*180))+((a1).toNat*5))+1)))]:Array Value)) 181]))) else (none)) else (some (.more ([.a (.i .i64 (1:Int)),.a (.l 5)],[.sl .own t.1 t.2 181])))) else (some (.more ([.a (.i .i64 (1:Int)),.a (.l 5)],[.sl .own t.1 t.2 181])))) else (none)) else (none))) (by kernel_rfl) ?_
 have hb:bytesOf PZ 181≤1000000:=jD (by kernel_rfl)
 have g2:(jA ((t.1+1)*bytesOf PZ 181) 140737488355328)=true:=jC (Nat.le_trans (jE (show _≤1000001 by omega) hb) (by decide))
 simp only [Zat,Ztn,g2,hq0,hq1,Q1]
 rfl
theorem Zww (a0:Array Value) (a1 a2:Int) (t:Nat×Array Value):(Zat a0 a1 a2 t).1≤t.1+1:=by
 unfold Zat
 repeat (first | exact jB _ | exact Nat.le_succ _ | refine Znc ?_ ?_)
def Za2 (a0:Array Value) (a1 a2:Int) (t:Nat×Array Value):Nat×Array Value:=bif decide ((i64.wrap (num a0 (((3+((a2).toNat*180))+((a1).toNat*5))+4))) > (0:Int)) then (bif (Zas a0 (#[.int .i64 (i64.wrap ((num (#[.int .i64 ((a1).tmod (6:Int)),.int .i64 (i64.wrap ((a1).tdiv (6:Int)))]:Array Value) 0) - (1:Int))),.int .i64 (num (#[.int .i64 ((a1).tmod (6:Int)),.int .i64 (i64.wrap ((a1).tdiv (6:Int)))]:Array Value) 1)]:Array Value)) then (((t.1+1),(t.2++(#[.int .i64 (i64.wrap ((num (#[.int .i64 (i64.wrap ((num (#[.int .i64 ((a1).tmod (6:Int)),.int .i64 (i64.wrap ((a1).tdiv (6:Int)))]:Array Value) 0) - (1:Int))),.int .i64 (num (#[.int .i64 ((a1).tmod (6:Int)),.int .i64 (i64.wrap ((a1).tdiv (6:Int)))]:Array Value) 1)]:Array Value) 0)+(i64.wrap ((6:Int)*(num (#[.int .i64 (i64.wrap ((num (#[.int .i64 ((a1).tmod (6:Int)),.int .i64 (i64.wrap ((a1).tdiv (6:Int)))]:Array Value) 0) - (1:Int))),.int .i64 (num (#[.int .i64 ((a1).tmod (6:Int)),.int .i64 (i64.wrap ((a1).tdiv (6:Int)))]:Array Value) 1)]:Array Value) 1))))),.int .i64 (i64.wrap (num a0 (((3+((a2).toNat*180))+((a1).toNat*5))+4)))]:Array Value)))) else ((t.1,t.2))) else ((t.1,t.2))
theorem Zw2 (N:Nat) (a0:Array Value) (a1 a2:Int) (hq0:(decide (0≤a2)&&decide (a2<2))=true) (hq1:(decide (0≤a1)&&decide (a1<36))=true) (t:Nat×Array Value) (hl:t.1≤1000000):Ubu PZ Zbc N (cAt (codeOf Tryz.f123) [1,1,1,1,0,1,0,0]) (pAt Ub2 [1,1,1,1,0,1,0]) [21] [] 7 181 5 (Ubz a0 a1 a2) (Znr t)=some (.more (Zm3 (Za2 a0 a1 a2 t))):=by
 refine Eq.trans (b:=(bif (decide (0≤a2)&&decide (a2<2)) then (bif (decide (0≤a1)&&decide (a1<36)) then (bif decide ((i64.wrap (num a0 (((3+((a2).toNat*180))+((a1).toNat*5))+4))) > (0:Int)) then (bif (Zas a0 (#[.int .i64 (i64.wrap ((num (#[.int .i64 ((a1).tmod (6:Int)),.int .i64 (i64.wrap ((a1).tdiv (6:Int)))]:Array Value) 0) - (1:Int))),.int .i64 (num (#[.int .i64 ((a1).tmod (6:Int)),.int .i64 (i64.wrap ((a1).tdiv (6:Int)))]:Array Value) 1)]:Array Value)) then (bif (jA ((t.1+1)*bytesOf PZ 181) 140737488355328) then (some (.more ([.a (.i .i64 (2:Int)),.a (.l 5)],[.sl .own (t.1+1) (t.2++(#[.int .i64 (i64.wrap ((num (#[.int .i64 (i64.wrap ((num (#[.int .i64 ((a1).tmod (6:Int)),.int .i64 (i64.wrap ((a1).tdiv (6:Int)))]:Array Value) 0) - (1:Int))),.int .i64 (num (#[.int .i64 ((a1).tmod (6:Int)),.int .i64 (i64.wrap ((a1).tdiv (6:Int)))]:Array Value) 1)]:Array Value) 0)+(i64.wrap ((6:Int)*(num (#[.int .i64 (i64.wrap ((num (#[.int .i64 ((a1).tmod (6:Int)),.int .i64 (i64.wrap ((a1).tdiv (6:Int)))]:Array Value) 0) - (1:Int))),.int .i64 (num (#[.int .i64 ((a1).tmod (6:Int)),.int .i64 (i64.wrap ((a1).tdiv (6:Int)))]:Array Value) 1)]:Array Value) 1))))),.int .i64 (i64.wrap (num a0 (((3+((a2).toNat*180))+((a1).toNat*5))+4)))]:Array Value)) 181]))) else (none)) else (some (.more ([.a (.i .i64 (2:Int)),.a (.l 5)],[.sl .own t.1 t.2 181])))) else (some (.more ([.a (.i .i64 (2:Int)),.a (.l 5)],[.sl .own t.1 t.2 181])))) else (none)) else (none))) (by kernel_rfl) ?_
 have hb:bytesOf PZ 181≤1000000:=jD (by kernel_rfl)
 have g2:(jA ((t.1+1)*bytesOf PZ 181) 140737488355328)=true:=jC (Nat.le_trans (jE (show _≤1000001 by omega) hb) (by decide))
 simp only [Za2,Ztn,g2,hq0,hq1,Q1]
 rfl
theorem Zvz (a0:Array Value) (a1 a2:Int) (t:Nat×Array Value):(Za2 a0 a1 a2 t).1≤t.1+1:=by
 unfold Za2
 repeat (first | exact jB _ | exact Nat.le_succ _ | refine Znc ?_ ?_)
def Za8 (a0:Array Value) (a1 a2:Int) (t:Nat×Array Value):Nat×Array Value:=bif decide ((i64.wrap (num a0 (((3+((a2).toNat*180))+((a1).toNat*5))+0))) > (0:Int)) then (bif (Zas a0 (#[.int .i64 ((a1).tmod (6:Int)),.int .i64 (i64.wrap ((a1).tdiv (6:Int)))]:Array Value)) then (((t.1+1),(t.2++(#[.int .i64 (i64.wrap ((num (#[.int .i64 ((a1).tmod (6:Int)),.int .i64 (i64.wrap ((a1).tdiv (6:Int)))]:Array Value) 0)+(i64.wrap ((6:Int)*(num (#[.int .i64 ((a1).tmod (6:Int)),.int .i64 (i64.wrap ((a1).tdiv (6:Int)))]:Array Value) 1))))),.int .i64 (i64.wrap (num a0 (((3+((a2).toNat*180))+((a1).toNat*5))+0)))]:Array Value)))) else ((t.1,t.2))) else ((t.1,t.2))
theorem Zwn (N:Nat) (a0:Array Value) (a1 a2:Int) (hq0:(decide (0≤a2)&&decide (a2<2))=true) (hq1:(decide (0≤a1)&&decide (a1<36))=true) (t:Nat×Array Value) (hl:t.1≤1000000):Ubu PZ Zbc N (cAt (codeOf Tryz.f123) [1,1,1,1,0,1,0,0]) (pAt Ub2 [1,1,1,1,0,1,0]) [21] [] 7 181 5 (Ubz a0 a1 a2) (Zm3 t)=some (.more (Zm5 (Za8 a0 a1 a2 t))):=by
 refine Eq.trans (b:=(bif (decide (0≤a2)&&decide (a2<2)) then (bif (decide (0≤a1)&&decide (a1<36)) then (bif decide ((i64.wrap (num a0 (((3+((a2).toNat*180))+((a1).toNat*5))+0))) > (0:Int)) then (bif (Zas a0 (#[.int .i64 ((a1).tmod (6:Int)),.int .i64 (i64.wrap ((a1).tdiv (6:Int)))]:Array Value)) then (bif (jA ((t.1+1)*bytesOf PZ 181) 140737488355328) then (some (.more ([.a (.i .i64 (3:Int)),.a (.l 5)],[.sl .own (t.1+1) (t.2++(#[.int .i64 (i64.wrap ((num (#[.int .i64 ((a1).tmod (6:Int)),.int .i64 (i64.wrap ((a1).tdiv (6:Int)))]:Array Value) 0)+(i64.wrap ((6:Int)*(num (#[.int .i64 ((a1).tmod (6:Int)),.int .i64 (i64.wrap ((a1).tdiv (6:Int)))]:Array Value) 1))))),.int .i64 (i64.wrap (num a0 (((3+((a2).toNat*180))+((a1).toNat*5))+0)))]:Array Value)) 181]))) else (none)) else (some (.more ([.a (.i .i64 (3:Int)),.a (.l 5)],[.sl .own t.1 t.2 181])))) else (some (.more ([.a (.i .i64 (3:Int)),.a (.l 5)],[.sl .own t.1 t.2 181])))) else (none)) else (none))) (by kernel_rfl) ?_
 have hb:bytesOf PZ 181≤1000000:=jD (by kernel_rfl)
 have g2:(jA ((t.1+1)*bytesOf PZ 181) 140737488355328)=true:=jC (Nat.le_trans (jE (show _≤1000001 by omega) hb) (by decide))
 simp only [Za8,Ztn,g2,hq0,hq1,Q1]
 rfl
theorem Zwr (a0:Array Value) (a1 a2:Int) (t:Nat×Array Value):(Za8 a0 a1 a2 t).1≤t.1+1:=by
 unfold Za8
 repeat (first | exact jB _ | exact Nat.le_succ _ | refine Znc ?_ ?_)
def Zbm (a0:Array Value) (a1 a2:Int) (t:Nat×Array Value):Nat×Array Value:=bif decide ((i64.wrap (num a0 (((3+((a2).toNat*180))+((a1).toNat*5))+2))) > (0:Int)) then (bif (Zas a0 (#[.int .i64 (i64.wrap ((num (#[.int .i64 ((a1).tmod (6:Int)),.int .i64 (i64.wrap ((a1).tdiv (6:Int)))]:Array Value) 0)+(1:Int))),.int .i64 (num (#[.int .i64 ((a1).tmod (6:Int)),.int .i64 (i64.wrap ((a1).tdiv (6:Int)))]:Array Value) 1)]:Array Value)) then (((t.1+1),(t.2++(#[.int .i64 (i64.wrap ((num (#[.int .i64 (i64.wrap ((num (#[.int .i64 ((a1).tmod (6:Int)),.int .i64 (i64.wrap ((a1).tdiv (6:Int)))]:Array Value) 0)+(1:Int))),.int .i64 (num (#[.int .i64 ((a1).tmod (6:Int)),.int .i64 (i64.wrap ((a1).tdiv (6:Int)))]:Array Value) 1)]:Array Value) 0)+(i64.wrap ((6:Int)*(num (#[.int .i64 (i64.wrap ((num (#[.int .i64 ((a1).tmod (6:Int)),.int .i64 (i64.wrap ((a1).tdiv (6:Int)))]:Array Value) 0)+(1:Int))),.int .i64 (num (#[.int .i64 ((a1).tmod (6:Int)),.int .i64 (i64.wrap ((a1).tdiv (6:Int)))]:Array Value) 1)]:Array Value) 1))))),.int .i64 (i64.wrap (num a0 (((3+((a2).toNat*180))+((a1).toNat*5))+2)))]:Array Value)))) else ((t.1,t.2))) else ((t.1,t.2))
theorem Zwk (N:Nat) (a0:Array Value) (a1 a2:Int) (hq0:(decide (0≤a2)&&decide (a2<2))=true) (hq1:(decide (0≤a1)&&decide (a1<36))=true) (t:Nat×Array Value) (hl:t.1≤1000000):Ubu PZ Zbc N (cAt (codeOf Tryz.f123) [1,1,1,1,0,1,0,0]) (pAt Ub2 [1,1,1,1,0,1,0]) [21] [] 7 181 5 (Ubz a0 a1 a2) (Zm5 t)=some (.more (Znq (Zbm a0 a1 a2 t))):=by
 refine Eq.trans (b:=(bif (decide (0≤a2)&&decide (a2<2)) then (bif (decide (0≤a1)&&decide (a1<36)) then (bif decide ((i64.wrap (num a0 (((3+((a2).toNat*180))+((a1).toNat*5))+2))) > (0:Int)) then (bif (Zas a0 (#[.int .i64 (i64.wrap ((num (#[.int .i64 ((a1).tmod (6:Int)),.int .i64 (i64.wrap ((a1).tdiv (6:Int)))]:Array Value) 0)+(1:Int))),.int .i64 (num (#[.int .i64 ((a1).tmod (6:Int)),.int .i64 (i64.wrap ((a1).tdiv (6:Int)))]:Array Value) 1)]:Array Value)) then (bif (jA ((t.1+1)*bytesOf PZ 181) 140737488355328) then (some (.more ([.a (.i .i64 (4:Int)),.a (.l 5)],[.sl .own (t.1+1) (t.2++(#[.int .i64 (i64.wrap ((num (#[.int .i64 (i64.wrap ((num (#[.int .i64 ((a1).tmod (6:Int)),.int .i64 (i64.wrap ((a1).tdiv (6:Int)))]:Array Value) 0)+(1:Int))),.int .i64 (num (#[.int .i64 ((a1).tmod (6:Int)),.int .i64 (i64.wrap ((a1).tdiv (6:Int)))]:Array Value) 1)]:Array Value) 0)+(i64.wrap ((6:Int)*(num (#[.int .i64 (i64.wrap ((num (#[.int .i64 ((a1).tmod (6:Int)),.int .i64 (i64.wrap ((a1).tdiv (6:Int)))]:Array Value) 0)+(1:Int))),.int .i64 (num (#[.int .i64 ((a1).tmod (6:Int)),.int .i64 (i64.wrap ((a1).tdiv (6:Int)))]:Array Value) 1)]:Array Value) 1))))),.int .i64 (i64.wrap (num a0 (((3+((a2).toNat*180))+((a1).toNat*5))+2)))]:Array Value)) 181]))) else (none)) else (some (.more ([.a (.i .i64 (4:Int)),.a (.l 5)],[.sl .own t.1 t.2 181])))) else (some (.more ([.a (.i .i64 (4:Int)),.a (.l 5)],[.sl .own t.1 t.2 181])))) else (none)) else (none))) (by kernel_rfl) ?_
 have hb:bytesOf PZ 181≤1000000:=jD (by kernel_rfl)
 have g2:(jA ((t.1+1)*bytesOf PZ 181) 140737488355328)=true:=jC (Nat.le_trans (jE (show _≤1000001 by omega) hb) (by decide))
 simp only [Zbm,Ztn,g2,hq0,hq1,Q1]
 rfl
theorem Zvt (a0:Array Value) (a1 a2:Int) (t:Nat×Array Value):(Zbm a0 a1 a2 t).1≤t.1+1:=by
 unfold Zbm
 repeat (first | exact jB _ | exact Nat.le_succ _ | refine Znc ?_ ?_)
def Zc0 (a0:Array Value) (a1 a2:Int) (t:Nat×Array Value):Nat×Array Value:=bif decide ((i64.wrap (num a0 (((3+((a2).toNat*180))+((a1).toNat*5))+3))) > (0:Int)) then (bif (Zas a0 (#[.int .i64 (num (#[.int .i64 ((a1).tmod (6:Int)),.int .i64 (i64.wrap ((a1).tdiv (6:Int)))]:Array Value) 0),.int .i64 (i64.wrap ((num (#[.int .i64 ((a1).tmod (6:Int)),.int .i64 (i64.wrap ((a1).tdiv (6:Int)))]:Array Value) 1)+(1:Int)))]:Array Value)) then (((t.1+1),(t.2++(#[.int .i64 (i64.wrap ((num (#[.int .i64 (num (#[.int .i64 ((a1).tmod (6:Int)),.int .i64 (i64.wrap ((a1).tdiv (6:Int)))]:Array Value) 0),.int .i64 (i64.wrap ((num (#[.int .i64 ((a1).tmod (6:Int)),.int .i64 (i64.wrap ((a1).tdiv (6:Int)))]:Array Value) 1)+(1:Int)))]:Array Value) 0)+(i64.wrap ((6:Int)*(num (#[.int .i64 (num (#[.int .i64 ((a1).tmod (6:Int)),.int .i64 (i64.wrap ((a1).tdiv (6:Int)))]:Array Value) 0),.int .i64 (i64.wrap ((num (#[.int .i64 ((a1).tmod (6:Int)),.int .i64 (i64.wrap ((a1).tdiv (6:Int)))]:Array Value) 1)+(1:Int)))]:Array Value) 1))))),.int .i64 (i64.wrap (num a0 (((3+((a2).toNat*180))+((a1).toNat*5))+3)))]:Array Value)))) else ((t.1,t.2))) else ((t.1,t.2))
theorem Zwx (N:Nat) (a0:Array Value) (a1 a2:Int) (hq0:(decide (0≤a2)&&decide (a2<2))=true) (hq1:(decide (0≤a1)&&decide (a1<36))=true) (t:Nat×Array Value) (hl:t.1≤1000000):Ubu PZ Zbc N (cAt (codeOf Tryz.f123) [1,1,1,1,0,1,0,0]) (pAt Ub2 [1,1,1,1,0,1,0]) [21] [] 7 181 5 (Ubz a0 a1 a2) (Znq t)=some (.more (Zgr (Zc0 a0 a1 a2 t))):=by
 refine Eq.trans (b:=(bif (decide (0≤a2)&&decide (a2<2)) then (bif (decide (0≤a1)&&decide (a1<36)) then (bif decide ((i64.wrap (num a0 (((3+((a2).toNat*180))+((a1).toNat*5))+3))) > (0:Int)) then (bif (Zas a0 (#[.int .i64 (num (#[.int .i64 ((a1).tmod (6:Int)),.int .i64 (i64.wrap ((a1).tdiv (6:Int)))]:Array Value) 0),.int .i64 (i64.wrap ((num (#[.int .i64 ((a1).tmod (6:Int)),.int .i64 (i64.wrap ((a1).tdiv (6:Int)))]:Array Value) 1)+(1:Int)))]:Array Value)) then (bif (jA ((t.1+1)*bytesOf PZ 181) 140737488355328) then (some (.more ([.a (.i .i64 (5:Int)),.a (.l 5)],[.sl .own (t.1+1) (t.2++(#[.int .i64 (i64.wrap ((num (#[.int .i64 (num (#[.int .i64 ((a1).tmod (6:Int)),.int .i64 (i64.wrap ((a1).tdiv (6:Int)))]:Array Value) 0),.int .i64 (i64.wrap ((num (#[.int .i64 ((a1).tmod (6:Int)),.int .i64 (i64.wrap ((a1).tdiv (6:Int)))]:Array Value) 1)+(1:Int)))]:Array Value) 0)+(i64.wrap ((6:Int)*(num (#[.int .i64 (num (#[.int .i64 ((a1).tmod (6:Int)),.int .i64 (i64.wrap ((a1).tdiv (6:Int)))]:Array Value) 0),.int .i64 (i64.wrap ((num (#[.int .i64 ((a1).tmod (6:Int)),.int .i64 (i64.wrap ((a1).tdiv (6:Int)))]:Array Value) 1)+(1:Int)))]:Array Value) 1))))),.int .i64 (i64.wrap (num a0 (((3+((a2).toNat*180))+((a1).toNat*5))+3)))]:Array Value)) 181]))) else (none)) else (some (.more ([.a (.i .i64 (5:Int)),.a (.l 5)],[.sl .own t.1 t.2 181])))) else (some (.more ([.a (.i .i64 (5:Int)),.a (.l 5)],[.sl .own t.1 t.2 181])))) else (none)) else (none))) (by kernel_rfl) ?_
 have hb:bytesOf PZ 181≤1000000:=jD (by kernel_rfl)
 have g2:(jA ((t.1+1)*bytesOf PZ 181) 140737488355328)=true:=jC (Nat.le_trans (jE (show _≤1000001 by omega) hb) (by decide))
 simp only [Zc0,Ztn,g2,hq0,hq1,Q1]
 rfl
theorem Zvw (a0:Array Value) (a1 a2:Int) (t:Nat×Array Value):(Zc0 a0 a1 a2 t).1≤t.1+1:=by
 unfold Zc0
 repeat (first | exact jB _ | exact Nat.le_succ _ | refine Znc ?_ ?_)
theorem Zwd (N:Nat) (a0:Array Value) (a1 a2:Int) (hq0:(decide (0≤a2)&&decide (a2<2))=true) (hq1:(decide (0≤a1)&&decide (a1<36))=true) (t:Nat×Array Value):Ubu PZ Zbc N (cAt (codeOf Tryz.f123) [1,1,1,1,0,1,0,0]) (pAt Ub2 [1,1,1,1,0,1,0]) [21] [] 7 181 5 (Ubz a0 a1 a2) (Zgr t)=some (.done ((.exit 0),Zgr t)):=by kernel_rfl
def Zc3 (a0:Array Value) (a1 a2:Int):Nat×Array Value:=(Zc0 a0 a1 a2 (Zbm a0 a1 a2 (Za8 a0 a1 a2 (Za2 a0 a1 a2 (Zat a0 a1 a2 (0,(#[]:Array Value)))))))
theorem Zz3 (N:Nat) (hN:5<N) (a0:Array Value) (a1 a2:Int) (hq0:(decide (0≤a2)&&decide (a2<2))=true) (hq1:(decide (0≤a1)&&decide (a1<36))=true):Uaa (Ubu PZ Zbc N (cAt (codeOf Tryz.f123) [1,1,1,1,0,1,0,0]) (pAt Ub2 [1,1,1,1,0,1,0]) [21] [] 7 181 5 (Ubz a0 a1 a2)) N (Zj2 (0,(#[]:Array Value)))=some ((.exit 0),Zgr (Zc3 a0 a1 a2)):=by
 have l0:((0,(#[]:Array Value)):Nat×Array Value).1≤0:=jB _
 have l1:=Zww a0 a1 a2 (0,(#[]:Array Value))
 have l2:=Zvz a0 a1 a2 (Zat a0 a1 a2 (0,(#[]:Array Value)))
 have l3:=Zwr a0 a1 a2 (Za2 a0 a1 a2 (Zat a0 a1 a2 (0,(#[]:Array Value))))
 have l4:=Zvt a0 a1 a2 (Za8 a0 a1 a2 (Za2 a0 a1 a2 (Zat a0 a1 a2 (0,(#[]:Array Value)))))
 have l5:=Zvw a0 a1 a2 (Zbm a0 a1 a2 (Za8 a0 a1 a2 (Za2 a0 a1 a2 (Zat a0 a1 a2 (0,(#[]:Array Value))))))
 have q0:=Zwb N a0 a1 a2 hq0 hq1 (0,(#[]:Array Value)) (by omega)
 have q1:=Zw2 N a0 a1 a2 hq0 hq1 (Zat a0 a1 a2 (0,(#[]:Array Value))) (by omega)
 have q2:=Zwn N a0 a1 a2 hq0 hq1 (Za2 a0 a1 a2 (Zat a0 a1 a2 (0,(#[]:Array Value)))) (by omega)
 have q3:=Zwk N a0 a1 a2 hq0 hq1 (Za8 a0 a1 a2 (Za2 a0 a1 a2 (Zat a0 a1 a2 (0,(#[]:Array Value))))) (by omega)
 have q4:=Zwx N a0 a1 a2 hq0 hq1 (Zbm a0 a1 a2 (Za8 a0 a1 a2 (Za2 a0 a1 a2 (Zat a0 a1 a2 (0,(#[]:Array Value)))))) (by omega)
 have q5:=Zwd N a0 a1 a2 hq0 hq1 (Zc0 a0 a1 a2 (Zbm a0 a1 a2 (Za8 a0 a1 a2 (Za2 a0 a1 a2 (Zat a0 a1 a2 (0,(#[]:Array Value)))))))
 unfold Zc3
 obtain ⟨N0,e0⟩:∃ N0,N=N0+5+1:=⟨N - 5 - 1,by omega⟩
 generalize hf:Ubu PZ Zbc N (cAt (codeOf Tryz.f123) [1,1,1,1,0,1,0,0]) (pAt Ub2 [1,1,1,1,0,1,0]) [21] [] 7 181 5 (Ubz a0 a1 a2)=f at q0 q1 q2 q3 q4 q5⊢
 rw [e0]
 refine (Zne q0 (N0+5)).trans ?_
 refine (Zne q1 (N0+4)).trans ?_
 refine (Zne q2 (N0+3)).trans ?_
 refine (Zne q3 (N0+2)).trans ?_
 refine (Zne q4 (N0+1)).trans ?_
 exact Yet q5 N0
def zf9cmc (N:Nat):=(Uan 0 (kSeq (veC PZ Zbc N (cAt (codeOf Tryz.f123) [1,1,1,1,1]) (pAt Ub2 [1,1,1,1,1]) (SV×Eff×Bool)) (finK PZ [] [.tmp 6])))
theorem Yas (N:Nat) (hN:5<N) (a0:Array Value) (a1 a2:Int) (hq0:(decide (0≤a2)&&decide (a2<2))=true) (hq1:(decide (0≤a1)&&decide (a1<36))=true):Uah (Uaa (Ubu PZ Zbc N (cAt (codeOf Tryz.f123) [1,1,1,1,0,1,0,0]) (pAt Ub2 [1,1,1,1,0,1,0]) [21] [] 7 181 5 (Ubz a0 a1 a2)) N ([.a (.i .i64 (0:Int)),.a (.l 5)],[.sl .own 0 (#[]:Array Value) 181])) (fun e s=>(zf9cmc N) e (left (writes (cAt (codeOf Tryz.f123) [1,1,1,1,0,1,0,0])) [21,7] [5] (Ubz a0 a1 a2) s))=(some (.a .x,.newS none (Zc3 a0 a1 a2).1 (Zc3 a0 a1 a2).2 181,true)):=by
 have e0:(([.a (.i .i64 (0:Int)),.a (.l 5)],[.sl .own 0 (#[]:Array Value) 181]):LS)=Zj2 (0,(#[]:Array Value)):=rfl
 rw [e0,Zz3 N hN a0 a1 a2 hq0 hq1 ]
 change _=_
 kernel_rfl
theorem Zzj (N:Nat) (hN:5<N) (a0:Array Value) (a1 a2:Int) (hq0:(decide (0≤a2)&&decide (a2<2))=true) (hq1:(decide (0≤a1)&&decide (a1<36))=true):ansV PZ Zbc N Tryz.f123 [([21],[1000007,181])] [.g a0 41,.i .i64 (a1),.i .i64 (a2)] []=(bif decide (0≤a1) then (bif (Za9 a0 a1) then (some (.a .x,.newS none 1 (#[.int .i64 (a1),.int .i64 (12:Int)]:Array Value) 181,true))
   else (some (.a .x,.newS none (Zc3 a0 a1 a2).1 (Zc3 a0 a1 a2).2 181,true)))
  else (none)):=by
 refine Eq.trans (b:=(bif decide (0≤a1) then (bif (Za9 a0 a1) then (some (.a .x,.newS none 1 (#[.int .i64 (a1),.int .i64 (12:Int)]:Array Value) 181,true))
   else (Uah (Uaa (Ubu PZ Zbc N (cAt (codeOf Tryz.f123) [1,1,1,1,0,1,0,0]) (pAt Ub2 [1,1,1,1,0,1,0]) [21] [] 7 181 5 (Ubz a0 a1 a2)) N ([.a (.i .i64 (0:Int)),.a (.l 5)],[.sl .own 0 (#[]:Array Value) 181])) (fun e s=>(zf9cmc N) e (left (writes (cAt (codeOf Tryz.f123) [1,1,1,1,0,1,0,0])) [21,7] [5] (Ubz a0 a1 a2) s))))
  else (none))) (by kernel_rfl) ?_
 simp only [Yas N hN a0 a1 a2 hq0 hq1 ]
theorem sf_F0 (S:Array Value) (c t:Int) (q:Nat×Array Value):Zat S c t q=stF S t c 1 q:=rfl
theorem sf_F1 (S:Array Value) (c t:Int) (q:Nat×Array Value):Za2 S c t q=stF S t c 4 q:=rfl
theorem sf_F2 (S:Array Value) (c t:Int) (q:Nat×Array Value):Za8 S c t q=stF S t c 0 q:=rfl
theorem sf_F3 (S:Array Value) (c t:Int) (q:Nat×Array Value):Zbm S c t q=stF S t c 2 q:=rfl
theorem sf_F4 (S:Array Value) (c t:Int) (q:Nat×Array Value):Zc0 S c t q=stF S t c 3 q:=rfl
theorem sf_v {S:Array Value} (h0:1≤num S 0∧num S 0≤6∧1≤num S 1∧num S 1≤6) {k:Nat} (hk:k<36) (hi:inC (num S 0) (num S 1) k=true) (t:Int) :
  Zc3 S (k:Int) t=((Uba S t k 1++Uba S t k 4++Uba S t k 0++Uba S t k 2++Uba S t k 3).length,Ubi (Uba S t k 1++Uba S t k 4++Uba S t k 0++Uba S t k 2++Uba S t k 3)):=by
 unfold Zc3
 rw [sf_F0,sf_F1,sf_F2,sf_F3,sf_F4,show ((0,(#[]:Array Value)):Nat×Array Value)=(([]:List (Int×Int)).length,Ubi []) from rfl,Ydl h0 hk hi t (by omega),Ydl h0 hk hi t (by omega),Ydl h0 hk hi t (by omega),Ydl h0 hk hi t (by omega),Ydl h0 hk hi t (by omega),List.nil_append]
theorem Zwc (a0:Array Value) (a1 a2:Int) (h_a0:WT PZ 41 a0) (h_a1:i64.min≤a1∧a1≤i64.max) (h_a2:i64.min≤a2∧a2≤i64.max) (hg:((okS a0&&(Zax a1 a0&&(decide (0≤a2)&&decide (a2<2)))))=true):ansV PZ Zbc 1000 Tryz.f123 [([21],[1000007,181])] [.g a0 41,.i .i64 (a1),.i .i64 (a2)] []=some (.a .x,.newS none (stL a0 a2 a1.toNat).length (Ubi (stL a0 a2 a1.toNat)) 181,true):=by
 rw [Q7,Q7] at hg
 obtain ⟨hok,his,ht⟩:=hg
 have h0:=Zt5 hok
 obtain ⟨c0,c1⟩:=Yhu his
 obtain ⟨k,rfl⟩:∃ k:Nat,a1=(k:Int):=⟨a1.toNat,by omega⟩
 have hk:k<36:=by omega
 rw [Ykf h_a0 hk] at his
 have hc:(decide (0≤(k:Int))&&decide ((k:Int)<36))=true:=by rw [Q3 c0,Q3 (show (k:Int)<36 by omega)];rfl
 refine (Zzj 1000 (by decide) a0 (k:Int) a2 ht hc).trans ?_
 rw [sf_v h0 hk his,Q9,Q3 c0]
 unfold stL
 cases Za9 a0 (k:Int)<;>rfl
def Zk5:Con:=fun args h=>match args,h with
 | [.g a0 41,.i .i64 a1,.i .i64 a2],[]=>some (.a .x,.newS none (stL a0 a2 a1.toNat).length (Ubi (stL a0 a2 a1.toNat)) 181,(okS a0&&(Zax a1 a0&&(decide (0≤a2)&&decide (a2<2)))))
 | _,_=>none
theorem Zuk:EntX PZ 123:=Zag (fn:=Tryz.f123) (by kernel_rfl) (by kernel_rfl) (by kernel_rfl)
theorem Yax:Uab mn PZ 123 Zk5:=(Zaf (N:=1000) (by kernel_rfl) (mkΓ_consX (Zac Zvn) Zpo (mkΓ_consX (Zac Zra) Zm6 (mkΓ_consX (Zac Zsv) Zob (mkΓ_consX (Zac Zvl) Zp2 (mkΓ_consX (Zac Yev) Zyn (mkΓ_consX (Zac Zx4) Ztt (mkΓ_consX (Zac Zw8) Zst (mkΓ_consX (Zac Zvo) Zrl (mkΓ_consX (Zac Zxl) Ztf (mkΓ_consX (Zac Zvq) Zr3 (mkΓ_consX (Zac Zzi) Zsi mkΓ_nilX))))))))))) (fn:=Tryz.f123) (by kernel_rfl) (by kernel_rfl) [([21],[1000007,181])]).of (by
 intro ρ h w args vals r e hA hH hr
 unfold Zk5 at hr
 split at hr
 ·rename_i a0 a1 a2
  obtain ⟨rfl,rfl,hg2⟩:=BQi hr
  exact Zwc a0 a1 a2 (hA.wt 0 rfl) (hA.rng 1 rfl) (hA.rng 2 rfl) hg2
 ·cases hr)
theorem Zz5 {C:Array Value} {b m o:Nat} (ho:o<m):num (C.extract b (b+m)) o=num C (b+o):=by
 have e2:(C.extract b (b+m))[o]? = C[b+o]? := by
  simp only [jF]
  by_cases h:b+o<C.size
  ·rw [if_pos (by omega)]
  ·rw [if_neg (by omega),jG (by omega)]
 unfold num;rw [e2]
def rdSt (n:Nat) (C:Array Value):List (Int×Int):=(List.range n).map fun k=>(num C (k*2+0),num C (k*2+1))
def okSt (n:Nat) (C:Array Value):Bool:=(List.range n).all fun k=>decide (0≤num C (k*2+0))&&decide (num C (k*2+0)<36)
def Ucb (L:Array Value) (c:Int):Int:=num L (c.toNat*1)
def sumF (L:Array Value) (s:Int) (p:Int×Int):Int:=i64.wrap (s+i64.wrap (p.2*Ucb L p.1))
def sumL (l:List (Int×Int)) (L:Array Value):Int:=l.foldl (sumF L) 0
theorem okSt_at {n:Nat} {C:Array Value} (h:okSt n C=true) {k:Nat} (hk:k<n):(decide (0≤num C (k*2+0))&&decide (num C (k*2+0)<36))=true:=List.all_eq_true.1 h k (List.mem_range.2 hk)
theorem rd_fold {T:Type} (f:T→Int×Int→T) (t:T) (n:Nat) (C:Array Value):folds (fun s k=>f s (num C (k*2+0),num C (k*2+1))) t n=(rdSt n C).foldl f t:=by
 unfold folds rdSt;rw [List.foldl_map]
theorem Yec:∀ (l:List (Int×Int)) (k:Nat) (p:Int×Int),l[k]? = some p→num (Ubi l) (k*2+0)=p.1∧num (Ubi l) (k*2+1)=p.2
 | [],k,p,h=>by simp at h
 | q::r,k,p,h=>by
  have e:Ubi (q::r)=#[.int .i64 q.1,.int .i64 q.2]++Ubi r:=by rw [show q::r=[q]++r from rfl,Yjr];rfl
  cases k with
  | zero=>
   simp only [List.getElem?_cons_zero,Q8] at h
   subst h
   rw [e];unfold num
   constructor<;>rw [Array.getElem?_append_left (by simp)]<;>rfl
  | succ k=>
   have:=Yec r k p (by simpa using h)
   rw [e]
   have s:∀ o,num (#[Value.int .i64 q.1,.int .i64 q.2]++Ubi r) (o+2)=num (Ubi r) o:=fun o=>by
    unfold num;rw [Array.getElem?_append_right (by simp)];rfl
   rw [show (k+1)*2+0=(k*2+0)+2 by omega,show (k+1)*2+1=(k*2+1)+2 by omega,s,s]
   exact this
theorem rd_enc (l:List (Int×Int)):rdSt l.length (Ubi l)=l:=by
 refine List.ext_getElem? fun k=> ?_
 unfold rdSt
 rw [List.getElem?_map]
 by_cases hk:k<l.length
 ·rw [List.getElem?_range hk,List.getElem?_eq_getElem hk]
  obtain ⟨h1,h2⟩:=Yec l k l[k] (List.getElem?_eq_getElem hk)
  simp only [Option.map_some,h1,h2]
 ·rw [List.getElem?_eq_none (by simpa using hk),List.getElem?_eq_none (by omega)];rfl
theorem ok_enc {l:List (Int×Int)} (h:∀ p ∈ l,0≤p.1∧p.1<36):okSt l.length (Ubi l)=true:=by
 unfold okSt
 refine List.all_eq_true.2 fun k hk=> ?_
 have hk:=List.mem_range.1 hk
 obtain ⟨h1,h2⟩:=Yec l k l[k] (List.getElem?_eq_getElem hk)
 have:=h l[k] (List.getElem_mem hk)
 rw [h1,Q3 this.1,Q3 this.2];rfl
def Ze2 (a1:Array Value) (b_a0:Option (Option Addr)) (n_a0:Nat) (a0:Array Value):St:=(⟨.a (.l 0) :: .a (.g a1 142) :: .a (.u) :: .a (.w 1) :: .a (.i .i64 (0:Int)) :: .a (.i .i64 (0:Int)) :: .a (.u) :: .a (.u) :: .a (.l 0) :: .a (.i .i64 (n_a0:Int)) :: .a (.i .i64 (0:Int))::us 14 ([]),[.sl (.came b_a0) n_a0 a0 181,.row a1 142,.no],[]⟩:St)
def Zgm:Int×Int→LS
 | (y0_5,y0_10)=>([.a (.i .i64 (y0_5)),.a (.i .i64 (y0_10))],[])
def Zlp:Int×Int→Exit×LS
 | t=>((.exit 0),Zgm t)
def Zc2 (P : Program) (a1 : Array Value) (b_a0 : Option (Option Addr)) (n_a0 : Nat) (a0 : Array Value) : Int × Int → Option (Stp (Int × Int) (Int × Int))
 | (y0_5, y0_10) => bif decide (y0_10 < (n_a0 : Int)) then (bif (decide (0 ≤ y0_10) && decide (y0_10 < (n_a0 : Int))) then (bif (decide (0 ≤ (num (a0.extract ((y0_10).toNat * 2) (((y0_10).toNat * 2) + 2)) 0)) && decide ((num (a0.extract ((y0_10).toNat * 2) (((y0_10).toNat * 2) + 2)) 0) < 36)) then (some (.more ((i64.wrap (y0_5 + (i64.wrap ((num (a0.extract ((y0_10).toNat * 2) (((y0_10).toNat * 2) + 2)) 1) * (num a1 ((num (a0.extract ((y0_10).toNat * 2) (((y0_10).toNat * 2) + 2)) 0).toNat * 1)))))), (i64.wrap (y0_10 + (1 : Int))))))
    else (none))
   else (none))
  else (some (.done (y0_5, y0_10)))
def Ugc:=(Uaf (codeOf Tryz.f80) [([5,10],[])]).1
theorem Yam (N:Nat) (a1:Array Value) (b_a0:Option (Option Addr)) (n_a0:Nat) (a0:Array Value):∀ t:Int×Int,Uag PZ (mkΓ []) N (cAt (codeOf Tryz.f80) [1,1,0,1,0,0]) (pAt Ugc [1,1,0,1,0]) [5,10] [] (Ze2 a1 b_a0 n_a0 a0) (Zgm t)=mapS Zgm Zlp (Zc2 PZ a1 b_a0 n_a0 a0 t):=by
 rintro ⟨y0_5,y0_10⟩
 refine Eq.trans (b:=(bif decide (y0_10<(n_a0:Int)) then (bif (decide (0≤y0_10)&&decide (y0_10<(n_a0:Int))) then (bif (decide (0≤(num (a0.extract ((y0_10).toNat*2) (((y0_10).toNat*2)+2)) 0))&&decide ((num (a0.extract ((y0_10).toNat*2) (((y0_10).toNat*2)+2)) 0)<36)) then (some (.more ([.a (.i .i64 (i64.wrap (y0_5+(i64.wrap ((num (a0.extract ((y0_10).toNat*2) (((y0_10).toNat*2)+2)) 1)*(num a1 ((num (a0.extract ((y0_10).toNat*2) (((y0_10).toNat*2)+2)) 0).toNat*1))))))),.a (.i .i64 (i64.wrap (y0_10+(1:Int))))],[])))
    else (none))
   else (none))
  else (some (.done ((.exit 0),([.a (.i .i64 (y0_5)),.a (.i .i64 (y0_10))],[])))))) (by kernel_rfl) ?_
 simp only [Zc2,Zaz,Zay,Za1,Za0,Zgm,Zlp]
def Zjo (P:Program) (N:Nat) (a1:Array Value) (b_a0:Option (Option Addr)) (n_a0:Nat) (a0:Array Value) (z0_5:Int) (z0_10:Int):Option (SV×Eff×Bool):=some (.a (.i .i64 (z0_5)),.none,true)
def Ug1 (N:Nat) (b_a0:Option (Option Addr)) (n_a0:Nat) (a0:Array Value):=(Uan 0 (kSeq (veC PZ (mkΓ []) N (cAt (codeOf Tryz.f80) [1,1,1]) (pAt Ugc [1,1,1]) (SV×Eff×Bool)) (finK PZ [.sl (.came b_a0) n_a0 a0 181] [.tmp 4])))
theorem Zr0 (N:Nat) (a1:Array Value) (b_a0:Option (Option Addr)) (n_a0:Nat) (a0:Array Value) (z0_5:Int) (z0_10:Int):(Ug1 N b_a0 n_a0 a0) (.exit 0) (left (writes (cAt (codeOf Tryz.f80) [1,1,0,1,0,0])) [5,10] [] (Ze2 a1 b_a0 n_a0 a0) ([.a (.i .i64 (z0_5)),.a (.i .i64 (z0_10))],[]))=Zjo PZ N a1 b_a0 n_a0 a0 z0_5 z0_10:=by
 refine Eq.trans (b:=(some (.a (.i .i64 (z0_5)),.none,true))) (by kernel_rfl) ?_
 rfl
theorem Yac (N:Nat) (a1:Array Value) (b_a0:Option (Option Addr)) (n_a0:Nat) (a0:Array Value):Uah (Uaa (Uag PZ (mkΓ []) N (cAt (codeOf Tryz.f80) [1,1,0,1,0,0]) (pAt Ugc [1,1,0,1,0]) [5,10] [] (Ze2 a1 b_a0 n_a0 a0)) N ([.a (.i .i64 (0:Int)),.a (.i .i64 (0:Int))],[])) (fun e s=>(Ug1 N b_a0 n_a0 a0) e (left (writes (cAt (codeOf Tryz.f80) [1,1,0,1,0,0])) [5,10] [] (Ze2 a1 b_a0 n_a0 a0) s))=Uak (Uaa (Zc2 PZ a1 b_a0 n_a0 a0) N ((0:Int),(0:Int))) (fun x=>Zjo PZ N a1 b_a0 n_a0 a0 x.1 x.2):=by
 refine Zbd Zgm Zlp _ _ (Yam N a1 b_a0 n_a0 a0) N ((0:Int),(0:Int)) _ _ ?_
 intro x;exact Zr0 N a1 b_a0 n_a0 a0 x.1 x.2
theorem Zy7 (N:Nat) (a1:Array Value) (b_a0:Option (Option Addr)) (n_a0:Nat) (a0:Array Value):ansV PZ (mkΓ []) N Tryz.f80 [([5,10],[])] [.l 0,.g a1 142] [.sl (.came b_a0) n_a0 a0 181]=(Uak (Uaa (Zc2 PZ a1 b_a0 n_a0 a0) N ((0:Int),(0:Int))) (fun x=>Zjo PZ N a1 b_a0 n_a0 a0 x.1 x.2)):=by
 refine Eq.trans (b:=(Uah (Uaa (Uag PZ (mkΓ []) N (cAt (codeOf Tryz.f80) [1,1,0,1,0,0]) (pAt Ugc [1,1,0,1,0]) [5,10] [] (Ze2 a1 b_a0 n_a0 a0)) N ([.a (.i .i64 (0:Int)),.a (.i .i64 (0:Int))],[])) (fun e s=>(Ug1 N b_a0 n_a0 a0) e (left (writes (cAt (codeOf Tryz.f80) [1,1,0,1,0,0])) [5,10] [] (Ze2 a1 b_a0 n_a0 a0) s)))) (by kernel_rfl) ?_
 simp only [Yac N a1 b_a0 n_a0 a0]
theorem Zwh (a1:Array Value) (b_a0:Option (Option Addr)) (n_a0:Nat) (a0:Array Value) (h_a1:WT PZ 142 a1) (h_a0:SlT 181 n_a0 a0) (hg:((okSt n_a0 a0))=true):ansV PZ (mkΓ []) 18446744073709551616 Tryz.f80 [([5,10],[])] [.l 0,.g a1 142] [.sl (.came b_a0) n_a0 a0 181]=some (.a (.i .i64 (sumL (rdSt n_a0 a0) a1)),.none,true):=by
 have hn:=h_a0.2.2
 refine (Zy7 18446744073709551616 a1 b_a0 n_a0 a0).trans ?_
 have h:=Zt3 (g:=Zc2 PZ a1 b_a0 n_a0 a0) (fun s k=>(s,(k:Int))) (fun s k=>sumF a1 s (num a0 (k*2+0),num a0 (k*2+1))) (m:=n_a0) (t:=(0:Int)) (x:=(sumL (rdSt n_a0 a0) a1,(n_a0:Int))) (N:=18446744073709551616) (fun k s hk _=>by
  have h1:decide ((k:Int)<(n_a0:Int))=true:=Q3 (by omega)
  have h0:decide (0≤(k:Int))=true:=Q3 (by omega)
  have h3:i64.wrap ((k:Int)+1)=((k+1:Nat):Int):=by rw [IntWalk.i64_in _ (by omega)];omega
  have hx0:num (a0.extract (k*2) (k*2+2)) 0=num a0 (k*2+0):=Zz5 (by omega)
  have hx1:num (a0.extract (k*2) (k*2+2)) 1=num a0 (k*2+1):=Zz5 (by omega)
  have hok:=okSt_at hg hk
  simp only [Zc2,h1,h0,h3,Q9,Bool.and_self,Q1,hx0,hx1,hok]
  rfl) (by
  have h1:decide ((n_a0:Int)<(n_a0:Int))=false:=Q4 (by omega)
  simp only [Zc2,h1,Q2]
  rw [rd_fold (sumF a1)]
  rfl) (by omega)
 have h':Uaa (Zc2 PZ a1 b_a0 n_a0 a0) 18446744073709551616 ((0:Int),(0:Int))=some (sumL (rdSt n_a0 a0) a1,(n_a0:Int)):=h
 rw [h']
 rfl
def Zkk:Con:=fun args h=>match args,h with
 | [.l 0,.g a1 142],[.sl (.came b_a0) n_a0 a0 181]=>some (.a (.i .i64 (sumL (rdSt n_a0 a0) a1)),.none,(okSt n_a0 a0))
 | _,_=>none
theorem Zvd:EntX PZ 80:=Zag (fn:=Tryz.f80) (by kernel_rfl) (by kernel_rfl) (by kernel_rfl)
theorem Ya4:Uab mn PZ 80 Zkk:=(Zaf (N:=18446744073709551616) (by kernel_rfl) mkΓ_nilX (fn:=Tryz.f80) (by kernel_rfl) (by kernel_rfl) [([5,10],[])]).of (by
 intro ρ h w args vals r e hA hH hr
 unfold Zkk at hr
 split at hr
 ·rename_i a1 b_a0 n_a0 a0
  obtain ⟨rfl,rfl,hg2⟩:=BQi hr
  exact Zwh a1 b_a0 n_a0 a0 (hA.wt 1 rfl) (hH.slw 0 rfl) hg2
 ·cases hr)
theorem Zmy {S:Array Value} (h0:1≤num S 0∧num S 0≤6∧1≤num S 1∧num S 1≤6) {k:Nat} (hk:k<36) (hi:inC (num S 0) (num S 1) k=true) (t:Int) (w:Nat) (hw:w<5):∀ p ∈ Uba S t k w,0≤p.1∧p.1<36:=by
 intro p hp
 unfold Uba at hp
 cases hc:decide (chW S t (k:Int) w > 0)&&decide (gw S k w ≠ -1) with
 | false=>rw [hc] at hp;simp at hp
 | true=>
  rw [hc] at hp
  simp only [Q1,List.mem_singleton] at hp
  subst hp
  rw [Q7] at hc
  exact Yh0 h0 hk hi w hw (of_decide_eq_true hc.2)
theorem Yor {S:Array Value} (h0:1≤num S 0∧num S 0≤6∧1≤num S 1∧num S 1≤6) {k:Nat} (hk:k<36) (hi:inC (num S 0) (num S 1) k=true) (t:Int):∀ p ∈ stL S t k,0≤p.1∧p.1<36:=by
 intro p hp
 unfold stL at hp
 cases hl:Za9 S (k:Int) with
 | true=>
  rw [hl] at hp
  simp only [Q1,List.mem_singleton] at hp
  subst hp
  exact ⟨by show 0≤(k:Int);omega,by show (k:Int)<36;omega⟩
 | false=>
  rw [hl] at hp
  simp only [Q2,List.mem_append] at hp
  rcases hp with (((hp | hp) | hp) | hp) | hp
  ·exact Zmy h0 hk hi t 1 (by omega) p hp
  ·exact Zmy h0 hk hi t 4 (by omega) p hp
  ·exact Zmy h0 hk hi t 0 (by omega) p hp
  ·exact Zmy h0 hk hi t 2 (by omega) p hp
  ·exact Zmy h0 hk hi t 3 (by omega) p hp
def rowF (P:Program) (V:List (Int×Int)→Array Value→Int) (S L:Array Value) (t:Int):Array Value:=folds (fun r k=>if inC (num S 0) (num S 1) k then r.setIfInBounds (k*1) (.int .i64 (V (stL S t k) L)) else r) (zc P 142) 36
def Zel:Cons:=(mkΓx [(80,con Zkk),(123,con Zk5)] [(94,Zjd)] [(114,Zem)])
def Zb6 (a0 a1:Array Value) (a2:Int):St:=(⟨.a (.g a0 41) :: .a (.g a1 142) :: .a (.i .i64 (a2)) :: .a (.c 80 []) :: .a (.w 0) :: .a (.w 1) :: .a (.w 2) :: .a (.w 3) :: .a (.w 4) :: .a (.w 5) :: .a (.u) :: .a (.g a0 41) :: .a (.c 114 [9,11])::us 11 ([]),[.row a0 41,.row a1 142,.row #[.int .i64 (a2)] 2,.row #[.func (.func 80) #[] #[]] 178,.row (zc PZ 142) 142,.row (zc PZ 142) 142,.no,.no,.no,.row #[.int .i64 (num a0 1)] 2,.no,.row #[.int .i64 (num a0 0)] 2,.no,.no],[]⟩:St)
def Zg5:Array Value→BS
 | r0_5=>([.row r0_5 142]:BS)
def Zjt:Empty→Exit×BS:=fun x=>nomatch x
def Zd2 (P:Program) (a0 a1:Array Value) (a2:Int) (x0:Int):Array Value→Option (Stp (Array Value) Empty)
 | r0_5=>bif (okS a0&&(Zax x0 a0&&(decide (0≤a2)&&decide (a2<2)))) then (bif (okSt ((stL a0 a2 x0.toNat).length) (Ubi (stL a0 a2 x0.toNat))) then (bif (decide (0≤x0)&&decide (x0<36)) then (some (.more (r0_5.setIfInBounds ((x0).toNat*1) (.int .i64 (sumL (rdSt ((stL a0 a2 x0.toNat).length) (Ubi (stL a0 a2 x0.toNat))) a1)))))
    else (none))
   else (none))
  else (none)
def Ugd:=(Uaf (codeOf Tryz.f106) [([],[5])]).1
theorem Zv8 (N:Nat) (a0 a1:Array Value) (a2:Int) (x0:Int):∀ t:Array Value,Uel PZ Zel N (cAt (codeOf Tryz.f106) [1,1,0,1,0,0]) (pAt Ugd [1,1,0,1,0]) 14 [5] [13] [(10,13)] (Zb6 a0 a1 a2) [.i .i64 (x0)] (Zg5 t)=mapS Zg5 Zjt (Zd2 PZ a0 a1 a2 x0 t):=by
 rintro r0_5
 refine Eq.trans (b:=(bif (okS a0&&(Zax x0 a0&&(decide (0≤a2)&&decide (a2<2)))) then (bif (okSt ((stL a0 a2 x0.toNat).length) (Ubi (stL a0 a2 x0.toNat))) then (bif (decide (0≤x0)&&decide (x0<36)) then (some (.more ([.row (r0_5.setIfInBounds ((x0).toNat*1) (.int .i64 (sumL (rdSt ((stL a0 a2 x0.toNat).length) (Ubi (stL a0 a2 x0.toNat))) a1))) 142]:BS)))
    else (none))
   else (none))
  else (none))) (by kernel_rfl) ?_
 simp only [Zd2,Zaz,Zay,Za1,Za0,Zg5,Zjt]
def Zh8 (P:Program) (N:Nat) (a0 a1:Array Value) (a2:Int) (q0_5:Array Value):Option (SV×Eff×Bool):=some (.a (.g q0_5 142),.none,true)
def Udd (N:Nat):=(Uan 0 (kSeq (veC PZ Zel N (cAt (codeOf Tryz.f106) [1,1,1]) (pAt Ugd [1,1,1]) (SV×Eff×Bool)) (finK PZ [] [.cell 8 142])))
theorem Zpa (N:Nat) (a0 a1:Array Value) (a2:Int) (q0_5:Array Value):(Udd N) .normal (Ua5 [5] (Zb6 a0 a1 a2) ([.row q0_5 142]:BS))=Zh8 PZ N a0 a1 a2 q0_5:=by
 refine Eq.trans (b:=(some (.a (.g q0_5 142),.none,true))) (by kernel_rfl) ?_
 rfl
theorem Zwg (N:Nat) (a0 a1:Array Value) (a2:Int):Ucr (Uau (fun (x0:Int) (hb:BS)=>Uel PZ Zel N (cAt (codeOf Tryz.f106) [1,1,0,1,0,0]) (pAt Ugd [1,1,0,1,0]) 14 [5] [13] [(10,13)] (Zb6 a0 a1 a2) [.i .i64 (x0)] hb) (Uar (num a0 0) (num a0 1) 36) ([.row (zc PZ 142) 142]:BS)) (fun hb=>(Udd N) .normal (Ua5 [5] (Zb6 a0 a1 a2) hb)) (fun e hb=>(Udd N) e (Ua5 [5] (Zb6 a0 a1 a2) hb))=Ufh (Uau (Zd2 PZ a0 a1 a2) (Uar (num a0 0) (num a0 1) 36) (zc PZ 142)) (fun x=>Zh8 PZ N a0 a1 a2 x) (fun x:Empty=>nomatch x):=by
 refine Yde Zg5 Zjt _ _ (fun y t=>Zv8 N a0 a1 a2 y t) _ (zc PZ 142) _ _ _ _ ?_ ?_
 ·intro x;exact Zpa N a0 a1 a2 x
 ·intro x;exact nomatch x
theorem Zuw (N:Nat) (a0 a1:Array Value) (a2:Int):ansV PZ Zel N Tryz.f106 [([],[5])] [.g a0 41,.g a1 142,.i .i64 (a2),.c 80 []] []=(bif (decide (0≤(num a0 0))&&decide ((num a0 0)≤6)&&(decide (0≤(num a0 1))&&decide ((num a0 1)≤6))) then (Ufh (Uau (Zd2 PZ a0 a1 a2) (Uar (num a0 0) (num a0 1) 36) (zc PZ 142)) (fun x=>Zh8 PZ N a0 a1 a2 x) (fun x:Empty=>nomatch x))
  else (none)):=by
 refine Eq.trans (b:=(bif (decide (0≤(num a0 0))&&decide ((num a0 0)≤6)&&(decide (0≤(num a0 1))&&decide ((num a0 1)≤6))) then (Ucr (Uau (fun (x0:Int) (hb:BS)=>Uel PZ Zel N (cAt (codeOf Tryz.f106) [1,1,0,1,0,0]) (pAt Ugd [1,1,0,1,0]) 14 [5] [13] [(10,13)] (Zb6 a0 a1 a2) [.i .i64 (x0)] hb) (Uar (num a0 0) (num a0 1) 36) ([.row (zc PZ 142) 142]:BS)) (fun hb=>(Udd N) .normal (Ua5 [5] (Zb6 a0 a1 a2) hb)) (fun e hb=>(Udd N) e (Ua5 [5] (Zb6 a0 a1 a2) hb)))
  else (none))) (by kernel_rfl) ?_
 simp only [Zwg N a0 a1 a2]
theorem Zs2 (a0 a1:Array Value) (a2:Int) (h_a0:WT PZ 41 a0) (h_a1:WT PZ 142 a1) (h_a2:i64.min≤a2∧a2≤i64.max) (hg:((okS a0&&(decide (0≤a2)&&decide (a2<2))))=true):ansV PZ Zel 1000 Tryz.f106 [([],[5])] [.g a0 41,.g a1 142,.i .i64 (a2),.c 80 []] []=some (.a (.g (rowF PZ sumL a0 a1 a2) 142),.none,true):=by
 rw [Q7] at hg
 obtain ⟨hok,ht⟩:=hg
 have h0:=Zt5 hok
 refine (Zuw 1000 a0 a1 a2).trans ?_
 have h:=Ygn (X:=Empty) (g:=Zd2 PZ a0 a1 a2) (fun r k=>r.setIfInBounds (k*1) (.int .i64 (sumL (stL a0 a2 k) a1))) (wd:=num a0 0) (hi:=num a0 1) (fun s k hk hi=>by
  have hs:okSt (stL a0 a2 k).length (Ubi (stL a0 a2 k))=true:=ok_enc (Yor h0 hk hi a2)
  have hc:(decide (0≤(k:Int))&&decide ((k:Int)<36))=true:=by rw [Q3 (show 0≤(k:Int) by omega),Q3 (show (k:Int)<36 by omega)];rfl
  have hi':Zax (k:Int) a0=true:=(Ykf h_a0 hk).trans hi
  simp only [Zd2,Q9,hok,hi',ht,hs,hc,Bool.and_self,Q1,rd_enc]
  first | done | rfl) (zc PZ 142)
 have hgd:=Yms hok
 simp only [hgd,Q1,h]
 rfl
def Ziy:Con:=fun args h=>match args,h with
 | [.g a0 41,.g a1 142,.i .i64 a2,.c 80 []],[]=>some (.a (.g (rowF PZ sumL a0 a1 a2) 142),.none,(okS a0&&(decide (0≤a2)&&decide (a2<2))))
 | _,_=>none
theorem Zrx:EntX PZ 106:=Zag (fn:=Tryz.f106) (by kernel_rfl) (by kernel_rfl) (by kernel_rfl)
theorem Zvp:Uab mn PZ 106 Ziy:=(Zaf (N:=1000) (by kernel_rfl) (mkΓx_cX (Zac Ya4) Zvd (mkΓx_cX (Zac Yax) Zuk (mkΓx_nX Zpp Znx (mkΓx_iX Zm2 Zlv mkΓx_nilX)))) (fn:=Tryz.f106) (by kernel_rfl) (by kernel_rfl) [([],[5])]).of (by
 intro ρ h w args vals r e hA hH hr
 unfold Ziy at hr
 split at hr
 ·rename_i a0 a1 a2
  obtain ⟨rfl,rfl,hg2⟩:=BQi hr
  exact Zs2 a0 a1 a2 (hA.wt 0 rfl) (hA.wt 1 rfl) (hA.rng 2 rfl) hg2
 ·cases hr)
theorem Yov (P:Program) (T:TypeId) {r:Array Value} (h:r.size=(zc P T).size):spl (repC (zc P T) 1) 0 r.toList=r:=by
 have e:repC (zc P T) 1=zc P T:=by unfold repC repL repL;simp
 rw [e]
 refine Zf9 fun i=> ?_
 rw [Zg1 _ _ _ (by simp;omega)]
 by_cases hi:i<r.size
 ·rw [if_pos (by simp;omega)];simp
 ·rw [if_neg (by simp;omega),jG (by omega),jG (by omega)]
theorem Yjb:(zc PZ 142).size=36:=by kernel_rfl
theorem Yju (V:List (Int×Int)→Array Value→Int) (S L:Array Value) (t:Int):(rowF PZ V S L t).size=36:=by
 unfold rowF
 exact Zke (fun _ (r:Array Value)=>r.size=36) Yjb (fun k s _ h=>by split<;>simp [h]) 36 (jB _)
def rowR (P:Program) (V:List (Int×Int)→Array Value→Int) (S L:Array Value) (b h:Int):Nat→Array Value
 | 0=>L
 | j+1=>rowF P V S (rowR P V S L b h j) ((i64.wrap (b+i64.wrap (h - ((j+1:Nat):Int)))).tmod 2)
def catR (P:Program) (V:List (Int×Int)→Array Value→Int) (S L:Array Value) (b h:Int):Nat→Array Value
 | 0=>#[]
 | j+1=>catR P V S L b h j++rowR P V S L b h j
theorem Yjv (V:List (Int×Int)→Array Value→Int) (S:Array Value) {L:Array Value} (hL:L.size=36) (b h:Int):∀ j,(rowR PZ V S L b h j).size=36
 | 0=>hL
 | j+1=>Yju V S _ _
theorem Ydc (V:List (Int×Int)→Array Value→Int) (S:Array Value) {L:Array Value} (hL:L.size=36) (b h:Int):∀ j,(catR PZ V S L b h j).size=j*36
 | 0=>rfl
 | j+1=>by rw [catR,Array.size_append,Ydc V S hL b h j,Yjv V S hL b h j];omega
theorem ext_last {A R:Array Value} {m q:Nat} (hA:A.size=m) (hR:R.size=q):(A++R).extract m (m+q)=R:=by
 refine Zf9 fun i=> ?_
 rw [jF]
 by_cases hi:i<q
 ·rw [if_pos (by simp;omega),Array.getElem?_append_right (by omega),show m+i - A.size=i by omega]
 ·rw [if_neg (by simp;omega),jG (by omega)]
theorem Ypx {A R:Array Value} {m q:Nat} (h:m+q≤A.size):(A++R).extract m (m+q)=A.extract m (m+q):=by
 refine Zf9 fun i=> ?_
 rw [jF,jF]
 by_cases hi:i<q
 ·rw [if_pos (by simp;omega),if_pos (by omega),Array.getElem?_append_left (by omega)]
 ·rw [if_neg (by simp;omega),if_neg (by omega)]
theorem Ylg (V:List (Int×Int)→Array Value→Int) (S:Array Value) {L:Array Value} (hL:L.size=36) (b h:Int) {j:Nat}:∀ n,j<n→(catR PZ V S L b h n).extract (j*36) (j*36+36)=rowR PZ V S L b h j
 | 0,hj=>by omega
 | n+1,hj=>by
  rw [catR]
  by_cases e:j=n
  ·subst e;exact ext_last (Ydc V S hL b h j) (Yjv V S hL b h j)
  ·rw [Ypx (by rw [Ydc V S hL b h n];omega)]
   exact Ylg V S hL b h n (by omega)
theorem tide_in {b h:Int} (hb:0≤b∧b<2) (hh:0≤h∧h≤14):(decide (0≤(i64.wrap (b+i64.wrap h)).tmod 2)&&decide ((i64.wrap (b+i64.wrap h)).tmod 2<2))=true:=by
 rw [w64 (n:=h) (by omega),w64 (n:=b+h) (by omega),Int.tmod_eq_emod_of_nonneg (by omega),Q3 (by omega),Q3 (by omega)];rfl
theorem Yoy:bytesOf PZ 142=288:=by kernel_rfl
def Zd0:Cons:=(mkΓ [(106,con Ziy),(107,con Zng)])
def Zdk (a0 a1:Array Value) (a2 a3:Int):St:=(⟨.a (.g a0 41) :: .a (.g a1 142) :: .a (.i .i64 (a2)) :: .a (.i .i64 (a3)) :: .a (.c 80 []) :: .a (.w 0) :: .a (.w 1)::us 3 (.a (.v (.slice none 0 0)) :: .a (.l 6) :: .a (.i .i64 (1:Int)) :: .a (.g a1 142) :: .a (.l 4)::us 22 ([])),[.row a0 41,.row a1 142,.no,.no,.sp,.no,.sl .own 1 (spl (repC (zc PZ 142) 1) 0 a1.toList) 142],[4]⟩:St)
def Zew:Int×Nat×Array Value→LS
 | (y0_12,m0_11,y0_11)=>([.a (.i .i64 (y0_12)),.a (.l 6)],[.sl .own m0_11 y0_11 142])
def Ziq:Int×Nat×Array Value→Exit×LS
 | t=>((.exit 0),Zew t)
def Zbw (P : Program) (a0 a1 : Array Value) (a2 a3 : Int) : Int × Nat × Array Value → Option (Stp (Int × Nat × Array Value) (Int × Nat × Array Value))
 | (y0_12, m0_11, y0_11) => bif decide (y0_12 ≤ a3) then (bif (decide (0 ≤ (i64.wrap (y0_12 - (1 : Int)))) && decide ((i64.wrap (y0_12 - (1 : Int))) < (m0_11 : Int))) then (bif (okS a0 && (decide (0 ≤ (((i64.wrap (a2 + (i64.wrap (a3 - y0_12))))).tmod (2 : Int))) && decide ((((i64.wrap (a2 + (i64.wrap (a3 - y0_12))))).tmod (2 : Int)) < 2))) then (bif (jA ((m0_11 + 1) * bytesOf PZ 142) 140737488355328) then (some (.more ((i64.wrap (y0_12 + (1 : Int))), (m0_11 + 1), (y0_11 ++ (spl (repC (zc PZ 142) 1) 0 (rowF PZ sumL a0 (y0_11.extract ((i64.wrap (y0_12 - (1 : Int))).toNat * 36) (((i64.wrap (y0_12 - (1 : Int))).toNat * 36) + 36)) (((i64.wrap (a2 + (i64.wrap (a3 - y0_12))))).tmod (2 : Int))).toList)))))
     else (none))
    else (none))
   else (none))
  else (some (.done (y0_12, m0_11, y0_11)))
def Uf8:=(Uaf (codeOf Tryz.f79) [([12],[1000011,142])]).1
theorem Zun (N:Nat) (a0 a1:Array Value) (a2 a3:Int):∀ t:Int×Nat×Array Value,Ubu PZ Zd0 N (cAt (codeOf Tryz.f79) [1,1,0,1,0,0]) (pAt Uf8 [1,1,0,1,0]) [12] [] 11 142 6 (Zdk a0 a1 a2 a3) (Zew t)=mapS Zew Ziq (Zbw PZ a0 a1 a2 a3 t):=by
 rintro ⟨y0_12,m0_11,y0_11⟩
 refine Eq.trans (b:=(bif decide (y0_12≤a3) then (bif (decide (0≤(i64.wrap (y0_12 - (1:Int))))&&decide ((i64.wrap (y0_12 - (1:Int)))<(m0_11:Int))) then (bif (okS a0&&(decide (0≤(((i64.wrap (a2+(i64.wrap (a3 - y0_12))))).tmod (2:Int)))&&decide ((((i64.wrap (a2+(i64.wrap (a3 - y0_12))))).tmod (2:Int))<2))) then (bif (jA ((m0_11+1)*bytesOf PZ 142) 140737488355328) then (some (.more ([.a (.i .i64 (i64.wrap (y0_12+(1:Int)))),.a (.l 6)],[.sl .own (m0_11+1) (y0_11++(spl (repC (zc PZ 142) 1) 0 (rowF PZ sumL a0 (y0_11.extract ((i64.wrap (y0_12 - (1:Int))).toNat*36) (((i64.wrap (y0_12 - (1:Int))).toNat*36)+36)) (((i64.wrap (a2+(i64.wrap (a3 - y0_12))))).tmod (2:Int))).toList)) 142])))
     else (none))
    else (none))
   else (none))
  else (some (.done ((.exit 0),([.a (.i .i64 (y0_12)),.a (.l 6)],[.sl .own m0_11 y0_11 142])))))) (by kernel_rfl) ?_
 simp only [Zbw,Zaz,Zay,Za1,Za0,Zew,Ziq]
def Zhg (P:Program) (N:Nat) (a0 a1:Array Value) (a2 a3:Int) (z0_12:Int) (p0_11:Nat) (z0_11:Array Value):Option (SV×Eff×Bool):=some (.a .x,.newS none p0_11 z0_11 142,true)
def Uf0 (N:Nat):=(Uan 0 (kSeq (veC PZ Zd0 N (cAt (codeOf Tryz.f79) [1,1,1]) (pAt Uf8 [1,1,1]) (SV×Eff×Bool)) (finK PZ [] [.tmp 10])))
theorem Zom (N:Nat) (a0 a1:Array Value) (a2 a3:Int) (z0_12:Int) (p0_11:Nat) (z0_11:Array Value):(Uf0 N) (.exit 0) (left (writes (cAt (codeOf Tryz.f79) [1,1,0,1,0,0])) [12,11] [6] (Zdk a0 a1 a2 a3) ([.a (.i .i64 (z0_12)),.a (.l 6)],[.sl .own p0_11 z0_11 142]))=Zhg PZ N a0 a1 a2 a3 z0_12 p0_11 z0_11:=by
 refine Eq.trans (b:=(some (.a .x,.newS none p0_11 z0_11 142,true))) (by kernel_rfl) ?_
 rfl
theorem Zul (N:Nat) (a0 a1:Array Value) (a2 a3:Int):Uah (Uaa (Ubu PZ Zd0 N (cAt (codeOf Tryz.f79) [1,1,0,1,0,0]) (pAt Uf8 [1,1,0,1,0]) [12] [] 11 142 6 (Zdk a0 a1 a2 a3)) N ([.a (.i .i64 (1:Int)),.a (.l 6)],[.sl .own 1 (spl (repC (zc PZ 142) 1) 0 a1.toList) 142])) (fun e s=>(Uf0 N) e (left (writes (cAt (codeOf Tryz.f79) [1,1,0,1,0,0])) [12,11] [6] (Zdk a0 a1 a2 a3) s))=Uak (Uaa (Zbw PZ a0 a1 a2 a3) N ((1:Int),1,(spl (repC (zc PZ 142) 1) 0 a1.toList))) (fun x=>Zhg PZ N a0 a1 a2 a3 x.1 x.2.1 x.2.2):=by
 refine Zbd Zew Ziq _ _ (Zun N a0 a1 a2 a3) N ((1:Int),1,(spl (repC (zc PZ 142) 1) 0 a1.toList)) _ _ ?_
 intro x;exact Zom N a0 a1 a2 a3 x.1 x.2.1 x.2.2
theorem Zr7 (N:Nat) (a0 a1:Array Value) (a2 a3:Int):ansV PZ Zd0 N Tryz.f79 [([12],[1000011,142])] [.g a0 41,.g a1 142,.i .i64 (a2),.i .i64 (a3),.c 80 []] []=(Uak (Uaa (Zbw PZ a0 a1 a2 a3) N ((1:Int),1,(spl (repC (zc PZ 142) 1) 0 a1.toList))) (fun x=>Zhg PZ N a0 a1 a2 a3 x.1 x.2.1 x.2.2)):=by
 refine Eq.trans (b:=(Uah (Uaa (Ubu PZ Zd0 N (cAt (codeOf Tryz.f79) [1,1,0,1,0,0]) (pAt Uf8 [1,1,0,1,0]) [12] [] 11 142 6 (Zdk a0 a1 a2 a3)) N ([.a (.i .i64 (1:Int)),.a (.l 6)],[.sl .own 1 (spl (repC (zc PZ 142) 1) 0 a1.toList) 142])) (fun e s=>(Uf0 N) e (left (writes (cAt (codeOf Tryz.f79) [1,1,0,1,0,0])) [12,11] [6] (Zdk a0 a1 a2 a3) s)))) (by kernel_rfl) ?_
 simp only [Zul N a0 a1 a2 a3]
theorem Zr2 (a0 a1:Array Value) (a2 a3:Int) (h_a0:WT PZ 41 a0) (h_a1:WT PZ 142 a1) (h_a2:i64.min≤a2∧a2≤i64.max) (h_a3:i64.min≤a3∧a3≤i64.max) (hg:(((okS a0&&(decide (0≤a2)&&decide (a2<2)))&&(decide (0≤a3)&&decide (a3≤14))))=true):ansV PZ Zd0 1000 Tryz.f79 [([12],[1000011,142])] [.g a0 41,.g a1 142,.i .i64 (a2),.i .i64 (a3),.c 80 []] []=some (.a .x,.newS none (a3.toNat+1) (catR PZ sumL a0 a1 a2 a3 (a3.toNat+1)) 142,true):=by
 rw [Q7,Q7 (decide (0≤a3))] at hg
 obtain ⟨hg,hh0,hh1⟩:=hg
 have hh:0≤a3∧a3≤14:=⟨of_decide_eq_true hh0,of_decide_eq_true hh1⟩
 have hok:=hg
 rw [Q7,Q7] at hok
 have hb:0≤a2∧a2<2:=⟨of_decide_eq_true hok.2.1,of_decide_eq_true hok.2.2⟩
 have hL:a1.size=36:=by rw [h_a1.layLen];kernel_rfl
 obtain ⟨m,rfl⟩:∃ m:Nat,a3=(m:Int):=⟨a3.toNat,by omega⟩
 refine (Zr7 1000 a0 a1 a2 (m:Int)).trans ?_
 rw [Yov PZ 142 (by rw [hL,Yjb]),Q9]
 have h:=Zcc (g:=Zbw PZ a0 a1 a2 (m:Int)) (fun j=>(((1+j:Nat):Int),1+j,catR PZ sumL a0 a1 a2 (m:Int) (1+j))) (m:=m) (x:=(((1+m:Nat):Int),1+m,catR PZ sumL a0 a1 a2 (m:Int) (1+m))) (N:=1000) (fun j hj=>by
  have h1:decide (((1+j:Nat):Int)≤(m:Int))=true:=Q3 (by omega)
  have h2:i64.wrap (((1+j:Nat):Int) - 1)=(j:Int):=by rw [w64 (by omega)];omega
  have h3:i64.wrap (((1+j:Nat):Int)+1)=((1+(j+1):Nat):Int):=by rw [w64 (by omega)];omega
  have h4:(decide (0≤(j:Int))&&decide ((j:Int)<((1+j:Nat):Int)))=true:=by rw [Q3 (by omega),Q3 (by omega)];rfl
  have h5:=tide_in (b:=a2) (h:=(m:Int) - ((1+j:Nat):Int)) hb (by omega)
  have h6:jA ((1+j+1)*bytesOf PZ 142) 140737488355328=true:=jC (by rw [Yoy];omega)
  have h7:(catR PZ sumL a0 a1 a2 (m:Int) (1+j)).extract (j*36) (j*36+36)=rowR PZ sumL a0 a1 a2 (m:Int) j:=Ylg sumL a0 hL a2 _ (1+j) (by omega)
  simp only [Zbw,h1,h2,h3,h4,h5,h6,h7,hok.1,Bool.and_self,Q9,Q1]
  rw [Yov PZ 142 (by rw [Yju,Yjb])]
  rw [show 1+(j+1)=(1+j)+1 by omega,catR,show 1+j=j+1 by omega,rowR]) (by
  have h1:decide (((1+m:Nat):Int)≤(m:Int))=false:=Q4 (by omega)
  simp only [Zbw,h1,Q2]) (by omega)
 have hc:catR PZ sumL a0 a1 a2 (m:Int) 1=a1:=by rw [catR,catR,rowR];simp
 have h':Uaa (Zbw PZ a0 a1 a2 (m:Int)) 1000 ((1:Int),1,a1)=some (((1+m:Nat):Int),1+m,catR PZ sumL a0 a1 a2 (m:Int) (1+m)):=by
  have h2:=h
  simp only [Nat.add_zero,hc] at h2
  exact h2
 rw [h',show 1+m=m+1 by omega]
 rfl
def Zhs:Con:=fun args h=>match args,h with
 | [.g a0 41,.g a1 142,.i .i64 a2,.i .i64 a3,.c 80 []],[]=>some (.a .x,.newS none (a3.toNat+1) (catR PZ sumL a0 a1 a2 a3 (a3.toNat+1)) 142,((okS a0&&(decide (0≤a2)&&decide (a2<2)))&&(decide (0≤a3)&&decide (a3≤14))))
 | _,_=>none
theorem Zqq:EntX PZ 79:=Zag (fn:=Tryz.f79) (by kernel_rfl) (by kernel_rfl) (by kernel_rfl)
theorem Zvc:Uab mn PZ 79 Zhs:=(Zaf (N:=1000) (by kernel_rfl) (mkΓ_consX (Zac Zvp) Zrx (mkΓ_consX (Zac Yfy) Yaf mkΓ_nilX)) (fn:=Tryz.f79) (by kernel_rfl) (by kernel_rfl) [([12],[1000011,142])]).of (by
 intro ρ h w args vals r e hA hH hr
 unfold Zhs at hr
 split at hr
 ·rename_i a0 a1 a2 a3
  obtain ⟨rfl,rfl,hg2⟩:=BQi hr
  exact Zr2 a0 a1 a2 a3 (hA.wt 0 rfl) (hA.wt 1 rfl) (hA.rng 2 rfl) (hA.rng 3 rfl) hg2
 ·cases hr)
end
end Go.Proofs.YtohnggmlmglhmaaGreatDoor
