/- Steps, and rows of numbers that go back, in company. -/
import Derived.Test.YtffagbiedigmcaaDoorProg
import Derived.Test.YtffagbiedigmcaaDoorCmB
import Derived.Test.YtffagbiedigmcaaDoorTzX
namespace Go.Proofs.YtffagbiedigmcaaDoor
open Go.ChangeShapes Go.WideShapes Go.ChangeAt Go.RowKit Ve Vc
open Tryd (prog)
open IntKind (i64)
set_option linter.unusedVariables false
set_option linter.unusedSimpArgs false
set_option maxRecDepth 100000
noncomputable section
variable {mn:Md}
theorem Zpu (N:Nat)  : ansV prog (mkΓ []) N Tryd.f106 [] [] []=(some (.a (.g #[.int .u8 (1:Int),.int .u8 (4:Int),.int .u8 (0:Int),.int .u8 (2:Int),.int .u8 (3:Int)] 24),.none,true)):=by kernel_rfl
theorem Zog   (hg:(true)=true):ansV prog (mkΓ []) 1000 Tryd.f106 [] [] []=some (.a (.g #[.int .u8 (1:Int),.int .u8 (4:Int),.int .u8 (0:Int),.int .u8 (2:Int),.int .u8 (3:Int)] 24),.none,true):=by
 refine (Zpu 1000 ).trans ?_
 rfl
def Zg4:Con:=fun args h=>match args,h with
 | [],[]=>some (.a (.g #[.int .u8 (1:Int),.int .u8 (4:Int),.int .u8 (0:Int),.int .u8 (2:Int),.int .u8 (3:Int)] 24),.none,true)
 | _,_=>none
theorem Zm1:EntX prog 106:=Zam (fn:=Tryd.f106) (by kernel_rfl) (by kernel_rfl) (by kernel_rfl)
theorem Zqz:ConOkX mn prog 106 Zg4:=(Zat (N:=1000) (by kernel_rfl) mkΓ_nilX (fn:=Tryd.f106) (by kernel_rfl) (by kernel_rfl) []).of (by
 intro ρ h w args vals r e hA hH hr
 unfold Zg4 at hr
 split at hr
 ·obtain ⟨rfl,hg⟩:=Prod.mk.inj (Option.some.inj hr)
  obtain ⟨rfl,hg2⟩:=Prod.mk.inj hg
  exact Zog hg2
 ·cases hr)
def pl (c:Int):Nat→Array Value
 | 0=>#[.int .i64 (c.tmod 6),.int .i64 (i64.wrap (c.tdiv 6))]
 | 1=>#[.int .i64 (c.tmod 6),.int .i64 (i64.wrap (i64.wrap (c.tdiv 6) - 1))]
 | 2=>#[.int .i64 (i64.wrap (c.tmod 6+1)),.int .i64 (i64.wrap (c.tdiv 6))]
 | 3=>#[.int .i64 (c.tmod 6),.int .i64 (i64.wrap (i64.wrap (c.tdiv 6)+1))]
 | _=>#[.int .i64 (i64.wrap (c.tmod 6 - 1)),.int .i64 (i64.wrap (c.tdiv 6))]
theorem hp_eq {S:Array Value} (h0:1≤num S 0∧num S 0≤6∧1≤num S 1∧num S 1≤6) (x y:Int):Zak S #[.int .i64 x,.int .i64 y]=decide (0≤x∧x<num S 0∧0≤y∧y<num S 1):=by
 obtain ⟨a1,a2,a3,a4⟩:=h0
 show (bif decide (x ≥ 0) then (bif decide (x<i64.wrap (num S 0)) then (bif decide (y ≥ 0) then decide (y<i64.wrap (num S 1)) else false) else false) else false)=_
 rw [w64 (n:=num S 0) (by omega),w64 (n:=num S 1) (by omega)]
 have:∀ a b c d:Prop,[Decidable a]→[Decidable b]→[Decidable c]→[Decidable d]→(bif decide a then (bif decide b then (bif decide c then decide d else false) else false) else false)=decide (a∧b∧c∧d):=by
  intro a b c d _ _ _ _
  by_cases a<;>by_cases b<;>by_cases c<;>by_cases d<;>simp [*]
 exact this _ _ _ _
theorem Yey {S:Array Value} (h0:1≤num S 0∧num S 0≤6∧1≤num S 1∧num S 1≤6) {k:Nat} (hk:k<36) (hi:inC (num S 0) (num S 1) k=true) (w:Nat) (hw:w<5) :
  Zak S (pl (k:Int) w)=decide (gw S k w ≠ -1)∧(gw S k w ≠ -1→i64.wrap (num (pl (k:Int) w) 0+i64.wrap (6*num (pl (k:Int) w) 1))=gw S k w):=by
 obtain ⟨hx,hy⟩:=Yc5 hi
 obtain ⟨ex,ey⟩:=xy hk
 have hxl:k % 6<6:=Nat.mod_lt _ (by omega)
 have hyl:k / 6<6:=by omega
 have hk6:k=6*(k / 6)+k % 6:=by omega
 have h0':=h0
 obtain ⟨a1,a2,a3,a4⟩:=h0
 generalize hX:k % 6=X at *
 generalize hY:k / 6=Y at *
 have eY:i64.wrap ((Y:Nat):Int)=Y:=w64 (by omega)
 match w,hw with
 | 0,_=>
  have e:pl (k:Int) 0=#[.int .i64 (X:Int),.int .i64 (Y:Int)]:=by unfold pl;rw [ex,ey,eY];rfl
  rw [e,hp_eq h0']
  refine ⟨decide_eq_decide.2 ?_,fun _=> ?_⟩
  ·show _ ↔ (k:Int) ≠ -1;omega
  ·show i64.wrap ((X:Int)+i64.wrap (6*(Y:Int)))=(k:Int)
   rw [w64 (n:=6*(Y:Int)) (by omega),w64 (by omega)];omega
 | 1,_=>
  have e:pl (k:Int) 1=#[.int .i64 (X:Int),.int .i64 ((Y:Int) - 1)]:=by unfold pl;rw [ex,ey,eY,w64 (n:=(Y:Int) - 1) (by omega)];rfl
  rw [e,hp_eq h0']
  have hg:gw S k 1=if 6≤k then (k:Int) - 6 else -1:=by unfold gw;by_cases c:6≤k<;>simp [c]
  rw [hg]
  refine ⟨decide_eq_decide.2 ?_,fun hn=> ?_⟩
  ·split<;>omega
  ·show i64.wrap ((X:Int)+i64.wrap (6*((Y:Int) - 1)))=_
   rw [w64 (n:=6*((Y:Int) - 1)) (by omega),w64 (by omega)]
   split at hn<;>split<;>omega
 | 2,_=>
  have e:pl (k:Int) 2=#[.int .i64 ((X:Int)+1),.int .i64 (Y:Int)]:=by unfold pl;rw [ex,ey,eY,w64 (n:=(X:Int)+1) (by omega)];rfl
  rw [e,hp_eq h0']
  have hg:gw S k 2=if (X:Int)+1<num S 0 then (k:Int)+1 else -1:=by unfold gw;rw [hX];by_cases c:(X:Int)+1<num S 0<;>simp [c]
  rw [hg]
  refine ⟨decide_eq_decide.2 ?_,fun hn=> ?_⟩
  ·split<;>omega
  ·show i64.wrap ((X:Int)+1+i64.wrap (6*(Y:Int)))=_
   rw [w64 (n:=6*(Y:Int)) (by omega),w64 (by omega)]
   split at hn<;>split<;>omega
 | 3,_=>
  have e:pl (k:Int) 3=#[.int .i64 (X:Int),.int .i64 ((Y:Int)+1)]:=by unfold pl;rw [ex,ey,eY,w64 (n:=(Y:Int)+1) (by omega)];rfl
  rw [e,hp_eq h0']
  have hg:gw S k 3=if (Y:Int)+1<num S 1 then (k:Int)+6 else -1:=by unfold gw;rw [hY];by_cases c:(Y:Int)+1<num S 1<;>simp [c]
  rw [hg]
  refine ⟨decide_eq_decide.2 ?_,fun hn=> ?_⟩
  ·split<;>omega
  ·show i64.wrap ((X:Int)+i64.wrap (6*((Y:Int)+1)))=_
   rw [w64 (n:=6*((Y:Int)+1)) (by omega),w64 (by omega)]
   split at hn<;>split<;>omega
 | 4,_=>
  have e:pl (k:Int) 4=#[.int .i64 ((X:Int) - 1),.int .i64 (Y:Int)]:=by unfold pl;rw [ex,ey,eY,w64 (n:=(X:Int) - 1) (by omega)];rfl
  rw [e,hp_eq h0']
  have hg:gw S k 4=if 1≤X then (k:Int) - 1 else -1:=by unfold gw;rw [hX];by_cases c:1≤X<;>simp [c]
  rw [hg]
  refine ⟨decide_eq_decide.2 ?_,fun hn=> ?_⟩
  ·split<;>omega
  ·show i64.wrap ((X:Int) - 1+i64.wrap (6*(Y:Int)))=_
   rw [w64 (n:=6*(Y:Int)) (by omega),w64 (by omega)]
   split at hn<;>split<;>omega
def oneSt (S:Array Value) (t:Int) (k w:Nat):List (Int×Int):=bif decide (chW S t (k:Int) w > 0)&&decide (gw S k w ≠ -1) then [(gw S k w,chW S t (k:Int) w)] else []
def stL (S:Array Value) (t:Int) (k:Nat):List (Int×Int):=bif Zad S (k:Int) then [((k:Int),12)] else oneSt S t k 1++oneSt S t k 4++oneSt S t k 0++oneSt S t k 2++oneSt S t k 3
def encSt (l:List (Int×Int)):Array Value:=⟨l.flatMap fun p=>[.int .i64 p.1,.int .i64 p.2]⟩
theorem Ya3 (l m:List (Int×Int)):encSt (l++m)=encSt l++encSt m:=by unfold encSt;simp
def stF (S:Array Value) (t c:Int) (w:Nat) (q:Nat×Array Value):Nat×Array Value:=
 bif decide (chW S t c w > 0) then (bif Zak S (pl c w) then (q.1+1,q.2++#[.int .i64 (i64.wrap (num (pl c w) 0+i64.wrap (6*num (pl c w) 1))),.int .i64 (chW S t c w)]) else (q.1,q.2)) else (q.1,q.2)
theorem Zvw {S:Array Value} (h0:1≤num S 0∧num S 0≤6∧1≤num S 1∧num S 1≤6) {k:Nat} (hk:k<36) (hi:inC (num S 0) (num S 1) k=true) (t:Int) {w:Nat} (hw:w<5) (l:List (Int×Int)) :
  stF S t (k:Int) w (l.length,encSt l)=((l++oneSt S t k w).length,encSt (l++oneSt S t k w)):=by
 obtain ⟨h1,h2⟩:=Yey h0 hk hi w hw
 unfold stF oneSt
 rw [h1]
 cases decide (chW S t (k:Int) w > 0) with
 | false=>simp
 | true=>
  cases hd:decide (gw S k w ≠ -1) with
  | false=>simp
  | true=>
   rw [h2 (of_decide_eq_true hd)]
   simp only [cond_true,Bool.and_self,List.length_append,List.length_cons,List.length_nil,Ya3]
   rfl
def Zax:Cons:=(mkΓ [(100,con Zhb),(101,con Zf4),(102,con Zgj),(103,con Zfp),(105,con Zir),(106,con Zg4),(107,con Zgt),(108,con Zf6),(109,con Zgs),(110,con Zgc),(111,con Zgy)])
def Zgo (t:Nat×Array Value):LS:=([.a (.i .i64 (0:Int)),.a (.l 5)],[.sl .own t.1 t.2 171])
def Zjd (t:Nat×Array Value):LS:=([.a (.i .i64 (1:Int)),.a (.l 5)],[.sl .own t.1 t.2 171])
def Zi1 (t:Nat×Array Value):LS:=([.a (.i .i64 (2:Int)),.a (.l 5)],[.sl .own t.1 t.2 171])
def Zjl (t:Nat×Array Value):LS:=([.a (.i .i64 (3:Int)),.a (.l 5)],[.sl .own t.1 t.2 171])
def Zjp (t:Nat×Array Value):LS:=([.a (.i .i64 (4:Int)),.a (.l 5)],[.sl .own t.1 t.2 171])
def Zev (t:Nat×Array Value):LS:=([.a (.i .i64 (5:Int)),.a (.l 5)],[.sl .own t.1 t.2 171])
def Zal (a0:Array Value) (a1 a2:Int) (t:Nat×Array Value):Nat×Array Value:=bif decide ((i64.wrap (num a0 (((3+((a2).toNat*180))+((a1).toNat*5))+1))) > (0:Int)) then (bif (Zak a0 (#[.int .i64 (num (#[.int .i64 ((a1).tmod (6:Int)),.int .i64 (i64.wrap ((a1).tdiv (6:Int)))]:Array Value) 0),.int .i64 (i64.wrap ((num (#[.int .i64 ((a1).tmod (6:Int)),.int .i64 (i64.wrap ((a1).tdiv (6:Int)))]:Array Value) 1) - (1:Int)))]:Array Value)) then (((t.1+1),(t.2++(#[.int .i64 (i64.wrap ((num (#[.int .i64 (num (#[.int .i64 ((a1).tmod (6:Int)),.int .i64 (i64.wrap ((a1).tdiv (6:Int)))]:Array Value) 0),.int .i64 (i64.wrap ((num (#[.int .i64 ((a1).tmod (6:Int)),.int .i64 (i64.wrap ((a1).tdiv (6:Int)))]:Array Value) 1) - (1:Int)))]:Array Value) 0)+(i64.wrap ((6:Int)*(num (#[.int .i64 (num (#[.int .i64 ((a1).tmod (6:Int)),.int .i64 (i64.wrap ((a1).tdiv (6:Int)))]:Array Value) 0),.int .i64 (i64.wrap ((num (#[.int .i64 ((a1).tmod (6:Int)),.int .i64 (i64.wrap ((a1).tdiv (6:Int)))]:Array Value) 1) - (1:Int)))]:Array Value) 1))))),.int .i64 (i64.wrap (num a0 (((3+((a2).toNat*180))+((a1).toNat*5))+1)))]:Array Value)))) else ((t.1,t.2))) else ((t.1,t.2))
theorem Zp7 (N:Nat) (a0:Array Value) (a1 a2:Int) (hq0:(decide (0≤a2)&&decide (a2<2))=true) (hq1:(decide (0≤a1)&&decide (a1<36))=true) (t:Nat×Array Value) (hl:t.1≤1000000):stepVG prog Zax N (cAt (codeOf Tryd.f104) [1,1,1,1,0,1,0,0]) (pAt (mkPlan (codeOf Tryd.f104) [([21],[1000007,171])]).1 [1,1,1,1,0,1,0]) [21] [] 7 171 5 (⟨.a (.g a0 35) :: .a (.i .i64 (a1)) :: .a (.i .i64 (a2)) :: .a (.w 0) :: .a (.u) :: .a (.u) :: .a (.v (.slice none 0 0)) :: .a (.l 5) :: .a (.w 3)::us 4 (.a (.g a0 35) :: .a (.i .i64 (a1)) :: .a (.b ((Zad a0 a1)))::us 3 (.a (.g #[.func (.func 107) #[] #[],.func (.func 108) #[] #[],.func (.func 109) #[] #[],.func (.func 110) #[] #[],.func (.func 111) #[] #[]] 183) :: .a (.g #[.int .u8 (1:Int),.int .u8 (4:Int),.int .u8 (0:Int),.int .u8 (2:Int),.int .u8 (3:Int)] 24) :: .a (.i .i64 (0:Int))::us 34 ([]))),[.row a0 35,.no,.no,.row #[.func (.func 107) #[] #[],.func (.func 108) #[] #[],.func (.func 109) #[] #[],.func (.func 110) #[] #[],.func (.func 111) #[] #[]] 183,.no,.sl .own 0 (#[]:Array Value) 171],[3]⟩:St) (Zgo t)=some (.more (Zjd (Zal a0 a1 a2 t))):=by
 refine Eq.trans (b:=(bif (decide (0≤a2)&&decide (a2<2)) then (bif (decide (0≤a1)&&decide (a1<36)) then (bif decide ((i64.wrap (num a0 (((3+((a2).toNat*180))+((a1).toNat*5))+1))) > (0:Int)) then (bif (Zak a0 (#[.int .i64 (num (#[.int .i64 ((a1).tmod (6:Int)),.int .i64 (i64.wrap ((a1).tdiv (6:Int)))]:Array Value) 0),.int .i64 (i64.wrap ((num (#[.int .i64 ((a1).tmod (6:Int)),.int .i64 (i64.wrap ((a1).tdiv (6:Int)))]:Array Value) 1) - (1:Int)))]:Array Value)) then (bif (Nat.ble ((t.1+1)*bytesOf prog 171) 140737488355328) then (some (.more ([.a (.i .i64 (1:Int)),.a (.l 5)],[.sl .own (t.1+1) (t.2++(#[.int .i64 (i64.wrap ((num (#[.int .i64 (num (#[.int .i64 ((a1).tmod (6:Int)),.int .i64 (i64.wrap ((a1).tdiv (6:Int)))]:Array Value) 0),.int .i64 (i64.wrap ((num (#[.int .i64 ((a1).tmod (6:Int)),.int .i64 (i64.wrap ((a1).tdiv (6:Int)))]:Array Value) 1) - (1:Int)))]:Array Value) 0)+(i64.wrap ((6:Int)*(num (#[.int .i64 (num (#[.int .i64 ((a1).tmod (6:Int)),.int .i64 (i64.wrap ((a1).tdiv (6:Int)))]:Array Value) 0),.int .i64 (i64.wrap ((num (#[.int .i64 ((a1).tmod (6:Int)),.int .i64 (i64.wrap ((a1).tdiv (6:Int)))]:Array Value) 1) - (1:Int)))]:Array Value) 1))))),.int .i64 (i64.wrap (num a0 (((3+((a2).toNat*180))+((a1).toNat*5))+1)))]:Array Value)) 171]))) else (none)) else (some (.more ([.a (.i .i64 (1:Int)),.a (.l 5)],[.sl .own t.1 t.2 171])))) else (some (.more ([.a (.i .i64 (1:Int)),.a (.l 5)],[.sl .own t.1 t.2 171])))) else (none)) else (none))) (by kernel_rfl) ?_
 have hb:bytesOf prog 171≤1000000:=Nat.le_of_ble_eq_true (by kernel_rfl)
 have g2:(Nat.ble ((t.1+1)*bytesOf prog 171) 140737488355328)=true:=Nat.ble_eq_true_of_le (Nat.le_trans (Nat.mul_le_mul (show _≤1000001 by omega) hb) (by decide))
 simp only [Zal,Znb,g2,hq0,hq1,cond_true]
 rfl
theorem Zph (a0:Array Value) (a1 a2:Int) (t:Nat×Array Value):(Zal a0 a1 a2 t).1≤t.1+1:=by
 unfold Zal
 repeat (first | exact Nat.le_refl _ | exact Nat.le_succ _ | refine Zjh ?_ ?_)
def Zau (a0:Array Value) (a1 a2:Int) (t:Nat×Array Value):Nat×Array Value:=bif decide ((i64.wrap (num a0 (((3+((a2).toNat*180))+((a1).toNat*5))+4))) > (0:Int)) then (bif (Zak a0 (#[.int .i64 (i64.wrap ((num (#[.int .i64 ((a1).tmod (6:Int)),.int .i64 (i64.wrap ((a1).tdiv (6:Int)))]:Array Value) 0) - (1:Int))),.int .i64 (num (#[.int .i64 ((a1).tmod (6:Int)),.int .i64 (i64.wrap ((a1).tdiv (6:Int)))]:Array Value) 1)]:Array Value)) then (((t.1+1),(t.2++(#[.int .i64 (i64.wrap ((num (#[.int .i64 (i64.wrap ((num (#[.int .i64 ((a1).tmod (6:Int)),.int .i64 (i64.wrap ((a1).tdiv (6:Int)))]:Array Value) 0) - (1:Int))),.int .i64 (num (#[.int .i64 ((a1).tmod (6:Int)),.int .i64 (i64.wrap ((a1).tdiv (6:Int)))]:Array Value) 1)]:Array Value) 0)+(i64.wrap ((6:Int)*(num (#[.int .i64 (i64.wrap ((num (#[.int .i64 ((a1).tmod (6:Int)),.int .i64 (i64.wrap ((a1).tdiv (6:Int)))]:Array Value) 0) - (1:Int))),.int .i64 (num (#[.int .i64 ((a1).tmod (6:Int)),.int .i64 (i64.wrap ((a1).tdiv (6:Int)))]:Array Value) 1)]:Array Value) 1))))),.int .i64 (i64.wrap (num a0 (((3+((a2).toNat*180))+((a1).toNat*5))+4)))]:Array Value)))) else ((t.1,t.2))) else ((t.1,t.2))
theorem Zpc (N:Nat) (a0:Array Value) (a1 a2:Int) (hq0:(decide (0≤a2)&&decide (a2<2))=true) (hq1:(decide (0≤a1)&&decide (a1<36))=true) (t:Nat×Array Value) (hl:t.1≤1000000):stepVG prog Zax N (cAt (codeOf Tryd.f104) [1,1,1,1,0,1,0,0]) (pAt (mkPlan (codeOf Tryd.f104) [([21],[1000007,171])]).1 [1,1,1,1,0,1,0]) [21] [] 7 171 5 (⟨.a (.g a0 35) :: .a (.i .i64 (a1)) :: .a (.i .i64 (a2)) :: .a (.w 0) :: .a (.u) :: .a (.u) :: .a (.v (.slice none 0 0)) :: .a (.l 5) :: .a (.w 3)::us 4 (.a (.g a0 35) :: .a (.i .i64 (a1)) :: .a (.b ((Zad a0 a1)))::us 3 (.a (.g #[.func (.func 107) #[] #[],.func (.func 108) #[] #[],.func (.func 109) #[] #[],.func (.func 110) #[] #[],.func (.func 111) #[] #[]] 183) :: .a (.g #[.int .u8 (1:Int),.int .u8 (4:Int),.int .u8 (0:Int),.int .u8 (2:Int),.int .u8 (3:Int)] 24) :: .a (.i .i64 (0:Int))::us 34 ([]))),[.row a0 35,.no,.no,.row #[.func (.func 107) #[] #[],.func (.func 108) #[] #[],.func (.func 109) #[] #[],.func (.func 110) #[] #[],.func (.func 111) #[] #[]] 183,.no,.sl .own 0 (#[]:Array Value) 171],[3]⟩:St) (Zjd t)=some (.more (Zi1 (Zau a0 a1 a2 t))):=by
 refine Eq.trans (b:=(bif (decide (0≤a2)&&decide (a2<2)) then (bif (decide (0≤a1)&&decide (a1<36)) then (bif decide ((i64.wrap (num a0 (((3+((a2).toNat*180))+((a1).toNat*5))+4))) > (0:Int)) then (bif (Zak a0 (#[.int .i64 (i64.wrap ((num (#[.int .i64 ((a1).tmod (6:Int)),.int .i64 (i64.wrap ((a1).tdiv (6:Int)))]:Array Value) 0) - (1:Int))),.int .i64 (num (#[.int .i64 ((a1).tmod (6:Int)),.int .i64 (i64.wrap ((a1).tdiv (6:Int)))]:Array Value) 1)]:Array Value)) then (bif (Nat.ble ((t.1+1)*bytesOf prog 171) 140737488355328) then (some (.more ([.a (.i .i64 (2:Int)),.a (.l 5)],[.sl .own (t.1+1) (t.2++(#[.int .i64 (i64.wrap ((num (#[.int .i64 (i64.wrap ((num (#[.int .i64 ((a1).tmod (6:Int)),.int .i64 (i64.wrap ((a1).tdiv (6:Int)))]:Array Value) 0) - (1:Int))),.int .i64 (num (#[.int .i64 ((a1).tmod (6:Int)),.int .i64 (i64.wrap ((a1).tdiv (6:Int)))]:Array Value) 1)]:Array Value) 0)+(i64.wrap ((6:Int)*(num (#[.int .i64 (i64.wrap ((num (#[.int .i64 ((a1).tmod (6:Int)),.int .i64 (i64.wrap ((a1).tdiv (6:Int)))]:Array Value) 0) - (1:Int))),.int .i64 (num (#[.int .i64 ((a1).tmod (6:Int)),.int .i64 (i64.wrap ((a1).tdiv (6:Int)))]:Array Value) 1)]:Array Value) 1))))),.int .i64 (i64.wrap (num a0 (((3+((a2).toNat*180))+((a1).toNat*5))+4)))]:Array Value)) 171]))) else (none)) else (some (.more ([.a (.i .i64 (2:Int)),.a (.l 5)],[.sl .own t.1 t.2 171])))) else (some (.more ([.a (.i .i64 (2:Int)),.a (.l 5)],[.sl .own t.1 t.2 171])))) else (none)) else (none))) (by kernel_rfl) ?_
 have hb:bytesOf prog 171≤1000000:=Nat.le_of_ble_eq_true (by kernel_rfl)
 have g2:(Nat.ble ((t.1+1)*bytesOf prog 171) 140737488355328)=true:=Nat.ble_eq_true_of_le (Nat.le_trans (Nat.mul_le_mul (show _≤1000001 by omega) hb) (by decide))
 simp only [Zau,Znb,g2,hq0,hq1,cond_true]
 rfl
theorem Zpw (a0:Array Value) (a1 a2:Int) (t:Nat×Array Value):(Zau a0 a1 a2 t).1≤t.1+1:=by
 unfold Zau
 repeat (first | exact Nat.le_refl _ | exact Nat.le_succ _ | refine Zjh ?_ ?_)
def Zay (a0:Array Value) (a1 a2:Int) (t:Nat×Array Value):Nat×Array Value:=bif decide ((i64.wrap (num a0 (((3+((a2).toNat*180))+((a1).toNat*5))+0))) > (0:Int)) then (bif (Zak a0 (#[.int .i64 ((a1).tmod (6:Int)),.int .i64 (i64.wrap ((a1).tdiv (6:Int)))]:Array Value)) then (((t.1+1),(t.2++(#[.int .i64 (i64.wrap ((num (#[.int .i64 ((a1).tmod (6:Int)),.int .i64 (i64.wrap ((a1).tdiv (6:Int)))]:Array Value) 0)+(i64.wrap ((6:Int)*(num (#[.int .i64 ((a1).tmod (6:Int)),.int .i64 (i64.wrap ((a1).tdiv (6:Int)))]:Array Value) 1))))),.int .i64 (i64.wrap (num a0 (((3+((a2).toNat*180))+((a1).toNat*5))+0)))]:Array Value)))) else ((t.1,t.2))) else ((t.1,t.2))
theorem Zpz (N:Nat) (a0:Array Value) (a1 a2:Int) (hq0:(decide (0≤a2)&&decide (a2<2))=true) (hq1:(decide (0≤a1)&&decide (a1<36))=true) (t:Nat×Array Value) (hl:t.1≤1000000):stepVG prog Zax N (cAt (codeOf Tryd.f104) [1,1,1,1,0,1,0,0]) (pAt (mkPlan (codeOf Tryd.f104) [([21],[1000007,171])]).1 [1,1,1,1,0,1,0]) [21] [] 7 171 5 (⟨.a (.g a0 35) :: .a (.i .i64 (a1)) :: .a (.i .i64 (a2)) :: .a (.w 0) :: .a (.u) :: .a (.u) :: .a (.v (.slice none 0 0)) :: .a (.l 5) :: .a (.w 3)::us 4 (.a (.g a0 35) :: .a (.i .i64 (a1)) :: .a (.b ((Zad a0 a1)))::us 3 (.a (.g #[.func (.func 107) #[] #[],.func (.func 108) #[] #[],.func (.func 109) #[] #[],.func (.func 110) #[] #[],.func (.func 111) #[] #[]] 183) :: .a (.g #[.int .u8 (1:Int),.int .u8 (4:Int),.int .u8 (0:Int),.int .u8 (2:Int),.int .u8 (3:Int)] 24) :: .a (.i .i64 (0:Int))::us 34 ([]))),[.row a0 35,.no,.no,.row #[.func (.func 107) #[] #[],.func (.func 108) #[] #[],.func (.func 109) #[] #[],.func (.func 110) #[] #[],.func (.func 111) #[] #[]] 183,.no,.sl .own 0 (#[]:Array Value) 171],[3]⟩:St) (Zi1 t)=some (.more (Zjl (Zay a0 a1 a2 t))):=by
 refine Eq.trans (b:=(bif (decide (0≤a2)&&decide (a2<2)) then (bif (decide (0≤a1)&&decide (a1<36)) then (bif decide ((i64.wrap (num a0 (((3+((a2).toNat*180))+((a1).toNat*5))+0))) > (0:Int)) then (bif (Zak a0 (#[.int .i64 ((a1).tmod (6:Int)),.int .i64 (i64.wrap ((a1).tdiv (6:Int)))]:Array Value)) then (bif (Nat.ble ((t.1+1)*bytesOf prog 171) 140737488355328) then (some (.more ([.a (.i .i64 (3:Int)),.a (.l 5)],[.sl .own (t.1+1) (t.2++(#[.int .i64 (i64.wrap ((num (#[.int .i64 ((a1).tmod (6:Int)),.int .i64 (i64.wrap ((a1).tdiv (6:Int)))]:Array Value) 0)+(i64.wrap ((6:Int)*(num (#[.int .i64 ((a1).tmod (6:Int)),.int .i64 (i64.wrap ((a1).tdiv (6:Int)))]:Array Value) 1))))),.int .i64 (i64.wrap (num a0 (((3+((a2).toNat*180))+((a1).toNat*5))+0)))]:Array Value)) 171]))) else (none)) else (some (.more ([.a (.i .i64 (3:Int)),.a (.l 5)],[.sl .own t.1 t.2 171])))) else (some (.more ([.a (.i .i64 (3:Int)),.a (.l 5)],[.sl .own t.1 t.2 171])))) else (none)) else (none))) (by kernel_rfl) ?_
 have hb:bytesOf prog 171≤1000000:=Nat.le_of_ble_eq_true (by kernel_rfl)
 have g2:(Nat.ble ((t.1+1)*bytesOf prog 171) 140737488355328)=true:=Nat.ble_eq_true_of_le (Nat.le_trans (Nat.mul_le_mul (show _≤1000001 by omega) hb) (by decide))
 simp only [Zay,Znb,g2,hq0,hq1,cond_true]
 rfl
theorem Zpr (a0:Array Value) (a1 a2:Int) (t:Nat×Array Value):(Zay a0 a1 a2 t).1≤t.1+1:=by
 unfold Zay
 repeat (first | exact Nat.le_refl _ | exact Nat.le_succ _ | refine Zjh ?_ ?_)
def Zbh (a0:Array Value) (a1 a2:Int) (t:Nat×Array Value):Nat×Array Value:=bif decide ((i64.wrap (num a0 (((3+((a2).toNat*180))+((a1).toNat*5))+2))) > (0:Int)) then (bif (Zak a0 (#[.int .i64 (i64.wrap ((num (#[.int .i64 ((a1).tmod (6:Int)),.int .i64 (i64.wrap ((a1).tdiv (6:Int)))]:Array Value) 0)+(1:Int))),.int .i64 (num (#[.int .i64 ((a1).tmod (6:Int)),.int .i64 (i64.wrap ((a1).tdiv (6:Int)))]:Array Value) 1)]:Array Value)) then (((t.1+1),(t.2++(#[.int .i64 (i64.wrap ((num (#[.int .i64 (i64.wrap ((num (#[.int .i64 ((a1).tmod (6:Int)),.int .i64 (i64.wrap ((a1).tdiv (6:Int)))]:Array Value) 0)+(1:Int))),.int .i64 (num (#[.int .i64 ((a1).tmod (6:Int)),.int .i64 (i64.wrap ((a1).tdiv (6:Int)))]:Array Value) 1)]:Array Value) 0)+(i64.wrap ((6:Int)*(num (#[.int .i64 (i64.wrap ((num (#[.int .i64 ((a1).tmod (6:Int)),.int .i64 (i64.wrap ((a1).tdiv (6:Int)))]:Array Value) 0)+(1:Int))),.int .i64 (num (#[.int .i64 ((a1).tmod (6:Int)),.int .i64 (i64.wrap ((a1).tdiv (6:Int)))]:Array Value) 1)]:Array Value) 1))))),.int .i64 (i64.wrap (num a0 (((3+((a2).toNat*180))+((a1).toNat*5))+2)))]:Array Value)))) else ((t.1,t.2))) else ((t.1,t.2))
theorem Zp0 (N:Nat) (a0:Array Value) (a1 a2:Int) (hq0:(decide (0≤a2)&&decide (a2<2))=true) (hq1:(decide (0≤a1)&&decide (a1<36))=true) (t:Nat×Array Value) (hl:t.1≤1000000):stepVG prog Zax N (cAt (codeOf Tryd.f104) [1,1,1,1,0,1,0,0]) (pAt (mkPlan (codeOf Tryd.f104) [([21],[1000007,171])]).1 [1,1,1,1,0,1,0]) [21] [] 7 171 5 (⟨.a (.g a0 35) :: .a (.i .i64 (a1)) :: .a (.i .i64 (a2)) :: .a (.w 0) :: .a (.u) :: .a (.u) :: .a (.v (.slice none 0 0)) :: .a (.l 5) :: .a (.w 3)::us 4 (.a (.g a0 35) :: .a (.i .i64 (a1)) :: .a (.b ((Zad a0 a1)))::us 3 (.a (.g #[.func (.func 107) #[] #[],.func (.func 108) #[] #[],.func (.func 109) #[] #[],.func (.func 110) #[] #[],.func (.func 111) #[] #[]] 183) :: .a (.g #[.int .u8 (1:Int),.int .u8 (4:Int),.int .u8 (0:Int),.int .u8 (2:Int),.int .u8 (3:Int)] 24) :: .a (.i .i64 (0:Int))::us 34 ([]))),[.row a0 35,.no,.no,.row #[.func (.func 107) #[] #[],.func (.func 108) #[] #[],.func (.func 109) #[] #[],.func (.func 110) #[] #[],.func (.func 111) #[] #[]] 183,.no,.sl .own 0 (#[]:Array Value) 171],[3]⟩:St) (Zjl t)=some (.more (Zjp (Zbh a0 a1 a2 t))):=by
 refine Eq.trans (b:=(bif (decide (0≤a2)&&decide (a2<2)) then (bif (decide (0≤a1)&&decide (a1<36)) then (bif decide ((i64.wrap (num a0 (((3+((a2).toNat*180))+((a1).toNat*5))+2))) > (0:Int)) then (bif (Zak a0 (#[.int .i64 (i64.wrap ((num (#[.int .i64 ((a1).tmod (6:Int)),.int .i64 (i64.wrap ((a1).tdiv (6:Int)))]:Array Value) 0)+(1:Int))),.int .i64 (num (#[.int .i64 ((a1).tmod (6:Int)),.int .i64 (i64.wrap ((a1).tdiv (6:Int)))]:Array Value) 1)]:Array Value)) then (bif (Nat.ble ((t.1+1)*bytesOf prog 171) 140737488355328) then (some (.more ([.a (.i .i64 (4:Int)),.a (.l 5)],[.sl .own (t.1+1) (t.2++(#[.int .i64 (i64.wrap ((num (#[.int .i64 (i64.wrap ((num (#[.int .i64 ((a1).tmod (6:Int)),.int .i64 (i64.wrap ((a1).tdiv (6:Int)))]:Array Value) 0)+(1:Int))),.int .i64 (num (#[.int .i64 ((a1).tmod (6:Int)),.int .i64 (i64.wrap ((a1).tdiv (6:Int)))]:Array Value) 1)]:Array Value) 0)+(i64.wrap ((6:Int)*(num (#[.int .i64 (i64.wrap ((num (#[.int .i64 ((a1).tmod (6:Int)),.int .i64 (i64.wrap ((a1).tdiv (6:Int)))]:Array Value) 0)+(1:Int))),.int .i64 (num (#[.int .i64 ((a1).tmod (6:Int)),.int .i64 (i64.wrap ((a1).tdiv (6:Int)))]:Array Value) 1)]:Array Value) 1))))),.int .i64 (i64.wrap (num a0 (((3+((a2).toNat*180))+((a1).toNat*5))+2)))]:Array Value)) 171]))) else (none)) else (some (.more ([.a (.i .i64 (4:Int)),.a (.l 5)],[.sl .own t.1 t.2 171])))) else (some (.more ([.a (.i .i64 (4:Int)),.a (.l 5)],[.sl .own t.1 t.2 171])))) else (none)) else (none))) (by kernel_rfl) ?_
 have hb:bytesOf prog 171≤1000000:=Nat.le_of_ble_eq_true (by kernel_rfl)
 have g2:(Nat.ble ((t.1+1)*bytesOf prog 171) 140737488355328)=true:=Nat.ble_eq_true_of_le (Nat.le_trans (Nat.mul_le_mul (show _≤1000001 by omega) hb) (by decide))
 simp only [Zbh,Znb,g2,hq0,hq1,cond_true]
 rfl
theorem Zpa (a0:Array Value) (a1 a2:Int) (t:Nat×Array Value):(Zbh a0 a1 a2 t).1≤t.1+1:=by
 unfold Zbh
 repeat (first | exact Nat.le_refl _ | exact Nat.le_succ _ | refine Zjh ?_ ?_)
def Zca (a0:Array Value) (a1 a2:Int) (t:Nat×Array Value):Nat×Array Value:=bif decide ((i64.wrap (num a0 (((3+((a2).toNat*180))+((a1).toNat*5))+3))) > (0:Int)) then (bif (Zak a0 (#[.int .i64 (num (#[.int .i64 ((a1).tmod (6:Int)),.int .i64 (i64.wrap ((a1).tdiv (6:Int)))]:Array Value) 0),.int .i64 (i64.wrap ((num (#[.int .i64 ((a1).tmod (6:Int)),.int .i64 (i64.wrap ((a1).tdiv (6:Int)))]:Array Value) 1)+(1:Int)))]:Array Value)) then (((t.1+1),(t.2++(#[.int .i64 (i64.wrap ((num (#[.int .i64 (num (#[.int .i64 ((a1).tmod (6:Int)),.int .i64 (i64.wrap ((a1).tdiv (6:Int)))]:Array Value) 0),.int .i64 (i64.wrap ((num (#[.int .i64 ((a1).tmod (6:Int)),.int .i64 (i64.wrap ((a1).tdiv (6:Int)))]:Array Value) 1)+(1:Int)))]:Array Value) 0)+(i64.wrap ((6:Int)*(num (#[.int .i64 (num (#[.int .i64 ((a1).tmod (6:Int)),.int .i64 (i64.wrap ((a1).tdiv (6:Int)))]:Array Value) 0),.int .i64 (i64.wrap ((num (#[.int .i64 ((a1).tmod (6:Int)),.int .i64 (i64.wrap ((a1).tdiv (6:Int)))]:Array Value) 1)+(1:Int)))]:Array Value) 1))))),.int .i64 (i64.wrap (num a0 (((3+((a2).toNat*180))+((a1).toNat*5))+3)))]:Array Value)))) else ((t.1,t.2))) else ((t.1,t.2))
theorem Zpe (N:Nat) (a0:Array Value) (a1 a2:Int) (hq0:(decide (0≤a2)&&decide (a2<2))=true) (hq1:(decide (0≤a1)&&decide (a1<36))=true) (t:Nat×Array Value) (hl:t.1≤1000000):stepVG prog Zax N (cAt (codeOf Tryd.f104) [1,1,1,1,0,1,0,0]) (pAt (mkPlan (codeOf Tryd.f104) [([21],[1000007,171])]).1 [1,1,1,1,0,1,0]) [21] [] 7 171 5 (⟨.a (.g a0 35) :: .a (.i .i64 (a1)) :: .a (.i .i64 (a2)) :: .a (.w 0) :: .a (.u) :: .a (.u) :: .a (.v (.slice none 0 0)) :: .a (.l 5) :: .a (.w 3)::us 4 (.a (.g a0 35) :: .a (.i .i64 (a1)) :: .a (.b ((Zad a0 a1)))::us 3 (.a (.g #[.func (.func 107) #[] #[],.func (.func 108) #[] #[],.func (.func 109) #[] #[],.func (.func 110) #[] #[],.func (.func 111) #[] #[]] 183) :: .a (.g #[.int .u8 (1:Int),.int .u8 (4:Int),.int .u8 (0:Int),.int .u8 (2:Int),.int .u8 (3:Int)] 24) :: .a (.i .i64 (0:Int))::us 34 ([]))),[.row a0 35,.no,.no,.row #[.func (.func 107) #[] #[],.func (.func 108) #[] #[],.func (.func 109) #[] #[],.func (.func 110) #[] #[],.func (.func 111) #[] #[]] 183,.no,.sl .own 0 (#[]:Array Value) 171],[3]⟩:St) (Zjp t)=some (.more (Zev (Zca a0 a1 a2 t))):=by
 refine Eq.trans (b:=(bif (decide (0≤a2)&&decide (a2<2)) then (bif (decide (0≤a1)&&decide (a1<36)) then (bif decide ((i64.wrap (num a0 (((3+((a2).toNat*180))+((a1).toNat*5))+3))) > (0:Int)) then (bif (Zak a0 (#[.int .i64 (num (#[.int .i64 ((a1).tmod (6:Int)),.int .i64 (i64.wrap ((a1).tdiv (6:Int)))]:Array Value) 0),.int .i64 (i64.wrap ((num (#[.int .i64 ((a1).tmod (6:Int)),.int .i64 (i64.wrap ((a1).tdiv (6:Int)))]:Array Value) 1)+(1:Int)))]:Array Value)) then (bif (Nat.ble ((t.1+1)*bytesOf prog 171) 140737488355328) then (some (.more ([.a (.i .i64 (5:Int)),.a (.l 5)],[.sl .own (t.1+1) (t.2++(#[.int .i64 (i64.wrap ((num (#[.int .i64 (num (#[.int .i64 ((a1).tmod (6:Int)),.int .i64 (i64.wrap ((a1).tdiv (6:Int)))]:Array Value) 0),.int .i64 (i64.wrap ((num (#[.int .i64 ((a1).tmod (6:Int)),.int .i64 (i64.wrap ((a1).tdiv (6:Int)))]:Array Value) 1)+(1:Int)))]:Array Value) 0)+(i64.wrap ((6:Int)*(num (#[.int .i64 (num (#[.int .i64 ((a1).tmod (6:Int)),.int .i64 (i64.wrap ((a1).tdiv (6:Int)))]:Array Value) 0),.int .i64 (i64.wrap ((num (#[.int .i64 ((a1).tmod (6:Int)),.int .i64 (i64.wrap ((a1).tdiv (6:Int)))]:Array Value) 1)+(1:Int)))]:Array Value) 1))))),.int .i64 (i64.wrap (num a0 (((3+((a2).toNat*180))+((a1).toNat*5))+3)))]:Array Value)) 171]))) else (none)) else (some (.more ([.a (.i .i64 (5:Int)),.a (.l 5)],[.sl .own t.1 t.2 171])))) else (some (.more ([.a (.i .i64 (5:Int)),.a (.l 5)],[.sl .own t.1 t.2 171])))) else (none)) else (none))) (by kernel_rfl) ?_
 have hb:bytesOf prog 171≤1000000:=Nat.le_of_ble_eq_true (by kernel_rfl)
 have g2:(Nat.ble ((t.1+1)*bytesOf prog 171) 140737488355328)=true:=Nat.ble_eq_true_of_le (Nat.le_trans (Nat.mul_le_mul (show _≤1000001 by omega) hb) (by decide))
 simp only [Zca,Znb,g2,hq0,hq1,cond_true]
 rfl
theorem Zp1 (a0:Array Value) (a1 a2:Int) (t:Nat×Array Value):(Zca a0 a1 a2 t).1≤t.1+1:=by
 unfold Zca
 repeat (first | exact Nat.le_refl _ | exact Nat.le_succ _ | refine Zjh ?_ ?_)
theorem Zo7 (N:Nat) (a0:Array Value) (a1 a2:Int) (hq0:(decide (0≤a2)&&decide (a2<2))=true) (hq1:(decide (0≤a1)&&decide (a1<36))=true) (t:Nat×Array Value):stepVG prog Zax N (cAt (codeOf Tryd.f104) [1,1,1,1,0,1,0,0]) (pAt (mkPlan (codeOf Tryd.f104) [([21],[1000007,171])]).1 [1,1,1,1,0,1,0]) [21] [] 7 171 5 (⟨.a (.g a0 35) :: .a (.i .i64 (a1)) :: .a (.i .i64 (a2)) :: .a (.w 0) :: .a (.u) :: .a (.u) :: .a (.v (.slice none 0 0)) :: .a (.l 5) :: .a (.w 3)::us 4 (.a (.g a0 35) :: .a (.i .i64 (a1)) :: .a (.b ((Zad a0 a1)))::us 3 (.a (.g #[.func (.func 107) #[] #[],.func (.func 108) #[] #[],.func (.func 109) #[] #[],.func (.func 110) #[] #[],.func (.func 111) #[] #[]] 183) :: .a (.g #[.int .u8 (1:Int),.int .u8 (4:Int),.int .u8 (0:Int),.int .u8 (2:Int),.int .u8 (3:Int)] 24) :: .a (.i .i64 (0:Int))::us 34 ([]))),[.row a0 35,.no,.no,.row #[.func (.func 107) #[] #[],.func (.func 108) #[] #[],.func (.func 109) #[] #[],.func (.func 110) #[] #[],.func (.func 111) #[] #[]] 183,.no,.sl .own 0 (#[]:Array Value) 171],[3]⟩:St) (Zev t)=some (.done ((.exit 0),Zev t)):=by kernel_rfl
def Zcd (a0:Array Value) (a1 a2:Int):Nat×Array Value:=(Zca a0 a1 a2 (Zbh a0 a1 a2 (Zay a0 a1 a2 (Zau a0 a1 a2 (Zal a0 a1 a2 (0,(#[]:Array Value)))))))
theorem Zsv (N:Nat) (hN:5<N) (a0:Array Value) (a1 a2:Int) (hq0:(decide (0≤a2)&&decide (a2<2))=true) (hq1:(decide (0≤a1)&&decide (a1<36))=true):iterO (stepVG prog Zax N (cAt (codeOf Tryd.f104) [1,1,1,1,0,1,0,0]) (pAt (mkPlan (codeOf Tryd.f104) [([21],[1000007,171])]).1 [1,1,1,1,0,1,0]) [21] [] 7 171 5 (⟨.a (.g a0 35) :: .a (.i .i64 (a1)) :: .a (.i .i64 (a2)) :: .a (.w 0) :: .a (.u) :: .a (.u) :: .a (.v (.slice none 0 0)) :: .a (.l 5) :: .a (.w 3)::us 4 (.a (.g a0 35) :: .a (.i .i64 (a1)) :: .a (.b ((Zad a0 a1)))::us 3 (.a (.g #[.func (.func 107) #[] #[],.func (.func 108) #[] #[],.func (.func 109) #[] #[],.func (.func 110) #[] #[],.func (.func 111) #[] #[]] 183) :: .a (.g #[.int .u8 (1:Int),.int .u8 (4:Int),.int .u8 (0:Int),.int .u8 (2:Int),.int .u8 (3:Int)] 24) :: .a (.i .i64 (0:Int))::us 34 ([]))),[.row a0 35,.no,.no,.row #[.func (.func 107) #[] #[],.func (.func 108) #[] #[],.func (.func 109) #[] #[],.func (.func 110) #[] #[],.func (.func 111) #[] #[]] 183,.no,.sl .own 0 (#[]:Array Value) 171],[3]⟩:St)) N (Zgo (0,(#[]:Array Value)))=some ((.exit 0),Zev (Zcd a0 a1 a2)):=by
 have l0:((0,(#[]:Array Value)):Nat×Array Value).1≤0:=Nat.le_refl _
 have l1:=Zph a0 a1 a2 (0,(#[]:Array Value))
 have l2:=Zpw a0 a1 a2 (Zal a0 a1 a2 (0,(#[]:Array Value)))
 have l3:=Zpr a0 a1 a2 (Zau a0 a1 a2 (Zal a0 a1 a2 (0,(#[]:Array Value))))
 have l4:=Zpa a0 a1 a2 (Zay a0 a1 a2 (Zau a0 a1 a2 (Zal a0 a1 a2 (0,(#[]:Array Value)))))
 have l5:=Zp1 a0 a1 a2 (Zbh a0 a1 a2 (Zay a0 a1 a2 (Zau a0 a1 a2 (Zal a0 a1 a2 (0,(#[]:Array Value))))))
 have q0:=Zp7 N a0 a1 a2 hq0 hq1 (0,(#[]:Array Value)) (by omega)
 have q1:=Zpc N a0 a1 a2 hq0 hq1 (Zal a0 a1 a2 (0,(#[]:Array Value))) (by omega)
 have q2:=Zpz N a0 a1 a2 hq0 hq1 (Zau a0 a1 a2 (Zal a0 a1 a2 (0,(#[]:Array Value)))) (by omega)
 have q3:=Zp0 N a0 a1 a2 hq0 hq1 (Zay a0 a1 a2 (Zau a0 a1 a2 (Zal a0 a1 a2 (0,(#[]:Array Value))))) (by omega)
 have q4:=Zpe N a0 a1 a2 hq0 hq1 (Zbh a0 a1 a2 (Zay a0 a1 a2 (Zau a0 a1 a2 (Zal a0 a1 a2 (0,(#[]:Array Value)))))) (by omega)
 have q5:=Zo7 N a0 a1 a2 hq0 hq1 (Zca a0 a1 a2 (Zbh a0 a1 a2 (Zay a0 a1 a2 (Zau a0 a1 a2 (Zal a0 a1 a2 (0,(#[]:Array Value)))))))
 unfold Zcd
 obtain ⟨N0,e0⟩:∃ N0,N=N0+5+1:=⟨N - 5 - 1,by omega⟩
 generalize hf:stepVG prog Zax N (cAt (codeOf Tryd.f104) [1,1,1,1,0,1,0,0]) (pAt (mkPlan (codeOf Tryd.f104) [([21],[1000007,171])]).1 [1,1,1,1,0,1,0]) [21] [] 7 171 5 (⟨.a (.g a0 35) :: .a (.i .i64 (a1)) :: .a (.i .i64 (a2)) :: .a (.w 0) :: .a (.u) :: .a (.u) :: .a (.v (.slice none 0 0)) :: .a (.l 5) :: .a (.w 3)::us 4 (.a (.g a0 35) :: .a (.i .i64 (a1)) :: .a (.b ((Zad a0 a1)))::us 3 (.a (.g #[.func (.func 107) #[] #[],.func (.func 108) #[] #[],.func (.func 109) #[] #[],.func (.func 110) #[] #[],.func (.func 111) #[] #[]] 183) :: .a (.g #[.int .u8 (1:Int),.int .u8 (4:Int),.int .u8 (0:Int),.int .u8 (2:Int),.int .u8 (3:Int)] 24) :: .a (.i .i64 (0:Int))::us 34 ([]))),[.row a0 35,.no,.no,.row #[.func (.func 107) #[] #[],.func (.func 108) #[] #[],.func (.func 109) #[] #[],.func (.func 110) #[] #[],.func (.func 111) #[] #[]] 183,.no,.sl .own 0 (#[]:Array Value) 171],[3]⟩:St)=f at q0 q1 q2 q3 q4 q5⊢
 rw [e0]
 refine (Zkt q0 (N0+5)).trans ?_
 refine (Zkt q1 (N0+4)).trans ?_
 refine (Zkt q2 (N0+3)).trans ?_
 refine (Zkt q3 (N0+2)).trans ?_
 refine (Zkt q4 (N0+1)).trans ?_
 exact Ya8 q5 N0
theorem Ztk (N:Nat) (hN:5<N) (a0:Array Value) (a1 a2:Int) (hq0:(decide (0≤a2)&&decide (a2<2))=true) (hq1:(decide (0≤a1)&&decide (a1<36))=true):bindX (iterO (stepVG prog Zax N (cAt (codeOf Tryd.f104) [1,1,1,1,0,1,0,0]) (pAt (mkPlan (codeOf Tryd.f104) [([21],[1000007,171])]).1 [1,1,1,1,0,1,0]) [21] [] 7 171 5 (⟨.a (.g a0 35) :: .a (.i .i64 (a1)) :: .a (.i .i64 (a2)) :: .a (.w 0) :: .a (.u) :: .a (.u) :: .a (.v (.slice none 0 0)) :: .a (.l 5) :: .a (.w 3)::us 4 (.a (.g a0 35) :: .a (.i .i64 (a1)) :: .a (.b ((Zad a0 a1)))::us 3 (.a (.g #[.func (.func 107) #[] #[],.func (.func 108) #[] #[],.func (.func 109) #[] #[],.func (.func 110) #[] #[],.func (.func 111) #[] #[]] 183) :: .a (.g #[.int .u8 (1:Int),.int .u8 (4:Int),.int .u8 (0:Int),.int .u8 (2:Int),.int .u8 (3:Int)] 24) :: .a (.i .i64 (0:Int))::us 34 ([]))),[.row a0 35,.no,.no,.row #[.func (.func 107) #[] #[],.func (.func 108) #[] #[],.func (.func 109) #[] #[],.func (.func 110) #[] #[],.func (.func 111) #[] #[]] 183,.no,.sl .own 0 (#[]:Array Value) 171],[3]⟩:St)) N ([.a (.i .i64 (0:Int)),.a (.l 5)],[.sl .own 0 (#[]:Array Value) 171])) (fun e s=>(kBlock 0 (kSeq (veC prog Zax N (cAt (codeOf Tryd.f104) [1,1,1,1,1]) (pAt (mkPlan (codeOf Tryd.f104) [([21],[1000007,171])]).1 [1,1,1,1,1]) (SV×Eff×Bool)) (finK prog [] [.tmp 6]))) e (left (writes (cAt (codeOf Tryd.f104) [1,1,1,1,0,1,0,0])) [21,7] [5] (⟨.a (.g a0 35) :: .a (.i .i64 (a1)) :: .a (.i .i64 (a2)) :: .a (.w 0) :: .a (.u) :: .a (.u) :: .a (.v (.slice none 0 0)) :: .a (.l 5) :: .a (.w 3)::us 4 (.a (.g a0 35) :: .a (.i .i64 (a1)) :: .a (.b ((Zad a0 a1)))::us 3 (.a (.g #[.func (.func 107) #[] #[],.func (.func 108) #[] #[],.func (.func 109) #[] #[],.func (.func 110) #[] #[],.func (.func 111) #[] #[]] 183) :: .a (.g #[.int .u8 (1:Int),.int .u8 (4:Int),.int .u8 (0:Int),.int .u8 (2:Int),.int .u8 (3:Int)] 24) :: .a (.i .i64 (0:Int))::us 34 ([]))),[.row a0 35,.no,.no,.row #[.func (.func 107) #[] #[],.func (.func 108) #[] #[],.func (.func 109) #[] #[],.func (.func 110) #[] #[],.func (.func 111) #[] #[]] 183,.no,.sl .own 0 (#[]:Array Value) 171],[3]⟩:St) s))=(some (.a .x,.newS none (Zcd a0 a1 a2).1 (Zcd a0 a1 a2).2 171,true)):=by
 have e0:(([.a (.i .i64 (0:Int)),.a (.l 5)],[.sl .own 0 (#[]:Array Value) 171]):LS)=Zgo (0,(#[]:Array Value)):=rfl
 rw [e0,Zsv N hN a0 a1 a2 hq0 hq1 ]
 change _=_
 kernel_rfl
theorem Zqg (N:Nat) (hN:5<N) (a0:Array Value) (a1 a2:Int) (hq0:(decide (0≤a2)&&decide (a2<2))=true) (hq1:(decide (0≤a1)&&decide (a1<36))=true):ansV prog Zax N Tryd.f104 [([21],[1000007,171])] [.g a0 35,.i .i64 (a1),.i .i64 (a2)] []=(bif decide (0≤a1) then (bif (Zad a0 a1) then (some (.a .x,.newS none 1 (#[.int .i64 (a1),.int .i64 (12:Int)]:Array Value) 171,true))
   else (some (.a .x,.newS none (Zcd a0 a1 a2).1 (Zcd a0 a1 a2).2 171,true)))
  else (none)):=by
 refine Eq.trans (b:=(bif decide (0≤a1) then (bif (Zad a0 a1) then (some (.a .x,.newS none 1 (#[.int .i64 (a1),.int .i64 (12:Int)]:Array Value) 171,true))
   else (bindX (iterO (stepVG prog Zax N (cAt (codeOf Tryd.f104) [1,1,1,1,0,1,0,0]) (pAt (mkPlan (codeOf Tryd.f104) [([21],[1000007,171])]).1 [1,1,1,1,0,1,0]) [21] [] 7 171 5 (⟨.a (.g a0 35) :: .a (.i .i64 (a1)) :: .a (.i .i64 (a2)) :: .a (.w 0) :: .a (.u) :: .a (.u) :: .a (.v (.slice none 0 0)) :: .a (.l 5) :: .a (.w 3)::us 4 (.a (.g a0 35) :: .a (.i .i64 (a1)) :: .a (.b ((Zad a0 a1)))::us 3 (.a (.g #[.func (.func 107) #[] #[],.func (.func 108) #[] #[],.func (.func 109) #[] #[],.func (.func 110) #[] #[],.func (.func 111) #[] #[]] 183) :: .a (.g #[.int .u8 (1:Int),.int .u8 (4:Int),.int .u8 (0:Int),.int .u8 (2:Int),.int .u8 (3:Int)] 24) :: .a (.i .i64 (0:Int))::us 34 ([]))),[.row a0 35,.no,.no,.row #[.func (.func 107) #[] #[],.func (.func 108) #[] #[],.func (.func 109) #[] #[],.func (.func 110) #[] #[],.func (.func 111) #[] #[]] 183,.no,.sl .own 0 (#[]:Array Value) 171],[3]⟩:St)) N ([.a (.i .i64 (0:Int)),.a (.l 5)],[.sl .own 0 (#[]:Array Value) 171])) (fun e s=>(kBlock 0 (kSeq (veC prog Zax N (cAt (codeOf Tryd.f104) [1,1,1,1,1]) (pAt (mkPlan (codeOf Tryd.f104) [([21],[1000007,171])]).1 [1,1,1,1,1]) (SV×Eff×Bool)) (finK prog [] [.tmp 6]))) e (left (writes (cAt (codeOf Tryd.f104) [1,1,1,1,0,1,0,0])) [21,7] [5] (⟨.a (.g a0 35) :: .a (.i .i64 (a1)) :: .a (.i .i64 (a2)) :: .a (.w 0) :: .a (.u) :: .a (.u) :: .a (.v (.slice none 0 0)) :: .a (.l 5) :: .a (.w 3)::us 4 (.a (.g a0 35) :: .a (.i .i64 (a1)) :: .a (.b ((Zad a0 a1)))::us 3 (.a (.g #[.func (.func 107) #[] #[],.func (.func 108) #[] #[],.func (.func 109) #[] #[],.func (.func 110) #[] #[],.func (.func 111) #[] #[]] 183) :: .a (.g #[.int .u8 (1:Int),.int .u8 (4:Int),.int .u8 (0:Int),.int .u8 (2:Int),.int .u8 (3:Int)] 24) :: .a (.i .i64 (0:Int))::us 34 ([]))),[.row a0 35,.no,.no,.row #[.func (.func 107) #[] #[],.func (.func 108) #[] #[],.func (.func 109) #[] #[],.func (.func 110) #[] #[],.func (.func 111) #[] #[]] 183,.no,.sl .own 0 (#[]:Array Value) 171],[3]⟩:St) s))))
  else (none))) (by kernel_rfl) ?_
 simp only [Ztk N hN a0 a1 a2 hq0 hq1 ]
theorem sf_F0 (S:Array Value) (c t:Int) (q:Nat×Array Value):Zal S c t q=stF S t c 1 q:=rfl
theorem sf_F1 (S:Array Value) (c t:Int) (q:Nat×Array Value):Zau S c t q=stF S t c 4 q:=rfl
theorem sf_F2 (S:Array Value) (c t:Int) (q:Nat×Array Value):Zay S c t q=stF S t c 0 q:=rfl
theorem sf_F3 (S:Array Value) (c t:Int) (q:Nat×Array Value):Zbh S c t q=stF S t c 2 q:=rfl
theorem sf_F4 (S:Array Value) (c t:Int) (q:Nat×Array Value):Zca S c t q=stF S t c 3 q:=rfl
theorem sf_v {S:Array Value} (h0:1≤num S 0∧num S 0≤6∧1≤num S 1∧num S 1≤6) {k:Nat} (hk:k<36) (hi:inC (num S 0) (num S 1) k=true) (t:Int) :
  Zcd S (k:Int) t=((oneSt S t k 1++oneSt S t k 4++oneSt S t k 0++oneSt S t k 2++oneSt S t k 3).length,encSt (oneSt S t k 1++oneSt S t k 4++oneSt S t k 0++oneSt S t k 2++oneSt S t k 3)):=by
 unfold Zcd
 rw [sf_F0,sf_F1,sf_F2,sf_F3,sf_F4,show ((0,(#[]:Array Value)):Nat×Array Value)=(([]:List (Int×Int)).length,encSt []) from rfl,Zvw h0 hk hi t (by omega),Zvw h0 hk hi t (by omega),Zvw h0 hk hi t (by omega),Zvw h0 hk hi t (by omega),Zvw h0 hk hi t (by omega),List.nil_append]
theorem Zpq (a0:Array Value) (a1 a2:Int) (h_a0:WT prog 35 a0) (h_a1:i64.min≤a1∧a1≤i64.max) (h_a2:i64.min≤a2∧a2≤i64.max) (hg:((okS a0&&(Zas a1 a0&&(decide (0≤a2)&&decide (a2<2)))))=true):ansV prog Zax 1000 Tryd.f104 [([21],[1000007,171])] [.g a0 35,.i .i64 (a1),.i .i64 (a2)] []=some (.a .x,.newS none (stL a0 a2 a1.toNat).length (encSt (stL a0 a2 a1.toNat)) 171,true):=by
 rw [Bool.and_eq_true,Bool.and_eq_true] at hg
 obtain ⟨hok,his,ht⟩:=hg
 have h0:=Zly hok
 obtain ⟨c0,c1⟩:=Ydi his
 obtain ⟨k,rfl⟩:∃ k:Nat,a1=(k:Int):=⟨a1.toNat,by omega⟩
 have hk:k<36:=by omega
 rw [Zx5 h_a0 hk] at his
 have hc:(decide (0≤(k:Int))&&decide ((k:Int)<36))=true:=by rw [decide_eq_true c0,decide_eq_true (show (k:Int)<36 by omega)];rfl
 refine (Zqg 1000 (by decide) a0 (k:Int) a2 ht hc).trans ?_
 rw [sf_v h0 hk his,Int.toNat_natCast,decide_eq_true c0]
 unfold stL
 cases Zad a0 (k:Int)<;>rfl
def Zg9:Con:=fun args h=>match args,h with
 | [.g a0 35,.i .i64 a1,.i .i64 a2],[]=>some (.a .x,.newS none (stL a0 a2 a1.toNat).length (encSt (stL a0 a2 a1.toNat)) 171,(okS a0&&(Zas a1 a0&&(decide (0≤a2)&&decide (a2<2)))))
 | _,_=>none
theorem Zoj:EntX prog 104:=Zam (fn:=Tryd.f104) (by kernel_rfl) (by kernel_rfl) (by kernel_rfl)
theorem Zsl:ConOkX mn prog 104 Zg9:=(Zat (N:=1000) (by kernel_rfl) (mkΓ_consX (Zag Zoz) Zk6 (mkΓ_consX (Zag Zl2) Zjb (mkΓ_consX (Zag Zmo) Zju (mkΓ_consX (Zag Zow) Zk5 (mkΓ_consX (Zag Zw7) Zri (mkΓ_consX (Zag Zqz) Zm1 (mkΓ_consX (Zag Zrb) Znc (mkΓ_consX (Zag Zpd) Zma (mkΓ_consX (Zag Zru) Zmv (mkΓ_consX (Zag Zp6) Zl4 (mkΓ_consX (Zag Zr2) Zms mkΓ_nilX))))))))))) (fn:=Tryd.f104) (by kernel_rfl) (by kernel_rfl) [([21],[1000007,171])]).of (by
 intro ρ h w args vals r e hA hH hr
 unfold Zg9 at hr
 split at hr
 ·rename_i a0 a1 a2
  obtain ⟨rfl,hg⟩:=Prod.mk.inj (Option.some.inj hr)
  obtain ⟨rfl,hg2⟩:=Prod.mk.inj hg
  exact Zpq a0 a1 a2 (hA.wt 0 rfl) (hA.rng 1 rfl) (hA.rng 2 rfl) hg2
 ·cases hr)
theorem Yf8 {C:Array Value} {b m o:Nat} (ho:o<m):num (C.extract b (b+m)) o=num C (b+o):=by
 have e2:(C.extract b (b+m))[o]? = C[b+o]? := by
  simp only [Array.getElem?_extract]
  by_cases h:b+o<C.size
  ·rw [if_pos (by omega)]
  ·rw [if_neg (by omega),Array.getElem?_eq_none (by omega)]
 unfold num;rw [e2]
def rdSt (n:Nat) (C:Array Value):List (Int×Int):=(List.range n).map fun k=>(num C (k*2+0),num C (k*2+1))
def okSt (n:Nat) (C:Array Value):Bool:=(List.range n).all fun k=>decide (0≤num C (k*2+0))&&decide (num C (k*2+0)<36)
def laterOf (L:Array Value) (c:Int):Int:=num L (c.toNat*1)
def sumF (L:Array Value) (s:Int) (p:Int×Int):Int:=i64.wrap (s+i64.wrap (p.2*laterOf L p.1))
def sumL (l:List (Int×Int)) (L:Array Value):Int:=l.foldl (sumF L) 0
theorem okSt_at {n:Nat} {C:Array Value} (h:okSt n C=true) {k:Nat} (hk:k<n):(decide (0≤num C (k*2+0))&&decide (num C (k*2+0)<36))=true:=List.all_eq_true.1 h k (List.mem_range.2 hk)
theorem rd_fold {T:Type} (f:T→Int×Int→T) (t:T) (n:Nat) (C:Array Value):folds (fun s k=>f s (num C (k*2+0),num C (k*2+1))) t n=(rdSt n C).foldl f t:=by
 unfold folds rdSt;rw [List.foldl_map]
theorem Zwb:∀ (l:List (Int×Int)) (k:Nat) (p:Int×Int),l[k]? = some p→num (encSt l) (k*2+0)=p.1∧num (encSt l) (k*2+1)=p.2
 | [],k,p,h=>by simp at h
 | q::r,k,p,h=>by
  have e:encSt (q::r)=#[.int .i64 q.1,.int .i64 q.2]++encSt r:=by rw [show q::r=[q]++r from rfl,Ya3];rfl
  cases k with
  | zero=>
   simp only [List.getElem?_cons_zero,Option.some.injEq] at h
   subst h
   rw [e];unfold num
   constructor<;>rw [Array.getElem?_append_left (by simp)]<;>rfl
  | succ k=>
   have:=Zwb r k p (by simpa using h)
   rw [e]
   have s:∀ o,num (#[Value.int .i64 q.1,.int .i64 q.2]++encSt r) (o+2)=num (encSt r) o:=fun o=>by
    unfold num;rw [Array.getElem?_append_right (by simp)];rfl
   rw [show (k+1)*2+0=(k*2+0)+2 by omega,show (k+1)*2+1=(k*2+1)+2 by omega,s,s]
   exact this
theorem rd_enc (l:List (Int×Int)):rdSt l.length (encSt l)=l:=by
 refine List.ext_getElem? fun k=> ?_
 unfold rdSt
 rw [List.getElem?_map]
 by_cases hk:k<l.length
 ·rw [List.getElem?_range hk,List.getElem?_eq_getElem hk]
  obtain ⟨h1,h2⟩:=Zwb l k l[k] (List.getElem?_eq_getElem hk)
  simp only [Option.map_some,h1,h2]
 ·rw [List.getElem?_eq_none (by simpa using hk),List.getElem?_eq_none (by omega)];rfl
theorem ok_enc {l:List (Int×Int)} (h:∀ p ∈ l,0≤p.1∧p.1<36):okSt l.length (encSt l)=true:=by
 unfold okSt
 refine List.all_eq_true.2 fun k hk=> ?_
 have hk:=List.mem_range.1 hk
 obtain ⟨h1,h2⟩:=Zwb l k l[k] (List.getElem?_eq_getElem hk)
 have:=h l[k] (List.getElem_mem hk)
 rw [h1,decide_eq_true this.1,decide_eq_true this.2];rfl
def Zdn (a1:Array Value) (b_a0:Option (Option Addr)) (n_a0:Nat) (a0:Array Value):St:=(⟨.a (.l 0) :: .a (.g a1 98) :: .a (.u) :: .a (.w 1) :: .a (.i .i64 (0:Int)) :: .a (.i .i64 (0:Int)) :: .a (.u) :: .a (.u) :: .a (.l 0) :: .a (.i .i64 (n_a0:Int)) :: .a (.i .i64 (0:Int))::us 14 ([]),[.sl (.came b_a0) n_a0 a0 171,.row a1 98,.no],[]⟩:St)
def Zem:Int×Int→LS
 | (y0_5,y0_10)=>([.a (.i .i64 (y0_5)),.a (.i .i64 (y0_10))],[])
def Zhz:Int×Int→Exit×LS
 | t=>((.exit 0),Zem t)
def Zcc (P : Program) (a1 : Array Value) (b_a0 : Option (Option Addr)) (n_a0 : Nat) (a0 : Array Value) : Int × Int → Option (Stp (Int × Int) (Int × Int))
 | (y0_5, y0_10) => bif decide (y0_10 < (n_a0 : Int)) then (bif (decide (0 ≤ y0_10) && decide (y0_10 < (n_a0 : Int))) then (bif (decide (0 ≤ (num (a0.extract ((y0_10).toNat * 2) (((y0_10).toNat * 2) + 2)) 0)) && decide ((num (a0.extract ((y0_10).toNat * 2) (((y0_10).toNat * 2) + 2)) 0) < 36)) then (some (.more ((i64.wrap (y0_5 + (i64.wrap ((num (a0.extract ((y0_10).toNat * 2) (((y0_10).toNat * 2) + 2)) 1) * (num a1 ((num (a0.extract ((y0_10).toNat * 2) (((y0_10).toNat * 2) + 2)) 0).toNat * 1)))))), (i64.wrap (y0_10 + (1 : Int))))))
    else (none))
   else (none))
  else (some (.done (y0_5, y0_10)))
theorem Zta (N:Nat) (a1:Array Value) (b_a0:Option (Option Addr)) (n_a0:Nat) (a0:Array Value):∀ t:Int×Int,stepV prog (mkΓ []) N (cAt (codeOf Tryd.f74) [1,1,0,1,0,0]) (pAt (mkPlan (codeOf Tryd.f74) [([5,10],[])]).1 [1,1,0,1,0]) [5,10] [] (Zdn a1 b_a0 n_a0 a0) (Zem t)=mapS Zem Zhz (Zcc prog a1 b_a0 n_a0 a0 t):=by
 rintro ⟨y0_5,y0_10⟩
 refine Eq.trans (b:=(bif decide (y0_10<(n_a0:Int)) then (bif (decide (0≤y0_10)&&decide (y0_10<(n_a0:Int))) then (bif (decide (0≤(num (a0.extract ((y0_10).toNat*2) (((y0_10).toNat*2)+2)) 0))&&decide ((num (a0.extract ((y0_10).toNat*2) (((y0_10).toNat*2)+2)) 0)<36)) then (some (.more ([.a (.i .i64 (i64.wrap (y0_5+(i64.wrap ((num (a0.extract ((y0_10).toNat*2) (((y0_10).toNat*2)+2)) 1)*(num a1 ((num (a0.extract ((y0_10).toNat*2) (((y0_10).toNat*2)+2)) 0).toNat*1))))))),.a (.i .i64 (i64.wrap (y0_10+(1:Int))))],[])))
    else (none))
   else (none))
  else (some (.done ((.exit 0),([.a (.i .i64 (y0_5)),.a (.i .i64 (y0_10))],[])))))) (by kernel_rfl) ?_
 simp only [Zcc,Zbe,Zbc,Zbb,Zbf,Zem,Zhz]
def Zg0 (P:Program) (N:Nat) (a1:Array Value) (b_a0:Option (Option Addr)) (n_a0:Nat) (a0:Array Value) (z0_5:Int) (z0_10:Int):Option (SV×Eff×Bool):=some (.a (.i .i64 (z0_5)),.none,true)
theorem Zmk (N:Nat) (a1:Array Value) (b_a0:Option (Option Addr)) (n_a0:Nat) (a0:Array Value) (z0_5:Int) (z0_10:Int):(kBlock 0 (kSeq (veC prog (mkΓ []) N (cAt (codeOf Tryd.f74) [1,1,1]) (pAt (mkPlan (codeOf Tryd.f74) [([5,10],[])]).1 [1,1,1]) (SV×Eff×Bool)) (finK prog [.sl (.came b_a0) n_a0 a0 171] [.tmp 4]))) (.exit 0) (left (writes (cAt (codeOf Tryd.f74) [1,1,0,1,0,0])) [5,10] [] (Zdn a1 b_a0 n_a0 a0) ([.a (.i .i64 (z0_5)),.a (.i .i64 (z0_10))],[]))=Zg0 prog N a1 b_a0 n_a0 a0 z0_5 z0_10:=by
 refine Eq.trans (b:=(some (.a (.i .i64 (z0_5)),.none,true))) (by kernel_rfl) ?_
 rfl
theorem Zsu (N:Nat) (a1:Array Value) (b_a0:Option (Option Addr)) (n_a0:Nat) (a0:Array Value):bindX (iterO (stepV prog (mkΓ []) N (cAt (codeOf Tryd.f74) [1,1,0,1,0,0]) (pAt (mkPlan (codeOf Tryd.f74) [([5,10],[])]).1 [1,1,0,1,0]) [5,10] [] (Zdn a1 b_a0 n_a0 a0)) N ([.a (.i .i64 (0:Int)),.a (.i .i64 (0:Int))],[])) (fun e s=>(kBlock 0 (kSeq (veC prog (mkΓ []) N (cAt (codeOf Tryd.f74) [1,1,1]) (pAt (mkPlan (codeOf Tryd.f74) [([5,10],[])]).1 [1,1,1]) (SV×Eff×Bool)) (finK prog [.sl (.came b_a0) n_a0 a0 171] [.tmp 4]))) e (left (writes (cAt (codeOf Tryd.f74) [1,1,0,1,0,0])) [5,10] [] (Zdn a1 b_a0 n_a0 a0) s))=nodeX (iterO (Zcc prog a1 b_a0 n_a0 a0) N ((0:Int),(0:Int))) (fun x=>Zg0 prog N a1 b_a0 n_a0 a0 x.1 x.2):=by
 refine Zcl Zem Zhz _ _ (Zta N a1 b_a0 n_a0 a0) N ((0:Int),(0:Int)) _ _ ?_
 intro x;exact Zmk N a1 b_a0 n_a0 a0 x.1 x.2
theorem Zrr (N:Nat) (a1:Array Value) (b_a0:Option (Option Addr)) (n_a0:Nat) (a0:Array Value):ansV prog (mkΓ []) N Tryd.f74 [([5,10],[])] [.l 0,.g a1 98] [.sl (.came b_a0) n_a0 a0 171]=(nodeX (iterO (Zcc prog a1 b_a0 n_a0 a0) N ((0:Int),(0:Int))) (fun x=>Zg0 prog N a1 b_a0 n_a0 a0 x.1 x.2)):=by
 refine Eq.trans (b:=(bindX (iterO (stepV prog (mkΓ []) N (cAt (codeOf Tryd.f74) [1,1,0,1,0,0]) (pAt (mkPlan (codeOf Tryd.f74) [([5,10],[])]).1 [1,1,0,1,0]) [5,10] [] (Zdn a1 b_a0 n_a0 a0)) N ([.a (.i .i64 (0:Int)),.a (.i .i64 (0:Int))],[])) (fun e s=>(kBlock 0 (kSeq (veC prog (mkΓ []) N (cAt (codeOf Tryd.f74) [1,1,1]) (pAt (mkPlan (codeOf Tryd.f74) [([5,10],[])]).1 [1,1,1]) (SV×Eff×Bool)) (finK prog [.sl (.came b_a0) n_a0 a0 171] [.tmp 4]))) e (left (writes (cAt (codeOf Tryd.f74) [1,1,0,1,0,0])) [5,10] [] (Zdn a1 b_a0 n_a0 a0) s)))) (by kernel_rfl) ?_
 simp only [Zsu N a1 b_a0 n_a0 a0]
theorem Zpp (a1:Array Value) (b_a0:Option (Option Addr)) (n_a0:Nat) (a0:Array Value) (h_a1:WT prog 98 a1) (h_a0:a0.size=n_a0*(lay prog 171).length∧(∀ k,k<n_a0→WT prog 171 (a0.extract (k*(lay prog 171).length) (k*(lay prog 171).length+(lay prog 171).length)))∧n_a0≤9223372036854775807) (hg:((okSt n_a0 a0))=true):ansV prog (mkΓ []) 18446744073709551616 Tryd.f74 [([5,10],[])] [.l 0,.g a1 98] [.sl (.came b_a0) n_a0 a0 171]=some (.a (.i .i64 (sumL (rdSt n_a0 a0) a1)),.none,true):=by
 have hn:=h_a0.2.2
 refine (Zrr 18446744073709551616 a1 b_a0 n_a0 a0).trans ?_
 have h:=Zg6 (g:=Zcc prog a1 b_a0 n_a0 a0) (fun s k=>(s,(k:Int))) (fun s k=>sumF a1 s (num a0 (k*2+0),num a0 (k*2+1))) (m:=n_a0) (t:=(0:Int)) (x:=(sumL (rdSt n_a0 a0) a1,(n_a0:Int))) (N:=18446744073709551616) (fun k s hk _=>by
  have h1:decide ((k:Int)<(n_a0:Int))=true:=decide_eq_true (by omega)
  have h0:decide (0≤(k:Int))=true:=decide_eq_true (by omega)
  have h3:i64.wrap ((k:Int)+1)=((k+1:Nat):Int):=by rw [IntWalk.i64_in _ (by omega)];omega
  have hx0:num (a0.extract (k*2) (k*2+2)) 0=num a0 (k*2+0):=Yf8 (by omega)
  have hx1:num (a0.extract (k*2) (k*2+2)) 1=num a0 (k*2+1):=Yf8 (by omega)
  have hok:=okSt_at hg hk
  simp only [Zcc,h1,h0,h3,Int.toNat_natCast,Bool.and_self,cond_true,hx0,hx1,hok]
  rfl) (by
  have h1:decide ((n_a0:Int)<(n_a0:Int))=false:=decide_eq_false (by omega)
  simp only [Zcc,h1,cond_false]
  rw [rd_fold (sumF a1)]
  rfl) (by omega)
 have h':iterO (Zcc prog a1 b_a0 n_a0 a0) 18446744073709551616 ((0:Int),(0:Int))=some (sumL (rdSt n_a0 a0) a1,(n_a0:Int)):=h
 rw [h']
 rfl
def Zhe:Con:=fun args h=>match args,h with
 | [.l 0,.g a1 98],[.sl (.came b_a0) n_a0 a0 171]=>some (.a (.i .i64 (sumL (rdSt n_a0 a0) a1)),.none,(okSt n_a0 a0))
 | _,_=>none
theorem Zn4:EntX prog 74:=Zam (fn:=Tryd.f74) (by kernel_rfl) (by kernel_rfl) (by kernel_rfl)
theorem Zte:ConOkX mn prog 74 Zhe:=(Zat (N:=18446744073709551616) (by kernel_rfl) mkΓ_nilX (fn:=Tryd.f74) (by kernel_rfl) (by kernel_rfl) [([5,10],[])]).of (by
 intro ρ h w args vals r e hA hH hr
 unfold Zhe at hr
 split at hr
 ·rename_i a1 b_a0 n_a0 a0
  obtain ⟨rfl,hg⟩:=Prod.mk.inj (Option.some.inj hr)
  obtain ⟨rfl,hg2⟩:=Prod.mk.inj hg
  exact Zpp a1 b_a0 n_a0 a0 (hA.wt 1 rfl) (hH.slw 0 rfl) hg2
 ·cases hr)
theorem Zi4 {S:Array Value} (h0:1≤num S 0∧num S 0≤6∧1≤num S 1∧num S 1≤6) {k:Nat} (hk:k<36) (hi:inC (num S 0) (num S 1) k=true) (t:Int) (w:Nat) (hw:w<5):∀ p ∈ oneSt S t k w,0≤p.1∧p.1<36:=by
 intro p hp
 unfold oneSt at hp
 cases hc:decide (chW S t (k:Int) w > 0)&&decide (gw S k w ≠ -1) with
 | false=>rw [hc] at hp;simp at hp
 | true=>
  rw [hc] at hp
  simp only [cond_true,List.mem_singleton] at hp
  subst hp
  rw [Bool.and_eq_true] at hc
  exact Zuy h0 hk hi w hw (of_decide_eq_true hc.2)
theorem Ygc {S:Array Value} (h0:1≤num S 0∧num S 0≤6∧1≤num S 1∧num S 1≤6) {k:Nat} (hk:k<36) (hi:inC (num S 0) (num S 1) k=true) (t:Int):∀ p ∈ stL S t k,0≤p.1∧p.1<36:=by
 intro p hp
 unfold stL at hp
 cases hl:Zad S (k:Int) with
 | true=>
  rw [hl] at hp
  simp only [cond_true,List.mem_singleton] at hp
  subst hp
  exact ⟨by show 0≤(k:Int);omega,by show (k:Int)<36;omega⟩
 | false=>
  rw [hl] at hp
  simp only [cond_false,List.mem_append] at hp
  rcases hp with (((hp | hp) | hp) | hp) | hp
  ·exact Zi4 h0 hk hi t 1 (by omega) p hp
  ·exact Zi4 h0 hk hi t 4 (by omega) p hp
  ·exact Zi4 h0 hk hi t 0 (by omega) p hp
  ·exact Zi4 h0 hk hi t 2 (by omega) p hp
  ·exact Zi4 h0 hk hi t 3 (by omega) p hp
def rowF (P:Program) (V:List (Int×Int)→Array Value→Int) (S L:Array Value) (t:Int):Array Value:=folds (fun r k=>if inC (num S 0) (num S 1) k then r.setIfInBounds (k*1) (.int .i64 (V (stL S t k) L)) else r) (zc P 98) 36
def Za8:Cons:=(mkΓx [(74,con Zhe),(104,con Zg9)] [(85,Zgk)] [(99,Zda)])
def Zbv (a0 a1:Array Value) (a2:Int):St:=(⟨.a (.g a0 35) :: .a (.g a1 98) :: .a (.i .i64 (a2)) :: .a (.c 74 []) :: .a (.w 0) :: .a (.w 1) :: .a (.w 2) :: .a (.w 3) :: .a (.w 4) :: .a (.w 5) :: .a (.u) :: .a (.g a0 35) :: .a (.c 99 [9,11])::us 11 ([]),[.row a0 35,.row a1 98,.row #[.int .i64 (a2)] 2,.row #[.func (.func 74) #[] #[]] 167,.row (zc prog 98) 98,.row (zc prog 98) 98,.no,.no,.no,.row #[.int .i64 (num a0 1)] 2,.no,.row #[.int .i64 (num a0 0)] 2,.no,.no],[]⟩:St)
def Zey:Array Value→BS
 | r0_5=>([.row r0_5 98]:BS)
def Zgz:Empty→Exit×BS:=fun x=>nomatch x
def Zc2 (P:Program) (a0 a1:Array Value) (a2:Int) (x0:Int):Array Value→Option (Stp (Array Value) Empty)
 | r0_5=>bif (okS a0&&(Zas x0 a0&&(decide (0≤a2)&&decide (a2<2)))) then (bif (okSt ((stL a0 a2 x0.toNat).length) (encSt (stL a0 a2 x0.toNat))) then (bif (decide (0≤x0)&&decide (x0<36)) then (some (.more (r0_5.setIfInBounds ((x0).toNat*1) (.int .i64 (sumL (rdSt ((stL a0 a2 x0.toNat).length) (encSt (stL a0 a2 x0.toNat))) a1)))))
    else (none))
   else (none))
  else (none)
theorem Zpg (N:Nat) (a0 a1:Array Value) (a2:Int) (x0:Int):∀ t:Array Value,stepI prog Za8 N (cAt (codeOf Tryd.f92) [1,1,0,1,0,0]) (pAt (mkPlan (codeOf Tryd.f92) [([],[5])]).1 [1,1,0,1,0]) 14 [5] [13] [(10,13)] (Zbv a0 a1 a2) [.i .i64 (x0)] (Zey t)=mapS Zey Zgz (Zc2 prog a0 a1 a2 x0 t):=by
 rintro r0_5
 refine Eq.trans (b:=(bif (okS a0&&(Zas x0 a0&&(decide (0≤a2)&&decide (a2<2)))) then (bif (okSt ((stL a0 a2 x0.toNat).length) (encSt (stL a0 a2 x0.toNat))) then (bif (decide (0≤x0)&&decide (x0<36)) then (some (.more ([.row (r0_5.setIfInBounds ((x0).toNat*1) (.int .i64 (sumL (rdSt ((stL a0 a2 x0.toNat).length) (encSt (stL a0 a2 x0.toNat))) a1))) 98]:BS)))
    else (none))
   else (none))
  else (none))) (by kernel_rfl) ?_
 simp only [Zc2,Zbe,Zbc,Zbb,Zbf,Zey,Zgz]
def Zfo (P:Program) (N:Nat) (a0 a1:Array Value) (a2:Int) (q0_5:Array Value):Option (SV×Eff×Bool):=some (.a (.g q0_5 98),.none,true)
theorem Zku (N:Nat) (a0 a1:Array Value) (a2:Int) (q0_5:Array Value):(kBlock 0 (kSeq (veC prog Za8 N (cAt (codeOf Tryd.f92) [1,1,1]) (pAt (mkPlan (codeOf Tryd.f92) [([],[5])]).1 [1,1,1]) (SV×Eff×Bool)) (finK prog [] [.cell 8 98]))) .normal (leftI [5] (Zbv a0 a1 a2) ([.row q0_5 98]:BS))=Zfo prog N a0 a1 a2 q0_5:=by
 refine Eq.trans (b:=(some (.a (.g q0_5 98),.none,true))) (by kernel_rfl) ?_
 rfl
theorem Zp5 (N:Nat) (a0 a1:Array Value) (a2:Int):bindI (foldI (fun (x0:Int) (hb:BS)=>stepI prog Za8 N (cAt (codeOf Tryd.f92) [1,1,0,1,0,0]) (pAt (mkPlan (codeOf Tryd.f92) [([],[5])]).1 [1,1,0,1,0]) 14 [5] [13] [(10,13)] (Zbv a0 a1 a2) [.i .i64 (x0)] hb) (cellsL (num a0 0) (num a0 1) 36) ([.row (zc prog 98) 98]:BS)) (fun hb=>(kBlock 0 (kSeq (veC prog Za8 N (cAt (codeOf Tryd.f92) [1,1,1]) (pAt (mkPlan (codeOf Tryd.f92) [([],[5])]).1 [1,1,1]) (SV×Eff×Bool)) (finK prog [] [.cell 8 98]))) .normal (leftI [5] (Zbv a0 a1 a2) hb)) (fun e hb=>(kBlock 0 (kSeq (veC prog Za8 N (cAt (codeOf Tryd.f92) [1,1,1]) (pAt (mkPlan (codeOf Tryd.f92) [([],[5])]).1 [1,1,1]) (SV×Eff×Bool)) (finK prog [] [.cell 8 98]))) e (leftI [5] (Zbv a0 a1 a2) hb))=nodeI (foldI (Zc2 prog a0 a1 a2) (cellsL (num a0 0) (num a0 1) 36) (zc prog 98)) (fun x=>Zfo prog N a0 a1 a2 x) (fun x:Empty=>nomatch x):=by
 refine Zv1 Zey Zgz _ _ (fun y t=>Zpg N a0 a1 a2 y t) _ (zc prog 98) _ _ _ _ ?_ ?_
 ·intro x;exact Zku N a0 a1 a2 x
 ·intro x;exact nomatch x
theorem Zon (N:Nat) (a0 a1:Array Value) (a2:Int):ansV prog Za8 N Tryd.f92 [([],[5])] [.g a0 35,.g a1 98,.i .i64 (a2),.c 74 []] []=(bif (decide (0≤(num a0 0))&&decide ((num a0 0)≤6)&&(decide (0≤(num a0 1))&&decide ((num a0 1)≤6))) then (nodeI (foldI (Zc2 prog a0 a1 a2) (cellsL (num a0 0) (num a0 1) 36) (zc prog 98)) (fun x=>Zfo prog N a0 a1 a2 x) (fun x:Empty=>nomatch x))
  else (none)):=by
 refine Eq.trans (b:=(bif (decide (0≤(num a0 0))&&decide ((num a0 0)≤6)&&(decide (0≤(num a0 1))&&decide ((num a0 1)≤6))) then (bindI (foldI (fun (x0:Int) (hb:BS)=>stepI prog Za8 N (cAt (codeOf Tryd.f92) [1,1,0,1,0,0]) (pAt (mkPlan (codeOf Tryd.f92) [([],[5])]).1 [1,1,0,1,0]) 14 [5] [13] [(10,13)] (Zbv a0 a1 a2) [.i .i64 (x0)] hb) (cellsL (num a0 0) (num a0 1) 36) ([.row (zc prog 98) 98]:BS)) (fun hb=>(kBlock 0 (kSeq (veC prog Za8 N (cAt (codeOf Tryd.f92) [1,1,1]) (pAt (mkPlan (codeOf Tryd.f92) [([],[5])]).1 [1,1,1]) (SV×Eff×Bool)) (finK prog [] [.cell 8 98]))) .normal (leftI [5] (Zbv a0 a1 a2) hb)) (fun e hb=>(kBlock 0 (kSeq (veC prog Za8 N (cAt (codeOf Tryd.f92) [1,1,1]) (pAt (mkPlan (codeOf Tryd.f92) [([],[5])]).1 [1,1,1]) (SV×Eff×Bool)) (finK prog [] [.cell 8 98]))) e (leftI [5] (Zbv a0 a1 a2) hb)))
  else (none))) (by kernel_rfl) ?_
 simp only [Zp5 N a0 a1 a2]
theorem Zmy (a0 a1:Array Value) (a2:Int) (h_a0:WT prog 35 a0) (h_a1:WT prog 98 a1) (h_a2:i64.min≤a2∧a2≤i64.max) (hg:((okS a0&&(decide (0≤a2)&&decide (a2<2))))=true):ansV prog Za8 1000 Tryd.f92 [([],[5])] [.g a0 35,.g a1 98,.i .i64 (a2),.c 74 []] []=some (.a (.g (rowF prog sumL a0 a1 a2) 98),.none,true):=by
 rw [Bool.and_eq_true] at hg
 obtain ⟨hok,ht⟩:=hg
 have h0:=Zly hok
 refine (Zon 1000 a0 a1 a2).trans ?_
 have h:=Zxw (X:=Empty) (g:=Zc2 prog a0 a1 a2) (fun r k=>r.setIfInBounds (k*1) (.int .i64 (sumL (stL a0 a2 k) a1))) (wd:=num a0 0) (hi:=num a0 1) (fun s k hk hi=>by
  have hs:okSt (stL a0 a2 k).length (encSt (stL a0 a2 k))=true:=ok_enc (Ygc h0 hk hi a2)
  have hc:(decide (0≤(k:Int))&&decide ((k:Int)<36))=true:=by rw [decide_eq_true (show 0≤(k:Int) by omega),decide_eq_true (show (k:Int)<36 by omega)];rfl
  have hi':Zas (k:Int) a0=true:=(Zx5 h_a0 hk).trans hi
  simp only [Zc2,Int.toNat_natCast,hok,hi',ht,hs,hc,Bool.and_self,cond_true,rd_enc]
  first | done | rfl) (zc prog 98)
 have hgd:=Zzk hok
 simp only [hgd,cond_true,h]
 rfl
def Zf7:Con:=fun args h=>match args,h with
 | [.g a0 35,.g a1 98,.i .i64 a2,.c 74 []],[]=>some (.a (.g (rowF prog sumL a0 a1 a2) 98),.none,(okS a0&&(decide (0≤a2)&&decide (a2<2))))
 | _,_=>none
theorem Zme:EntX prog 92:=Zam (fn:=Tryd.f92) (by kernel_rfl) (by kernel_rfl) (by kernel_rfl)
theorem Zp2:ConOkX mn prog 92 Zf7:=(Zat (N:=1000) (by kernel_rfl) (mkΓx_cX (Zag Zte) Zn4 (mkΓx_cX (Zag Zsl) Zoj (mkΓx_nX Zk4 Zi5 (mkΓx_iX Zi7 Zia mkΓx_nilX)))) (fn:=Tryd.f92) (by kernel_rfl) (by kernel_rfl) [([],[5])]).of (by
 intro ρ h w args vals r e hA hH hr
 unfold Zf7 at hr
 split at hr
 ·rename_i a0 a1 a2
  obtain ⟨rfl,hg⟩:=Prod.mk.inj (Option.some.inj hr)
  obtain ⟨rfl,hg2⟩:=Prod.mk.inj hg
  exact Zmy a0 a1 a2 (hA.wt 0 rfl) (hA.wt 1 rfl) (hA.rng 2 rfl) hg2
 ·cases hr)
theorem Yfw (P:Program) (T:TypeId) {r:Array Value} (h:r.size=(zc P T).size):spl (repC (zc P T) 1) 0 r.toList=r:=by
 have e:repC (zc P T) 1=zc P T:=by unfold repC repL repL;simp
 rw [e]
 refine Zfl fun i=> ?_
 rw [Ze6 _ _ _ (by simp;omega)]
 by_cases hi:i<r.size
 ·rw [if_pos (by simp;omega)];simp
 ·rw [if_neg (by simp;omega),Array.getElem?_eq_none (by omega),Array.getElem?_eq_none (by omega)]
theorem Yak:(zc prog 98).size=36:=by kernel_rfl
theorem Ybk (V:List (Int×Int)→Array Value→Int) (S L:Array Value) (t:Int):(rowF prog V S L t).size=36:=by
 unfold rowF
 exact Zgg (fun _ (r:Array Value)=>r.size=36) Yak (fun k s _ h=>by split<;>simp [h]) 36 (Nat.le_refl _)
def rowR (P:Program) (V:List (Int×Int)→Array Value→Int) (S L:Array Value) (b h:Int):Nat→Array Value
 | 0=>L
 | j+1=>rowF P V S (rowR P V S L b h j) ((i64.wrap (b+i64.wrap (h - ((j+1:Nat):Int)))).tmod 2)
def catR (P:Program) (V:List (Int×Int)→Array Value→Int) (S L:Array Value) (b h:Int):Nat→Array Value
 | 0=>#[]
 | j+1=>catR P V S L b h j++rowR P V S L b h j
theorem Yas (V:List (Int×Int)→Array Value→Int) (S:Array Value) {L:Array Value} (hL:L.size=36) (b h:Int):∀ j,(rowR prog V S L b h j).size=36
 | 0=>hL
 | j+1=>Ybk V S _ _
theorem Zwu (V:List (Int×Int)→Array Value→Int) (S:Array Value) {L:Array Value} (hL:L.size=36) (b h:Int):∀ j,(catR prog V S L b h j).size=j*36
 | 0=>rfl
 | j+1=>by rw [catR,Array.size_append,Zwu V S hL b h j,Yas V S hL b h j];omega
theorem ext_last {A R:Array Value} {m q:Nat} (hA:A.size=m) (hR:R.size=q):(A++R).extract m (m+q)=R:=by
 refine Zfl fun i=> ?_
 rw [Array.getElem?_extract]
 by_cases hi:i<q
 ·rw [if_pos (by simp;omega),Array.getElem?_append_right (by omega),show m+i - A.size=i by omega]
 ·rw [if_neg (by simp;omega),Array.getElem?_eq_none (by omega)]
theorem Yg5 {A R:Array Value} {m q:Nat} (h:m+q≤A.size):(A++R).extract m (m+q)=A.extract m (m+q):=by
 refine Zfl fun i=> ?_
 rw [Array.getElem?_extract,Array.getElem?_extract]
 by_cases hi:i<q
 ·rw [if_pos (by simp;omega),if_pos (by omega),Array.getElem?_append_left (by omega)]
 ·rw [if_neg (by simp;omega),if_neg (by omega)]
theorem Yb3 (V:List (Int×Int)→Array Value→Int) (S:Array Value) {L:Array Value} (hL:L.size=36) (b h:Int) {j:Nat}:∀ n,j<n→(catR prog V S L b h n).extract (j*36) (j*36+36)=rowR prog V S L b h j
 | 0,hj=>by omega
 | n+1,hj=>by
  rw [catR]
  by_cases e:j=n
  ·subst e;exact ext_last (Zwu V S hL b h j) (Yas V S hL b h j)
  ·rw [Yg5 (by rw [Zwu V S hL b h n];omega)]
   exact Yb3 V S hL b h n (by omega)
theorem tide_in {b h:Int} (hb:0≤b∧b<2) (hh:0≤h∧h≤14):(decide (0≤(i64.wrap (b+i64.wrap h)).tmod 2)&&decide ((i64.wrap (b+i64.wrap h)).tmod 2<2))=true:=by
 rw [w64 (n:=h) (by omega),w64 (n:=b+h) (by omega),Int.tmod_eq_emod_of_nonneg (by omega),decide_eq_true (by omega),decide_eq_true (by omega)];rfl
theorem Ygb:bytesOf prog 98=288:=by kernel_rfl
def Zbu:Cons:=(mkΓ [(92,con Zf7),(93,con Zi3)])
def Zcs (a0 a1:Array Value) (a2 a3:Int):St:=(⟨.a (.g a0 35) :: .a (.g a1 98) :: .a (.i .i64 (a2)) :: .a (.i .i64 (a3)) :: .a (.c 74 []) :: .a (.w 0) :: .a (.w 1)::us 3 (.a (.v (.slice none 0 0)) :: .a (.l 6) :: .a (.i .i64 (1:Int)) :: .a (.g a1 98) :: .a (.l 4)::us 22 ([])),[.row a0 35,.row a1 98,.no,.no,.sp,.no,.sl .own 1 (spl (repC (zc prog 98) 1) 0 a1.toList) 98],[4]⟩:St)
def Zdh:Int×Nat×Array Value→LS
 | (y0_12,m0_11,y0_11)=>([.a (.i .i64 (y0_12)),.a (.l 6)],[.sl .own m0_11 y0_11 98])
def Zf9:Int×Nat×Array Value→Exit×LS
 | t=>((.exit 0),Zdh t)
def Zbl (P : Program) (a0 a1 : Array Value) (a2 a3 : Int) : Int × Nat × Array Value → Option (Stp (Int × Nat × Array Value) (Int × Nat × Array Value))
 | (y0_12, m0_11, y0_11) => bif decide (y0_12 ≤ a3) then (bif (decide (0 ≤ (i64.wrap (y0_12 - (1 : Int)))) && decide ((i64.wrap (y0_12 - (1 : Int))) < (m0_11 : Int))) then (bif (okS a0 && (decide (0 ≤ (((i64.wrap (a2 + (i64.wrap (a3 - y0_12))))).tmod (2 : Int))) && decide ((((i64.wrap (a2 + (i64.wrap (a3 - y0_12))))).tmod (2 : Int)) < 2))) then (bif (Nat.ble ((m0_11 + 1) * bytesOf prog 98) 140737488355328) then (some (.more ((i64.wrap (y0_12 + (1 : Int))), (m0_11 + 1), (y0_11 ++ (spl (repC (zc prog 98) 1) 0 (rowF prog sumL a0 (y0_11.extract ((i64.wrap (y0_12 - (1 : Int))).toNat * 36) (((i64.wrap (y0_12 - (1 : Int))).toNat * 36) + 36)) (((i64.wrap (a2 + (i64.wrap (a3 - y0_12))))).tmod (2 : Int))).toList)))))
     else (none))
    else (none))
   else (none))
  else (some (.done (y0_12, m0_11, y0_11)))
theorem Zoq (N:Nat) (a0 a1:Array Value) (a2 a3:Int):∀ t:Int×Nat×Array Value,stepVG prog Zbu N (cAt (codeOf Tryd.f73) [1,1,0,1,0,0]) (pAt (mkPlan (codeOf Tryd.f73) [([12],[1000011,98])]).1 [1,1,0,1,0]) [12] [] 11 98 6 (Zcs a0 a1 a2 a3) (Zdh t)=mapS Zdh Zf9 (Zbl prog a0 a1 a2 a3 t):=by
 rintro ⟨y0_12,m0_11,y0_11⟩
 refine Eq.trans (b:=(bif decide (y0_12≤a3) then (bif (decide (0≤(i64.wrap (y0_12 - (1:Int))))&&decide ((i64.wrap (y0_12 - (1:Int)))<(m0_11:Int))) then (bif (okS a0&&(decide (0≤(((i64.wrap (a2+(i64.wrap (a3 - y0_12))))).tmod (2:Int)))&&decide ((((i64.wrap (a2+(i64.wrap (a3 - y0_12))))).tmod (2:Int))<2))) then (bif (Nat.ble ((m0_11+1)*bytesOf prog 98) 140737488355328) then (some (.more ([.a (.i .i64 (i64.wrap (y0_12+(1:Int)))),.a (.l 6)],[.sl .own (m0_11+1) (y0_11++(spl (repC (zc prog 98) 1) 0 (rowF prog sumL a0 (y0_11.extract ((i64.wrap (y0_12 - (1:Int))).toNat*36) (((i64.wrap (y0_12 - (1:Int))).toNat*36)+36)) (((i64.wrap (a2+(i64.wrap (a3 - y0_12))))).tmod (2:Int))).toList)) 98])))
     else (none))
    else (none))
   else (none))
  else (some (.done ((.exit 0),([.a (.i .i64 (y0_12)),.a (.l 6)],[.sl .own m0_11 y0_11 98])))))) (by kernel_rfl) ?_
 simp only [Zbl,Zbe,Zbc,Zbb,Zbf,Zdh,Zf9]
def Zfg (P:Program) (N:Nat) (a0 a1:Array Value) (a2 a3:Int) (z0_12:Int) (p0_11:Nat) (z0_11:Array Value):Option (SV×Eff×Bool):=some (.a .x,.newS none p0_11 z0_11 98,true)
theorem Zj3 (N:Nat) (a0 a1:Array Value) (a2 a3:Int) (z0_12:Int) (p0_11:Nat) (z0_11:Array Value):(kBlock 0 (kSeq (veC prog Zbu N (cAt (codeOf Tryd.f73) [1,1,1]) (pAt (mkPlan (codeOf Tryd.f73) [([12],[1000011,98])]).1 [1,1,1]) (SV×Eff×Bool)) (finK prog [] [.tmp 10]))) (.exit 0) (left (writes (cAt (codeOf Tryd.f73) [1,1,0,1,0,0])) [12,11] [6] (Zcs a0 a1 a2 a3) ([.a (.i .i64 (z0_12)),.a (.l 6)],[.sl .own p0_11 z0_11 98]))=Zfg prog N a0 a1 a2 a3 z0_12 p0_11 z0_11:=by
 refine Eq.trans (b:=(some (.a .x,.newS none p0_11 z0_11 98,true))) (by kernel_rfl) ?_
 rfl
theorem Zor (N:Nat) (a0 a1:Array Value) (a2 a3:Int):bindX (iterO (stepVG prog Zbu N (cAt (codeOf Tryd.f73) [1,1,0,1,0,0]) (pAt (mkPlan (codeOf Tryd.f73) [([12],[1000011,98])]).1 [1,1,0,1,0]) [12] [] 11 98 6 (Zcs a0 a1 a2 a3)) N ([.a (.i .i64 (1:Int)),.a (.l 6)],[.sl .own 1 (spl (repC (zc prog 98) 1) 0 a1.toList) 98])) (fun e s=>(kBlock 0 (kSeq (veC prog Zbu N (cAt (codeOf Tryd.f73) [1,1,1]) (pAt (mkPlan (codeOf Tryd.f73) [([12],[1000011,98])]).1 [1,1,1]) (SV×Eff×Bool)) (finK prog [] [.tmp 10]))) e (left (writes (cAt (codeOf Tryd.f73) [1,1,0,1,0,0])) [12,11] [6] (Zcs a0 a1 a2 a3) s))=nodeX (iterO (Zbl prog a0 a1 a2 a3) N ((1:Int),1,(spl (repC (zc prog 98) 1) 0 a1.toList))) (fun x=>Zfg prog N a0 a1 a2 a3 x.1 x.2.1 x.2.2):=by
 refine Zcl Zdh Zf9 _ _ (Zoq N a0 a1 a2 a3) N ((1:Int),1,(spl (repC (zc prog 98) 1) 0 a1.toList)) _ _ ?_
 intro x;exact Zj3 N a0 a1 a2 a3 x.1 x.2.1 x.2.2
theorem Zm8 (N:Nat) (a0 a1:Array Value) (a2 a3:Int):ansV prog Zbu N Tryd.f73 [([12],[1000011,98])] [.g a0 35,.g a1 98,.i .i64 (a2),.i .i64 (a3),.c 74 []] []=(nodeX (iterO (Zbl prog a0 a1 a2 a3) N ((1:Int),1,(spl (repC (zc prog 98) 1) 0 a1.toList))) (fun x=>Zfg prog N a0 a1 a2 a3 x.1 x.2.1 x.2.2)):=by
 refine Eq.trans (b:=(bindX (iterO (stepVG prog Zbu N (cAt (codeOf Tryd.f73) [1,1,0,1,0,0]) (pAt (mkPlan (codeOf Tryd.f73) [([12],[1000011,98])]).1 [1,1,0,1,0]) [12] [] 11 98 6 (Zcs a0 a1 a2 a3)) N ([.a (.i .i64 (1:Int)),.a (.l 6)],[.sl .own 1 (spl (repC (zc prog 98) 1) 0 a1.toList) 98])) (fun e s=>(kBlock 0 (kSeq (veC prog Zbu N (cAt (codeOf Tryd.f73) [1,1,1]) (pAt (mkPlan (codeOf Tryd.f73) [([12],[1000011,98])]).1 [1,1,1]) (SV×Eff×Bool)) (finK prog [] [.tmp 10]))) e (left (writes (cAt (codeOf Tryd.f73) [1,1,0,1,0,0])) [12,11] [6] (Zcs a0 a1 a2 a3) s)))) (by kernel_rfl) ?_
 simp only [Zor N a0 a1 a2 a3]
theorem Zmc (a0 a1:Array Value) (a2 a3:Int) (h_a0:WT prog 35 a0) (h_a1:WT prog 98 a1) (h_a2:i64.min≤a2∧a2≤i64.max) (h_a3:i64.min≤a3∧a3≤i64.max) (hg:(((okS a0&&(decide (0≤a2)&&decide (a2<2)))&&(decide (0≤a3)&&decide (a3≤14))))=true):ansV prog Zbu 1000 Tryd.f73 [([12],[1000011,98])] [.g a0 35,.g a1 98,.i .i64 (a2),.i .i64 (a3),.c 74 []] []=some (.a .x,.newS none (a3.toNat+1) (catR prog sumL a0 a1 a2 a3 (a3.toNat+1)) 98,true):=by
 rw [Bool.and_eq_true,Bool.and_eq_true (decide (0≤a3))] at hg
 obtain ⟨hg,hh0,hh1⟩:=hg
 have hh:0≤a3∧a3≤14:=⟨of_decide_eq_true hh0,of_decide_eq_true hh1⟩
 have hok:=hg
 rw [Bool.and_eq_true,Bool.and_eq_true] at hok
 have hb:0≤a2∧a2<2:=⟨of_decide_eq_true hok.2.1,of_decide_eq_true hok.2.2⟩
 have hL:a1.size=36:=by rw [h_a1.layLen];kernel_rfl
 obtain ⟨m,rfl⟩:∃ m:Nat,a3=(m:Int):=⟨a3.toNat,by omega⟩
 refine (Zm8 1000 a0 a1 a2 (m:Int)).trans ?_
 rw [Yfw prog 98 (by rw [hL,Yak]),Int.toNat_natCast]
 have h:=Zhi (g:=Zbl prog a0 a1 a2 (m:Int)) (fun j=>(((1+j:Nat):Int),1+j,catR prog sumL a0 a1 a2 (m:Int) (1+j))) (m:=m) (x:=(((1+m:Nat):Int),1+m,catR prog sumL a0 a1 a2 (m:Int) (1+m))) (N:=1000) (fun j hj=>by
  have h1:decide (((1+j:Nat):Int)≤(m:Int))=true:=decide_eq_true (by omega)
  have h2:i64.wrap (((1+j:Nat):Int) - 1)=(j:Int):=by rw [w64 (by omega)];omega
  have h3:i64.wrap (((1+j:Nat):Int)+1)=((1+(j+1):Nat):Int):=by rw [w64 (by omega)];omega
  have h4:(decide (0≤(j:Int))&&decide ((j:Int)<((1+j:Nat):Int)))=true:=by rw [decide_eq_true (by omega),decide_eq_true (by omega)];rfl
  have h5:=tide_in (b:=a2) (h:=(m:Int) - ((1+j:Nat):Int)) hb (by omega)
  have h6:Nat.ble ((1+j+1)*bytesOf prog 98) 140737488355328=true:=Nat.ble_eq_true_of_le (by rw [Ygb];omega)
  have h7:(catR prog sumL a0 a1 a2 (m:Int) (1+j)).extract (j*36) (j*36+36)=rowR prog sumL a0 a1 a2 (m:Int) j:=Yb3 sumL a0 hL a2 _ (1+j) (by omega)
  simp only [Zbl,h1,h2,h3,h4,h5,h6,h7,hok.1,Bool.and_self,Int.toNat_natCast,cond_true]
  rw [Yfw prog 98 (by rw [Ybk,Yak])]
  rw [show 1+(j+1)=(1+j)+1 by omega,catR,show 1+j=j+1 by omega,rowR]) (by
  have h1:decide (((1+m:Nat):Int)≤(m:Int))=false:=decide_eq_false (by omega)
  simp only [Zbl,h1,cond_false]) (by omega)
 have hc:catR prog sumL a0 a1 a2 (m:Int) 1=a1:=by rw [catR,catR,rowR];simp
 have h':iterO (Zbl prog a0 a1 a2 (m:Int)) 1000 ((1:Int),1,a1)=some (((1+m:Nat):Int),1+m,catR prog sumL a0 a1 a2 (m:Int) (1+m)):=by
  have h2:=h
  simp only [Nat.add_zero,hc] at h2
  exact h2
 rw [h',show 1+m=m+1 by omega]
 rfl
def Zfy:Con:=fun args h=>match args,h with
 | [.g a0 35,.g a1 98,.i .i64 a2,.i .i64 a3,.c 74 []],[]=>some (.a .x,.newS none (a3.toNat+1) (catR prog sumL a0 a1 a2 a3 (a3.toNat+1)) 98,((okS a0&&(decide (0≤a2)&&decide (a2<2)))&&(decide (0≤a3)&&decide (a3≤14))))
 | _,_=>none
theorem Zlm:EntX prog 73:=Zam (fn:=Tryd.f73) (by kernel_rfl) (by kernel_rfl) (by kernel_rfl)
theorem Zol:ConOkX mn prog 73 Zfy:=(Zat (N:=1000) (by kernel_rfl) (mkΓ_consX (Zag Zp2) Zme (mkΓ_consX (Zag Zxf) Zsy mkΓ_nilX)) (fn:=Tryd.f73) (by kernel_rfl) (by kernel_rfl) [([12],[1000011,98])]).of (by
 intro ρ h w args vals r e hA hH hr
 unfold Zfy at hr
 split at hr
 ·rename_i a0 a1 a2 a3
  obtain ⟨rfl,hg⟩:=Prod.mk.inj (Option.some.inj hr)
  obtain ⟨rfl,hg2⟩:=Prod.mk.inj hg
  exact Zmc a0 a1 a2 a3 (hA.wt 0 rfl) (hA.wt 1 rfl) (hA.rng 2 rfl) (hA.rng 3 rfl) hg2
 ·cases hr)
end
end Go.Proofs.YtffagbiedigmcaaDoor
