/- Steps, and rows of numbers that go back, in company. -/
import Derived.Test.YtgllknjdblkhnaaGreatDoorProg
import Derived.Test.YtgllknjdblkhnaaGreatDoorCmB
import Derived.Test.YtgllknjdblkhnaaGreatDoorTzX
set_option linter.unusedVariables false
set_option linter.unusedSimpArgs false
open _root_.Array renaming getElem?_extract->jF,getElem?_eq_none->jG
open _root_.Nat renaming ble->jA,le_refl->jB,ble_eq_true_of_le->jC,le_of_ble_eq_true->jD,mul_le_mul->jE
namespace Go.Proofs.YtgllknjdblkhnaaGreatDoor
open Tryz (f69 f70 f79 f83 f86)
open Go.ChangeShapes Go.WideShapes Go.ChangeAt Go.RowKit Ve Vc
open Tryz renaming prog -> PZ
open IntKind (i64)
set_option maxRecDepth 100000
noncomputable section
variable {mn:Md}
theorem Zu8(N:Nat):ansV PZ (mkΓ []) N f86 [] [] []=(some (.a (.g #[.int .u8 1,.int .u8 4,.int .u8 0,.int .u8 2,.int .u8 3] 24),.none,true)):=by kernel_rfl
theorem Zuf  (hg:(true)=true):ansV PZ (mkΓ []) 1000 f86 [] [] []=some (.a (.g #[.int .u8 1,.int .u8 4,.int .u8 0,.int .u8 2,.int .u8 3] 24),.none,true):=by refine(Zu8 1000 ).trans ?_;rfl
def Zju:Con:=λargs h=>match args,h with|[],[]=>some (.a (.g #[.int .u8 1,.int .u8 4,.int .u8 0,.int .u8 2,.int .u8 3] 24),.none,true)|_,_=>none
theorem Zs8:EntX PZ 86:=Zak (fn:=f86)
theorem Zyf:Uac mn PZ 86 Zju:=(ansY (N:=1000) mKn f86 []).of (by
 intro ρ h w args vals r e hA hH hr;unfold Zju at hr;split at hr
 ·obtain⟨rfl,rfl,hg2⟩:=BQi hr;exact Zuf hg2
 ·cases hr)
def pl(c:Int):Nat->Array Value
 |0=>#[.int .i64 (c.tmod 6),.int .i64 (i64.wrap (c.tdiv 6))]
 |1=>#[.int .i64 (c.tmod 6),.int .i64 (i64.wrap (i64.wrap (c.tdiv 6) - 1))]
 |2=>#[.int .i64 (i64.wrap (c.tmod 6+1)),.int .i64 (i64.wrap (c.tdiv 6))]
 |3=>#[.int .i64 (c.tmod 6),.int .i64 (i64.wrap (i64.wrap (c.tdiv 6)+1))]
 |_=>#[.int .i64 (i64.wrap (c.tmod 6 - 1)),.int .i64 (i64.wrap (c.tdiv 6))]
theorem Ug8{S:Array Value}(h0:1<=num S 0/\num S 0<=6/\1<=num S 1/\num S 1<=6)(x y:Int):Zas S #[.int .i64 x,.int .i64 y]=decide (0<=x/\x<num S 0/\0<=y/\y<num S 1):=by
 obtain⟨a1,a2,a3,a4⟩:=h0
 show (bif decide (x>=0) then (bif decide (x<i64.wrap (num S 0)) then (bif decide (y>=0) then decide (y<i64.wrap (num S 1)) else false) else false) else false)=_
 rw[w64 (n:=num S 0) (by omega),w64 (n:=num S 1) (by omega)];have:∀a b c d:Prop,[Decidable a]->[Decidable b]->[Decidable c]->[Decidable d]->(bif decide a then (bif decide b then (bif decide c then decide d else false) else false) else false)=decide (a/\b/\c/\d):=by
  intro a b c d _ _ _ _
  by_cases a<;>by_cases b<;>by_cases c<;>by_cases d<;>simp[*]
 exact this _ _ _ _
theorem Ynn{S:Array Value}(h0:1<=num S 0/\num S 0<=6/\1<=num S 1/\num S 1<=6){k:Nat}(hk:k<36)(hi:inC (num S 0) (num S 1) k=true)(w:Nat)(hw:w<5):
  Zas S (pl (k:Int) w)=decide (gw S k w ≠ -1)/\(gw S k w ≠ -1->i64.wrap (num (pl (k:Int) w) 0+i64.wrap (6*num (pl (k:Int) w) 1))=gw S k w):=by
 obtain⟨hx,hy⟩:=Ymq hi;obtain⟨ex,ey⟩:=xy hk;have hxl:k % 6<6:=Nat.mod_lt _ (by omega);have hyl:k / 6<6:=by omega
 have hk6:k=6*(k / 6)+k % 6:=by omega
 have h0':=h0;obtain⟨a1,a2,a3,a4⟩:=h0;generalize hX:k % 6=X at *;generalize hY:k / 6=Y at *;have eY:i64.wrap ((Y:Nat):Int)=Y:=w64 (by omega)
 match w,hw with
 | 0,_=>
  have e:pl (k:Int) 0=#[.int .i64 (X:Int),.int .i64 (Y:Int)]:=by unfold pl;rw[ex,ey,eY];rfl
  rw[e,Ug8 h0'];refine⟨decide_eq_decide.2 ?_,λ_=> ?_⟩
  ·show _ ↔ (k:Int) ≠ -1;omega
  ·show i64.wrap ((X:Int)+i64.wrap (6*(Y:Int)))=(k:Int)
   rw[w64 (n:=6*(Y:Int)) (by omega),w64 (by omega)];omega
 | 1,_=>
  have e:pl (k:Int) 1=#[.int .i64 (X:Int),.int .i64 ((Y:Int) - 1)]:=by unfold pl;rw[ex,ey,eY,w64 (n:=(Y:Int) - 1) (by omega)];rfl
  rw[e,Ug8 h0'];have hg:gw S k 1=if 6<=k then (k:Int) - 6 else -1:=by unfold gw;by_cases c:6<=k<;>simp[c]
  rw[hg];refine⟨decide_eq_decide.2 ?_,λhn=> ?_⟩
  ·split<;>omega
  ·show i64.wrap ((X:Int)+i64.wrap (6*((Y:Int) - 1)))=_
   rw[w64 (n:=6*((Y:Int) - 1)) (by omega),w64 (by omega)];split at hn<;>split<;>omega
 | 2,_=>
  have e:pl (k:Int) 2=#[.int .i64 ((X:Int)+1),.int .i64 (Y:Int)]:=by unfold pl;rw[ex,ey,eY,w64 (n:=(X:Int)+1) (by omega)];rfl
  rw[e,Ug8 h0'];have hg:gw S k 2=if (X:Int)+1<num S 0 then (k:Int)+1 else -1:=by unfold gw;rw[hX];by_cases c:(X:Int)+1<num S 0<;>simp[c]
  rw[hg];refine⟨decide_eq_decide.2 ?_,λhn=> ?_⟩
  ·split<;>omega
  ·show i64.wrap ((X:Int)+1+i64.wrap (6*(Y:Int)))=_
   rw[w64 (n:=6*(Y:Int)) (by omega),w64 (by omega)];split at hn<;>split<;>omega
 | 3,_=>
  have e:pl (k:Int) 3=#[.int .i64 (X:Int),.int .i64 ((Y:Int)+1)]:=by unfold pl;rw[ex,ey,eY,w64 (n:=(Y:Int)+1) (by omega)];rfl
  rw[e,Ug8 h0'];have hg:gw S k 3=if (Y:Int)+1<num S 1 then (k:Int)+6 else -1:=by unfold gw;rw[hY];by_cases c:(Y:Int)+1<num S 1<;>simp[c]
  rw[hg];refine⟨decide_eq_decide.2 ?_,λhn=> ?_⟩
  ·split<;>omega
  ·show i64.wrap ((X:Int)+i64.wrap (6*((Y:Int)+1)))=_
   rw[w64 (n:=6*((Y:Int)+1)) (by omega),w64 (by omega)];split at hn<;>split<;>omega
 | 4,_=>
  have e:pl (k:Int) 4=#[.int .i64 ((X:Int) - 1),.int .i64 (Y:Int)]:=by unfold pl;rw[ex,ey,eY,w64 (n:=(X:Int) - 1) (by omega)];rfl
  rw[e,Ug8 h0'];have hg:gw S k 4=if 1<=X then (k:Int) - 1 else -1:=by unfold gw;rw[hX];by_cases c:1<=X<;>simp[c]
  rw[hg];refine⟨decide_eq_decide.2 ?_,λhn=> ?_⟩
  ·split<;>omega
  ·show i64.wrap ((X:Int) - 1+i64.wrap (6*(Y:Int)))=_
   rw[w64 (n:=6*(Y:Int)) (by omega),w64 (by omega)];split at hn<;>split<;>omega
def Ube(S:Array Value)(t:Int)(k w:Nat):List (Int×Int):=bif decide (chW S t (k:Int) w > 0)&&decide (gw S k w ≠ -1) then [(gw S k w,chW S t (k:Int) w)] else []
def stL(S:Array Value)(t:Int)(k:Nat):List (Int×Int):=bif Zbn S (k:Int) then [((k:Int),12)] else Ube S t k 1++Ube S t k 4++Ube S t k 0++Ube S t k 2++Ube S t k 3
def Ubp(l:List (Int×Int)):Array Value:=⟨l.flatMap λp=>[.int .i64 p.1,.int .i64 p.2]⟩
theorem Yi1(l m:List (Int×Int)):Ubp (l++m)=Ubp l++Ubp m:=by unfold Ubp;simp
def stF(S:Array Value)(t c:Int)(w:Nat)(q:Nat×Array Value):Nat×Array Value:=
 bif decide (chW S t c w > 0) then (bif Zas S (pl c w) then (q.1+1,q.2++#[.int .i64 (i64.wrap (num (pl c w) 0+i64.wrap (6*num (pl c w) 1))),.int .i64 (chW S t c w)]) else (q.1,q.2)) else (q.1,q.2)
theorem Yc4{S:Array Value}(h0:1<=num S 0/\num S 0<=6/\1<=num S 1/\num S 1<=6){k:Nat}(hk:k<36)(hi:inC (num S 0) (num S 1) k=true)(t:Int){w:Nat}(hw:w<5)(l:List (Int×Int)):
  stF S t (k:Int) w (l.length,Ubp l)=((l++Ube S t k w).length,Ubp (l++Ube S t k w)):=by
 obtain⟨h1,h2⟩:=Ynn h0 hk hi w hw;unfold stF Ube;rw[h1];cases decide (chW S t (k:Int) w > 0) with|false=>simp| true=>cases hd:decide (gw S k w ≠ -1) with|false=>simp|true=>rw[h2 (of_decide_eq_true hd)];simp only[Q1,Bool.and_self,List.length_append,List.length_cons,List.length_nil,Yi1];rfl
def Zbi:Cons:=(mkΓ [(75,con Zkx),(76,con Ziv),(77,con Zjr),(78,con Zif),(85,con Zmg),(86,con Zju),(87,con Zj7),(88,con Zi2),(89,con Zj8),(90,con Zi7),(91,con Zjx)])
def Zj3(t:Nat×Array Value):LS:=([.a (.i .i64 0),.a (.l 5)],[.sl .own t.1 t.2 156])
def Znm(t:Nat×Array Value):LS:=([.a (.i .i64 1),.a (.l 5)],[.sl .own t.1 t.2 156])
def Znr(t:Nat×Array Value):LS:=([.a (.i .i64 2),.a (.l 5)],[.sl .own t.1 t.2 156])
def Znw(t:Nat×Array Value):LS:=([.a (.i .i64 3),.a (.l 5)],[.sl .own t.1 t.2 156])
def Znt(t:Nat×Array Value):LS:=([.a (.i .i64 4),.a (.l 5)],[.sl .own t.1 t.2 156])
def Zg2(t:Nat×Array Value):LS:=([.a (.i .i64 5),.a (.l 5)],[.sl .own t.1 t.2 156])
def Zat(a0:Array Value)(a1 a2:Int)(t:Nat×Array Value):Nat×Array Value:=bif decide ((i64.wrap (num a0 (((3+((a2).toNat*180))+((a1).toNat*5))+1))) > (0:Int)) then (bif (Zas a0 (#[.int .i64 (num (#[.int .i64 ((a1).tmod (6:Int)),.int .i64 (i64.wrap ((a1).tdiv (6:Int)))]:Array Value) 0),.int .i64 (i64.wrap ((num (#[.int .i64 ((a1).tmod (6:Int)),.int .i64 (i64.wrap ((a1).tdiv (6:Int)))]:Array Value) 1) - (1:Int)))]:Array Value)) then (((t.1+1),(t.2++(#[.int .i64 (i64.wrap ((num (#[.int .i64 (num (#[.int .i64 ((a1).tmod (6:Int)),.int .i64 (i64.wrap ((a1).tdiv (6:Int)))]:Array Value) 0),.int .i64 (i64.wrap ((num (#[.int .i64 ((a1).tmod (6:Int)),.int .i64 (i64.wrap ((a1).tdiv (6:Int)))]:Array Value) 1) - (1:Int)))]:Array Value) 0)+(i64.wrap ((6:Int)*(num (#[.int .i64 (num (#[.int .i64 ((a1).tmod (6:Int)),.int .i64 (i64.wrap ((a1).tdiv (6:Int)))]:Array Value) 0),.int .i64 (i64.wrap ((num (#[.int .i64 ((a1).tmod (6:Int)),.int .i64 (i64.wrap ((a1).tdiv (6:Int)))]:Array Value) 1) - (1:Int)))]:Array Value) 1))))),.int .i64 (i64.wrap (num a0 (((3+((a2).toNat*180))+((a1).toNat*5))+1)))]:Array Value)))) else ((t.1,t.2))) else ((t.1,t.2))
noncomputable abbrev cKCmC83:=codeOf f83
def Ubn:=(Uaa cKCmC83 [([21],[1000007,156])]).1
def Ubk(a0:Array Value)(a1 a2:Int):=(⟨.a (.g a0 38)::.a (.i .i64 a1)::.a (.i .i64 a2)::.a (.w 0)::.a (.u)::.a (.u)::.a (.v (.slice none 0 0))::.a (.l 5)::.a (.w 3)::us 4 (.a (.g a0 38)::.a (.i .i64 a1)::.a (.b ((Zbn a0 a1)))::us 3 (.a (.g #[.func (.func 87) #[] #[],.func (.func 88) #[] #[],.func (.func 89) #[] #[],.func (.func 90) #[] #[],.func (.func 91) #[] #[]] 164)::.a (.g #[.int .u8 1,.int .u8 4,.int .u8 0,.int .u8 2,.int .u8 3] 24)::.a (.i .i64 0)::us 34 ([]))),[.row a0 38,.no,.no,.row #[.func (.func 87) #[] #[],.func (.func 88) #[] #[],.func (.func 89) #[] #[],.func (.func 90) #[] #[],.func (.func 91) #[] #[]] 164,.no,.sl .own 0 (#[]:Array Value) 156],[3]⟩:St)
theorem Zv2(N:Nat)(a0:Array Value)(a1 a2:Int)(hq0:(decide (0<=a2)&&decide (a2<2))=true)(hq1:(decide (0<=a1)&&decide (a1<36))=true)(t:Nat×Array Value)(hl:t.1<=1000000):Uby PZ Zbi N (cAt cKCmC83 [1,1,1,1,0,1,0,0]) (pAt Ubn [1,1,1,1,0,1,0]) [21] [] 7 156 5 (Ubk a0 a1 a2) (Zj3 t)=some (.more (Znm (Zat a0 a1 a2 t))):=by
 refine Eq.trans (b:=(bif (decide (0<=a2)&&decide (a2<2)) then (bif (decide (0<=a1)&&decide (a1<36)) then (bif decide ((i64.wrap (num a0 (((3+((a2).toNat*180))+((a1).toNat*5))+1))) > (0:Int)) then (bif (Zas a0 (#[.int .i64 (num (#[.int .i64 ((a1).tmod (6:Int)),.int .i64 (i64.wrap ((a1).tdiv (6:Int)))]:Array Value) 0),.int .i64 (i64.wrap ((num (#[.int .i64 ((a1).tmod (6:Int)),.int .i64 (i64.wrap ((a1).tdiv (6:Int)))]:Array Value) 1) - (1:Int)))]:Array Value)) then (bif (jA ((t.1+1)*bytesOf PZ 156) 140737488355328) then (some (.more ([.a (.i .i64 1),.a (.l 5)],[.sl .own (t.1+1) (t.2++(#[.int .i64 (i64.wrap ((num (#[.int .i64 (num (#[.int .i64 ((a1).tmod (6:Int)),.int .i64 (i64.wrap ((a1).tdiv (6:Int)))]:Array Value) 0),.int .i64 (i64.wrap ((num (#[.int .i64 ((a1).tmod (6:Int)),.int .i64 (i64.wrap ((a1).tdiv (6:Int)))]:Array Value) 1) - (1:Int)))]:Array Value) 0)+(i64.wrap ((6:Int)*(num (#[.int .i64 (num (#[.int .i64 ((a1).tmod (6:Int)),.int .i64 (i64.wrap ((a1).tdiv (6:Int)))]:Array Value) 0),.int .i64 (i64.wrap ((num (#[.int .i64 ((a1).tmod (6:Int)),.int .i64 (i64.wrap ((a1).tdiv (6:Int)))]:Array Value) 1) - (1:Int)))]:Array Value) 1))))),.int .i64 (i64.wrap (num a0 (((3+((a2).toNat*180))+((a1).toNat*5))+1)))]:Array Value)) 156]))) else (none)) else (some (.more ([.a (.i .i64 1),.a (.l 5)],[.sl .own t.1 t.2 156])))) else (some (.more ([.a (.i .i64 1),.a (.l 5)],[.sl .own t.1 t.2 156])))) else (none)) else (none))) (by kernel_rfl) ?_
 have hb:bytesOf PZ 156<=1000000:=jD (by kernel_rfl);have g2:(jA ((t.1+1)*bytesOf PZ 156) 140737488355328)=true:=jC (Nat.le_trans (jE (show _<=1000001 by omega) hb) (by decide));simp only[Zat,Zsk,g2,hq0,hq1,Q1];rfl
theorem Zwh(a0:Array Value)(a1 a2:Int)(t:Nat×Array Value):(Zat a0 a1 a2 t).1<=t.1+1:=by
 unfold Zat
 repeat (first|exact jB _|exact Nat.le_succ _|refine Zn1 ?_ ?_)
def Za3(a0:Array Value)(a1 a2:Int)(t:Nat×Array Value):Nat×Array Value:=bif decide ((i64.wrap (num a0 (((3+((a2).toNat*180))+((a1).toNat*5))+4))) > (0:Int)) then (bif (Zas a0 (#[.int .i64 (i64.wrap ((num (#[.int .i64 ((a1).tmod (6:Int)),.int .i64 (i64.wrap ((a1).tdiv (6:Int)))]:Array Value) 0) - (1:Int))),.int .i64 (num (#[.int .i64 ((a1).tmod (6:Int)),.int .i64 (i64.wrap ((a1).tdiv (6:Int)))]:Array Value) 1)]:Array Value)) then (((t.1+1),(t.2++(#[.int .i64 (i64.wrap ((num (#[.int .i64 (i64.wrap ((num (#[.int .i64 ((a1).tmod (6:Int)),.int .i64 (i64.wrap ((a1).tdiv (6:Int)))]:Array Value) 0) - (1:Int))),.int .i64 (num (#[.int .i64 ((a1).tmod (6:Int)),.int .i64 (i64.wrap ((a1).tdiv (6:Int)))]:Array Value) 1)]:Array Value) 0)+(i64.wrap ((6:Int)*(num (#[.int .i64 (i64.wrap ((num (#[.int .i64 ((a1).tmod (6:Int)),.int .i64 (i64.wrap ((a1).tdiv (6:Int)))]:Array Value) 0) - (1:Int))),.int .i64 (num (#[.int .i64 ((a1).tmod (6:Int)),.int .i64 (i64.wrap ((a1).tdiv (6:Int)))]:Array Value) 1)]:Array Value) 1))))),.int .i64 (i64.wrap (num a0 (((3+((a2).toNat*180))+((a1).toNat*5))+4)))]:Array Value)))) else ((t.1,t.2))) else ((t.1,t.2))
theorem Zvz(N:Nat)(a0:Array Value)(a1 a2:Int)(hq0:(decide (0<=a2)&&decide (a2<2))=true)(hq1:(decide (0<=a1)&&decide (a1<36))=true)(t:Nat×Array Value)(hl:t.1<=1000000):Uby PZ Zbi N (cAt cKCmC83 [1,1,1,1,0,1,0,0]) (pAt Ubn [1,1,1,1,0,1,0]) [21] [] 7 156 5 (Ubk a0 a1 a2) (Znm t)=some (.more (Znr (Za3 a0 a1 a2 t))):=by
 refine Eq.trans (b:=(bif (decide (0<=a2)&&decide (a2<2)) then (bif (decide (0<=a1)&&decide (a1<36)) then (bif decide ((i64.wrap (num a0 (((3+((a2).toNat*180))+((a1).toNat*5))+4))) > (0:Int)) then (bif (Zas a0 (#[.int .i64 (i64.wrap ((num (#[.int .i64 ((a1).tmod (6:Int)),.int .i64 (i64.wrap ((a1).tdiv (6:Int)))]:Array Value) 0) - (1:Int))),.int .i64 (num (#[.int .i64 ((a1).tmod (6:Int)),.int .i64 (i64.wrap ((a1).tdiv (6:Int)))]:Array Value) 1)]:Array Value)) then (bif (jA ((t.1+1)*bytesOf PZ 156) 140737488355328) then (some (.more ([.a (.i .i64 2),.a (.l 5)],[.sl .own (t.1+1) (t.2++(#[.int .i64 (i64.wrap ((num (#[.int .i64 (i64.wrap ((num (#[.int .i64 ((a1).tmod (6:Int)),.int .i64 (i64.wrap ((a1).tdiv (6:Int)))]:Array Value) 0) - (1:Int))),.int .i64 (num (#[.int .i64 ((a1).tmod (6:Int)),.int .i64 (i64.wrap ((a1).tdiv (6:Int)))]:Array Value) 1)]:Array Value) 0)+(i64.wrap ((6:Int)*(num (#[.int .i64 (i64.wrap ((num (#[.int .i64 ((a1).tmod (6:Int)),.int .i64 (i64.wrap ((a1).tdiv (6:Int)))]:Array Value) 0) - (1:Int))),.int .i64 (num (#[.int .i64 ((a1).tmod (6:Int)),.int .i64 (i64.wrap ((a1).tdiv (6:Int)))]:Array Value) 1)]:Array Value) 1))))),.int .i64 (i64.wrap (num a0 (((3+((a2).toNat*180))+((a1).toNat*5))+4)))]:Array Value)) 156]))) else (none)) else (some (.more ([.a (.i .i64 2),.a (.l 5)],[.sl .own t.1 t.2 156])))) else (some (.more ([.a (.i .i64 2),.a (.l 5)],[.sl .own t.1 t.2 156])))) else (none)) else (none))) (by kernel_rfl) ?_
 have hb:bytesOf PZ 156<=1000000:=jD (by kernel_rfl);have g2:(jA ((t.1+1)*bytesOf PZ 156) 140737488355328)=true:=jC (Nat.le_trans (jE (show _<=1000001 by omega) hb) (by decide));simp only[Za3,Zsk,g2,hq0,hq1,Q1];rfl
theorem Zv7(a0:Array Value)(a1 a2:Int)(t:Nat×Array Value):(Za3 a0 a1 a2 t).1<=t.1+1:=by
 unfold Za3
 repeat (first|exact jB _|exact Nat.le_succ _|refine Zn1 ?_ ?_)
def Zbe(a0:Array Value)(a1 a2:Int)(t:Nat×Array Value):Nat×Array Value:=bif decide ((i64.wrap (num a0 (((3+((a2).toNat*180))+((a1).toNat*5))+0))) > (0:Int)) then (bif (Zas a0 (#[.int .i64 ((a1).tmod (6:Int)),.int .i64 (i64.wrap ((a1).tdiv (6:Int)))]:Array Value)) then (((t.1+1),(t.2++(#[.int .i64 (i64.wrap ((num (#[.int .i64 ((a1).tmod (6:Int)),.int .i64 (i64.wrap ((a1).tdiv (6:Int)))]:Array Value) 0)+(i64.wrap ((6:Int)*(num (#[.int .i64 ((a1).tmod (6:Int)),.int .i64 (i64.wrap ((a1).tdiv (6:Int)))]:Array Value) 1))))),.int .i64 (i64.wrap (num a0 (((3+((a2).toNat*180))+((a1).toNat*5))+0)))]:Array Value)))) else ((t.1,t.2))) else ((t.1,t.2))
theorem Zvr(N:Nat)(a0:Array Value)(a1 a2:Int)(hq0:(decide (0<=a2)&&decide (a2<2))=true)(hq1:(decide (0<=a1)&&decide (a1<36))=true)(t:Nat×Array Value)(hl:t.1<=1000000):Uby PZ Zbi N (cAt cKCmC83 [1,1,1,1,0,1,0,0]) (pAt Ubn [1,1,1,1,0,1,0]) [21] [] 7 156 5 (Ubk a0 a1 a2) (Znr t)=some (.more (Znw (Zbe a0 a1 a2 t))):=by refine Eq.trans (b:=(bif (decide (0<=a2)&&decide (a2<2)) then (bif (decide (0<=a1)&&decide (a1<36)) then (bif decide ((i64.wrap (num a0 (((3+((a2).toNat*180))+((a1).toNat*5))+0))) > (0:Int)) then (bif (Zas a0 (#[.int .i64 ((a1).tmod (6:Int)),.int .i64 (i64.wrap ((a1).tdiv (6:Int)))]:Array Value)) then (bif (jA ((t.1+1)*bytesOf PZ 156) 140737488355328) then (some (.more ([.a (.i .i64 3),.a (.l 5)],[.sl .own (t.1+1) (t.2++(#[.int .i64 (i64.wrap ((num (#[.int .i64 ((a1).tmod (6:Int)),.int .i64 (i64.wrap ((a1).tdiv (6:Int)))]:Array Value) 0)+(i64.wrap ((6:Int)*(num (#[.int .i64 ((a1).tmod (6:Int)),.int .i64 (i64.wrap ((a1).tdiv (6:Int)))]:Array Value) 1))))),.int .i64 (i64.wrap (num a0 (((3+((a2).toNat*180))+((a1).toNat*5))+0)))]:Array Value)) 156]))) else (none)) else (some (.more ([.a (.i .i64 3),.a (.l 5)],[.sl .own t.1 t.2 156])))) else (some (.more ([.a (.i .i64 3),.a (.l 5)],[.sl .own t.1 t.2 156])))) else (none)) else (none))) (by kernel_rfl) ?_;have hb:bytesOf PZ 156<=1000000:=jD (by kernel_rfl);have g2:(jA ((t.1+1)*bytesOf PZ 156) 140737488355328)=true:=jC (Nat.le_trans (jE (show _<=1000001 by omega) hb) (by decide));simp only[Zbe,Zsk,g2,hq0,hq1,Q1];rfl
theorem Zwc(a0:Array Value)(a1 a2:Int)(t:Nat×Array Value):(Zbe a0 a1 a2 t).1<=t.1+1:=by
 unfold Zbe
 repeat (first|exact jB _|exact Nat.le_succ _|refine Zn1 ?_ ?_)
def Zbv(a0:Array Value)(a1 a2:Int)(t:Nat×Array Value):Nat×Array Value:=bif decide ((i64.wrap (num a0 (((3+((a2).toNat*180))+((a1).toNat*5))+2))) > (0:Int)) then (bif (Zas a0 (#[.int .i64 (i64.wrap ((num (#[.int .i64 ((a1).tmod (6:Int)),.int .i64 (i64.wrap ((a1).tdiv (6:Int)))]:Array Value) 0)+(1:Int))),.int .i64 (num (#[.int .i64 ((a1).tmod (6:Int)),.int .i64 (i64.wrap ((a1).tdiv (6:Int)))]:Array Value) 1)]:Array Value)) then (((t.1+1),(t.2++(#[.int .i64 (i64.wrap ((num (#[.int .i64 (i64.wrap ((num (#[.int .i64 ((a1).tmod (6:Int)),.int .i64 (i64.wrap ((a1).tdiv (6:Int)))]:Array Value) 0)+(1:Int))),.int .i64 (num (#[.int .i64 ((a1).tmod (6:Int)),.int .i64 (i64.wrap ((a1).tdiv (6:Int)))]:Array Value) 1)]:Array Value) 0)+(i64.wrap ((6:Int)*(num (#[.int .i64 (i64.wrap ((num (#[.int .i64 ((a1).tmod (6:Int)),.int .i64 (i64.wrap ((a1).tdiv (6:Int)))]:Array Value) 0)+(1:Int))),.int .i64 (num (#[.int .i64 ((a1).tmod (6:Int)),.int .i64 (i64.wrap ((a1).tdiv (6:Int)))]:Array Value) 1)]:Array Value) 1))))),.int .i64 (i64.wrap (num a0 (((3+((a2).toNat*180))+((a1).toNat*5))+2)))]:Array Value)))) else ((t.1,t.2))) else ((t.1,t.2))
theorem Zv1(N:Nat)(a0:Array Value)(a1 a2:Int)(hq0:(decide (0<=a2)&&decide (a2<2))=true)(hq1:(decide (0<=a1)&&decide (a1<36))=true)(t:Nat×Array Value)(hl:t.1<=1000000):Uby PZ Zbi N (cAt cKCmC83 [1,1,1,1,0,1,0,0]) (pAt Ubn [1,1,1,1,0,1,0]) [21] [] 7 156 5 (Ubk a0 a1 a2) (Znw t)=some (.more (Znt (Zbv a0 a1 a2 t))):=by
 refine Eq.trans (b:=(bif (decide (0<=a2)&&decide (a2<2)) then (bif (decide (0<=a1)&&decide (a1<36)) then (bif decide ((i64.wrap (num a0 (((3+((a2).toNat*180))+((a1).toNat*5))+2))) > (0:Int)) then (bif (Zas a0 (#[.int .i64 (i64.wrap ((num (#[.int .i64 ((a1).tmod (6:Int)),.int .i64 (i64.wrap ((a1).tdiv (6:Int)))]:Array Value) 0)+(1:Int))),.int .i64 (num (#[.int .i64 ((a1).tmod (6:Int)),.int .i64 (i64.wrap ((a1).tdiv (6:Int)))]:Array Value) 1)]:Array Value)) then (bif (jA ((t.1+1)*bytesOf PZ 156) 140737488355328) then (some (.more ([.a (.i .i64 4),.a (.l 5)],[.sl .own (t.1+1) (t.2++(#[.int .i64 (i64.wrap ((num (#[.int .i64 (i64.wrap ((num (#[.int .i64 ((a1).tmod (6:Int)),.int .i64 (i64.wrap ((a1).tdiv (6:Int)))]:Array Value) 0)+(1:Int))),.int .i64 (num (#[.int .i64 ((a1).tmod (6:Int)),.int .i64 (i64.wrap ((a1).tdiv (6:Int)))]:Array Value) 1)]:Array Value) 0)+(i64.wrap ((6:Int)*(num (#[.int .i64 (i64.wrap ((num (#[.int .i64 ((a1).tmod (6:Int)),.int .i64 (i64.wrap ((a1).tdiv (6:Int)))]:Array Value) 0)+(1:Int))),.int .i64 (num (#[.int .i64 ((a1).tmod (6:Int)),.int .i64 (i64.wrap ((a1).tdiv (6:Int)))]:Array Value) 1)]:Array Value) 1))))),.int .i64 (i64.wrap (num a0 (((3+((a2).toNat*180))+((a1).toNat*5))+2)))]:Array Value)) 156]))) else (none)) else (some (.more ([.a (.i .i64 4),.a (.l 5)],[.sl .own t.1 t.2 156])))) else (some (.more ([.a (.i .i64 4),.a (.l 5)],[.sl .own t.1 t.2 156])))) else (none)) else (none))) (by kernel_rfl) ?_
 have hb:bytesOf PZ 156<=1000000:=jD (by kernel_rfl);have g2:(jA ((t.1+1)*bytesOf PZ 156) 140737488355328)=true:=jC (Nat.le_trans (jE (show _<=1000001 by omega) hb) (by decide));simp only[Zbv,Zsk,g2,hq0,hq1,Q1];rfl
theorem Zv9(a0:Array Value)(a1 a2:Int)(t:Nat×Array Value):(Zbv a0 a1 a2 t).1<=t.1+1:=by
 unfold Zbv
 repeat (first|exact jB _|exact Nat.le_succ _|refine Zn1 ?_ ?_)
def Zc7(a0:Array Value)(a1 a2:Int)(t:Nat×Array Value):Nat×Array Value:=bif decide ((i64.wrap (num a0 (((3+((a2).toNat*180))+((a1).toNat*5))+3))) > (0:Int)) then (bif (Zas a0 (#[.int .i64 (num (#[.int .i64 ((a1).tmod (6:Int)),.int .i64 (i64.wrap ((a1).tdiv (6:Int)))]:Array Value) 0),.int .i64 (i64.wrap ((num (#[.int .i64 ((a1).tmod (6:Int)),.int .i64 (i64.wrap ((a1).tdiv (6:Int)))]:Array Value) 1)+(1:Int)))]:Array Value)) then (((t.1+1),(t.2++(#[.int .i64 (i64.wrap ((num (#[.int .i64 (num (#[.int .i64 ((a1).tmod (6:Int)),.int .i64 (i64.wrap ((a1).tdiv (6:Int)))]:Array Value) 0),.int .i64 (i64.wrap ((num (#[.int .i64 ((a1).tmod (6:Int)),.int .i64 (i64.wrap ((a1).tdiv (6:Int)))]:Array Value) 1)+(1:Int)))]:Array Value) 0)+(i64.wrap ((6:Int)*(num (#[.int .i64 (num (#[.int .i64 ((a1).tmod (6:Int)),.int .i64 (i64.wrap ((a1).tdiv (6:Int)))]:Array Value) 0),.int .i64 (i64.wrap ((num (#[.int .i64 ((a1).tmod (6:Int)),.int .i64 (i64.wrap ((a1).tdiv (6:Int)))]:Array Value) 1)+(1:Int)))]:Array Value) 1))))),.int .i64 (i64.wrap (num a0 (((3+((a2).toNat*180))+((a1).toNat*5))+3)))]:Array Value)))) else ((t.1,t.2))) else ((t.1,t.2))
theorem Zwi(N:Nat)(a0:Array Value)(a1 a2:Int)(hq0:(decide (0<=a2)&&decide (a2<2))=true)(hq1:(decide (0<=a1)&&decide (a1<36))=true)(t:Nat×Array Value)(hl:t.1<=1000000):Uby PZ Zbi N (cAt cKCmC83 [1,1,1,1,0,1,0,0]) (pAt Ubn [1,1,1,1,0,1,0]) [21] [] 7 156 5 (Ubk a0 a1 a2) (Znt t)=some (.more (Zg2 (Zc7 a0 a1 a2 t))):=by
 refine Eq.trans (b:=(bif (decide (0<=a2)&&decide (a2<2)) then (bif (decide (0<=a1)&&decide (a1<36)) then (bif decide ((i64.wrap (num a0 (((3+((a2).toNat*180))+((a1).toNat*5))+3))) > (0:Int)) then (bif (Zas a0 (#[.int .i64 (num (#[.int .i64 ((a1).tmod (6:Int)),.int .i64 (i64.wrap ((a1).tdiv (6:Int)))]:Array Value) 0),.int .i64 (i64.wrap ((num (#[.int .i64 ((a1).tmod (6:Int)),.int .i64 (i64.wrap ((a1).tdiv (6:Int)))]:Array Value) 1)+(1:Int)))]:Array Value)) then (bif (jA ((t.1+1)*bytesOf PZ 156) 140737488355328) then (some (.more ([.a (.i .i64 5),.a (.l 5)],[.sl .own (t.1+1) (t.2++(#[.int .i64 (i64.wrap ((num (#[.int .i64 (num (#[.int .i64 ((a1).tmod (6:Int)),.int .i64 (i64.wrap ((a1).tdiv (6:Int)))]:Array Value) 0),.int .i64 (i64.wrap ((num (#[.int .i64 ((a1).tmod (6:Int)),.int .i64 (i64.wrap ((a1).tdiv (6:Int)))]:Array Value) 1)+(1:Int)))]:Array Value) 0)+(i64.wrap ((6:Int)*(num (#[.int .i64 (num (#[.int .i64 ((a1).tmod (6:Int)),.int .i64 (i64.wrap ((a1).tdiv (6:Int)))]:Array Value) 0),.int .i64 (i64.wrap ((num (#[.int .i64 ((a1).tmod (6:Int)),.int .i64 (i64.wrap ((a1).tdiv (6:Int)))]:Array Value) 1)+(1:Int)))]:Array Value) 1))))),.int .i64 (i64.wrap (num a0 (((3+((a2).toNat*180))+((a1).toNat*5))+3)))]:Array Value)) 156]))) else (none)) else (some (.more ([.a (.i .i64 5),.a (.l 5)],[.sl .own t.1 t.2 156])))) else (some (.more ([.a (.i .i64 5),.a (.l 5)],[.sl .own t.1 t.2 156])))) else (none)) else (none))) (by kernel_rfl) ?_
 have hb:bytesOf PZ 156<=1000000:=jD (by kernel_rfl);have g2:(jA ((t.1+1)*bytesOf PZ 156) 140737488355328)=true:=jC (Nat.le_trans (jE (show _<=1000001 by omega) hb) (by decide));simp only[Zc7,Zsk,g2,hq0,hq1,Q1];rfl
theorem Zv3(a0:Array Value)(a1 a2:Int)(t:Nat×Array Value):(Zc7 a0 a1 a2 t).1<=t.1+1:=by
 unfold Zc7
 repeat (first|exact jB _|exact Nat.le_succ _|refine Zn1 ?_ ?_)
theorem Zu6(N:Nat)(a0:Array Value)(a1 a2:Int)(hq0:(decide (0<=a2)&&decide (a2<2))=true)(hq1:(decide (0<=a1)&&decide (a1<36))=true)(t:Nat×Array Value):Uby PZ Zbi N (cAt cKCmC83 [1,1,1,1,0,1,0,0]) (pAt Ubn [1,1,1,1,0,1,0]) [21] [] 7 156 5 (Ubk a0 a1 a2) (Zg2 t)=some (.done ((.exit 0),Zg2 t)):=by kernel_rfl
def Zda(a0:Array Value)(a1 a2:Int):Nat×Array Value:=(Zc7 a0 a1 a2 (Zbv a0 a1 a2 (Zbe a0 a1 a2 (Za3 a0 a1 a2 (Zat a0 a1 a2 (0,(#[]:Array Value)))))))
theorem Zz5(N:Nat)(hN:5<N)(a0:Array Value)(a1 a2:Int)(hq0:(decide (0<=a2)&&decide (a2<2))=true)(hq1:(decide (0<=a1)&&decide (a1<36))=true):Uab (Uby PZ Zbi N (cAt cKCmC83 [1,1,1,1,0,1,0,0]) (pAt Ubn [1,1,1,1,0,1,0]) [21] [] 7 156 5 (Ubk a0 a1 a2)) N (Zj3 (0,(#[]:Array Value)))=some ((.exit 0),Zg2 (Zda a0 a1 a2)):=by
 have l0:((0,(#[]:Array Value)):Nat×Array Value).1<=0:=jB _;have l1:=Zwh a0 a1 a2 (0,(#[]:Array Value));have l2:=Zv7 a0 a1 a2 (Zat a0 a1 a2 (0,(#[]:Array Value)));have l3:=Zwc a0 a1 a2 (Za3 a0 a1 a2 (Zat a0 a1 a2 (0,(#[]:Array Value))));have l4:=Zv9 a0 a1 a2 (Zbe a0 a1 a2 (Za3 a0 a1 a2 (Zat a0 a1 a2 (0,(#[]:Array Value)))));have l5:=Zv3 a0 a1 a2 (Zbv a0 a1 a2 (Zbe a0 a1 a2 (Za3 a0 a1 a2 (Zat a0 a1 a2 (0,(#[]:Array Value))))));have q0:=Zv2 N a0 a1 a2 hq0 hq1 (0,(#[]:Array Value)) (by omega);have q1:=Zvz N a0 a1 a2 hq0 hq1 (Zat a0 a1 a2 (0,(#[]:Array Value))) (by omega);have q2:=Zvr N a0 a1 a2 hq0 hq1 (Za3 a0 a1 a2 (Zat a0 a1 a2 (0,(#[]:Array Value)))) (by omega);have q3:=Zv1 N a0 a1 a2 hq0 hq1 (Zbe a0 a1 a2 (Za3 a0 a1 a2 (Zat a0 a1 a2 (0,(#[]:Array Value))))) (by omega);have q4:=Zwi N a0 a1 a2 hq0 hq1 (Zbv a0 a1 a2 (Zbe a0 a1 a2 (Za3 a0 a1 a2 (Zat a0 a1 a2 (0,(#[]:Array Value)))))) (by omega);have q5:=Zu6 N a0 a1 a2 hq0 hq1 (Zc7 a0 a1 a2 (Zbv a0 a1 a2 (Zbe a0 a1 a2 (Za3 a0 a1 a2 (Zat a0 a1 a2 (0,(#[]:Array Value)))))));unfold Zda;obtain⟨N0,e0⟩:∃N0,N=N0+5+1:=⟨N - 5 - 1,by omega⟩;generalize hf:Uby PZ Zbi N (cAt cKCmC83 [1,1,1,1,0,1,0,0]) (pAt Ubn [1,1,1,1,0,1,0]) [21] [] 7 156 5 (Ubk a0 a1 a2)=f at q0 q1 q2 q3 q4 q5|-
 rw[e0];refine(Zps q0 (N0+5)).trans ?_;refine(Zps q1 (N0+4)).trans ?_;refine(Zps q2 (N0+3)).trans ?_;refine(Zps q3 (N0+2)).trans ?_;refine(Zps q4 (N0+1)).trans ?_;exact Yjd q5 N0
def Ugu(N:Nat):=(Uad 0 (kSeq (veC PZ Zbi N (cAt cKCmC83 [1,1,1,1,1]) (pAt Ubn [1,1,1,1,1]) (SV×Eff×Bool)) (finK PZ [] [.tmp 6])))
theorem Zz4(N:Nat)(hN:5<N)(a0:Array Value)(a1 a2:Int)(hq0:(decide (0<=a2)&&decide (a2<2))=true)(hq1:(decide (0<=a1)&&decide (a1<36))=true):Uah (Uab (Uby PZ Zbi N (cAt cKCmC83 [1,1,1,1,0,1,0,0]) (pAt Ubn [1,1,1,1,0,1,0]) [21] [] 7 156 5 (Ubk a0 a1 a2)) N ([.a (.i .i64 0),.a (.l 5)],[.sl .own 0 (#[]:Array Value) 156])) (λe s=>(Ugu N) e (left (writes (cAt cKCmC83 [1,1,1,1,0,1,0,0])) [21,7] [5] (Ubk a0 a1 a2) s))=(some (.a .x,.newS none (Zda a0 a1 a2).1 (Zda a0 a1 a2).2 156,true)):=by have e0:(([.a (.i .i64 0),.a (.l 5)],[.sl .own 0 (#[]:Array Value) 156]):LS)=Zj3 (0,(#[]:Array Value)):=rfl;rw[e0,Zz5 N hN a0 a1 a2 hq0 hq1 ];change _=_;kernel_rfl
theorem Zyi(N:Nat)(hN:5<N)(a0:Array Value)(a1 a2:Int)(hq0:(decide (0<=a2)&&decide (a2<2))=true)(hq1:(decide (0<=a1)&&decide (a1<36))=true):ansV PZ Zbi N f83 [([21],[1000007,156])] [.g a0 38,.i .i64 a1,.i .i64 a2] []=(bif decide (0<=a1) then (bif (Zbn a0 a1) then (some (.a .x,.newS none 1 (#[.int .i64 a1,.int .i64 12]:Array Value) 156,true)) else (some (.a .x,.newS none (Zda a0 a1 a2).1 (Zda a0 a1 a2).2 156,true))) else (none)):=by
 conv=>rhs;simp only[<- Zz4 N hN a0 a1 a2 hq0 hq1]
 kernel_rfl
theorem sf_F0(S:Array Value)(c t:Int)(q:Nat×Array Value):Zat S c t q=stF S t c 1 q:=rfl
theorem sf_F1(S:Array Value)(c t:Int)(q:Nat×Array Value):Za3 S c t q=stF S t c 4 q:=rfl
theorem sf_F2(S:Array Value)(c t:Int)(q:Nat×Array Value):Zbe S c t q=stF S t c 0 q:=rfl
theorem sf_F3(S:Array Value)(c t:Int)(q:Nat×Array Value):Zbv S c t q=stF S t c 2 q:=rfl
theorem sf_F4(S:Array Value)(c t:Int)(q:Nat×Array Value):Zc7 S c t q=stF S t c 3 q:=rfl
theorem sf_v{S:Array Value}(h0:1<=num S 0/\num S 0<=6/\1<=num S 1/\num S 1<=6){k:Nat}(hk:k<36)(hi:inC (num S 0) (num S 1) k=true)(t:Int):
  Zda S (k:Int) t=((Ube S t k 1++Ube S t k 4++Ube S t k 0++Ube S t k 2++Ube S t k 3).length,Ubp (Ube S t k 1++Ube S t k 4++Ube S t k 0++Ube S t k 2++Ube S t k 3)):=by
 unfold Zda;rw[sf_F0,sf_F1,sf_F2,sf_F3,sf_F4,show ((0,(#[]:Array Value)):Nat×Array Value)=(([]:List (Int×Int)).length,Ubp []) from rfl,Yc4 h0 hk hi t (by omega),Yc4 h0 hk hi t (by omega),Yc4 h0 hk hi t (by omega),Yc4 h0 hk hi t (by omega),Yc4 h0 hk hi t (by omega),List.nil_append]
theorem Zvs(a0:Array Value)(a1 a2:Int)(h_a0:WT PZ 38 a0)(h_a1:i64.min<=a1/\a1<=i64.max)(h_a2:i64.min<=a2/\a2<=i64.max)(hg:((okS a0&&(Za1 a1 a0&&(decide (0<=a2)&&decide (a2<2)))))=true):ansV PZ Zbi 1000 f83 [([21],[1000007,156])] [.g a0 38,.i .i64 a1,.i .i64 a2] []=some (.a .x,.newS none (stL a0 a2 a1.toNat).length (Ubp (stL a0 a2 a1.toNat)) 156,true):=by
 rw[Q7,Q7]at hg;obtain⟨hok,his,ht⟩:=hg;have h0:=Zqr hok;obtain⟨c0,c1⟩:=Ymw his;obtain⟨k,rfl⟩:∃k:Nat,a1=(k:Int):=⟨a1.toNat,by omega⟩;have hk:k<36:=by omega
 rw[Yfs h_a0 hk]at his;have hc:(decide (0<=(k:Int))&&decide ((k:Int)<36))=true:=by rw[Q3 c0,Q3 (show (k:Int)<36 by omega)];rfl
 refine(Zyi 1000 (by decide) a0 (k:Int) a2 ht hc).trans ?_;rw[sf_v h0 hk his,Q9,Q3 c0];unfold stL;cases Zbn a0 (k:Int)<;>rfl
def Zk6:Con:=λargs h=>match args,h with|[.g a0 38,.i .i64 a1,.i .i64 a2],[]=>some (.a .x,.newS none (stL a0 a2 a1.toNat).length (Ubp (stL a0 a2 a1.toNat)) 156,(okS a0&&(Za1 a1 a0&&(decide (0<=a2)&&decide (a2<2)))))|_,_=>none
theorem Zt5:EntX PZ 83:=Zak (fn:=f83)
theorem Zzv:Uac mn PZ 83 Zk6:=(ansY (N:=1000) (mKc (Zag Zux) Zpi (mKc (Zag Zqy) Znj (mKc (Zag Zr9) Zog (mKc (Zag Zu4) Zpg (mKc (Zag Yd9) Zws (mKc (Zag Zyf) Zs8 (mKc (Zag Zyn) Zso (mKc (Zag Zu7) Zrf (mKc (Zag Zxf) Zru (mKc (Zag Zva) Zrj (mKc (Zag Zyt) Zry mKn))))))))))) f83 [([21],[1000007,156])]).of (by
 intro ρ h w args vals r e hA hH hr;unfold Zk6 at hr;split at hr
 ·rename_i a0 a1 a2;obtain⟨rfl,rfl,hg2⟩:=BQi hr;exact Zvs a0 a1 a2 (hA.wt 0 rfl) (hA.rng 1 rfl) (hA.rng 2 rfl) hg2
 ·cases hr)
theorem Yp6{C:Array Value}{b m o:Nat}(ho:o<m):num (C.extract b (b+m)) o=num C (b+o):=by
 have e2:(C.extract b (b+m))[o]?=C[b+o]?:=by
  simp only[jF]
  by_cases h:b+o<C.size
  ·rw[if_pos (by omega)]
  ·rw[if_neg (by omega),jG (by omega)]
 unfold num;rw[e2]
def rdSt(n:Nat)(C:Array Value):List (Int×Int):=(List.range n).map λk=>(num C (k*2+0),num C (k*2+1))
def okSt(n:Nat)(C:Array Value):Bool:=(List.range n).all λk=>decide (0<=num C (k*2+0))&&decide (num C (k*2+0)<36)
def Ucg(L:Array Value)(c:Int):Int:=num L (c.toNat*1)
def sumF(L:Array Value)(s:Int)(p:Int×Int):Int:=i64.wrap (s+i64.wrap (p.2*Ucg L p.1))
def sumL(l:List (Int×Int))(L:Array Value):Int:=l.foldl (sumF L) 0
theorem okSt_at{n:Nat}{C:Array Value}(h:okSt n C=true){k:Nat}(hk:k<n):(decide (0<=num C (k*2+0))&&decide (num C (k*2+0)<36))=true:=List.all_eq_true.1 h k (List.mem_range.2 hk)
theorem rd_fold{T:Type}(f:T->Int×Int->T)(t:T)(n:Nat)(C:Array Value):folds (λs k=>f s (num C (k*2+0),num C (k*2+1))) t n=(rdSt n C).foldl f t:=by unfold folds rdSt;rw[List.foldl_map]
theorem Yd4:∀(l:List (Int×Int)) (k:Nat) (p:Int×Int),l[k]?=some p->num (Ubp l) (k*2+0)=p.1/\num (Ubp l) (k*2+1)=p.2
 |[],k,p,h=>by simp at h
 | q::r,k,p,h=>by
  have e:Ubp (q::r)=#[.int .i64 q.1,.int .i64 q.2]++Ubp r:=by rw[show q::r=[q]++r from rfl,Yi1];rfl
  cases k with
  |zero=>simp only[List.getElem?_cons_zero,Q8]at h;subst h;rw[e];unfold num;constructor<;>rw[Array.getElem?_append_left (by simp)]<;>rfl
  | succ k=>
   have:=Yd4 r k p (by simpa using h);rw[e];have s:∀o,num (#[Value.int .i64 q.1,.int .i64 q.2]++Ubp r) (o+2)=num (Ubp r) o:=λo=>by
    unfold num;rw[Array.getElem?_append_right (by simp)];rfl
   rw[show (k+1)*2+0=(k*2+0)+2 by omega,show (k+1)*2+1=(k*2+1)+2 by omega,s,s];exact this
theorem rd_enc(l:List (Int×Int)):rdSt l.length (Ubp l)=l:=by
 refine List.ext_getElem? λk=> ?_
 unfold rdSt;rw[List.getElem?_map]
 by_cases hk:k<l.length
 ·rw[List.getElem?_range hk,List.getElem?_eq_getElem hk];obtain⟨h1,h2⟩:=Yd4 l k l[k] (List.getElem?_eq_getElem hk);simp only[Option.map_some,h1,h2]
 ·rw[List.getElem?_eq_none (by simpa using hk),List.getElem?_eq_none (by omega)];rfl
theorem ok_enc{l:List (Int×Int)}(h:∀p∈l,0<=p.1/\p.1<36):okSt l.length (Ubp l)=true:=by
 unfold okSt;refine List.all_eq_true.2 λk hk=> ?_
 have hk:=List.mem_range.1 hk;obtain⟨h1,h2⟩:=Yd4 l k l[k] (List.getElem?_eq_getElem hk);have:=h l[k] (List.getElem_mem hk);rw[h1,Q3 this.1,Q3 this.2];rfl
def Zfb(a1:Array Value)(b_a0:Option (Option Addr))(n_a0:Nat)(a0:Array Value):St:=(⟨.a (.l 0)::.a (.g a1 111)::.a (.u)::.a (.w 1)::.a (.i .i64 0)::.a (.i .i64 0)::.a (.u)::.a (.u)::.a (.l 0)::.a (.i .i64 (n_a0:Int))::.a (.i .i64 0)::us 14 ([]),[.sl (.came b_a0) n_a0 a0 156,.row a1 111,.no],[]⟩:St)
def Zgk:Int×Int->LS
 |(y0_5,y0_10)=>([.a (.i .i64 y0_5),.a (.i .i64 y0_10)],[])
def Zlk:Int×Int->Exit×LS
 |t=>((.exit 0),Zgk t)
def Zdd(P:Program)(a1:Array Value)(b_a0:Option (Option Addr))(n_a0:Nat)(a0:Array Value):Int×Int->Option (Stp (Int×Int) (Int×Int))
 |(y0_5,y0_10)=>bif decide (y0_10<(n_a0:Int)) then (bif (decide (0<=y0_10)&&decide (y0_10<(n_a0:Int))) then (bif (decide (0<=(num (a0.extract ((y0_10).toNat*2) (((y0_10).toNat*2)+2)) 0))&&decide ((num (a0.extract ((y0_10).toNat*2) (((y0_10).toNat*2)+2)) 0)<36)) then (some (.more ((i64.wrap (y0_5+(i64.wrap ((num (a0.extract ((y0_10).toNat*2) (((y0_10).toNat*2)+2)) 1)*(num a1 ((num (a0.extract ((y0_10).toNat*2) (((y0_10).toNat*2)+2)) 0).toNat*1)))))),(i64.wrap (y0_10+(1:Int)))))) else (none)) else (none)) else (some (.done (y0_5,y0_10)))
noncomputable abbrev cKCmC70:=codeOf f70
def Ueo:=(Uaa cKCmC70 [([5,10],[])]).1
theorem Zz1(N:Nat)(a1:Array Value)(b_a0:Option (Option Addr))(n_a0:Nat)(a0:Array Value):∀t:Int×Int,Ual PZ (mkΓ []) N (cAt cKCmC70 [1,1,0,1,0,0]) (pAt Ueo [1,1,0,1,0]) [5,10] [] (Zfb a1 b_a0 n_a0 a0) (Zgk t)=mapS Zgk Zlk (Zdd PZ a1 b_a0 n_a0 a0 t):=by
 rintro⟨y0_5,y0_10⟩
 conv=>rhs;simp only[Zdd,Zax,Zay,Zaw,Zaz,Zgk,Zlk]
 kernel_rfl
def Zj6(P:Program)(N:Nat)(a1:Array Value)(b_a0:Option (Option Addr))(n_a0:Nat)(a0:Array Value)(z0_5:Int)(z0_10:Int):Option (SV×Eff×Bool):=some (.a (.i .i64 z0_5),.none,true)
def Ufu(N:Nat)(b_a0:Option (Option Addr))(n_a0:Nat)(a0:Array Value):=(Uad 0 (kSeq (veC PZ (mkΓ []) N (cAt cKCmC70 [1,1,1]) (pAt Ueo [1,1,1]) (SV×Eff×Bool)) (finK PZ [.sl (.came b_a0) n_a0 a0 156] [.tmp 4])))
theorem Zrk(N:Nat)(a1:Array Value)(b_a0:Option (Option Addr))(n_a0:Nat)(a0:Array Value)(z0_5:Int)(z0_10:Int):(Ufu N b_a0 n_a0 a0) (.exit 0) (left (writes (cAt cKCmC70 [1,1,0,1,0,0])) [5,10] [] (Zfb a1 b_a0 n_a0 a0) ([.a (.i .i64 z0_5),.a (.i .i64 z0_10)],[]))=Zj6 PZ N a1 b_a0 n_a0 a0 z0_5 z0_10:=by kernel_rfl
theorem Zzm(N:Nat)(a1:Array Value)(b_a0:Option (Option Addr))(n_a0:Nat)(a0:Array Value):Uah (Uab (Ual PZ (mkΓ []) N (cAt cKCmC70 [1,1,0,1,0,0]) (pAt Ueo [1,1,0,1,0]) [5,10] [] (Zfb a1 b_a0 n_a0 a0)) N ([.a (.i .i64 0),.a (.i .i64 0)],[])) (λe s=>(Ufu N b_a0 n_a0 a0) e (left (writes (cAt cKCmC70 [1,1,0,1,0,0])) [5,10] [] (Zfb a1 b_a0 n_a0 a0) s))=Uao (Uab (Zdd PZ a1 b_a0 n_a0 a0) N ((0:Int),(0:Int))) (λx=>Zj6 PZ N a1 b_a0 n_a0 a0 x.1 x.2):=by refine Za2 Zgk Zlk _ _ (Zz1 N a1 b_a0 n_a0 a0) N ((0:Int),(0:Int)) _ _ ?_;intro x;exact Zrk N a1 b_a0 n_a0 a0 x.1 x.2
theorem Zw7(N:Nat)(a1:Array Value)(b_a0:Option (Option Addr))(n_a0:Nat)(a0:Array Value):ansV PZ (mkΓ []) N f70 [([5,10],[])] [.l 0,.g a1 111] [.sl (.came b_a0) n_a0 a0 156]=(Uao (Uab (Zdd PZ a1 b_a0 n_a0 a0) N ((0:Int),(0:Int))) (λx=>Zj6 PZ N a1 b_a0 n_a0 a0 x.1 x.2)):=by
 conv=>rhs;simp only[<- Zzm N a1 b_a0 n_a0 a0]
 kernel_rfl
theorem Zu9(a1:Array Value)(b_a0:Option (Option Addr))(n_a0:Nat)(a0:Array Value)(h_a1:WT PZ 111 a1)(h_a0:SlT 156 n_a0 a0)(hg:((okSt n_a0 a0))=true):ansV PZ (mkΓ []) 18446744073709551616 f70 [([5,10],[])] [.l 0,.g a1 111] [.sl (.came b_a0) n_a0 a0 156]=some (.a (.i .i64 (sumL (rdSt n_a0 a0) a1)),.none,true):=by
 have hn:=h_a0.2.2;refine(Zw7 18446744073709551616 a1 b_a0 n_a0 a0).trans ?_;have h:=Zkf (g:=Zdd PZ a1 b_a0 n_a0 a0) (λs k=>(s,(k:Int))) (λs k=>sumF a1 s (num a0 (k*2+0),num a0 (k*2+1))) (m:=n_a0) (t:=(0:Int)) (x:=(sumL (rdSt n_a0 a0) a1,(n_a0:Int))) (N:=18446744073709551616) (λk s hk _=>by
  have h1:decide ((k:Int)<(n_a0:Int))=true:=Q3 (by omega);have h0:decide (0<=(k:Int))=true:=Q3 (by omega);have h3:i64.wrap ((k:Int)+1)=((k+1:Nat):Int):=by rw[IntWalk.i64_in _ (by omega)];omega
  have hx0:num (a0.extract (k*2) (k*2+2)) 0=num a0 (k*2+0):=Yp6 (by omega);have hx1:num (a0.extract (k*2) (k*2+2)) 1=num a0 (k*2+1):=Yp6 (by omega);have hok:=okSt_at hg hk;simp only[Zdd,h1,h0,h3,Q9,Bool.and_self,Q1,hx0,hx1,hok];rfl) (by
  have h1:decide ((n_a0:Int)<(n_a0:Int))=false:=Q4 (by omega);simp only[Zdd,h1,Q2];rw[rd_fold (sumF a1)];rfl) (by omega)
 have h':Uab (Zdd PZ a1 b_a0 n_a0 a0) 18446744073709551616 ((0:Int),(0:Int))=some (sumL (rdSt n_a0 a0) a1,(n_a0:Int)):=h;rw[h'];rfl
def Zk1:Con:=λargs h=>match args,h with|[.l 0,.g a1 111],[.sl (.came b_a0) n_a0 a0 156]=>some (.a (.i .i64 (sumL (rdSt n_a0 a0) a1)),.none,(okSt n_a0 a0))|_,_=>none
theorem Zuw:EntX PZ 70:=Zak (fn:=f70)
theorem Yao:Uac mn PZ 70 Zk1:=(ansY (N:=18446744073709551616) mKn f70 [([5,10],[])]).of (by
 intro ρ h w args vals r e hA hH hr;unfold Zk1 at hr;split at hr
 ·rename_i a1 b_a0 n_a0 a0;obtain⟨rfl,rfl,hg2⟩:=BQi hr;exact Zu9 a1 b_a0 n_a0 a0 (hA.wt 1 rfl) (hH.slw 0 rfl) hg2
 ·cases hr)
theorem Znd{S:Array Value}(h0:1<=num S 0/\num S 0<=6/\1<=num S 1/\num S 1<=6){k:Nat}(hk:k<36)(hi:inC (num S 0) (num S 1) k=true)(t:Int)(w:Nat)(hw:w<5):∀p∈Ube S t k w,0<=p.1/\p.1<36:=by intro p hp;unfold Ube at hp;cases hc:decide (chW S t (k:Int) w > 0)&&decide (gw S k w ≠ -1) with|false=>rw[hc]at hp;simp at hp|true=>rw[hc]at hp;simp only[Q1,List.mem_singleton]at hp;subst hp;rw[Q7]at hc;exact Ycc h0 hk hi w hw (of_decide_eq_true hc.2)
theorem Ypd{S:Array Value}(h0:1<=num S 0/\num S 0<=6/\1<=num S 1/\num S 1<=6){k:Nat}(hk:k<36)(hi:inC (num S 0) (num S 1) k=true)(t:Int):∀p∈stL S t k,0<=p.1/\p.1<36:=by
 intro p hp;unfold stL at hp;cases hl:Zbn S (k:Int) with
 |true=>rw[hl]at hp;simp only[Q1,List.mem_singleton]at hp;subst hp;exact⟨by show 0<=(k:Int);omega,by show (k:Int)<36;omega⟩
 |false=>
  rw[hl]at hp;simp only[Q2,List.mem_append]at hp;rcases hp with (((hp|hp)|hp)|hp)|hp
  ·exact Znd h0 hk hi t 1 (by omega) p hp
  ·exact Znd h0 hk hi t 4 (by omega) p hp
  ·exact Znd h0 hk hi t 0 (by omega) p hp
  ·exact Znd h0 hk hi t 2 (by omega) p hp
  ·exact Znd h0 hk hi t 3 (by omega) p hp
def rowF(P:Program)(V:List (Int×Int)->Array Value->Int)(S L:Array Value)(t:Int):Array Value:=folds (λr k=>if inC (num S 0) (num S 1) k then r.setIfInBounds (k*1) (.int .i64 (V (stL S t k) L)) else r) (zc P 111) 36
def Zej:Cons:=(mkΓx [(70,con Zk1),(83,con Zk6)] [(61,Zjn)] [(74,Zeo)])
def Zcg(a0 a1:Array Value)(a2:Int):St:=(⟨.a (.g a0 38)::.a (.g a1 111)::.a (.i .i64 a2)::.a (.c 70 [])::.a (.w 0)::.a (.w 1)::.a (.w 2)::.a (.w 3)::.a (.w 4)::.a (.w 5)::.a (.u)::.a (.g a0 38)::.a (.c 74 [9,11])::us 11 ([]),[.row a0 38,.row a1 111,.row #[.int .i64 a2] 2,.row #[.func (.func 70) #[] #[]] 152,.row (zc PZ 111) 111,.row (zc PZ 111) 111,.no,.no,.no,.row #[.int .i64 (num a0 1)] 2,.no,.row #[.int .i64 (num a0 0)] 2,.no,.no],[]⟩:St)
def Zg6:Array Value->BS
 |r0_5=>([.row r0_5 111]:BS)
def Zj9:Empty->Exit×BS:=λx=>nomatch x
def Zd9(P:Program)(a0 a1:Array Value)(a2:Int)(x0:Int):Array Value->Option (Stp (Array Value) Empty)
 |r0_5=>bif (okS a0&&(Za1 x0 a0&&(decide (0<=a2)&&decide (a2<2)))) then (bif (okSt ((stL a0 a2 x0.toNat).length) (Ubp (stL a0 a2 x0.toNat))) then (bif (decide (0<=x0)&&decide (x0<36)) then (some (.more (r0_5.setIfInBounds ((x0).toNat*1) (.int .i64 (sumL (rdSt ((stL a0 a2 x0.toNat).length) (Ubp (stL a0 a2 x0.toNat))) a1))))) else (none)) else (none)) else (none)
noncomputable abbrev cKCmC79:=codeOf f79
def Ueb:=(Uaa cKCmC79 [([],[5])]).1
theorem Zv0(N:Nat)(a0 a1:Array Value)(a2:Int)(x0:Int):∀t:Array Value,Uc7 PZ Zej N (cAt cKCmC79 [1,1,0,1,0,0]) (pAt Ueb [1,1,0,1,0]) 14 [5] [13] [(10,13)] (Zcg a0 a1 a2) [.i .i64 x0] (Zg6 t)=mapS Zg6 Zj9 (Zd9 PZ a0 a1 a2 x0 t):=by
 rintro r0_5
 conv=>rhs;simp only[Zd9,Zax,Zay,Zaw,Zaz,Zg6,Zj9]
 kernel_rfl
def Zia(P:Program)(N:Nat)(a0 a1:Array Value)(a2:Int)(q0_5:Array Value):Option (SV×Eff×Bool):=some (.a (.g q0_5 111),.none,true)
def Udj(N:Nat):=(Uad 0 (kSeq (veC PZ Zej N (cAt cKCmC79 [1,1,1]) (pAt Ueb [1,1,1]) (SV×Eff×Bool)) (finK PZ [] [.cell 8 111])))
theorem Zpt(N:Nat)(a0 a1:Array Value)(a2:Int)(q0_5:Array Value):(Udj N) .normal (Uas [5] (Zcg a0 a1 a2) ([.row q0_5 111]:BS))=Zia PZ N a0 a1 a2 q0_5:=by kernel_rfl
theorem Zv8(N:Nat)(a0 a1:Array Value)(a2:Int):Ubv (Uam (λ(x0:Int) (hb:BS)=>Uc7 PZ Zej N (cAt cKCmC79 [1,1,0,1,0,0]) (pAt Ueb [1,1,0,1,0]) 14 [5] [13] [(10,13)] (Zcg a0 a1 a2) [.i .i64 x0] hb) (Uax (num a0 0) (num a0 1) 36) ([.row (zc PZ 111) 111]:BS)) (λhb=>(Udj N) .normal (Uas [5] (Zcg a0 a1 a2) hb)) (λe hb=>(Udj N) e (Uas [5] (Zcg a0 a1 a2) hb))=Ucw (Uam (Zd9 PZ a0 a1 a2) (Uax (num a0 0) (num a0 1) 36) (zc PZ 111)) (λx=>Zia PZ N a0 a1 a2 x) (λx:Empty=>nomatch x):=by
 refine Zpp Zg6 Zj9 _ _ (λy t=>Zv0 N a0 a1 a2 y t) _ (zc PZ 111) _ _ _ _ ?_ ?_
 ·intro x;exact Zpt N a0 a1 a2 x
 ·intro x;exact nomatch x
theorem Zur(N:Nat)(a0 a1:Array Value)(a2:Int):ansV PZ Zej N f79 [([],[5])] [.g a0 38,.g a1 111,.i .i64 a2,.c 70 []] []=(bif (decide (0<=(num a0 0))&&decide ((num a0 0)<=6)&&(decide (0<=(num a0 1))&&decide ((num a0 1)<=6))) then (Ucw (Uam (Zd9 PZ a0 a1 a2) (Uax (num a0 0) (num a0 1) 36) (zc PZ 111)) (λx=>Zia PZ N a0 a1 a2 x) (λx:Empty=>nomatch x)) else (none)):=by
 conv=>rhs;simp only[<- Zv8 N a0 a1 a2]
 kernel_rfl
theorem Zro(a0 a1:Array Value)(a2:Int)(h_a0:WT PZ 38 a0)(h_a1:WT PZ 111 a1)(h_a2:i64.min<=a2/\a2<=i64.max)(hg:((okS a0&&(decide (0<=a2)&&decide (a2<2))))=true):ansV PZ Zej 1000 f79 [([],[5])] [.g a0 38,.g a1 111,.i .i64 a2,.c 70 []] []=some (.a (.g (rowF PZ sumL a0 a1 a2) 111),.none,true):=by
 rw[Q7]at hg;obtain⟨hok,ht⟩:=hg;have h0:=Zqr hok;refine(Zur 1000 a0 a1 a2).trans ?_;have h:=Yf2 (X:=Empty) (g:=Zd9 PZ a0 a1 a2) (λr k=>r.setIfInBounds (k*1) (.int .i64 (sumL (stL a0 a2 k) a1))) (wd:=num a0 0) (hi:=num a0 1) (λs k hk hi=>by
  have hs:okSt (stL a0 a2 k).length (Ubp (stL a0 a2 k))=true:=ok_enc (Ypd h0 hk hi a2);have hc:(decide (0<=(k:Int))&&decide ((k:Int)<36))=true:=by rw[Q3 (show 0<=(k:Int) by omega),Q3 (show (k:Int)<36 by omega)];rfl
  have hi':Za1 (k:Int) a0=true:=(Yfs h_a0 hk).trans hi;simp only[Zd9,Q9,hok,hi',ht,hs,hc,Bool.and_self,Q1,rd_enc]
  first|done|rfl) (zc PZ 111)
 have hgd:=Ztg hok;simp only[hgd,Q1,h];rfl
def Zi6:Con:=λargs h=>match args,h with|[.g a0 38,.g a1 111,.i .i64 a2,.c 70 []],[]=>some (.a (.g (rowF PZ sumL a0 a1 a2) 111),.none,(okS a0&&(decide (0<=a2)&&decide (a2<2))))|_,_=>none
theorem Zrg:EntX PZ 79:=Zak (fn:=f79)
theorem Zvk:Uac mn PZ 79 Zi6:=(ansY (N:=1000) (mKx (Zag Yao) Zuw (mKx (Zag Zzv) Zt5 (mkΓx_nX Zo7 Zng (mkΓx_iX Znl Zmd mkΓx_nilX)))) f79 [([],[5])]).of (by
 intro ρ h w args vals r e hA hH hr;unfold Zi6 at hr;split at hr
 ·rename_i a0 a1 a2;obtain⟨rfl,rfl,hg2⟩:=BQi hr;exact Zro a0 a1 a2 (hA.wt 0 rfl) (hA.wt 1 rfl) (hA.rng 2 rfl) hg2
 ·cases hr)
theorem Yps(P:Program)(T:TypeId){r:Array Value}(h:r.size=(zc P T).size):spl (repC (zc P T) 1) 0 r.toList=r:=by
 have e:repC (zc P T) 1=zc P T:=by unfold repC repL repL;simp
 rw[e];refine Zhy λi=> ?_
 rw[Zha _ _ _ (by simp;omega)]
 by_cases hi:i<r.size
 ·rw[if_pos (by simp;omega)];simp
 ·rw[if_neg (by simp;omega),jG (by omega),jG (by omega)]
theorem Yj5:(zc PZ 111).size=36:=by kernel_rfl
theorem Yid(V:List (Int×Int)->Array Value->Int)(S L:Array Value)(t:Int):(rowF PZ V S L t).size=36:=by unfold rowF;exact Zjl (λ_ (r:Array Value)=>r.size=36) Yj5 (λk s _ h=>by split<;>simp[h]) 36 (jB _)
def rowR(P:Program)(V:List (Int×Int)->Array Value->Int)(S L:Array Value)(b h:Int):Nat->Array Value
 |0=>L
 |j+1=>rowF P V S (rowR P V S L b h j) ((i64.wrap (b+i64.wrap (h - ((j+1:Nat):Int)))).tmod 2)
def catR(P:Program)(V:List (Int×Int)->Array Value->Int)(S L:Array Value)(b h:Int):Nat->Array Value
 |0=>#[]
 |j+1=>catR P V S L b h j++rowR P V S L b h j
theorem Yir(V:List (Int×Int)->Array Value->Int)(S:Array Value){L:Array Value}(hL:L.size=36)(b h:Int):∀j,(rowR PZ V S L b h j).size=36
 |0=>hL
 |j+1=>Yid V S _ _
theorem Yer(V:List (Int×Int)->Array Value->Int)(S:Array Value){L:Array Value}(hL:L.size=36)(b h:Int):∀j,(catR PZ V S L b h j).size=j*36
 |0=>rfl
 |j+1=>by rw[catR,Array.size_append,Yer V S hL b h j,Yir V S hL b h j];omega
theorem ext_last{A R:Array Value}{m q:Nat}(hA:A.size=m)(hR:R.size=q):(A++R).extract m (m+q)=R:=by
 refine Zhy λi=> ?_
 rw[jF]
 by_cases hi:i<q
 ·rw[if_pos (by simp;omega),Array.getElem?_append_right (by omega),show m+i - A.size=i by omega]
 ·rw[if_neg (by simp;omega),jG (by omega)]
theorem Yqn{A R:Array Value}{m q:Nat}(h:m+q<=A.size):(A++R).extract m (m+q)=A.extract m (m+q):=by
 refine Zhy λi=> ?_
 rw[jF,jF]
 by_cases hi:i<q
 ·rw[if_pos (by simp;omega),if_pos (by omega),Array.getElem?_append_left (by omega)]
 ·rw[if_neg (by simp;omega),if_neg (by omega)]
theorem Ykh(V:List (Int×Int)->Array Value->Int)(S:Array Value){L:Array Value}(hL:L.size=36)(b h:Int){j:Nat}:∀n,j<n->(catR PZ V S L b h n).extract (j*36) (j*36+36)=rowR PZ V S L b h j
 |0,hj=>by omega
 | n+1,hj=>by
  rw[catR]
  by_cases e:j=n
  ·subst e;exact ext_last (Yer V S hL b h j) (Yir V S hL b h j)
  ·rw[Yqn (by rw[Yer V S hL b h n];omega)];exact Ykh V S hL b h n (by omega)
theorem tide_in{b h:Int}(hb:0<=b/\b<2)(hh:0<=h/\h<=14):(decide (0<=(i64.wrap (b+i64.wrap h)).tmod 2)&&decide ((i64.wrap (b+i64.wrap h)).tmod 2<2))=true:=by rw[w64 (n:=h) (by omega),w64 (n:=b+h) (by omega),Int.tmod_eq_emod_of_nonneg (by omega),Q3 (by omega),Q3 (by omega)];rfl
theorem Ypl:bytesOf PZ 111=288:=by kernel_rfl
def Zd4:Cons:=(mkΓ [(79,con Zi6),(80,con Zm5)])
def Zdt(a0 a1:Array Value)(a2 a3:Int):St:=(⟨.a (.g a0 38)::.a (.g a1 111)::.a (.i .i64 a2)::.a (.i .i64 a3)::.a (.c 70 [])::.a (.w 0)::.a (.w 1)::us 3 (.a (.v (.slice none 0 0))::.a (.l 6)::.a (.i .i64 1)::.a (.g a1 111)::.a (.l 4)::us 22 ([])),[.row a0 38,.row a1 111,.no,.no,.sp,.no,.sl .own 1 (spl (repC (zc PZ 111) 1) 0 a1.toList) 111],[4]⟩:St)
def Zex:Int×Nat×Array Value->LS
 |(y0_12,m0_11,y0_11)=>([.a (.i .i64 y0_12),.a (.l 6)],[.sl .own m0_11 y0_11 111])
def Zje:Int×Nat×Array Value->Exit×LS
 |t=>((.exit 0),Zex t)
def Zb8(P:Program)(a0 a1:Array Value)(a2 a3:Int):Int×Nat×Array Value->Option (Stp (Int×Nat×Array Value) (Int×Nat×Array Value))
 |(y0_12,m0_11,y0_11)=>bif decide (y0_12<=a3) then (bif (decide (0<=(i64.wrap (y0_12 - (1:Int))))&&decide ((i64.wrap (y0_12 - (1:Int)))<(m0_11:Int))) then (bif (okS a0&&(decide (0<=(((i64.wrap (a2+(i64.wrap (a3 - y0_12))))).tmod (2:Int)))&&decide ((((i64.wrap (a2+(i64.wrap (a3 - y0_12))))).tmod (2:Int))<2))) then (bif (jA ((m0_11+1)*bytesOf PZ 111) 140737488355328) then (some (.more ((i64.wrap (y0_12+(1:Int))),(m0_11+1),(y0_11++(spl (repC (zc PZ 111) 1) 0 (rowF PZ sumL a0 (y0_11.extract ((i64.wrap (y0_12 - (1:Int))).toNat*36) (((i64.wrap (y0_12 - (1:Int))).toNat*36)+36)) (((i64.wrap (a2+(i64.wrap (a3 - y0_12))))).tmod (2:Int))).toList))))) else (none)) else (none)) else (none)) else (some (.done (y0_12,m0_11,y0_11)))
noncomputable abbrev cKCmC69:=codeOf f69
def Ueh:=(Uaa cKCmC69 [([12],[1000011,111])]).1
theorem Zuu(N:Nat)(a0 a1:Array Value)(a2 a3:Int):∀t:Int×Nat×Array Value,Uby PZ Zd4 N (cAt cKCmC69 [1,1,0,1,0,0]) (pAt Ueh [1,1,0,1,0]) [12] [] 11 111 6 (Zdt a0 a1 a2 a3) (Zex t)=mapS Zex Zje (Zb8 PZ a0 a1 a2 a3 t):=by
 rintro⟨y0_12,m0_11,y0_11⟩
 conv=>rhs;simp only[Zb8,Zax,Zay,Zaw,Zaz,Zex,Zje]
 kernel_rfl
def Zhq(P:Program)(N:Nat)(a0 a1:Array Value)(a2 a3:Int)(z0_12:Int)(p0_11:Nat)(z0_11:Array Value):Option (SV×Eff×Bool):=some (.a .x,.newS none p0_11 z0_11 111,true)
def Ufh(N:Nat):=(Uad 0 (kSeq (veC PZ Zd4 N (cAt cKCmC69 [1,1,1]) (pAt Ueh [1,1,1]) (SV×Eff×Bool)) (finK PZ [] [.tmp 10])))
theorem Zo1(N:Nat)(a0 a1:Array Value)(a2 a3:Int)(z0_12:Int)(p0_11:Nat)(z0_11:Array Value):(Ufh N) (.exit 0) (left (writes (cAt cKCmC69 [1,1,0,1,0,0])) [12,11] [6] (Zdt a0 a1 a2 a3) ([.a (.i .i64 z0_12),.a (.l 6)],[.sl .own p0_11 z0_11 111]))=Zhq PZ N a0 a1 a2 a3 z0_12 p0_11 z0_11:=by kernel_rfl
theorem Ztu(N:Nat)(a0 a1:Array Value)(a2 a3:Int):Uah (Uab (Uby PZ Zd4 N (cAt cKCmC69 [1,1,0,1,0,0]) (pAt Ueh [1,1,0,1,0]) [12] [] 11 111 6 (Zdt a0 a1 a2 a3)) N ([.a (.i .i64 1),.a (.l 6)],[.sl .own 1 (spl (repC (zc PZ 111) 1) 0 a1.toList) 111])) (λe s=>(Ufh N) e (left (writes (cAt cKCmC69 [1,1,0,1,0,0])) [12,11] [6] (Zdt a0 a1 a2 a3) s))=Uao (Uab (Zb8 PZ a0 a1 a2 a3) N ((1:Int),1,(spl (repC (zc PZ 111) 1) 0 a1.toList))) (λx=>Zhq PZ N a0 a1 a2 a3 x.1 x.2.1 x.2.2):=by refine Za2 Zex Zje _ _ (Zuu N a0 a1 a2 a3) N ((1:Int),1,(spl (repC (zc PZ 111) 1) 0 a1.toList)) _ _ ?_;intro x;exact Zo1 N a0 a1 a2 a3 x.1 x.2.1 x.2.2
theorem Zs2(N:Nat)(a0 a1:Array Value)(a2 a3:Int):ansV PZ Zd4 N f69 [([12],[1000011,111])] [.g a0 38,.g a1 111,.i .i64 a2,.i .i64 a3,.c 70 []] []=(Uao (Uab (Zb8 PZ a0 a1 a2 a3) N ((1:Int),1,(spl (repC (zc PZ 111) 1) 0 a1.toList))) (λx=>Zhq PZ N a0 a1 a2 a3 x.1 x.2.1 x.2.2)):=by
 conv=>rhs;simp only[<- Ztu N a0 a1 a2 a3]
 kernel_rfl
theorem Zq7(a0 a1:Array Value)(a2 a3:Int)(h_a0:WT PZ 38 a0)(h_a1:WT PZ 111 a1)(h_a2:i64.min<=a2/\a2<=i64.max)(h_a3:i64.min<=a3/\a3<=i64.max)(hg:(((okS a0&&(decide (0<=a2)&&decide (a2<2)))&&(decide (0<=a3)&&decide (a3<=14))))=true):ansV PZ Zd4 1000 f69 [([12],[1000011,111])] [.g a0 38,.g a1 111,.i .i64 a2,.i .i64 a3,.c 70 []] []=some (.a .x,.newS none (a3.toNat+1) (catR PZ sumL a0 a1 a2 a3 (a3.toNat+1)) 111,true):=by
 rw[Q7,Q7 (decide (0<=a3))]at hg;obtain⟨hg,hh0,hh1⟩:=hg;have hh:0<=a3/\a3<=14:=⟨of_decide_eq_true hh0,of_decide_eq_true hh1⟩;have hok:=hg;rw[Q7,Q7]at hok;have hb:0<=a2/\a2<2:=⟨of_decide_eq_true hok.2.1,of_decide_eq_true hok.2.2⟩;have hL:a1.size=36:=by rw[h_a1.layLen];kernel_rfl
 obtain⟨m,rfl⟩:∃m:Nat,a3=(m:Int):=⟨a3.toNat,by omega⟩;refine(Zs2 1000 a0 a1 a2 (m:Int)).trans ?_;rw[Yps PZ 111 (by rw[hL,Yj5]),Q9];have h:=Ze0 (g:=Zb8 PZ a0 a1 a2 (m:Int)) (λj=>(((1+j:Nat):Int),1+j,catR PZ sumL a0 a1 a2 (m:Int) (1+j))) (m:=m) (x:=(((1+m:Nat):Int),1+m,catR PZ sumL a0 a1 a2 (m:Int) (1+m))) (N:=1000) (λj hj=>by
  have h1:decide (((1+j:Nat):Int)<=(m:Int))=true:=Q3 (by omega);have h2:i64.wrap (((1+j:Nat):Int) - 1)=(j:Int):=by rw[w64 (by omega)];omega
  have h3:i64.wrap (((1+j:Nat):Int)+1)=((1+(j+1):Nat):Int):=by rw[w64 (by omega)];omega
  have h4:(decide (0<=(j:Int))&&decide ((j:Int)<((1+j:Nat):Int)))=true:=by rw[Q3 (by omega),Q3 (by omega)];rfl
  have h5:=tide_in (b:=a2) (h:=(m:Int) - ((1+j:Nat):Int)) hb (by omega);have h6:jA ((1+j+1)*bytesOf PZ 111) 140737488355328=true:=jC (by rw[Ypl];omega);have h7:(catR PZ sumL a0 a1 a2 (m:Int) (1+j)).extract (j*36) (j*36+36)=rowR PZ sumL a0 a1 a2 (m:Int) j:=Ykh sumL a0 hL a2 _ (1+j) (by omega);simp only[Zb8,h1,h2,h3,h4,h5,h6,h7,hok.1,Bool.and_self,Q9,Q1];rw[Yps PZ 111 (by rw[Yid,Yj5])];rw[show 1+(j+1)=(1+j)+1 by omega,catR,show 1+j=j+1 by omega,rowR]) (by
  have h1:decide (((1+m:Nat):Int)<=(m:Int))=false:=Q4 (by omega);simp only[Zb8,h1,Q2]) (by omega)
 have hc:catR PZ sumL a0 a1 a2 (m:Int) 1=a1:=by rw[catR,catR,rowR];simp
 have h':Uab (Zb8 PZ a0 a1 a2 (m:Int)) 1000 ((1:Int),1,a1)=some (((1+m:Nat):Int),1+m,catR PZ sumL a0 a1 a2 (m:Int) (1+m)):=by have h2:=h;simp only[Nat.add_zero,hc]at h2;exact h2
 rw[h',show 1+m=m+1 by omega];rfl
def Zid:Con:=λargs h=>match args,h with|[.g a0 38,.g a1 111,.i .i64 a2,.i .i64 a3,.c 70 []],[]=>some (.a .x,.newS none (a3.toNat+1) (catR PZ sumL a0 a1 a2 a3 (a3.toNat+1)) 111,((okS a0&&(decide (0<=a2)&&decide (a2<2)))&&(decide (0<=a3)&&decide (a3<=14))))|_,_=>none
theorem Zp6:EntX PZ 69:=Zak (fn:=f69)
theorem Zua:Uac mn PZ 69 Zid:=(ansY (N:=1000) (mKc (Zag Zvk) Zrg (mKc (Zag Yfe) Zzt mKn)) f69 [([12],[1000011,111])]).of (by
 intro ρ h w args vals r e hA hH hr;unfold Zid at hr;split at hr
 ·rename_i a0 a1 a2 a3;obtain⟨rfl,rfl,hg2⟩:=BQi hr;exact Zq7 a0 a1 a2 a3 (hA.wt 0 rfl) (hA.wt 1 rfl) (hA.rng 2 rfl) (hA.rng 3 rfl) hg2
 ·cases hr)
end
end Go.Proofs.YtgllknjdblkhnaaGreatDoor
