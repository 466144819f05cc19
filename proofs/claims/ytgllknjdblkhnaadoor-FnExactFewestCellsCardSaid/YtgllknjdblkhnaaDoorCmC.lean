/- Steps, and rows of numbers that go back, in company. -/
import Derived.Test.YtgllknjdblkhnaaDoorProg
import Derived.Test.YtgllknjdblkhnaaDoorCmB
import Derived.Test.YtgllknjdblkhnaaDoorTzX
set_option linter.unusedVariables false
set_option linter.unusedSimpArgs false
open _root_.Array renaming getElem?_extract->jF,getElem?_eq_none->jG
open _root_.Nat renaming ble->jA,le_refl->jB,ble_eq_true_of_le->jC,le_of_ble_eq_true->jD,mul_le_mul->jE
namespace Go.Proofs.YtgllknjdblkhnaaDoor
open Tryd (f86 f87 f98 f101 f103)
open Go.ChangeShapes Go.WideShapes Go.ChangeAt Go.RowKit Ve Vc
open Tryd (prog)
open IntKind (i64)
set_option maxRecDepth 100000
noncomputable section
variable {mn:Md}
theorem Ztm(N:Nat):ansV prog (mkΓ []) N f103 [] [] []=(some (.a (.g #[.int .u8 1,.int .u8 4,.int .u8 0,.int .u8 2,.int .u8 3] 24),.none,true)):=by kernel_rfl
theorem Zr5  (hg:(true)=true):ansV prog (mkΓ []) 1000 f103 [] [] []=some (.a (.g #[.int .u8 1,.int .u8 4,.int .u8 0,.int .u8 2,.int .u8 3] 24),.none,true):=by refine(Ztm 1000 ).trans ?_;rfl
def Zir:Con:=λargs h=>match args,h with|[],[]=>some (.a (.g #[.int .u8 1,.int .u8 4,.int .u8 0,.int .u8 2,.int .u8 3] 24),.none,true)|_,_=>none
theorem Zp3:EntX prog 103:=Zao (fn:=f103)
theorem Zvq:Uad mn prog 103 Zir:=(ansY (N:=1000) mKn f103 []).of (by
 intro ρ h w args vals r e hA hH hr;unfold Zir at hr;split at hr
 ·obtain⟨rfl,rfl,hg2⟩:=BQi hr;exact Zr5 hg2
 ·cases hr)
def pl(c:Int):Nat->Array Value
 |0=>#[.int .i64 (c.tmod 6),.int .i64 (i64.wrap (c.tdiv 6))]
 |1=>#[.int .i64 (c.tmod 6),.int .i64 (i64.wrap (i64.wrap (c.tdiv 6) - 1))]
 |2=>#[.int .i64 (i64.wrap (c.tmod 6+1)),.int .i64 (i64.wrap (c.tdiv 6))]
 |3=>#[.int .i64 (c.tmod 6),.int .i64 (i64.wrap (i64.wrap (c.tdiv 6)+1))]
 |_=>#[.int .i64 (i64.wrap (c.tmod 6 - 1)),.int .i64 (i64.wrap (c.tdiv 6))]
theorem Uf3{S:Array Value}(h0:1<=num S 0/\num S 0<=6/\1<=num S 1/\num S 1<=6)(x y:Int):Zar S #[.int .i64 x,.int .i64 y]=decide (0<=x/\x<num S 0/\0<=y/\y<num S 1):=by
 obtain⟨a1,a2,a3,a4⟩:=h0
 show (bif decide (x>=0) then (bif decide (x<i64.wrap (num S 0)) then (bif decide (y>=0) then decide (y<i64.wrap (num S 1)) else false) else false) else false)=_
 rw[w64 (n:=num S 0) (by omega),w64 (n:=num S 1) (by omega)];have:∀a b c d:Prop,[Decidable a]->[Decidable b]->[Decidable c]->[Decidable d]->(bif decide a then (bif decide b then (bif decide c then decide d else false) else false) else false)=decide (a/\b/\c/\d):=by
  intro a b c d _ _ _ _
  by_cases a<;>by_cases b<;>by_cases c<;>by_cases d<;>simp[*]
 exact this _ _ _ _
theorem Ykp{S:Array Value}(h0:1<=num S 0/\num S 0<=6/\1<=num S 1/\num S 1<=6){k:Nat}(hk:k<36)(hi:inC (num S 0) (num S 1) k=true)(w:Nat)(hw:w<5):
  Zar S (pl (k:Int) w)=decide (gw S k w ≠ -1)/\(gw S k w ≠ -1->i64.wrap (num (pl (k:Int) w) 0+i64.wrap (6*num (pl (k:Int) w) 1))=gw S k w):=by
 obtain⟨hx,hy⟩:=Yia hi;obtain⟨ex,ey⟩:=xy hk;have hxl:k % 6<6:=Nat.mod_lt _ (by omega);have hyl:k / 6<6:=by omega
 have hk6:k=6*(k / 6)+k % 6:=by omega
 have h0':=h0;obtain⟨a1,a2,a3,a4⟩:=h0;generalize hX:k % 6=X at *;generalize hY:k / 6=Y at *;have eY:i64.wrap ((Y:Nat):Int)=Y:=w64 (by omega)
 match w,hw with
 | 0,_=>
  have e:pl (k:Int) 0=#[.int .i64 (X:Int),.int .i64 (Y:Int)]:=by unfold pl;rw[ex,ey,eY];rfl
  rw[e,Uf3 h0'];refine⟨decide_eq_decide.2 ?_,λ_=> ?_⟩
  ·show _ ↔ (k:Int) ≠ -1;omega
  ·show i64.wrap ((X:Int)+i64.wrap (6*(Y:Int)))=(k:Int)
   rw[w64 (n:=6*(Y:Int)) (by omega),w64 (by omega)];omega
 | 1,_=>
  have e:pl (k:Int) 1=#[.int .i64 (X:Int),.int .i64 ((Y:Int) - 1)]:=by unfold pl;rw[ex,ey,eY,w64 (n:=(Y:Int) - 1) (by omega)];rfl
  rw[e,Uf3 h0'];have hg:gw S k 1=if 6<=k then (k:Int) - 6 else -1:=by unfold gw;by_cases c:6<=k<;>simp[c]
  rw[hg];refine⟨decide_eq_decide.2 ?_,λhn=> ?_⟩
  ·split<;>omega
  ·show i64.wrap ((X:Int)+i64.wrap (6*((Y:Int) - 1)))=_
   rw[w64 (n:=6*((Y:Int) - 1)) (by omega),w64 (by omega)];split at hn<;>split<;>omega
 | 2,_=>
  have e:pl (k:Int) 2=#[.int .i64 ((X:Int)+1),.int .i64 (Y:Int)]:=by unfold pl;rw[ex,ey,eY,w64 (n:=(X:Int)+1) (by omega)];rfl
  rw[e,Uf3 h0'];have hg:gw S k 2=if (X:Int)+1<num S 0 then (k:Int)+1 else -1:=by unfold gw;rw[hX];by_cases c:(X:Int)+1<num S 0<;>simp[c]
  rw[hg];refine⟨decide_eq_decide.2 ?_,λhn=> ?_⟩
  ·split<;>omega
  ·show i64.wrap ((X:Int)+1+i64.wrap (6*(Y:Int)))=_
   rw[w64 (n:=6*(Y:Int)) (by omega),w64 (by omega)];split at hn<;>split<;>omega
 | 3,_=>
  have e:pl (k:Int) 3=#[.int .i64 (X:Int),.int .i64 ((Y:Int)+1)]:=by unfold pl;rw[ex,ey,eY,w64 (n:=(Y:Int)+1) (by omega)];rfl
  rw[e,Uf3 h0'];have hg:gw S k 3=if (Y:Int)+1<num S 1 then (k:Int)+6 else -1:=by unfold gw;rw[hY];by_cases c:(Y:Int)+1<num S 1<;>simp[c]
  rw[hg];refine⟨decide_eq_decide.2 ?_,λhn=> ?_⟩
  ·split<;>omega
  ·show i64.wrap ((X:Int)+i64.wrap (6*((Y:Int)+1)))=_
   rw[w64 (n:=6*((Y:Int)+1)) (by omega),w64 (by omega)];split at hn<;>split<;>omega
 | 4,_=>
  have e:pl (k:Int) 4=#[.int .i64 ((X:Int) - 1),.int .i64 (Y:Int)]:=by unfold pl;rw[ex,ey,eY,w64 (n:=(X:Int) - 1) (by omega)];rfl
  rw[e,Uf3 h0'];have hg:gw S k 4=if 1<=X then (k:Int) - 1 else -1:=by unfold gw;rw[hX];by_cases c:1<=X<;>simp[c]
  rw[hg];refine⟨decide_eq_decide.2 ?_,λhn=> ?_⟩
  ·split<;>omega
  ·show i64.wrap ((X:Int) - 1+i64.wrap (6*(Y:Int)))=_
   rw[w64 (n:=6*(Y:Int)) (by omega),w64 (by omega)];split at hn<;>split<;>omega
def Ubc(S:Array Value)(t:Int)(k w:Nat):List (Int×Int):=bif decide (chW S t (k:Int) w > 0)&&decide (gw S k w ≠ -1) then [(gw S k w,chW S t (k:Int) w)] else []
def stL(S:Array Value)(t:Int)(k:Nat):List (Int×Int):=bif Zbl S (k:Int) then [((k:Int),12)] else Ubc S t k 1++Ubc S t k 4++Ubc S t k 0++Ubc S t k 2++Ubc S t k 3
def Ubn(l:List (Int×Int)):Array Value:=⟨l.flatMap λp=>[.int .i64 p.1,.int .i64 p.2]⟩
theorem Yf2(l m:List (Int×Int)):Ubn (l++m)=Ubn l++Ubn m:=by unfold Ubn;simp
def stF(S:Array Value)(t c:Int)(w:Nat)(q:Nat×Array Value):Nat×Array Value:=
 bif decide (chW S t c w > 0) then (bif Zar S (pl c w) then (q.1+1,q.2++#[.int .i64 (i64.wrap (num (pl c w) 0+i64.wrap (6*num (pl c w) 1))),.int .i64 (chW S t c w)]) else (q.1,q.2)) else (q.1,q.2)
theorem Yab{S:Array Value}(h0:1<=num S 0/\num S 0<=6/\1<=num S 1/\num S 1<=6){k:Nat}(hk:k<36)(hi:inC (num S 0) (num S 1) k=true)(t:Int){w:Nat}(hw:w<5)(l:List (Int×Int)):
  stF S t (k:Int) w (l.length,Ubn l)=((l++Ubc S t k w).length,Ubn (l++Ubc S t k w)):=by
 obtain⟨h1,h2⟩:=Ykp h0 hk hi w hw;unfold stF Ubc;rw[h1];cases decide (chW S t (k:Int) w > 0) with|false=>simp| true=>cases hd:decide (gw S k w ≠ -1) with|false=>simp|true=>rw[h2 (of_decide_eq_true hd)];simp only[Q1,Bool.and_self,List.length_append,List.length_cons,List.length_nil,Yf2];rfl
def Zbg:Cons:=(mkΓ [(94,con Zjl),(95,con Zhv),(96,con Zil),(97,con Zhh),(102,con Zk0),(103,con Zir),(104,con Zi3),(105,con Zh8),(106,con Zit),(107,con Zhz),(108,con Zi2)])
def Ziv(t:Nat×Array Value):LS:=([.a (.i .i64 0),.a (.l 5)],[.sl .own t.1 t.2 178])
def Zl5(t:Nat×Array Value):LS:=([.a (.i .i64 1),.a (.l 5)],[.sl .own t.1 t.2 178])
def Zlu(t:Nat×Array Value):LS:=([.a (.i .i64 2),.a (.l 5)],[.sl .own t.1 t.2 178])
def Zlo(t:Nat×Array Value):LS:=([.a (.i .i64 3),.a (.l 5)],[.sl .own t.1 t.2 178])
def Zl3(t:Nat×Array Value):LS:=([.a (.i .i64 4),.a (.l 5)],[.sl .own t.1 t.2 178])
def Zf7(t:Nat×Array Value):LS:=([.a (.i .i64 5),.a (.l 5)],[.sl .own t.1 t.2 178])
def Zas(a0:Array Value)(a1 a2:Int)(t:Nat×Array Value):Nat×Array Value:=bif decide ((i64.wrap (num a0 (((3+((a2).toNat*180))+((a1).toNat*5))+1))) > (0:Int)) then (bif (Zar a0 (#[.int .i64 (num (#[.int .i64 ((a1).tmod (6:Int)),.int .i64 (i64.wrap ((a1).tdiv (6:Int)))]:Array Value) 0),.int .i64 (i64.wrap ((num (#[.int .i64 ((a1).tmod (6:Int)),.int .i64 (i64.wrap ((a1).tdiv (6:Int)))]:Array Value) 1) - (1:Int)))]:Array Value)) then (((t.1+1),(t.2++(#[.int .i64 (i64.wrap ((num (#[.int .i64 (num (#[.int .i64 ((a1).tmod (6:Int)),.int .i64 (i64.wrap ((a1).tdiv (6:Int)))]:Array Value) 0),.int .i64 (i64.wrap ((num (#[.int .i64 ((a1).tmod (6:Int)),.int .i64 (i64.wrap ((a1).tdiv (6:Int)))]:Array Value) 1) - (1:Int)))]:Array Value) 0)+(i64.wrap ((6:Int)*(num (#[.int .i64 (num (#[.int .i64 ((a1).tmod (6:Int)),.int .i64 (i64.wrap ((a1).tdiv (6:Int)))]:Array Value) 0),.int .i64 (i64.wrap ((num (#[.int .i64 ((a1).tmod (6:Int)),.int .i64 (i64.wrap ((a1).tdiv (6:Int)))]:Array Value) 1) - (1:Int)))]:Array Value) 1))))),.int .i64 (i64.wrap (num a0 (((3+((a2).toNat*180))+((a1).toNat*5))+1)))]:Array Value)))) else ((t.1,t.2))) else ((t.1,t.2))
noncomputable abbrev cKCmC101:=codeOf f101
def Ubo:=(Uaa cKCmC101 [([21],[1000007,178])]).1
def Ubi(a0:Array Value)(a1 a2:Int):=(⟨.a (.g a0 35)::.a (.i .i64 a1)::.a (.i .i64 a2)::.a (.w 0)::.a (.u)::.a (.u)::.a (.v (.slice none 0 0))::.a (.l 5)::.a (.w 3)::us 4 (.a (.g a0 35)::.a (.i .i64 a1)::.a (.b ((Zbl a0 a1)))::us 3 (.a (.g #[.func (.func 104) #[] #[],.func (.func 105) #[] #[],.func (.func 106) #[] #[],.func (.func 107) #[] #[],.func (.func 108) #[] #[]] 183)::.a (.g #[.int .u8 1,.int .u8 4,.int .u8 0,.int .u8 2,.int .u8 3] 24)::.a (.i .i64 0)::us 34 ([]))),[.row a0 35,.no,.no,.row #[.func (.func 104) #[] #[],.func (.func 105) #[] #[],.func (.func 106) #[] #[],.func (.func 107) #[] #[],.func (.func 108) #[] #[]] 183,.no,.sl .own 0 (#[]:Array Value) 178],[3]⟩:St)
theorem Zts(N:Nat)(a0:Array Value)(a1 a2:Int)(hq0:(decide (0<=a2)&&decide (a2<2))=true)(hq1:(decide (0<=a1)&&decide (a1<36))=true)(t:Nat×Array Value)(hl:t.1<=1000000):Ubx prog Zbg N (cAt cKCmC101 [1,1,1,1,0,1,0,0]) (pAt Ubo [1,1,1,1,0,1,0]) [21] [] 7 178 5 (Ubi a0 a1 a2) (Ziv t)=some (.more (Zl5 (Zas a0 a1 a2 t))):=by
 refine Eq.trans (b:=(bif (decide (0<=a2)&&decide (a2<2)) then (bif (decide (0<=a1)&&decide (a1<36)) then (bif decide ((i64.wrap (num a0 (((3+((a2).toNat*180))+((a1).toNat*5))+1))) > (0:Int)) then (bif (Zar a0 (#[.int .i64 (num (#[.int .i64 ((a1).tmod (6:Int)),.int .i64 (i64.wrap ((a1).tdiv (6:Int)))]:Array Value) 0),.int .i64 (i64.wrap ((num (#[.int .i64 ((a1).tmod (6:Int)),.int .i64 (i64.wrap ((a1).tdiv (6:Int)))]:Array Value) 1) - (1:Int)))]:Array Value)) then (bif (jA ((t.1+1)*bytesOf prog 178) 140737488355328) then (some (.more ([.a (.i .i64 1),.a (.l 5)],[.sl .own (t.1+1) (t.2++(#[.int .i64 (i64.wrap ((num (#[.int .i64 (num (#[.int .i64 ((a1).tmod (6:Int)),.int .i64 (i64.wrap ((a1).tdiv (6:Int)))]:Array Value) 0),.int .i64 (i64.wrap ((num (#[.int .i64 ((a1).tmod (6:Int)),.int .i64 (i64.wrap ((a1).tdiv (6:Int)))]:Array Value) 1) - (1:Int)))]:Array Value) 0)+(i64.wrap ((6:Int)*(num (#[.int .i64 (num (#[.int .i64 ((a1).tmod (6:Int)),.int .i64 (i64.wrap ((a1).tdiv (6:Int)))]:Array Value) 0),.int .i64 (i64.wrap ((num (#[.int .i64 ((a1).tmod (6:Int)),.int .i64 (i64.wrap ((a1).tdiv (6:Int)))]:Array Value) 1) - (1:Int)))]:Array Value) 1))))),.int .i64 (i64.wrap (num a0 (((3+((a2).toNat*180))+((a1).toNat*5))+1)))]:Array Value)) 178]))) else (none)) else (some (.more ([.a (.i .i64 1),.a (.l 5)],[.sl .own t.1 t.2 178])))) else (some (.more ([.a (.i .i64 1),.a (.l 5)],[.sl .own t.1 t.2 178])))) else (none)) else (none))) (by kernel_rfl) ?_
 have hb:bytesOf prog 178<=1000000:=jD (by kernel_rfl);have g2:(jA ((t.1+1)*bytesOf prog 178) 140737488355328)=true:=jC (Nat.le_trans (jE (show _<=1000001 by omega) hb) (by decide));simp only[Zas,Zp1,g2,hq0,hq1,Q1];rfl
theorem Ztd(a0:Array Value)(a1 a2:Int)(t:Nat×Array Value):(Zas a0 a1 a2 t).1<=t.1+1:=by
 unfold Zas
 repeat (first|exact jB _|exact Nat.le_succ _|refine Zlq ?_ ?_)
def Zax(a0:Array Value)(a1 a2:Int)(t:Nat×Array Value):Nat×Array Value:=bif decide ((i64.wrap (num a0 (((3+((a2).toNat*180))+((a1).toNat*5))+4))) > (0:Int)) then (bif (Zar a0 (#[.int .i64 (i64.wrap ((num (#[.int .i64 ((a1).tmod (6:Int)),.int .i64 (i64.wrap ((a1).tdiv (6:Int)))]:Array Value) 0) - (1:Int))),.int .i64 (num (#[.int .i64 ((a1).tmod (6:Int)),.int .i64 (i64.wrap ((a1).tdiv (6:Int)))]:Array Value) 1)]:Array Value)) then (((t.1+1),(t.2++(#[.int .i64 (i64.wrap ((num (#[.int .i64 (i64.wrap ((num (#[.int .i64 ((a1).tmod (6:Int)),.int .i64 (i64.wrap ((a1).tdiv (6:Int)))]:Array Value) 0) - (1:Int))),.int .i64 (num (#[.int .i64 ((a1).tmod (6:Int)),.int .i64 (i64.wrap ((a1).tdiv (6:Int)))]:Array Value) 1)]:Array Value) 0)+(i64.wrap ((6:Int)*(num (#[.int .i64 (i64.wrap ((num (#[.int .i64 ((a1).tmod (6:Int)),.int .i64 (i64.wrap ((a1).tdiv (6:Int)))]:Array Value) 0) - (1:Int))),.int .i64 (num (#[.int .i64 ((a1).tmod (6:Int)),.int .i64 (i64.wrap ((a1).tdiv (6:Int)))]:Array Value) 1)]:Array Value) 1))))),.int .i64 (i64.wrap (num a0 (((3+((a2).toNat*180))+((a1).toNat*5))+4)))]:Array Value)))) else ((t.1,t.2))) else ((t.1,t.2))
theorem Zs6(N:Nat)(a0:Array Value)(a1 a2:Int)(hq0:(decide (0<=a2)&&decide (a2<2))=true)(hq1:(decide (0<=a1)&&decide (a1<36))=true)(t:Nat×Array Value)(hl:t.1<=1000000):Ubx prog Zbg N (cAt cKCmC101 [1,1,1,1,0,1,0,0]) (pAt Ubo [1,1,1,1,0,1,0]) [21] [] 7 178 5 (Ubi a0 a1 a2) (Zl5 t)=some (.more (Zlu (Zax a0 a1 a2 t))):=by
 refine Eq.trans (b:=(bif (decide (0<=a2)&&decide (a2<2)) then (bif (decide (0<=a1)&&decide (a1<36)) then (bif decide ((i64.wrap (num a0 (((3+((a2).toNat*180))+((a1).toNat*5))+4))) > (0:Int)) then (bif (Zar a0 (#[.int .i64 (i64.wrap ((num (#[.int .i64 ((a1).tmod (6:Int)),.int .i64 (i64.wrap ((a1).tdiv (6:Int)))]:Array Value) 0) - (1:Int))),.int .i64 (num (#[.int .i64 ((a1).tmod (6:Int)),.int .i64 (i64.wrap ((a1).tdiv (6:Int)))]:Array Value) 1)]:Array Value)) then (bif (jA ((t.1+1)*bytesOf prog 178) 140737488355328) then (some (.more ([.a (.i .i64 2),.a (.l 5)],[.sl .own (t.1+1) (t.2++(#[.int .i64 (i64.wrap ((num (#[.int .i64 (i64.wrap ((num (#[.int .i64 ((a1).tmod (6:Int)),.int .i64 (i64.wrap ((a1).tdiv (6:Int)))]:Array Value) 0) - (1:Int))),.int .i64 (num (#[.int .i64 ((a1).tmod (6:Int)),.int .i64 (i64.wrap ((a1).tdiv (6:Int)))]:Array Value) 1)]:Array Value) 0)+(i64.wrap ((6:Int)*(num (#[.int .i64 (i64.wrap ((num (#[.int .i64 ((a1).tmod (6:Int)),.int .i64 (i64.wrap ((a1).tdiv (6:Int)))]:Array Value) 0) - (1:Int))),.int .i64 (num (#[.int .i64 ((a1).tmod (6:Int)),.int .i64 (i64.wrap ((a1).tdiv (6:Int)))]:Array Value) 1)]:Array Value) 1))))),.int .i64 (i64.wrap (num a0 (((3+((a2).toNat*180))+((a1).toNat*5))+4)))]:Array Value)) 178]))) else (none)) else (some (.more ([.a (.i .i64 2),.a (.l 5)],[.sl .own t.1 t.2 178])))) else (some (.more ([.a (.i .i64 2),.a (.l 5)],[.sl .own t.1 t.2 178])))) else (none)) else (none))) (by kernel_rfl) ?_
 have hb:bytesOf prog 178<=1000000:=jD (by kernel_rfl);have g2:(jA ((t.1+1)*bytesOf prog 178) 140737488355328)=true:=jC (Nat.le_trans (jE (show _<=1000001 by omega) hb) (by decide));simp only[Zax,Zp1,g2,hq0,hq1,Q1];rfl
theorem Ztn(a0:Array Value)(a1 a2:Int)(t:Nat×Array Value):(Zax a0 a1 a2 t).1<=t.1+1:=by
 unfold Zax
 repeat (first|exact jB _|exact Nat.le_succ _|refine Zlq ?_ ?_)
def Zbb(a0:Array Value)(a1 a2:Int)(t:Nat×Array Value):Nat×Array Value:=bif decide ((i64.wrap (num a0 (((3+((a2).toNat*180))+((a1).toNat*5))+0))) > (0:Int)) then (bif (Zar a0 (#[.int .i64 ((a1).tmod (6:Int)),.int .i64 (i64.wrap ((a1).tdiv (6:Int)))]:Array Value)) then (((t.1+1),(t.2++(#[.int .i64 (i64.wrap ((num (#[.int .i64 ((a1).tmod (6:Int)),.int .i64 (i64.wrap ((a1).tdiv (6:Int)))]:Array Value) 0)+(i64.wrap ((6:Int)*(num (#[.int .i64 ((a1).tmod (6:Int)),.int .i64 (i64.wrap ((a1).tdiv (6:Int)))]:Array Value) 1))))),.int .i64 (i64.wrap (num a0 (((3+((a2).toNat*180))+((a1).toNat*5))+0)))]:Array Value)))) else ((t.1,t.2))) else ((t.1,t.2))
theorem Ztw(N:Nat)(a0:Array Value)(a1 a2:Int)(hq0:(decide (0<=a2)&&decide (a2<2))=true)(hq1:(decide (0<=a1)&&decide (a1<36))=true)(t:Nat×Array Value)(hl:t.1<=1000000):Ubx prog Zbg N (cAt cKCmC101 [1,1,1,1,0,1,0,0]) (pAt Ubo [1,1,1,1,0,1,0]) [21] [] 7 178 5 (Ubi a0 a1 a2) (Zlu t)=some (.more (Zlo (Zbb a0 a1 a2 t))):=by refine Eq.trans (b:=(bif (decide (0<=a2)&&decide (a2<2)) then (bif (decide (0<=a1)&&decide (a1<36)) then (bif decide ((i64.wrap (num a0 (((3+((a2).toNat*180))+((a1).toNat*5))+0))) > (0:Int)) then (bif (Zar a0 (#[.int .i64 ((a1).tmod (6:Int)),.int .i64 (i64.wrap ((a1).tdiv (6:Int)))]:Array Value)) then (bif (jA ((t.1+1)*bytesOf prog 178) 140737488355328) then (some (.more ([.a (.i .i64 3),.a (.l 5)],[.sl .own (t.1+1) (t.2++(#[.int .i64 (i64.wrap ((num (#[.int .i64 ((a1).tmod (6:Int)),.int .i64 (i64.wrap ((a1).tdiv (6:Int)))]:Array Value) 0)+(i64.wrap ((6:Int)*(num (#[.int .i64 ((a1).tmod (6:Int)),.int .i64 (i64.wrap ((a1).tdiv (6:Int)))]:Array Value) 1))))),.int .i64 (i64.wrap (num a0 (((3+((a2).toNat*180))+((a1).toNat*5))+0)))]:Array Value)) 178]))) else (none)) else (some (.more ([.a (.i .i64 3),.a (.l 5)],[.sl .own t.1 t.2 178])))) else (some (.more ([.a (.i .i64 3),.a (.l 5)],[.sl .own t.1 t.2 178])))) else (none)) else (none))) (by kernel_rfl) ?_;have hb:bytesOf prog 178<=1000000:=jD (by kernel_rfl);have g2:(jA ((t.1+1)*bytesOf prog 178) 140737488355328)=true:=jC (Nat.le_trans (jE (show _<=1000001 by omega) hb) (by decide));simp only[Zbb,Zp1,g2,hq0,hq1,Q1];rfl
theorem Zs4(a0:Array Value)(a1 a2:Int)(t:Nat×Array Value):(Zbb a0 a1 a2 t).1<=t.1+1:=by
 unfold Zbb
 repeat (first|exact jB _|exact Nat.le_succ _|refine Zlq ?_ ?_)
def Zbs(a0:Array Value)(a1 a2:Int)(t:Nat×Array Value):Nat×Array Value:=bif decide ((i64.wrap (num a0 (((3+((a2).toNat*180))+((a1).toNat*5))+2))) > (0:Int)) then (bif (Zar a0 (#[.int .i64 (i64.wrap ((num (#[.int .i64 ((a1).tmod (6:Int)),.int .i64 (i64.wrap ((a1).tdiv (6:Int)))]:Array Value) 0)+(1:Int))),.int .i64 (num (#[.int .i64 ((a1).tmod (6:Int)),.int .i64 (i64.wrap ((a1).tdiv (6:Int)))]:Array Value) 1)]:Array Value)) then (((t.1+1),(t.2++(#[.int .i64 (i64.wrap ((num (#[.int .i64 (i64.wrap ((num (#[.int .i64 ((a1).tmod (6:Int)),.int .i64 (i64.wrap ((a1).tdiv (6:Int)))]:Array Value) 0)+(1:Int))),.int .i64 (num (#[.int .i64 ((a1).tmod (6:Int)),.int .i64 (i64.wrap ((a1).tdiv (6:Int)))]:Array Value) 1)]:Array Value) 0)+(i64.wrap ((6:Int)*(num (#[.int .i64 (i64.wrap ((num (#[.int .i64 ((a1).tmod (6:Int)),.int .i64 (i64.wrap ((a1).tdiv (6:Int)))]:Array Value) 0)+(1:Int))),.int .i64 (num (#[.int .i64 ((a1).tmod (6:Int)),.int .i64 (i64.wrap ((a1).tdiv (6:Int)))]:Array Value) 1)]:Array Value) 1))))),.int .i64 (i64.wrap (num a0 (((3+((a2).toNat*180))+((a1).toNat*5))+2)))]:Array Value)))) else ((t.1,t.2))) else ((t.1,t.2))
theorem Zs5(N:Nat)(a0:Array Value)(a1 a2:Int)(hq0:(decide (0<=a2)&&decide (a2<2))=true)(hq1:(decide (0<=a1)&&decide (a1<36))=true)(t:Nat×Array Value)(hl:t.1<=1000000):Ubx prog Zbg N (cAt cKCmC101 [1,1,1,1,0,1,0,0]) (pAt Ubo [1,1,1,1,0,1,0]) [21] [] 7 178 5 (Ubi a0 a1 a2) (Zlo t)=some (.more (Zl3 (Zbs a0 a1 a2 t))):=by
 refine Eq.trans (b:=(bif (decide (0<=a2)&&decide (a2<2)) then (bif (decide (0<=a1)&&decide (a1<36)) then (bif decide ((i64.wrap (num a0 (((3+((a2).toNat*180))+((a1).toNat*5))+2))) > (0:Int)) then (bif (Zar a0 (#[.int .i64 (i64.wrap ((num (#[.int .i64 ((a1).tmod (6:Int)),.int .i64 (i64.wrap ((a1).tdiv (6:Int)))]:Array Value) 0)+(1:Int))),.int .i64 (num (#[.int .i64 ((a1).tmod (6:Int)),.int .i64 (i64.wrap ((a1).tdiv (6:Int)))]:Array Value) 1)]:Array Value)) then (bif (jA ((t.1+1)*bytesOf prog 178) 140737488355328) then (some (.more ([.a (.i .i64 4),.a (.l 5)],[.sl .own (t.1+1) (t.2++(#[.int .i64 (i64.wrap ((num (#[.int .i64 (i64.wrap ((num (#[.int .i64 ((a1).tmod (6:Int)),.int .i64 (i64.wrap ((a1).tdiv (6:Int)))]:Array Value) 0)+(1:Int))),.int .i64 (num (#[.int .i64 ((a1).tmod (6:Int)),.int .i64 (i64.wrap ((a1).tdiv (6:Int)))]:Array Value) 1)]:Array Value) 0)+(i64.wrap ((6:Int)*(num (#[.int .i64 (i64.wrap ((num (#[.int .i64 ((a1).tmod (6:Int)),.int .i64 (i64.wrap ((a1).tdiv (6:Int)))]:Array Value) 0)+(1:Int))),.int .i64 (num (#[.int .i64 ((a1).tmod (6:Int)),.int .i64 (i64.wrap ((a1).tdiv (6:Int)))]:Array Value) 1)]:Array Value) 1))))),.int .i64 (i64.wrap (num a0 (((3+((a2).toNat*180))+((a1).toNat*5))+2)))]:Array Value)) 178]))) else (none)) else (some (.more ([.a (.i .i64 4),.a (.l 5)],[.sl .own t.1 t.2 178])))) else (some (.more ([.a (.i .i64 4),.a (.l 5)],[.sl .own t.1 t.2 178])))) else (none)) else (none))) (by kernel_rfl) ?_
 have hb:bytesOf prog 178<=1000000:=jD (by kernel_rfl);have g2:(jA ((t.1+1)*bytesOf prog 178) 140737488355328)=true:=jC (Nat.le_trans (jE (show _<=1000001 by omega) hb) (by decide));simp only[Zbs,Zp1,g2,hq0,hq1,Q1];rfl
theorem Ztj(a0:Array Value)(a1 a2:Int)(t:Nat×Array Value):(Zbs a0 a1 a2 t).1<=t.1+1:=by
 unfold Zbs
 repeat (first|exact jB _|exact Nat.le_succ _|refine Zlq ?_ ?_)
def Zc0(a0:Array Value)(a1 a2:Int)(t:Nat×Array Value):Nat×Array Value:=bif decide ((i64.wrap (num a0 (((3+((a2).toNat*180))+((a1).toNat*5))+3))) > (0:Int)) then (bif (Zar a0 (#[.int .i64 (num (#[.int .i64 ((a1).tmod (6:Int)),.int .i64 (i64.wrap ((a1).tdiv (6:Int)))]:Array Value) 0),.int .i64 (i64.wrap ((num (#[.int .i64 ((a1).tmod (6:Int)),.int .i64 (i64.wrap ((a1).tdiv (6:Int)))]:Array Value) 1)+(1:Int)))]:Array Value)) then (((t.1+1),(t.2++(#[.int .i64 (i64.wrap ((num (#[.int .i64 (num (#[.int .i64 ((a1).tmod (6:Int)),.int .i64 (i64.wrap ((a1).tdiv (6:Int)))]:Array Value) 0),.int .i64 (i64.wrap ((num (#[.int .i64 ((a1).tmod (6:Int)),.int .i64 (i64.wrap ((a1).tdiv (6:Int)))]:Array Value) 1)+(1:Int)))]:Array Value) 0)+(i64.wrap ((6:Int)*(num (#[.int .i64 (num (#[.int .i64 ((a1).tmod (6:Int)),.int .i64 (i64.wrap ((a1).tdiv (6:Int)))]:Array Value) 0),.int .i64 (i64.wrap ((num (#[.int .i64 ((a1).tmod (6:Int)),.int .i64 (i64.wrap ((a1).tdiv (6:Int)))]:Array Value) 1)+(1:Int)))]:Array Value) 1))))),.int .i64 (i64.wrap (num a0 (((3+((a2).toNat*180))+((a1).toNat*5))+3)))]:Array Value)))) else ((t.1,t.2))) else ((t.1,t.2))
theorem Zs2(N:Nat)(a0:Array Value)(a1 a2:Int)(hq0:(decide (0<=a2)&&decide (a2<2))=true)(hq1:(decide (0<=a1)&&decide (a1<36))=true)(t:Nat×Array Value)(hl:t.1<=1000000):Ubx prog Zbg N (cAt cKCmC101 [1,1,1,1,0,1,0,0]) (pAt Ubo [1,1,1,1,0,1,0]) [21] [] 7 178 5 (Ubi a0 a1 a2) (Zl3 t)=some (.more (Zf7 (Zc0 a0 a1 a2 t))):=by
 refine Eq.trans (b:=(bif (decide (0<=a2)&&decide (a2<2)) then (bif (decide (0<=a1)&&decide (a1<36)) then (bif decide ((i64.wrap (num a0 (((3+((a2).toNat*180))+((a1).toNat*5))+3))) > (0:Int)) then (bif (Zar a0 (#[.int .i64 (num (#[.int .i64 ((a1).tmod (6:Int)),.int .i64 (i64.wrap ((a1).tdiv (6:Int)))]:Array Value) 0),.int .i64 (i64.wrap ((num (#[.int .i64 ((a1).tmod (6:Int)),.int .i64 (i64.wrap ((a1).tdiv (6:Int)))]:Array Value) 1)+(1:Int)))]:Array Value)) then (bif (jA ((t.1+1)*bytesOf prog 178) 140737488355328) then (some (.more ([.a (.i .i64 5),.a (.l 5)],[.sl .own (t.1+1) (t.2++(#[.int .i64 (i64.wrap ((num (#[.int .i64 (num (#[.int .i64 ((a1).tmod (6:Int)),.int .i64 (i64.wrap ((a1).tdiv (6:Int)))]:Array Value) 0),.int .i64 (i64.wrap ((num (#[.int .i64 ((a1).tmod (6:Int)),.int .i64 (i64.wrap ((a1).tdiv (6:Int)))]:Array Value) 1)+(1:Int)))]:Array Value) 0)+(i64.wrap ((6:Int)*(num (#[.int .i64 (num (#[.int .i64 ((a1).tmod (6:Int)),.int .i64 (i64.wrap ((a1).tdiv (6:Int)))]:Array Value) 0),.int .i64 (i64.wrap ((num (#[.int .i64 ((a1).tmod (6:Int)),.int .i64 (i64.wrap ((a1).tdiv (6:Int)))]:Array Value) 1)+(1:Int)))]:Array Value) 1))))),.int .i64 (i64.wrap (num a0 (((3+((a2).toNat*180))+((a1).toNat*5))+3)))]:Array Value)) 178]))) else (none)) else (some (.more ([.a (.i .i64 5),.a (.l 5)],[.sl .own t.1 t.2 178])))) else (some (.more ([.a (.i .i64 5),.a (.l 5)],[.sl .own t.1 t.2 178])))) else (none)) else (none))) (by kernel_rfl) ?_
 have hb:bytesOf prog 178<=1000000:=jD (by kernel_rfl);have g2:(jA ((t.1+1)*bytesOf prog 178) 140737488355328)=true:=jC (Nat.le_trans (jE (show _<=1000001 by omega) hb) (by decide));simp only[Zc0,Zp1,g2,hq0,hq1,Q1];rfl
theorem Zsp(a0:Array Value)(a1 a2:Int)(t:Nat×Array Value):(Zc0 a0 a1 a2 t).1<=t.1+1:=by
 unfold Zc0
 repeat (first|exact jB _|exact Nat.le_succ _|refine Zlq ?_ ?_)
theorem Zs9(N:Nat)(a0:Array Value)(a1 a2:Int)(hq0:(decide (0<=a2)&&decide (a2<2))=true)(hq1:(decide (0<=a1)&&decide (a1<36))=true)(t:Nat×Array Value):Ubx prog Zbg N (cAt cKCmC101 [1,1,1,1,0,1,0,0]) (pAt Ubo [1,1,1,1,0,1,0]) [21] [] 7 178 5 (Ubi a0 a1 a2) (Zf7 t)=some (.done ((.exit 0),Zf7 t)):=by kernel_rfl
def Zc4(a0:Array Value)(a1 a2:Int):Nat×Array Value:=(Zc0 a0 a1 a2 (Zbs a0 a1 a2 (Zbb a0 a1 a2 (Zax a0 a1 a2 (Zas a0 a1 a2 (0,(#[]:Array Value)))))))
theorem Zxk(N:Nat)(hN:5<N)(a0:Array Value)(a1 a2:Int)(hq0:(decide (0<=a2)&&decide (a2<2))=true)(hq1:(decide (0<=a1)&&decide (a1<36))=true):Uab (Ubx prog Zbg N (cAt cKCmC101 [1,1,1,1,0,1,0,0]) (pAt Ubo [1,1,1,1,0,1,0]) [21] [] 7 178 5 (Ubi a0 a1 a2)) N (Ziv (0,(#[]:Array Value)))=some ((.exit 0),Zf7 (Zc4 a0 a1 a2)):=by
 have l0:((0,(#[]:Array Value)):Nat×Array Value).1<=0:=jB _;have l1:=Ztd a0 a1 a2 (0,(#[]:Array Value));have l2:=Ztn a0 a1 a2 (Zas a0 a1 a2 (0,(#[]:Array Value)));have l3:=Zs4 a0 a1 a2 (Zax a0 a1 a2 (Zas a0 a1 a2 (0,(#[]:Array Value))));have l4:=Ztj a0 a1 a2 (Zbb a0 a1 a2 (Zax a0 a1 a2 (Zas a0 a1 a2 (0,(#[]:Array Value)))));have l5:=Zsp a0 a1 a2 (Zbs a0 a1 a2 (Zbb a0 a1 a2 (Zax a0 a1 a2 (Zas a0 a1 a2 (0,(#[]:Array Value))))));have q0:=Zts N a0 a1 a2 hq0 hq1 (0,(#[]:Array Value)) (by omega);have q1:=Zs6 N a0 a1 a2 hq0 hq1 (Zas a0 a1 a2 (0,(#[]:Array Value))) (by omega);have q2:=Ztw N a0 a1 a2 hq0 hq1 (Zax a0 a1 a2 (Zas a0 a1 a2 (0,(#[]:Array Value)))) (by omega);have q3:=Zs5 N a0 a1 a2 hq0 hq1 (Zbb a0 a1 a2 (Zax a0 a1 a2 (Zas a0 a1 a2 (0,(#[]:Array Value))))) (by omega);have q4:=Zs2 N a0 a1 a2 hq0 hq1 (Zbs a0 a1 a2 (Zbb a0 a1 a2 (Zax a0 a1 a2 (Zas a0 a1 a2 (0,(#[]:Array Value)))))) (by omega);have q5:=Zs9 N a0 a1 a2 hq0 hq1 (Zc0 a0 a1 a2 (Zbs a0 a1 a2 (Zbb a0 a1 a2 (Zax a0 a1 a2 (Zas a0 a1 a2 (0,(#[]:Array Value)))))));unfold Zc4;obtain⟨N0,e0⟩:∃N0,N=N0+5+1:=⟨N - 5 - 1,by omega⟩;generalize hf:Ubx prog Zbg N (cAt cKCmC101 [1,1,1,1,0,1,0,0]) (pAt Ubo [1,1,1,1,0,1,0]) [21] [] 7 178 5 (Ubi a0 a1 a2)=f at q0 q1 q2 q3 q4 q5|-
 rw[e0];refine(Zno q0 (N0+5)).trans ?_;refine(Zno q1 (N0+4)).trans ?_;refine(Zno q2 (N0+3)).trans ?_;refine(Zno q3 (N0+2)).trans ?_;refine(Zno q4 (N0+1)).trans ?_;exact Yf1 q5 N0
def Ugm(N:Nat):=(Uac 0 (kSeq (veC prog Zbg N (cAt cKCmC101 [1,1,1,1,1]) (pAt Ubo [1,1,1,1,1]) (SV×Eff×Bool)) (finK prog [] [.tmp 6])))
theorem Zxn(N:Nat)(hN:5<N)(a0:Array Value)(a1 a2:Int)(hq0:(decide (0<=a2)&&decide (a2<2))=true)(hq1:(decide (0<=a1)&&decide (a1<36))=true):Uaj (Uab (Ubx prog Zbg N (cAt cKCmC101 [1,1,1,1,0,1,0,0]) (pAt Ubo [1,1,1,1,0,1,0]) [21] [] 7 178 5 (Ubi a0 a1 a2)) N ([.a (.i .i64 0),.a (.l 5)],[.sl .own 0 (#[]:Array Value) 178])) (λe s=>(Ugm N) e (left (writes (cAt cKCmC101 [1,1,1,1,0,1,0,0])) [21,7] [5] (Ubi a0 a1 a2) s))=(some (.a .x,.newS none (Zc4 a0 a1 a2).1 (Zc4 a0 a1 a2).2 178,true)):=by have e0:(([.a (.i .i64 0),.a (.l 5)],[.sl .own 0 (#[]:Array Value) 178]):LS)=Ziv (0,(#[]:Array Value)):=rfl;rw[e0,Zxk N hN a0 a1 a2 hq0 hq1 ];change _=_;kernel_rfl
theorem Zt5(N:Nat)(hN:5<N)(a0:Array Value)(a1 a2:Int)(hq0:(decide (0<=a2)&&decide (a2<2))=true)(hq1:(decide (0<=a1)&&decide (a1<36))=true):ansV prog Zbg N f101 [([21],[1000007,178])] [.g a0 35,.i .i64 a1,.i .i64 a2] []=(bif decide (0<=a1) then (bif (Zbl a0 a1) then (some (.a .x,.newS none 1 (#[.int .i64 a1,.int .i64 12]:Array Value) 178,true)) else (some (.a .x,.newS none (Zc4 a0 a1 a2).1 (Zc4 a0 a1 a2).2 178,true))) else (none)):=by
 conv=>rhs;simp only[<- Zxn N hN a0 a1 a2 hq0 hq1]
 kernel_rfl
theorem sf_F0(S:Array Value)(c t:Int)(q:Nat×Array Value):Zas S c t q=stF S t c 1 q:=rfl
theorem sf_F1(S:Array Value)(c t:Int)(q:Nat×Array Value):Zax S c t q=stF S t c 4 q:=rfl
theorem sf_F2(S:Array Value)(c t:Int)(q:Nat×Array Value):Zbb S c t q=stF S t c 0 q:=rfl
theorem sf_F3(S:Array Value)(c t:Int)(q:Nat×Array Value):Zbs S c t q=stF S t c 2 q:=rfl
theorem sf_F4(S:Array Value)(c t:Int)(q:Nat×Array Value):Zc0 S c t q=stF S t c 3 q:=rfl
theorem sf_v{S:Array Value}(h0:1<=num S 0/\num S 0<=6/\1<=num S 1/\num S 1<=6){k:Nat}(hk:k<36)(hi:inC (num S 0) (num S 1) k=true)(t:Int):
  Zc4 S (k:Int) t=((Ubc S t k 1++Ubc S t k 4++Ubc S t k 0++Ubc S t k 2++Ubc S t k 3).length,Ubn (Ubc S t k 1++Ubc S t k 4++Ubc S t k 0++Ubc S t k 2++Ubc S t k 3)):=by
 unfold Zc4;rw[sf_F0,sf_F1,sf_F2,sf_F3,sf_F4,show ((0,(#[]:Array Value)):Nat×Array Value)=(([]:List (Int×Int)).length,Ubn []) from rfl,Yab h0 hk hi t (by omega),Yab h0 hk hi t (by omega),Yab h0 hk hi t (by omega),Yab h0 hk hi t (by omega),Yab h0 hk hi t (by omega),List.nil_append]
theorem Ztv(a0:Array Value)(a1 a2:Int)(h_a0:WT prog 35 a0)(h_a1:i64.min<=a1/\a1<=i64.max)(h_a2:i64.min<=a2/\a2<=i64.max)(hg:((okS a0&&(Zaw a1 a0&&(decide (0<=a2)&&decide (a2<2)))))=true):ansV prog Zbg 1000 f101 [([21],[1000007,178])] [.g a0 35,.i .i64 a1,.i .i64 a2] []=some (.a .x,.newS none (stL a0 a2 a1.toNat).length (Ubn (stL a0 a2 a1.toNat)) 178,true):=by
 rw[Q7,Q7]at hg;obtain⟨hok,his,ht⟩:=hg;have h0:=Zn8 hok;obtain⟨c0,c1⟩:=Yib his;obtain⟨k,rfl⟩:∃k:Nat,a1=(k:Int):=⟨a1.toNat,by omega⟩;have hk:k<36:=by omega
 rw[Ycm h_a0 hk]at his;have hc:(decide (0<=(k:Int))&&decide ((k:Int)<36))=true:=by rw[Q3 c0,Q3 (show (k:Int)<36 by omega)];rfl
 refine(Zt5 1000 (by decide) a0 (k:Int) a2 ht hc).trans ?_;rw[sf_v h0 hk his,Q9,Q3 c0];unfold stL;cases Zbl a0 (k:Int)<;>rfl
def Zjy:Con:=λargs h=>match args,h with|[.g a0 35,.i .i64 a1,.i .i64 a2],[]=>some (.a .x,.newS none (stL a0 a2 a1.toNat).length (Ubn (stL a0 a2 a1.toNat)) 178,(okS a0&&(Zaw a1 a0&&(decide (0<=a2)&&decide (a2<2)))))|_,_=>none
theorem Zrr:EntX prog 101:=Zao (fn:=f101)
theorem Zw4:Uad mn prog 101 Zjy:=(ansY (N:=1000) (mKc (Zai Zsf) Zne (mKc (Zai Zop) Zlj (mKc (Zai Zpf) Zmk (mKc (Zai Zsk) Znw (mKc (Zai Zzx) Zu6 (mKc (Zai Zvq) Zp3 (mKc (Zai Zu9) Zpc (mKc (Zai Ztq) Zox (mKc (Zai Zuu) Zqq (mKc (Zai Ztl) Zoz (mKc (Zai Zvy) Zqc mKn))))))))))) f101 [([21],[1000007,178])]).of (by
 intro ρ h w args vals r e hA hH hr;unfold Zjy at hr;split at hr
 ·rename_i a0 a1 a2;obtain⟨rfl,rfl,hg2⟩:=BQi hr;exact Ztv a0 a1 a2 (hA.wt 0 rfl) (hA.rng 1 rfl) (hA.rng 2 rfl) hg2
 ·cases hr)
theorem Ymg{C:Array Value}{b m o:Nat}(ho:o<m):num (C.extract b (b+m)) o=num C (b+o):=by
 have e2:(C.extract b (b+m))[o]?=C[b+o]?:=by
  simp only[jF]
  by_cases h:b+o<C.size
  ·rw[if_pos (by omega)]
  ·rw[if_neg (by omega),jG (by omega)]
 unfold num;rw[e2]
def rdSt(n:Nat)(C:Array Value):List (Int×Int):=(List.range n).map λk=>(num C (k*2+0),num C (k*2+1))
def okSt(n:Nat)(C:Array Value):Bool:=(List.range n).all λk=>decide (0<=num C (k*2+0))&&decide (num C (k*2+0)<36)
def Uch(L:Array Value)(c:Int):Int:=num L (c.toNat*1)
def sumF(L:Array Value)(s:Int)(p:Int×Int):Int:=i64.wrap (s+i64.wrap (p.2*Uch L p.1))
def sumL(l:List (Int×Int))(L:Array Value):Int:=l.foldl (sumF L) 0
theorem okSt_at{n:Nat}{C:Array Value}(h:okSt n C=true){k:Nat}(hk:k<n):(decide (0<=num C (k*2+0))&&decide (num C (k*2+0)<36))=true:=List.all_eq_true.1 h k (List.mem_range.2 hk)
theorem rd_fold{T:Type}(f:T->Int×Int->T)(t:T)(n:Nat)(C:Array Value):folds (λs k=>f s (num C (k*2+0),num C (k*2+1))) t n=(rdSt n C).foldl f t:=by unfold folds rdSt;rw[List.foldl_map]
theorem Ybj:∀(l:List (Int×Int)) (k:Nat) (p:Int×Int),l[k]?=some p->num (Ubn l) (k*2+0)=p.1/\num (Ubn l) (k*2+1)=p.2
 |[],k,p,h=>by simp at h
 | q::r,k,p,h=>by
  have e:Ubn (q::r)=#[.int .i64 q.1,.int .i64 q.2]++Ubn r:=by rw[show q::r=[q]++r from rfl,Yf2];rfl
  cases k with
  |zero=>simp only[List.getElem?_cons_zero,Q8]at h;subst h;rw[e];unfold num;constructor<;>rw[Array.getElem?_append_left (by simp)]<;>rfl
  | succ k=>
   have:=Ybj r k p (by simpa using h);rw[e];have s:∀o,num (#[Value.int .i64 q.1,.int .i64 q.2]++Ubn r) (o+2)=num (Ubn r) o:=λo=>by
    unfold num;rw[Array.getElem?_append_right (by simp)];rfl
   rw[show (k+1)*2+0=(k*2+0)+2 by omega,show (k+1)*2+1=(k*2+1)+2 by omega,s,s];exact this
theorem rd_enc(l:List (Int×Int)):rdSt l.length (Ubn l)=l:=by
 refine List.ext_getElem? λk=> ?_
 unfold rdSt;rw[List.getElem?_map]
 by_cases hk:k<l.length
 ·rw[List.getElem?_range hk,List.getElem?_eq_getElem hk];obtain⟨h1,h2⟩:=Ybj l k l[k] (List.getElem?_eq_getElem hk);simp only[Option.map_some,h1,h2]
 ·rw[List.getElem?_eq_none (by simpa using hk),List.getElem?_eq_none (by omega)];rfl
theorem ok_enc{l:List (Int×Int)}(h:∀p∈l,0<=p.1/\p.1<36):okSt l.length (Ubn l)=true:=by
 unfold okSt;refine List.all_eq_true.2 λk hk=> ?_
 have hk:=List.mem_range.1 hk;obtain⟨h1,h2⟩:=Ybj l k l[k] (List.getElem?_eq_getElem hk);have:=h l[k] (List.getElem_mem hk);rw[h1,Q3 this.1,Q3 this.2];rfl
def Zep(a1:Array Value)(b_a0:Option (Option Addr))(n_a0:Nat)(a0:Array Value):St:=(⟨.a (.l 0)::.a (.g a1 132)::.a (.u)::.a (.w 1)::.a (.i .i64 0)::.a (.i .i64 0)::.a (.u)::.a (.u)::.a (.l 0)::.a (.i .i64 (n_a0:Int))::.a (.i .i64 0)::us 14 ([]),[.sl (.came b_a0) n_a0 a0 178,.row a1 132,.no],[]⟩:St)
def Zft:Int×Int->LS
 |(y0_5,y0_10)=>([.a (.i .i64 y0_5),.a (.i .i64 y0_10)],[])
def Zkf:Int×Int->Exit×LS
 |t=>((.exit 0),Zft t)
def Zc5(P:Program)(a1:Array Value)(b_a0:Option (Option Addr))(n_a0:Nat)(a0:Array Value):Int×Int->Option (Stp (Int×Int) (Int×Int))
 |(y0_5,y0_10)=>bif decide (y0_10<(n_a0:Int)) then (bif (decide (0<=y0_10)&&decide (y0_10<(n_a0:Int))) then (bif (decide (0<=(num (a0.extract ((y0_10).toNat*2) (((y0_10).toNat*2)+2)) 0))&&decide ((num (a0.extract ((y0_10).toNat*2) (((y0_10).toNat*2)+2)) 0)<36)) then (some (.more ((i64.wrap (y0_5+(i64.wrap ((num (a0.extract ((y0_10).toNat*2) (((y0_10).toNat*2)+2)) 1)*(num a1 ((num (a0.extract ((y0_10).toNat*2) (((y0_10).toNat*2)+2)) 0).toNat*1)))))),(i64.wrap (y0_10+(1:Int)))))) else (none)) else (none)) else (some (.done (y0_5,y0_10)))
noncomputable abbrev cKCmC87:=codeOf f87
def Ueh:=(Uaa cKCmC87 [([5,10],[])]).1
theorem Zwn(N:Nat)(a1:Array Value)(b_a0:Option (Option Addr))(n_a0:Nat)(a0:Array Value):∀t:Int×Int,Uao prog (mkΓ []) N (cAt cKCmC87 [1,1,0,1,0,0]) (pAt Ueh [1,1,0,1,0]) [5,10] [] (Zep a1 b_a0 n_a0 a0) (Zft t)=mapS Zft Zkf (Zc5 prog a1 b_a0 n_a0 a0 t):=by
 rintro⟨y0_5,y0_10⟩
 conv=>rhs;simp only[Zc5,Za3,Za8,Za6,Za7,Zft,Zkf]
 kernel_rfl
def Zi1(P:Program)(N:Nat)(a1:Array Value)(b_a0:Option (Option Addr))(n_a0:Nat)(a0:Array Value)(z0_5:Int)(z0_10:Int):Option (SV×Eff×Bool):=some (.a (.i .i64 z0_5),.none,true)
def Ue3(N:Nat)(b_a0:Option (Option Addr))(n_a0:Nat)(a0:Array Value):=(Uac 0 (kSeq (veC prog (mkΓ []) N (cAt cKCmC87 [1,1,1]) (pAt Ueh [1,1,1]) (SV×Eff×Bool)) (finK prog [.sl (.came b_a0) n_a0 a0 178] [.tmp 4])))
theorem Zow(N:Nat)(a1:Array Value)(b_a0:Option (Option Addr))(n_a0:Nat)(a0:Array Value)(z0_5:Int)(z0_10:Int):(Ue3 N b_a0 n_a0 a0) (.exit 0) (left (writes (cAt cKCmC87 [1,1,0,1,0,0])) [5,10] [] (Zep a1 b_a0 n_a0 a0) ([.a (.i .i64 z0_5),.a (.i .i64 z0_10)],[]))=Zi1 prog N a1 b_a0 n_a0 a0 z0_5 z0_10:=by kernel_rfl
theorem Zwg(N:Nat)(a1:Array Value)(b_a0:Option (Option Addr))(n_a0:Nat)(a0:Array Value):Uaj (Uab (Uao prog (mkΓ []) N (cAt cKCmC87 [1,1,0,1,0,0]) (pAt Ueh [1,1,0,1,0]) [5,10] [] (Zep a1 b_a0 n_a0 a0)) N ([.a (.i .i64 0),.a (.i .i64 0)],[])) (λe s=>(Ue3 N b_a0 n_a0 a0) e (left (writes (cAt cKCmC87 [1,1,0,1,0,0])) [5,10] [] (Zep a1 b_a0 n_a0 a0) s))=Uas (Uab (Zc5 prog a1 b_a0 n_a0 a0) N ((0:Int),(0:Int))) (λx=>Zi1 prog N a1 b_a0 n_a0 a0 x.1 x.2):=by refine Zbe Zft Zkf _ _ (Zwn N a1 b_a0 n_a0 a0) N ((0:Int),(0:Int)) _ _ ?_;intro x;exact Zow N a1 b_a0 n_a0 a0 x.1 x.2
theorem Zu7(N:Nat)(a1:Array Value)(b_a0:Option (Option Addr))(n_a0:Nat)(a0:Array Value):ansV prog (mkΓ []) N f87 [([5,10],[])] [.l 0,.g a1 132] [.sl (.came b_a0) n_a0 a0 178]=(Uas (Uab (Zc5 prog a1 b_a0 n_a0 a0) N ((0:Int),(0:Int))) (λx=>Zi1 prog N a1 b_a0 n_a0 a0 x.1 x.2)):=by
 conv=>rhs;simp only[<- Zwg N a1 b_a0 n_a0 a0]
 kernel_rfl
theorem Ztk(a1:Array Value)(b_a0:Option (Option Addr))(n_a0:Nat)(a0:Array Value)(h_a1:WT prog 132 a1)(h_a0:a0.size=n_a0*(lay prog 178).length/\(∀k,k<n_a0->WT prog 178 (a0.extract (k*(lay prog 178).length) (k*(lay prog 178).length+(lay prog 178).length)))/\n_a0<=9223372036854775807)(hg:((okSt n_a0 a0))=true):ansV prog (mkΓ []) 18446744073709551616 f87 [([5,10],[])] [.l 0,.g a1 132] [.sl (.came b_a0) n_a0 a0 178]=some (.a (.i .i64 (sumL (rdSt n_a0 a0) a1)),.none,true):=by
 have hn:=h_a0.2.2;refine(Zu7 18446744073709551616 a1 b_a0 n_a0 a0).trans ?_;have h:=Zi9 (g:=Zc5 prog a1 b_a0 n_a0 a0) (λs k=>(s,(k:Int))) (λs k=>sumF a1 s (num a0 (k*2+0),num a0 (k*2+1))) (m:=n_a0) (t:=(0:Int)) (x:=(sumL (rdSt n_a0 a0) a1,(n_a0:Int))) (N:=18446744073709551616) (λk s hk _=>by
  have h1:decide ((k:Int)<(n_a0:Int))=true:=Q3 (by omega);have h0:decide (0<=(k:Int))=true:=Q3 (by omega);have h3:i64.wrap ((k:Int)+1)=((k+1:Nat):Int):=by rw[IntWalk.i64_in _ (by omega)];omega
  have hx0:num (a0.extract (k*2) (k*2+2)) 0=num a0 (k*2+0):=Ymg (by omega);have hx1:num (a0.extract (k*2) (k*2+2)) 1=num a0 (k*2+1):=Ymg (by omega);have hok:=okSt_at hg hk;simp only[Zc5,h1,h0,h3,Q9,Bool.and_self,Q1,hx0,hx1,hok];rfl) (by
  have h1:decide ((n_a0:Int)<(n_a0:Int))=false:=Q4 (by omega);simp only[Zc5,h1,Q2];rw[rd_fold (sumF a1)];rfl) (by omega)
 have h':Uab (Zc5 prog a1 b_a0 n_a0 a0) 18446744073709551616 ((0:Int),(0:Int))=some (sumL (rdSt n_a0 a0) a1,(n_a0:Int)):=h;rw[h'];rfl
def Zjn:Con:=λargs h=>match args,h with|[.l 0,.g a1 132],[.sl (.came b_a0) n_a0 a0 178]=>some (.a (.i .i64 (sumL (rdSt n_a0 a0) a1)),.none,(okSt n_a0 a0))|_,_=>none
theorem Zr2:EntX prog 87:=Zao (fn:=f87)
theorem Zwa:Uad mn prog 87 Zjn:=(ansY (N:=18446744073709551616) mKn f87 [([5,10],[])]).of (by
 intro ρ h w args vals r e hA hH hr;unfold Zjn at hr;split at hr
 ·rename_i a1 b_a0 n_a0 a0;obtain⟨rfl,rfl,hg2⟩:=BQi hr;exact Ztk a1 b_a0 n_a0 a0 (hA.wt 1 rfl) (hH.slw 0 rfl) hg2
 ·cases hr)
theorem Zl9{S:Array Value}(h0:1<=num S 0/\num S 0<=6/\1<=num S 1/\num S 1<=6){k:Nat}(hk:k<36)(hi:inC (num S 0) (num S 1) k=true)(t:Int)(w:Nat)(hw:w<5):∀p∈Ubc S t k w,0<=p.1/\p.1<36:=by intro p hp;unfold Ubc at hp;cases hc:decide (chW S t (k:Int) w > 0)&&decide (gw S k w ≠ -1) with|false=>rw[hc]at hp;simp at hp|true=>rw[hc]at hp;simp only[Q1,List.mem_singleton]at hp;subst hp;rw[Q7]at hc;exact Zzf h0 hk hi w hw (of_decide_eq_true hc.2)
theorem Ymo{S:Array Value}(h0:1<=num S 0/\num S 0<=6/\1<=num S 1/\num S 1<=6){k:Nat}(hk:k<36)(hi:inC (num S 0) (num S 1) k=true)(t:Int):∀p∈stL S t k,0<=p.1/\p.1<36:=by
 intro p hp;unfold stL at hp;cases hl:Zbl S (k:Int) with
 |true=>rw[hl]at hp;simp only[Q1,List.mem_singleton]at hp;subst hp;exact⟨by show 0<=(k:Int);omega,by show (k:Int)<36;omega⟩
 |false=>
  rw[hl]at hp;simp only[Q2,List.mem_append]at hp;rcases hp with (((hp|hp)|hp)|hp)|hp
  ·exact Zl9 h0 hk hi t 1 (by omega) p hp
  ·exact Zl9 h0 hk hi t 4 (by omega) p hp
  ·exact Zl9 h0 hk hi t 0 (by omega) p hp
  ·exact Zl9 h0 hk hi t 2 (by omega) p hp
  ·exact Zl9 h0 hk hi t 3 (by omega) p hp
def rowF(P:Program)(V:List (Int×Int)->Array Value->Int)(S L:Array Value)(t:Int):Array Value:=folds (λr k=>if inC (num S 0) (num S 1) k then r.setIfInBounds (k*1) (.int .i64 (V (stL S t k) L)) else r) (zc P 132) 36
def Zd4:Cons:=(mkΓx [(87,con Zjn),(101,con Zjy)] [(78,Zin)] [(93,Zd7)])
def Zcc(a0 a1:Array Value)(a2:Int):St:=(⟨.a (.g a0 35)::.a (.g a1 132)::.a (.i .i64 a2)::.a (.c 87 [])::.a (.w 0)::.a (.w 1)::.a (.w 2)::.a (.w 3)::.a (.w 4)::.a (.w 5)::.a (.u)::.a (.g a0 35)::.a (.c 93 [9,11])::us 11 ([]),[.row a0 35,.row a1 132,.row #[.int .i64 a2] 2,.row #[.func (.func 87) #[] #[]] 174,.row (zc prog 132) 132,.row (zc prog 132) 132,.no,.no,.no,.row #[.int .i64 (num a0 1)] 2,.no,.row #[.int .i64 (num a0 0)] 2,.no,.no],[]⟩:St)
def Zgf:Array Value->BS
 |r0_5=>([.row r0_5 132]:BS)
def Zip:Empty->Exit×BS:=λx=>nomatch x
def Zdt(P:Program)(a0 a1:Array Value)(a2:Int)(x0:Int):Array Value->Option (Stp (Array Value) Empty)
 |r0_5=>bif (okS a0&&(Zaw x0 a0&&(decide (0<=a2)&&decide (a2<2)))) then (bif (okSt ((stL a0 a2 x0.toNat).length) (Ubn (stL a0 a2 x0.toNat))) then (bif (decide (0<=x0)&&decide (x0<36)) then (some (.more (r0_5.setIfInBounds ((x0).toNat*1) (.int .i64 (sumL (rdSt ((stL a0 a2 x0.toNat).length) (Ubn (stL a0 a2 x0.toNat))) a1))))) else (none)) else (none)) else (none)
noncomputable abbrev cKCmC98:=codeOf f98
def Ud9:=(Uaa cKCmC98 [([],[5])]).1
theorem Zso(N:Nat)(a0 a1:Array Value)(a2:Int)(x0:Int):∀t:Array Value,Uc5 prog Zd4 N (cAt cKCmC98 [1,1,0,1,0,0]) (pAt Ud9 [1,1,0,1,0]) 14 [5] [13] [(10,13)] (Zcc a0 a1 a2) [.i .i64 x0] (Zgf t)=mapS Zgf Zip (Zdt prog a0 a1 a2 x0 t):=by
 rintro r0_5
 conv=>rhs;simp only[Zdt,Za3,Za8,Za6,Za7,Zgf,Zip]
 kernel_rfl
def Zhi(P:Program)(N:Nat)(a0 a1:Array Value)(a2:Int)(q0_5:Array Value):Option (SV×Eff×Bool):=some (.a (.g q0_5 132),.none,true)
def Udc(N:Nat):=(Uac 0 (kSeq (veC prog Zd4 N (cAt cKCmC98 [1,1,1]) (pAt Ud9 [1,1,1]) (SV×Eff×Bool)) (finK prog [] [.cell 8 132])))
theorem Znh(N:Nat)(a0 a1:Array Value)(a2:Int)(q0_5:Array Value):(Udc N) .normal (Uau [5] (Zcc a0 a1 a2) ([.row q0_5 132]:BS))=Zhi prog N a0 a1 a2 q0_5:=by kernel_rfl
theorem Zto(N:Nat)(a0 a1:Array Value)(a2:Int):Ubz (Uam (λ(x0:Int) (hb:BS)=>Uc5 prog Zd4 N (cAt cKCmC98 [1,1,0,1,0,0]) (pAt Ud9 [1,1,0,1,0]) 14 [5] [13] [(10,13)] (Zcc a0 a1 a2) [.i .i64 x0] hb) (Uaw (num a0 0) (num a0 1) 36) ([.row (zc prog 132) 132]:BS)) (λhb=>(Udc N) .normal (Uau [5] (Zcc a0 a1 a2) hb)) (λe hb=>(Udc N) e (Uau [5] (Zcc a0 a1 a2) hb))=Udo (Uam (Zdt prog a0 a1 a2) (Uaw (num a0 0) (num a0 1) 36) (zc prog 132)) (λx=>Zhi prog N a0 a1 a2 x) (λx:Empty=>nomatch x):=by
 refine Zp0 Zgf Zip _ _ (λy t=>Zso N a0 a1 a2 y t) _ (zc prog 132) _ _ _ _ ?_ ?_
 ·intro x;exact Znh N a0 a1 a2 x
 ·intro x;exact nomatch x
theorem Zr1(N:Nat)(a0 a1:Array Value)(a2:Int):ansV prog Zd4 N f98 [([],[5])] [.g a0 35,.g a1 132,.i .i64 a2,.c 87 []] []=(bif (decide (0<=(num a0 0))&&decide ((num a0 0)<=6)&&(decide (0<=(num a0 1))&&decide ((num a0 1)<=6))) then (Udo (Uam (Zdt prog a0 a1 a2) (Uaw (num a0 0) (num a0 1) 36) (zc prog 132)) (λx=>Zhi prog N a0 a1 a2 x) (λx:Empty=>nomatch x)) else (none)):=by
 conv=>rhs;simp only[<- Zto N a0 a1 a2]
 kernel_rfl
theorem Zqg(a0 a1:Array Value)(a2:Int)(h_a0:WT prog 35 a0)(h_a1:WT prog 132 a1)(h_a2:i64.min<=a2/\a2<=i64.max)(hg:((okS a0&&(decide (0<=a2)&&decide (a2<2))))=true):ansV prog Zd4 1000 f98 [([],[5])] [.g a0 35,.g a1 132,.i .i64 a2,.c 87 []] []=some (.a (.g (rowF prog sumL a0 a1 a2) 132),.none,true):=by
 rw[Q7]at hg;obtain⟨hok,ht⟩:=hg;have h0:=Zn8 hok;refine(Zr1 1000 a0 a1 a2).trans ?_;have h:=Yc8 (X:=Empty) (g:=Zdt prog a0 a1 a2) (λr k=>r.setIfInBounds (k*1) (.int .i64 (sumL (stL a0 a2 k) a1))) (wd:=num a0 0) (hi:=num a0 1) (λs k hk hi=>by
  have hs:okSt (stL a0 a2 k).length (Ubn (stL a0 a2 k))=true:=ok_enc (Ymo h0 hk hi a2);have hc:(decide (0<=(k:Int))&&decide ((k:Int)<36))=true:=by rw[Q3 (show 0<=(k:Int) by omega),Q3 (show (k:Int)<36 by omega)];rfl
  have hi':Zaw (k:Int) a0=true:=(Ycm h_a0 hk).trans hi;simp only[Zdt,Q9,hok,hi',ht,hs,hc,Bool.and_self,Q1,rd_enc]
  first|done|rfl) (zc prog 132)
 have hgd:=Zrb hok;simp only[hgd,Q1,h];rfl
def Zia:Con:=λargs h=>match args,h with|[.g a0 35,.g a1 132,.i .i64 a2,.c 87 []],[]=>some (.a (.g (rowF prog sumL a0 a1 a2) 132),.none,(okS a0&&(decide (0<=a2)&&decide (a2<2))))|_,_=>none
theorem Zpb:EntX prog 98:=Zao (fn:=f98)
theorem Zs3:Uad mn prog 98 Zia:=(ansY (N:=1000) (mKx (Zai Zwa) Zr2 (mKx (Zai Zw4) Zrr (mkΓx_nX Znv Zl2 (mkΓx_iX Zlm Zks mkΓx_nilX)))) f98 [([],[5])]).of (by
 intro ρ h w args vals r e hA hH hr;unfold Zia at hr;split at hr
 ·rename_i a0 a1 a2;obtain⟨rfl,rfl,hg2⟩:=BQi hr;exact Zqg a0 a1 a2 (hA.wt 0 rfl) (hA.wt 1 rfl) (hA.rng 2 rfl) hg2
 ·cases hr)
theorem Ylb(P:Program)(T:TypeId){r:Array Value}(h:r.size=(zc P T).size):spl (repC (zc P T) 1) 0 r.toList=r:=by
 have e:repC (zc P T) 1=zc P T:=by unfold repC repL repL;simp
 rw[e];refine Zg6 λi=> ?_
 rw[Zge _ _ _ (by simp;omega)]
 by_cases hi:i<r.size
 ·rw[if_pos (by simp;omega)];simp
 ·rw[if_neg (by simp;omega),jG (by omega),jG (by omega)]
theorem Yf3:(zc prog 132).size=36:=by kernel_rfl
theorem Yf9(V:List (Int×Int)->Array Value->Int)(S L:Array Value)(t:Int):(rowF prog V S L t).size=36:=by unfold rowF;exact Zid (λ_ (r:Array Value)=>r.size=36) Yf3 (λk s _ h=>by split<;>simp[h]) 36 (jB _)
def rowR(P:Program)(V:List (Int×Int)->Array Value->Int)(S L:Array Value)(b h:Int):Nat->Array Value
 |0=>L
 |j+1=>rowF P V S (rowR P V S L b h j) ((i64.wrap (b+i64.wrap (h - ((j+1:Nat):Int)))).tmod 2)
def catR(P:Program)(V:List (Int×Int)->Array Value->Int)(S L:Array Value)(b h:Int):Nat->Array Value
 |0=>#[]
 |j+1=>catR P V S L b h j++rowR P V S L b h j
theorem Yfo(V:List (Int×Int)->Array Value->Int)(S:Array Value){L:Array Value}(hL:L.size=36)(b h:Int):∀j,(rowR prog V S L b h j).size=36
 |0=>hL
 |j+1=>Yf9 V S _ _
theorem Zz6(V:List (Int×Int)->Array Value->Int)(S:Array Value){L:Array Value}(hL:L.size=36)(b h:Int):∀j,(catR prog V S L b h j).size=j*36
 |0=>rfl
 |j+1=>by rw[catR,Array.size_append,Zz6 V S hL b h j,Yfo V S hL b h j];omega
theorem ext_last{A R:Array Value}{m q:Nat}(hA:A.size=m)(hR:R.size=q):(A++R).extract m (m+q)=R:=by
 refine Zg6 λi=> ?_
 rw[jF]
 by_cases hi:i<q
 ·rw[if_pos (by simp;omega),Array.getElem?_append_right (by omega),show m+i - A.size=i by omega]
 ·rw[if_neg (by simp;omega),jG (by omega)]
theorem Ylo{A R:Array Value}{m q:Nat}(h:m+q<=A.size):(A++R).extract m (m+q)=A.extract m (m+q):=by
 refine Zg6 λi=> ?_
 rw[jF,jF]
 by_cases hi:i<q
 ·rw[if_pos (by simp;omega),if_pos (by omega),Array.getElem?_append_left (by omega)]
 ·rw[if_neg (by simp;omega),if_neg (by omega)]
theorem Yhk(V:List (Int×Int)->Array Value->Int)(S:Array Value){L:Array Value}(hL:L.size=36)(b h:Int){j:Nat}:∀n,j<n->(catR prog V S L b h n).extract (j*36) (j*36+36)=rowR prog V S L b h j
 |0,hj=>by omega
 | n+1,hj=>by
  rw[catR]
  by_cases e:j=n
  ·subst e;exact ext_last (Zz6 V S hL b h j) (Yfo V S hL b h j)
  ·rw[Ylo (by rw[Zz6 V S hL b h n];omega)];exact Yhk V S hL b h n (by omega)
theorem tide_in{b h:Int}(hb:0<=b/\b<2)(hh:0<=h/\h<=14):(decide (0<=(i64.wrap (b+i64.wrap h)).tmod 2)&&decide ((i64.wrap (b+i64.wrap h)).tmod 2<2))=true:=by rw[w64 (n:=h) (by omega),w64 (n:=b+h) (by omega),Int.tmod_eq_emod_of_nonneg (by omega),Q3 (by omega),Q3 (by omega)];rfl
theorem Yme:bytesOf prog 132=288:=by kernel_rfl
def Zdv:Cons:=(mkΓ [(98,con Zia),(99,con Zll)])
def Zdi(a0 a1:Array Value)(a2 a3:Int):St:=(⟨.a (.g a0 35)::.a (.g a1 132)::.a (.i .i64 a2)::.a (.i .i64 a3)::.a (.c 87 [])::.a (.w 0)::.a (.w 1)::us 3 (.a (.v (.slice none 0 0))::.a (.l 6)::.a (.i .i64 1)::.a (.g a1 132)::.a (.l 4)::us 22 ([])),[.row a0 35,.row a1 132,.no,.no,.sp,.no,.sl .own 1 (spl (repC (zc prog 132) 1) 0 a1.toList) 132],[4]⟩:St)
def Zeh:Int×Nat×Array Value->LS
 |(y0_12,m0_11,y0_11)=>([.a (.i .i64 y0_12),.a (.l 6)],[.sl .own m0_11 y0_11 132])
def Zh1:Int×Nat×Array Value->Exit×LS
 |t=>((.exit 0),Zeh t)
def Zb2(P:Program)(a0 a1:Array Value)(a2 a3:Int):Int×Nat×Array Value->Option (Stp (Int×Nat×Array Value) (Int×Nat×Array Value))
 |(y0_12,m0_11,y0_11)=>bif decide (y0_12<=a3) then (bif (decide (0<=(i64.wrap (y0_12 - (1:Int))))&&decide ((i64.wrap (y0_12 - (1:Int)))<(m0_11:Int))) then (bif (okS a0&&(decide (0<=(((i64.wrap (a2+(i64.wrap (a3 - y0_12))))).tmod (2:Int)))&&decide ((((i64.wrap (a2+(i64.wrap (a3 - y0_12))))).tmod (2:Int))<2))) then (bif (jA ((m0_11+1)*bytesOf prog 132) 140737488355328) then (some (.more ((i64.wrap (y0_12+(1:Int))),(m0_11+1),(y0_11++(spl (repC (zc prog 132) 1) 0 (rowF prog sumL a0 (y0_11.extract ((i64.wrap (y0_12 - (1:Int))).toNat*36) (((i64.wrap (y0_12 - (1:Int))).toNat*36)+36)) (((i64.wrap (a2+(i64.wrap (a3 - y0_12))))).tmod (2:Int))).toList))))) else (none)) else (none)) else (none)) else (some (.done (y0_12,m0_11,y0_11)))
noncomputable abbrev cKCmC86:=codeOf f86
def Ud4:=(Uaa cKCmC86 [([12],[1000011,132])]).1
theorem Zrn(N:Nat)(a0 a1:Array Value)(a2 a3:Int):∀t:Int×Nat×Array Value,Ubx prog Zdv N (cAt cKCmC86 [1,1,0,1,0,0]) (pAt Ud4 [1,1,0,1,0]) [12] [] 11 132 6 (Zdi a0 a1 a2 a3) (Zeh t)=mapS Zeh Zh1 (Zb2 prog a0 a1 a2 a3 t):=by
 rintro⟨y0_12,m0_11,y0_11⟩
 conv=>rhs;simp only[Zb2,Za3,Za8,Za6,Za7,Zeh,Zh1]
 kernel_rfl
def Zgv(P:Program)(N:Nat)(a0 a1:Array Value)(a2 a3:Int)(z0_12:Int)(p0_11:Nat)(z0_11:Array Value):Option (SV×Eff×Bool):=some (.a .x,.newS none p0_11 z0_11 132,true)
def Ue2(N:Nat):=(Uac 0 (kSeq (veC prog Zdv N (cAt cKCmC86 [1,1,1]) (pAt Ud4 [1,1,1]) (SV×Eff×Bool)) (finK prog [] [.tmp 10])))
theorem Zm6(N:Nat)(a0 a1:Array Value)(a2 a3:Int)(z0_12:Int)(p0_11:Nat)(z0_11:Array Value):(Ue2 N) (.exit 0) (left (writes (cAt cKCmC86 [1,1,0,1,0,0])) [12,11] [6] (Zdi a0 a1 a2 a3) ([.a (.i .i64 z0_12),.a (.l 6)],[.sl .own p0_11 z0_11 132]))=Zgv prog N a0 a1 a2 a3 z0_12 p0_11 z0_11:=by kernel_rfl
theorem Zri(N:Nat)(a0 a1:Array Value)(a2 a3:Int):Uaj (Uab (Ubx prog Zdv N (cAt cKCmC86 [1,1,0,1,0,0]) (pAt Ud4 [1,1,0,1,0]) [12] [] 11 132 6 (Zdi a0 a1 a2 a3)) N ([.a (.i .i64 1),.a (.l 6)],[.sl .own 1 (spl (repC (zc prog 132) 1) 0 a1.toList) 132])) (λe s=>(Ue2 N) e (left (writes (cAt cKCmC86 [1,1,0,1,0,0])) [12,11] [6] (Zdi a0 a1 a2 a3) s))=Uas (Uab (Zb2 prog a0 a1 a2 a3) N ((1:Int),1,(spl (repC (zc prog 132) 1) 0 a1.toList))) (λx=>Zgv prog N a0 a1 a2 a3 x.1 x.2.1 x.2.2):=by refine Zbe Zeh Zh1 _ _ (Zrn N a0 a1 a2 a3) N ((1:Int),1,(spl (repC (zc prog 132) 1) 0 a1.toList)) _ _ ?_;intro x;exact Zm6 N a0 a1 a2 a3 x.1 x.2.1 x.2.2
theorem Zpt(N:Nat)(a0 a1:Array Value)(a2 a3:Int):ansV prog Zdv N f86 [([12],[1000011,132])] [.g a0 35,.g a1 132,.i .i64 a2,.i .i64 a3,.c 87 []] []=(Uas (Uab (Zb2 prog a0 a1 a2 a3) N ((1:Int),1,(spl (repC (zc prog 132) 1) 0 a1.toList))) (λx=>Zgv prog N a0 a1 a2 a3 x.1 x.2.1 x.2.2)):=by
 conv=>rhs;simp only[<- Zri N a0 a1 a2 a3]
 kernel_rfl
theorem Zo8(a0 a1:Array Value)(a2 a3:Int)(h_a0:WT prog 35 a0)(h_a1:WT prog 132 a1)(h_a2:i64.min<=a2/\a2<=i64.max)(h_a3:i64.min<=a3/\a3<=i64.max)(hg:(((okS a0&&(decide (0<=a2)&&decide (a2<2)))&&(decide (0<=a3)&&decide (a3<=14))))=true):ansV prog Zdv 1000 f86 [([12],[1000011,132])] [.g a0 35,.g a1 132,.i .i64 a2,.i .i64 a3,.c 87 []] []=some (.a .x,.newS none (a3.toNat+1) (catR prog sumL a0 a1 a2 a3 (a3.toNat+1)) 132,true):=by
 rw[Q7,Q7 (decide (0<=a3))]at hg;obtain⟨hg,hh0,hh1⟩:=hg;have hh:0<=a3/\a3<=14:=⟨of_decide_eq_true hh0,of_decide_eq_true hh1⟩;have hok:=hg;rw[Q7,Q7]at hok;have hb:0<=a2/\a2<2:=⟨of_decide_eq_true hok.2.1,of_decide_eq_true hok.2.2⟩;have hL:a1.size=36:=by rw[h_a1.layLen];kernel_rfl
 obtain⟨m,rfl⟩:∃m:Nat,a3=(m:Int):=⟨a3.toNat,by omega⟩;refine(Zpt 1000 a0 a1 a2 (m:Int)).trans ?_;rw[Ylb prog 132 (by rw[hL,Yf3]),Q9];have h:=Zhn (g:=Zb2 prog a0 a1 a2 (m:Int)) (λj=>(((1+j:Nat):Int),1+j,catR prog sumL a0 a1 a2 (m:Int) (1+j))) (m:=m) (x:=(((1+m:Nat):Int),1+m,catR prog sumL a0 a1 a2 (m:Int) (1+m))) (N:=1000) (λj hj=>by
  have h1:decide (((1+j:Nat):Int)<=(m:Int))=true:=Q3 (by omega);have h2:i64.wrap (((1+j:Nat):Int) - 1)=(j:Int):=by rw[w64 (by omega)];omega
  have h3:i64.wrap (((1+j:Nat):Int)+1)=((1+(j+1):Nat):Int):=by rw[w64 (by omega)];omega
  have h4:(decide (0<=(j:Int))&&decide ((j:Int)<((1+j:Nat):Int)))=true:=by rw[Q3 (by omega),Q3 (by omega)];rfl
  have h5:=tide_in (b:=a2) (h:=(m:Int) - ((1+j:Nat):Int)) hb (by omega);have h6:jA ((1+j+1)*bytesOf prog 132) 140737488355328=true:=jC (by rw[Yme];omega);have h7:(catR prog sumL a0 a1 a2 (m:Int) (1+j)).extract (j*36) (j*36+36)=rowR prog sumL a0 a1 a2 (m:Int) j:=Yhk sumL a0 hL a2 _ (1+j) (by omega);simp only[Zb2,h1,h2,h3,h4,h5,h6,h7,hok.1,Bool.and_self,Q9,Q1];rw[Ylb prog 132 (by rw[Yf9,Yf3])];rw[show 1+(j+1)=(1+j)+1 by omega,catR,show 1+j=j+1 by omega,rowR]) (by
  have h1:decide (((1+m:Nat):Int)<=(m:Int))=false:=Q4 (by omega);simp only[Zb2,h1,Q2]) (by omega)
 have hc:catR prog sumL a0 a1 a2 (m:Int) 1=a1:=by rw[catR,catR,rowR];simp
 have h':Uab (Zb2 prog a0 a1 a2 (m:Int)) 1000 ((1:Int),1,a1)=some (((1+m:Nat):Int),1+m,catR prog sumL a0 a1 a2 (m:Int) (1+m)):=by have h2:=h;simp only[Nat.add_zero,hc]at h2;exact h2
 rw[h',show 1+m=m+1 by omega];rfl
def Zg8:Con:=λargs h=>match args,h with|[.g a0 35,.g a1 132,.i .i64 a2,.i .i64 a3,.c 87 []],[]=>some (.a .x,.newS none (a3.toNat+1) (catR prog sumL a0 a1 a2 a3 (a3.toNat+1)) 132,((okS a0&&(decide (0<=a2)&&decide (a2<2)))&&(decide (0<=a3)&&decide (a3<=14))))|_,_=>none
theorem Zn5:EntX prog 86:=Zao (fn:=f86)
theorem Zrw:Uad mn prog 86 Zg8:=(ansY (N:=1000) (mKc (Zai Zs3) Zpb (mKc (Zai Yb2) Zw2 mKn)) f86 [([12],[1000011,132])]).of (by
 intro ρ h w args vals r e hA hH hr;unfold Zg8 at hr;split at hr
 ·rename_i a0 a1 a2 a3;obtain⟨rfl,rfl,hg2⟩:=BQi hr;exact Zo8 a0 a1 a2 a3 (hA.wt 0 rfl) (hA.wt 1 rfl) (hA.rng 2 rfl) (hA.rng 3 rfl) hg2
 ·cases hr)
end
end Go.Proofs.YtgllknjdblkhnaaDoor
