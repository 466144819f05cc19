/- Releases of one bottle in each of some cells, at each hour. -/
import Derived.Test.YtohnggmlmglhmaaGreatDoorProg
import Derived.Test.YtohnggmlmglhmaaGreatDoorCnD
namespace Go.Proofs.YtohnggmlmglhmaaGreatDoor
open Go.ChangeShapes Go.WideShapes Go.ChangeAt Go.RowKit Ve Vc
open Tryz renaming prog → PZ
open IntKind (i64)
set_option linter.unusedVariables false
set_option linter.unusedSimpArgs false
set_option maxRecDepth 100000
noncomputable section
variable {mn:Md}
def Zc6:Cons:=(mkΓx [] [(73,Zk2)] [(98,Zgs)])
def Zhu (a0 a1:Int) (g_et:Addr) (g_tb:Addr) (x0:Int) (m0_b:Nat) (y0_b:Array Value):St:=(⟨.a (.i .u64 (a0)) :: .a (.i .i64 (a1)) :: .a (.u) :: .a (.w 2) :: .a (.v (.slice none 0 0)) :: .a (.w 4) :: .a (.i .i64 (x0)) :: .a (.u) :: .a (.i .u64 (a0)) :: .a (.c 98 [8]) :: .a (.i .i64 (x0)) :: .a (.i .i64 (a1)) :: .a (.i .i64 (0:Int))::us 12 ([]),[.gl 0 184 g_et 3000075,.gl 1 0 g_tb 1000000000,.row #[.int .i64 (a1)] 2,.no,.one (.l 14) 43,.no,.no,.no,.row #[.int .u64 (a0)] 23,.no,.no,.no,.no,.sp,.sl .own m0_b y0_b 82],[4,13]⟩:St)
def Zhq:Int×Nat×Array Value→LS
 | (y1_12,m1_b,y1_b)=>([.a (.i .i64 (y1_12))],[.sl .own m1_b y1_b 82])
def Zlz:Int×Nat×Array Value→Exit×LS
 | t=>((.exit 2),Zhq t)
def Zes (P:Program) (a0 a1:Int) (g_et:Addr) (g_tb:Addr) (x0:Int) (m0_b:Nat) (y0_b:Array Value):Int×Nat×Array Value→Option (Stp (Int×Nat×Array Value) (Int×Nat×Array Value))
 | (y1_12,m1_b,y1_b)=>bif decide (y1_12<a1) then (bif (Nat.ble ((m1_b+1)*bytesOf PZ 82) 140737488355328) then (some (.more ((i64.wrap (y1_12+(1:Int))),(m1_b+1),(y1_b++(#[.int .i8 (IntKind.i8.wrap x0),.int .i8 (IntKind.i8.wrap y1_12),.int .i16 (1:Int)]:Array Value)))))
   else (none))
  else (some (.done (y1_12,m1_b,y1_b)))
theorem Zyk (N:Nat) (a0 a1:Int) (g_et:Addr) (g_tb:Addr) (x0:Int) (m0_b:Nat) (y0_b:Array Value):∀ t:Int×Nat×Array Value,Ufh PZ Zc6 N (cAt (codeOf Tryz.f44) [1,1,0,1,0,0,0,1,0,0]) (pAt (Uaa (codeOf Tryz.f44) [([],[2000004,82]),([12],[2000004,82])]).1 [1,1,0,1,0,1,0]) [12] [] 4 82 14 (Zhu a0 a1 g_et g_tb x0 m0_b y0_b) (Zhq t)=mapS Zhq Zlz (Zes PZ a0 a1 g_et g_tb x0 m0_b y0_b t):=by
 rintro ⟨y1_12,m1_b,y1_b⟩
 refine Eq.trans (b:=(bif decide (y1_12<a1) then (bif (Nat.ble ((m1_b+1)*bytesOf PZ 82) 140737488355328) then (some (.more ([.a (.i .i64 (i64.wrap (y1_12+(1:Int))))],[.sl .own (m1_b+1) (y1_b++(#[.int .i8 (IntKind.i8.wrap x0),.int .i8 (IntKind.i8.wrap y1_12),.int .i16 (1:Int)]:Array Value)) 82])))
   else (none))
  else (some (.done ((.exit 2),([.a (.i .i64 (y1_12))],[.sl .own m1_b y1_b 82])))))) (by kernel_rfl) ?_
 simp only [Zes,Za3,Za4,Za5,Za2,Zhq,Zlz]
def Zfd (a0 a1:Int) (g_et:Addr) (g_tb:Addr):St:=(⟨.a (.i .u64 (a0)) :: .a (.i .i64 (a1)) :: .a (.u) :: .a (.w 2) :: .a (.v (.slice none 0 0)) :: .a (.w 4) :: .a (.u) :: .a (.u) :: .a (.i .u64 (a0)) :: .a (.c 98 [8])::us 15 ([]),[.gl 0 184 g_et 3000075,.gl 1 0 g_tb 1000000000,.row #[.int .i64 (a1)] 2,.no,.one (.l 13) 43,.no,.no,.no,.row #[.int .u64 (a0)] 23,.no,.no,.no,.no,.sl .own 0 (#[]:Array Value) 82],[4]⟩:St)
def Zfi:Nat×Array Value→BS
 | (m0_b,y0_b)=>([.sl .own m0_b y0_b 82]:BS)
def Zgl:Empty→Exit×BS:=fun x=>nomatch x
def Zjk (P:Program) (N:Nat) (a0 a1:Int) (g_et:Addr) (g_tb:Addr) (x0:Int) (m0_b:Nat) (y0_b:Array Value) (z1_12:Int) (p1_b:Nat) (z1_b:Array Value):Option (Stp (Nat×Array Value) Empty):=some (.more (p1_b,z1_b))
theorem Zx8 (N:Nat) (a0 a1:Int) (g_et:Addr) (g_tb:Addr) (x0:Int) (m0_b:Nat) (y0_b:Array Value) (z1_12:Int) (p1_b:Nat) (z1_b:Array Value):(Uab 2 (Uab 1 (Ubi 13 [] 4 82))) (.exit 2) (left (writes (cAt (codeOf Tryz.f44) [1,1,0,1,0,0,0,1,0,0])) [12] [14] (Zhu a0 a1 g_et g_tb x0 m0_b y0_b) ([.a (.i .i64 (z1_12))],[.sl .own p1_b z1_b 82]))=mapS Zfi Zgl (Zjk PZ N a0 a1 g_et g_tb x0 m0_b y0_b z1_12 p1_b z1_b):=by
 refine Eq.trans (b:=(some (.more ([.sl .own p1_b z1_b 82]:BS)))) (by kernel_rfl) ?_
 simp only [Zjk,Za3,Za4,Za5,Za2,Zfi,Zgl]
theorem Ygr (N:Nat) (a0 a1:Int) (g_et:Addr) (g_tb:Addr) (x0:Int) (m0_b:Nat) (y0_b:Array Value):Uag (Uac (Ufh PZ Zc6 N (cAt (codeOf Tryz.f44) [1,1,0,1,0,0,0,1,0,0]) (pAt (Uaa (codeOf Tryz.f44) [([],[2000004,82]),([12],[2000004,82])]).1 [1,1,0,1,0,1,0]) [12] [] 4 82 14 (Zhu a0 a1 g_et g_tb x0 m0_b y0_b)) N ([.a (.i .i64 (0:Int))],[.sl .own m0_b y0_b 82])) (fun e s=>(Uab 2 (Uab 1 (Ubi 13 [] 4 82))) e (left (writes (cAt (codeOf Tryz.f44) [1,1,0,1,0,0,0,1,0,0])) [12] [14] (Zhu a0 a1 g_et g_tb x0 m0_b y0_b) s))=mapS Zfi Zgl (Ual (Uac (Zes PZ a0 a1 g_et g_tb x0 m0_b y0_b) N ((0:Int),m0_b,y0_b)) (fun x=>Zjk PZ N a0 a1 g_et g_tb x0 m0_b y0_b x.1 x.2.1 x.2.2)):=by
 rw [Zzz Zfi Zgl]
 first
 | (have h:=Zbg (α:=Stp LS (Exit×LS)) Zhq Zlz _ _ (Zyk N a0 a1 g_et g_tb x0 m0_b y0_b) N ((0:Int),m0_b,y0_b);refine h _ _ ?_)
 | (have h:=Zbg (α:=Stp BS (Exit×BS)) Zhq Zlz _ _ (Zyk N a0 a1 g_et g_tb x0 m0_b y0_b) N ((0:Int),m0_b,y0_b);refine h _ _ ?_)
 intro x;exact Zx8 N a0 a1 g_et g_tb x0 m0_b y0_b x.1 x.2.1 x.2.2
def Zhy (P:Program) (N:Nat) (a0 a1:Int) (g_et:Addr) (g_tb:Addr) (x0:Int):Nat×Array Value→Option (Stp (Nat×Array Value) Empty)
 | (m0_b,y0_b)=>Ual (Uac (Zes P a0 a1 g_et g_tb x0 m0_b y0_b) N ((0:Int),m0_b,y0_b)) (fun x=>Zjk P N a0 a1 g_et g_tb x0 m0_b y0_b x.1 x.2.1 x.2.2)
theorem Yhc (N:Nat) (a0 a1:Int) (g_et:Addr) (g_tb:Addr) (x0:Int):∀ t:Nat×Array Value,Ufn PZ Zc6 N (cAt (codeOf Tryz.f44) [1,1,0,1,0,0]) (pAt (Uaa (codeOf Tryz.f44) [([],[2000004,82]),([12],[2000004,82])]).1 [1,1,0,1,0]) 13 [] 4 82 [10] [(6,10)] (Zfd a0 a1 g_et g_tb) [.i .i64 (x0)] (Zfi t)=mapS Zfi Zgl (Zhy PZ N a0 a1 g_et g_tb x0 t):=by
 rintro ⟨m0_b,y0_b⟩
 refine Eq.trans (b:=(Uag (Uac (Ufh PZ Zc6 N (cAt (codeOf Tryz.f44) [1,1,0,1,0,0,0,1,0,0]) (pAt (Uaa (codeOf Tryz.f44) [([],[2000004,82]),([12],[2000004,82])]).1 [1,1,0,1,0,1,0]) [12] [] 4 82 14 (Zhu a0 a1 g_et g_tb x0 m0_b y0_b)) N ([.a (.i .i64 (0:Int))],[.sl .own m0_b y0_b 82])) (fun e s=>(Uab 2 (Uab 1 (Ubi 13 [] 4 82))) e (left (writes (cAt (codeOf Tryz.f44) [1,1,0,1,0,0,0,1,0,0])) [12] [14] (Zhu a0 a1 g_et g_tb x0 m0_b y0_b) s)))) (by kernel_rfl) ?_
 simp only [Ygr N a0 a1 g_et g_tb x0 m0_b y0_b,Zhy,Za3,Za4,Za5,Za2,Zfi,Zgl]
def Zmi (P:Program) (N:Nat) (a0 a1:Int) (g_et:Addr) (g_tb:Addr) (p0_b:Nat) (z0_b:Array Value):Option (SV×Eff×Bool):=some (.a .x,.newS none p0_b z0_b 82,true)
theorem Zx3 (N:Nat) (a0 a1:Int) (g_et:Addr) (g_tb:Addr) (p0_b:Nat) (z0_b:Array Value):(Uab 0 (kSeq (veC PZ Zc6 N (cAt (codeOf Tryz.f44) [1,1,1]) (pAt (Uaa (codeOf Tryz.f44) [([],[2000004,82]),([12],[2000004,82])]).1 [1,1,1]) (SV×Eff×Bool)) (finK PZ [.gl 0 184 g_et 3000075,.gl 1 0 g_tb 1000000000] [.tmp 4]))) .normal (Ua1 [13] (Zfd a0 a1 g_et g_tb) ([.sl .own p0_b z0_b 82]:BS))=Zmi PZ N a0 a1 g_et g_tb p0_b z0_b:=by
 refine Eq.trans (b:=(some (.a .x,.newS none p0_b z0_b 82,true))) (by kernel_rfl) ?_
 rfl
theorem Ygq (N:Nat) (a0 a1:Int) (g_et:Addr) (g_tb:Addr):Ub9 (Uaq (fun (x0:Int) (hb:BS)=>Ufn PZ Zc6 N (cAt (codeOf Tryz.f44) [1,1,0,1,0,0]) (pAt (Uaa (codeOf Tryz.f44) [([],[2000004,82]),([12],[2000004,82])]).1 [1,1,0,1,0]) 13 [] 4 82 [10] [(6,10)] (Zfd a0 a1 g_et g_tb) [.i .i64 (x0)] hb) (Ube (a0).toNat) ([.sl .own 0 (#[]:Array Value) 82]:BS)) (fun hb=>(Uab 0 (kSeq (veC PZ Zc6 N (cAt (codeOf Tryz.f44) [1,1,1]) (pAt (Uaa (codeOf Tryz.f44) [([],[2000004,82]),([12],[2000004,82])]).1 [1,1,1]) (SV×Eff×Bool)) (finK PZ [.gl 0 184 g_et 3000075,.gl 1 0 g_tb 1000000000] [.tmp 4]))) .normal (Ua1 [13] (Zfd a0 a1 g_et g_tb) hb)) (fun e hb=>(Uab 0 (kSeq (veC PZ Zc6 N (cAt (codeOf Tryz.f44) [1,1,1]) (pAt (Uaa (codeOf Tryz.f44) [([],[2000004,82]),([12],[2000004,82])]).1 [1,1,1]) (SV×Eff×Bool)) (finK PZ [.gl 0 184 g_et 3000075,.gl 1 0 g_tb 1000000000] [.tmp 4]))) e (Ua1 [13] (Zfd a0 a1 g_et g_tb) hb))=Udz (Uaq (Zhy PZ N a0 a1 g_et g_tb) (Ube (a0).toNat) (0,(#[]:Array Value))) (fun x=>Zmi PZ N a0 a1 g_et g_tb x.1 x.2) (fun x:Empty=>nomatch x):=by
 refine Zxu Zfi Zgl _ _ (fun y t=>Yhc N a0 a1 g_et g_tb y t) _ (0,(#[]:Array Value)) _ _ _ _ ?_ ?_
 ·intro x;exact Zx3 N a0 a1 g_et g_tb x.1 x.2
 ·intro x;exact nomatch x
theorem Yeu (N:Nat) (a0 a1:Int) (g_et:Addr) (g_tb:Addr):ansV PZ Zc6 N Tryz.f44 [([],[2000004,82]),([12],[2000004,82])] [.i .u64 (a0),.i .i64 (a1)] [.gl 0 184 g_et 3000075,.gl 1 0 g_tb 1000000000]=(Udz (Uaq (Zhy PZ N a0 a1 g_et g_tb) (Ube (a0).toNat) (0,(#[]:Array Value))) (fun x=>Zmi PZ N a0 a1 g_et g_tb x.1 x.2) (fun x:Empty=>nomatch x)):=by
 refine Eq.trans (b:=(Ub9 (Uaq (fun (x0:Int) (hb:BS)=>Ufn PZ Zc6 N (cAt (codeOf Tryz.f44) [1,1,0,1,0,0]) (pAt (Uaa (codeOf Tryz.f44) [([],[2000004,82]),([12],[2000004,82])]).1 [1,1,0,1,0]) 13 [] 4 82 [10] [(6,10)] (Zfd a0 a1 g_et g_tb) [.i .i64 (x0)] hb) (Ube (a0).toNat) ([.sl .own 0 (#[]:Array Value) 82]:BS)) (fun hb=>(Uab 0 (kSeq (veC PZ Zc6 N (cAt (codeOf Tryz.f44) [1,1,1]) (pAt (Uaa (codeOf Tryz.f44) [([],[2000004,82]),([12],[2000004,82])]).1 [1,1,1]) (SV×Eff×Bool)) (finK PZ [.gl 0 184 g_et 3000075,.gl 1 0 g_tb 1000000000] [.tmp 4]))) .normal (Ua1 [13] (Zfd a0 a1 g_et g_tb) hb)) (fun e hb=>(Uab 0 (kSeq (veC PZ Zc6 N (cAt (codeOf Tryz.f44) [1,1,1]) (pAt (Uaa (codeOf Tryz.f44) [([],[2000004,82]),([12],[2000004,82])]).1 [1,1,1]) (SV×Eff×Bool)) (finK PZ [.gl 0 184 g_et 3000075,.gl 1 0 g_tb 1000000000] [.tmp 4]))) e (Ua1 [13] (Zfd a0 a1 g_et g_tb) hb)))) (by kernel_rfl) ?_
 simp only [Ygq N a0 a1 g_et g_tb]
theorem Yk6 {T X:Type} {g:Int→T→Option (Stp T X)} (F:Nat→T) {c:Int} (hU:U64 c) (hh:∀ j,36≤j→bitI c j=false) (hg:∀ k,k<36→bitI c k=true→g (k:Int) (F k)=some (.more (F (k+1)))) (hs:∀ k,k<36→bitI c k=false→F (k+1)=F k) :
  Uaq g (Ube c.toNat) (F 0)=some (.more (F 36)):=by
 have key:∀ n,n≤36→Uaq g (((List.range n).filter fun k=>c.toNat.testBit k).map fun (k:Nat)=>(k:Int)) (F 0)=some (.more (F n)):=by
  intro n
  induction n with
  | zero=>intro _;rfl
  | succ n ih=>
   intro hn
   rw [List.range_succ,List.filter_append,List.map_append,Ziq,ih (by omega)]
   dsimp only
   cases hb:bitI c n with
   | false=>
    have hb':c.toNat.testBit n=false:=by rw [← Zfn hU];exact hb
    rw [show (List.filter (fun k=>c.toNat.testBit k) [n])=[] by simp [hb'],hs n (by omega) hb]
    rfl
   | true=>
    have hb':c.toNat.testBit n=true:=by rw [← Zfn hU];exact hb
    rw [show (List.filter (fun k=>c.toNat.testBit k) [n])=[n] by simp [hb']]
    simp only [List.map_cons,List.map_nil,Uaq,hg n (by omega) hb]
 have e:Ube c.toNat=((List.range 36).filter fun k=>c.toNat.testBit k).map fun (k:Nat)=>(k:Int):=by
  unfold Ube
  rw [show (64:Nat)=36+28 from rfl,List.range_add,List.filter_append]
  have:List.filter (fun k=>c.toNat.testBit k) (List.map (fun x=>36+x) (List.range 28))=[]:=by
   rw [List.filter_eq_nil_iff]
   intro k hk
   obtain ⟨i,_,rfl⟩:=List.mem_map.1 hk
   rw [← Zfn hU,hh _ (by omega)]
   simp
  rw [this,List.append_nil]
 rw [e]
 exact key 36 (Nat.le_refl _)
def Ub7 (q:Nat×Nat):List Value:=[.int .i8 (IntKind.i8.wrap (q.1:Int)),.int .i8 (IntKind.i8.wrap (q.2:Int)),.int .i16 (1:Int)]
def arrL (l:List (Nat×Nat)):Array Value:=⟨l.flatMap Ub7⟩
theorem Zs6 (l m:List (Nat×Nat)):arrL (l++m)=arrL l++arrL m:=by
 unfold arrL
 rw [List.flatMap_append]
 simp
theorem arrL_at:∀ {l:List (Nat×Nat)} {j:Nat} (h:j<l.length),(arrL l).extract (j*3) (j*3+3)=⟨Ub7 l[j]⟩:=by
 intro l j h
 have e:l=l.take j++(l[j]::l.drop (j+1)):=by simp
 have hl:(arrL (l.take j)).size=j*3:=by
  have:∀ m:List (Nat×Nat),(arrL m).size=m.length*3:=by
   intro m
   induction m with
   | nil=>rfl
   | cons a m ih=>
    have:arrL (a::m)=arrL [a]++arrL m:=Zs6 [a] m
    rw [this,Array.size_append,ih]
    show 3+m.length*3=(m.length+1)*3
    omega
  rw [this,List.length_take]
  omega
 refine Array.ext_getElem? fun i=> ?_
 rw [Array.getElem?_extract]
 generalize l[j]=q at e⊢
 have hsz:(arrL l).size=j*3+3+(arrL (l.drop (j+1))).size:=by
  rw [e,Zs6,Array.size_append,hl,show arrL (q::List.drop (j+1) l)=arrL [q]++arrL (l.drop (j+1)) from Zs6 [q] _,Array.size_append]
  show j*3+(3+(arrL (List.drop (j+1) l)).size)=j*3+3+_
  rw [← e];omega
 by_cases hi:i<3
 ·rw [if_pos (by omega)]
  have e2:(arrL l)[j*3+i]? = (arrL [q])[i]? := by
   rw [e,Zs6,Array.getElem?_append_right (by omega),hl,show j*3+i - j*3=i by omega,show arrL (q::List.drop (j+1) l)=arrL [q]++arrL (l.drop (j+1)) from Zs6 [q] _,Array.getElem?_append_left (by show i<3;exact hi)]
  rw [e2]
  rfl
 ·rw [if_neg (by omega),Array.getElem?_eq_none (by show 3≤i;omega)]
def prL (c:Int) (h:Nat):Nat→List (Nat×Nat)
 | 0=>[]
 | n+1=>if bitI c n then prL c h n++(List.range h).map (fun t=>(n,t)) else prL c h n
theorem Yoh (c:Int) (h:Nat):∀ n,(prL c h n).length≤n*h
 | 0=>Nat.zero_le _
 | n+1=>by
  have:=Yoh c h n
  rw [prL,Nat.succ_mul]
  split<;>simp<;>omega
theorem Yhh {c:Int} {h:Nat}:∀ {n} {q:Nat×Nat},q ∈ prL c h n→q.1<n∧bitI c q.1=true∧q.2<h
 | 0,q,hq=>by cases hq
 | n+1,q,hq=>by
  rw [prL] at hq
  split at hq
  ·rename_i hb
   rcases List.mem_append.1 hq with hq | hq
   ·obtain ⟨a,b,d⟩:=Yhh hq
    exact ⟨by omega,b,d⟩
   ·obtain ⟨t,ht,rfl⟩:=List.mem_map.1 hq
    exact ⟨Nat.lt_succ_self _,hb,List.mem_range.1 ht⟩
  ·obtain ⟨a,b,d⟩:=Yhh hq
   exact ⟨by omega,b,d⟩
def oneN (c h:Int):Nat:=(prL c h.toNat 36).length
def oneA (c h:Int):Array Value:=arrL (prL c h.toNat 36)
theorem Ycc (a0 a1:Int) (g_et:Addr) (g_tb:Addr) (h_a0:IntKind.u64.min≤a0∧a0≤IntKind.u64.max) (h_a1:i64.min≤a1∧a1≤i64.max) (hg:((decide (a0<68719476736)&&(decide (0≤a1)&&decide (a1≤100))))=true):ansV PZ Zc6 18446744073709551616 Tryz.f44 [([],[2000004,82]),([12],[2000004,82])] [.i .u64 (a0),.i .i64 (a1)] [.gl 0 184 g_et 3000075,.gl 1 0 g_tb 1000000000]=some (.a .x,.newS none (oneN a0 a1) (oneA a0 a1) 82,true):=by
 simp only [Q7,decide_eq_true_eq] at hg
 obtain ⟨hlow,h0,h8⟩:=hg
 have hU:U64 a0:=h_a0
 have hh:=Yl6 hU hlow
 obtain ⟨m,rfl⟩:=Int.eq_ofNat_of_zero_le h0
 have hby:bytesOf PZ 82≤1000:=Nat.le_of_ble_eq_true (by kernel_rfl)
 refine (Yeu 18446744073709551616 a0 (m:Int) g_et g_tb).trans ?_
 have hin:∀ (k:Nat) (l:List (Nat×Nat)),l.length≤100000→Uac (Zes PZ a0 (m:Int) g_et g_tb (k:Int) l.length (arrL l)) 18446744073709551616 ((0:Int),l.length,arrL l)=some ((m:Int),(l++(List.range m).map (fun t=>(k,t))).length,arrL (l++(List.range m).map (fun t=>(k,t)))):=fun k l hl=>
  (fun (h:Uac (Zes PZ a0 (m:Int) g_et g_tb (k:Int) l.length (arrL l)) 18446744073709551616 (((0:Nat):Int),(l++(List.range 0).map (fun t=>(k,t))).length,arrL (l++(List.range 0).map (fun t=>(k,t))))=some ((m:Int),(l++(List.range m).map (fun t=>(k,t))).length,arrL (l++(List.range m).map (fun t=>(k,t)))))=>by
   rw [List.range_zero,List.map_nil,List.append_nil] at h
   exact h) (Zdr (g:=Zes PZ a0 (m:Int) g_et g_tb (k:Int) l.length (arrL l)) (fun j=>((j:Int),(l++(List.range j).map (fun t=>(k,t))).length,arrL (l++(List.range j).map (fun t=>(k,t))))) (m:=m) (x:=((m:Int),(l++(List.range m).map (fun t=>(k,t))).length,arrL (l++(List.range m).map (fun t=>(k,t))))) (N:=18446744073709551616) (fun j hj=>by
   have h1:decide ((j:Int)<(m:Int))=true:=Q3 (by omega)
   have h3:i64.wrap ((j:Int)+1)=((j+1:Nat):Int):=by rw [IntWalk.i64_in _ (by omega)];omega
   have hlen:(l++(List.range j).map (fun t=>(k,t))).length=l.length+j:=by simp
   have hb:Nat.ble (((l++(List.range j).map (fun t=>(k,t))).length+1)*bytesOf PZ 82) 140737488355328=true:=Nat.ble_eq_true_of_le (Nat.le_trans (Nat.mul_le_mul (show _≤200000 by rw [hlen];omega) hby) (by decide))
   have e:l++(List.range (j+1)).map (fun t=>(k,t))=(l++(List.range j).map (fun t=>(k,t)))++[(k,j)]:=by rw [List.range_succ,List.map_append,List.append_assoc];rfl
   rw [e]
   clear e hlen
   generalize l++(List.range j).map (fun t=>(k,t))=L at hb⊢
   rw [show (L++[(k,j)]).length=L.length+1 from List.length_append,Zs6]
   simp only [Zes,h1,h3,hb,Q1]
   rfl) (by
   have h1:decide ((m:Int)<(m:Int))=false:=Q4 (by omega)
   simp only [Zes,h1,Q2]) (by omega))
 have hfold:Uaq (Zhy PZ 18446744073709551616 a0 (m:Int) g_et g_tb) (Ube a0.toNat) ((0:Nat),(#[]:Array Value))=some (.more ((prL a0 m 36).length,arrL (prL a0 m 36))):=Yk6 (X:=Empty) (g:=Zhy PZ 18446744073709551616 a0 (m:Int) g_et g_tb) (fun k=>((prL a0 m k).length,arrL (prL a0 m k))) hU hh (fun k hk hb=>by
  have hl:=Yoh a0 m k
  have hl2:(prL a0 m k).length≤100000:=Nat.le_trans hl (Nat.le_trans (Nat.mul_le_mul (show k≤36 by omega) (show m≤100 by omega)) (by decide))
  have h:=hin k (prL a0 m k) hl2
  have e:prL a0 m (k+1)=prL a0 m k++(List.range m).map (fun t=>(k,t)):=by rw [prL,if_pos hb]
  rw [e]
  show Ual (Uac _ 18446744073709551616 ((0:Int),(prL a0 m k).length,arrL (prL a0 m k))) _=_
  rw [h]
  rfl) (fun k hk hb=>by
  have e:prL a0 m (k+1)=prL a0 m k:=by rw [prL,if_neg (by rw [hb];simp)]
  rw [e])
 rw [hfold]
 unfold oneN oneA
 rw [Q9]
 rfl
def Zn1:Con:=fun args h=>match args,h with
 | [.i .u64 a0,.i .i64 a1],[.gl 0 184 g_et 3000075,.gl 1 0 g_tb 1000000000]=>some (.a .x,.newS none (oneN a0 a1) (oneA a0 a1) 82,(decide (a0<68719476736)&&(decide (0≤a1)&&decide (a1≤100))))
 | _,_=>none
theorem Zqa:EntX PZ 44:=Zag (fn:=Tryz.f44) (by kernel_rfl) (by kernel_rfl) (by kernel_rfl)
theorem Zwy:Uad mn PZ 44 Zn1:=(Zai (N:=18446744073709551616) (by kernel_rfl) (mkΓx_nX Zrw Zom (mkΓx_iX Zoj Zmj mkΓx_nilX)) (fn:=Tryz.f44) (by kernel_rfl) (by kernel_rfl) [([],[2000004,82]),([12],[2000004,82])]).of (by
 intro ρ h w args vals r e hA hH hr
 unfold Zn1 at hr
 split at hr
 ·rename_i a0 a1 g_et g_tb
  obtain ⟨rfl,rfl,hg2⟩:=BQi hr
  exact Ycc a0 a1 g_et g_tb (hA.rng 0 rfl) (hA.rng 1 rfl) hg2
 ·cases hr)
end
end Go.Proofs.YtohnggmlmglhmaaGreatDoor
