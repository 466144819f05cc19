/- The best release in some cells of water. -/
import Derived.Test.YtohnggmlmglhmaaGreatDoorProg
import Derived.Test.YtohnggmlmglhmaaGreatDoorCnE
namespace Go.Proofs.YtohnggmlmglhmaaGreatDoor
open Go.ChangeShapes Go.WideShapes Go.ChangeAt Go.RowKit Ve Vc
open Tryz renaming prog → PZ
open IntKind (i64)
set_option linter.unusedVariables false
set_option linter.unusedSimpArgs false
set_option maxRecDepth 100000
noncomputable section
variable {mn:Md}
def hrM (w:Nat→Int):Nat→Int×Int
 | 0=>(0,-1)
 | t+1=>bif decide ((hrM w t).2<w t) then ((t:Int),w t) else hrM w t
theorem hrM_in {w:Nat→Int}:∀ n,(∀ t,t<n→0≤w t) → -1≤(hrM w n).2∧(0<n→∃ t:Nat,t<n∧hrM w n=((t:Int),w t))
 | 0,_=>⟨Int.le_refl _,fun h=>absurd h (Nat.lt_irrefl 0)⟩
 | n+1,hw=>by
  obtain ⟨h1,h2⟩:=hrM_in n fun t ht=>hw t (by omega)
  have h0:=hw n (by omega)
  rw [hrM]
  by_cases h:(hrM w n).2<w n
  ·rw [Q3 h,Q1]
   exact ⟨by show -1≤w n;omega,fun _=>⟨n,Nat.lt_succ_self n,rfl⟩⟩
  ·rw [Q4 h,Q2]
   refine ⟨h1,fun _=> ?_⟩
   by_cases hn:0<n
   ·obtain ⟨t,ht,e⟩:=h2 hn
    exact ⟨t,by omega,e⟩
   ·obtain rfl:n=0:=by omega
    exact absurd (show (hrM w 0).2<w 0 by show (-1:Int)<w 0;omega) h
def stW (W:Nat×Nat→Int) (b:(Nat×Nat)×Int) (q:Nat×Nat):(Nat×Nat)×Int:=bif decide (b.2<W q) then (q,W q) else b
def flM (W:Nat×Nat→Int) (l:List (Nat×Nat)):(Nat×Nat)×Int:=l.foldl (stW W) ((0,0),-1)
theorem Ymi {W:Nat×Nat→Int} {k:Nat} {b:(Nat×Nat)×Int} (hb: -1≤b.2):∀ h,((List.range h).map (fun t=>(k,t))).foldl (stW W) b=bif decide (b.2<(hrM (fun t=>W (k,t)) h).2) then ((k,(hrM (fun t=>W (k,t)) h).1.toNat),(hrM (fun t=>W (k,t)) h).2) else b
 | 0=>by
  rw [Q4 (show ¬ b.2<(hrM (fun t=>W (k,t)) 0).2 by show ¬ b.2 < -1;omega)]
  rfl
 | h+1=>by
  rw [List.range_succ,List.map_append,List.foldl_append,Ymi hb h]
  simp only [List.map_cons,List.map_nil,List.foldl_cons,List.foldl_nil]
  rw [hrM]
  generalize hrM (fun t=>W (k,t)) h=m
  obtain ⟨a,m⟩:=m
  unfold stW
  dsimp only
  by_cases h1:b.2<m
  ·rw [Q3 h1,Q1]
   dsimp only
   by_cases h2:m<W (k,h)
   ·simp only [Q3 h2,Q1,Q3 (show b.2<W (k,h) by omega),Q9]
   ·simp only [Q4 h2,Q2,Q3 h1,Q1]
  ·rw [Q4 h1,Q2]
   by_cases h2:m<W (k,h)
   ·by_cases h3:b.2<W (k,h)
    ·simp only [Q3 h2,Q1,Q3 h3,Q9]
    ·simp only [Q3 h2,Q1,Q4 h3,Q2]
   ·simp only [Q4 h2,Q2,Q4 h1,Q4 (show ¬ b.2<W (k,h) by omega)]
def clM (W:Nat×Nat→Int) (c:Int) (h:Nat):Nat→(Int×Int)×Int
 | 0=>((0,0),-1)
 | k+1=>bif bitI c k then (bif decide ((clM W c h k).2<(hrM (fun t=>W (k,t)) h).2) then (((k:Int),(hrM (fun t=>W (k,t)) h).1),(hrM (fun t=>W (k,t)) h).2) else clM W c h k) else clM W c h k
theorem clM_ge (W:Nat×Nat→Int) (c:Int) (h:Nat):∀ k,-1≤(clM W c h k).2
 | 0=>Int.le_refl _
 | k+1=>by
  have ih:=clM_ge W c h k
  rw [clM]
  cases bitI c k with
  | false=>exact ih
  | true=>
   rw [Q1]
   by_cases h1:(clM W c h k).2<(hrM (fun t=>W (k,t)) h).2
   ·rw [Q3 h1,Q1];dsimp only;omega
   ·rw [Q4 h1];exact ih
theorem fl_prL (W:Nat×Nat→Int) (c:Int) (h:Nat):∀ n,flM W (prL c h n)=(((clM W c h n).1.1.toNat,(clM W c h n).1.2.toNat),(clM W c h n).2)
 | 0=>rfl
 | n+1=>by
  have ih:=fl_prL W c h n
  have hg:=clM_ge W c h n
  rw [prL,clM]
  cases bitI c n with
  | false=>rw [if_neg (by simp),Q2];exact ih
  | true=>
   rw [if_pos rfl,Q1]
   unfold flM at ih⊢
   rw [List.foldl_append,Ymi (by rw [ih];exact hg) h,ih]
   dsimp only
   by_cases h1:(clM W c h n).2<(hrM (fun t=>W (n,t)) h).2
   ·rw [Q3 h1,Q1,Q1,Q9]
   ·rw [Q4 h1,Q2,Q2]
theorem Yds {l:List (Nat×Nat)} {j:Nat} (h:j<l.length):(arrL l).extract (j*3) (j*3+3)=(⟨Ub7 l[j]⟩:Array Value):=arrL_at h
theorem Yb1 (q:Nat×Nat) (h1:q.1<36) (h2:q.2<100):num (⟨Ub7 q⟩:Array Value) 0=(q.1:Int)∧num (⟨Ub7 q⟩:Array Value) 1=(q.2:Int)∧num (⟨Ub7 q⟩:Array Value) 2=1:=by
 refine ⟨?_, ?_,rfl⟩
 ·show IntKind.i8.wrap (q.1:Int)=_
  exact IntWalk.i8_in _ (by omega)
 ·show IntKind.i8.wrap (q.2:Int)=_
  exact IntWalk.i8_in _ (by omega)
theorem Yfp {W:Nat×Nat→Int} {l:List (Nat×Nat)} {gt:Nat→Nat→Bool} (hW:∀ q ∈ l,0≤W q) (hgt:∀ i j (hi:i<l.length) (hj:j<l.length),gt i j=decide (W l[j]<W l[i])):∀ n,n≤l.length→(n=0∧Ucn gt (arrL l) n = -1∧flM W (l.take n)=((0,0),-1))∨(∃ i,∃ hi:i<l.length,Ucn gt (arrL l) n=(i:Int)∧flM W (l.take n)=(l[i],W l[i]))
 | 0,_=>.inl ⟨rfl,rfl,rfl⟩
 | n+1,hn=>by
  have hn':n<l.length:=hn
  have hb:num ((arrL l).extract (n*3) (n*3+3)) 2=1:=by rw [Yds hn'];rfl
  have et:l.take (n+1)=l.take n++[l[n]]:=by rw [List.take_add_one,List.getElem?_eq_getElem hn'];rfl
  have ef:flM W (l.take (n+1))=stW W (flM W (l.take n)) l[n]:=by rw [et];unfold flM;rw [List.foldl_append];rfl
  right
  rw [ef,Ucn,hb,show decide ((1:Int)<200)=true from rfl,Q1]
  rcases Yfp hW hgt n (by omega) with ⟨e0,e1,e2⟩ | ⟨i,hi,e1,e2⟩
  ·rw [e1,e2]
   refine ⟨n,hn',rfl, ?_⟩
   unfold stW
   rw [Q3 (show (((0,0),-1):(Nat×Nat)×Int).2<W l[n] by have:=hW l[n] (List.getElem_mem hn');show (-1:Int)<_;omega),Q1]
  ·rw [e1,e2,Q4 (show ¬ (i:Int)<0 by omega),Q2,Q9,hgt n i hn' hi]
   unfold stW
   dsimp only
   cases decide (W l[i]<W l[n]) with
   | true=>exact ⟨n,hn',rfl,rfl⟩
   | false=>exact ⟨i,hi,rfl,rfl⟩
def worQ (P:Program) (a0:Array Value) (c:Int) (q:Nat×Nat):Int:=worW P (a0.extract 2 (2+363)) (num a0 0) (num a0 1) (q.1:Int) (q.2:Int) c
def Uce (a0:Array Value) (c:Int):Bool:=(okS (a0.extract 2 (2+363))&&(decide (0≤num a0 0)&&decide (num a0 0<2)))&&((decide (0≤num a0 1)&&decide (num a0 1≤8))&&Zaf (a0.extract 2 (2+363)) c)
theorem Zor {a0:Array Value} {c:Int}:Uce a0 c=true ↔ (okS (a0.extract 2 (2+363))=true∧(0≤num a0 0∧num a0 0<2))∧((0≤num a0 1∧num a0 1≤8)∧Zaf (a0.extract 2 (2+363)) c=true):=by
 unfold Uce
 simp only [Q7,decide_eq_true_eq]
theorem prs_num {a0:Array Value} (hz:2≤a0.size):num ((prsV a0).extract 0 (0+2)) 1=num a0 1:=by
 have e:a0.extract 0 (0+2)=(#[a0[0],a0[1]]:Array Value):=by
  refine Array.ext (by simp;omega) fun i h1 h2=> ?_
  have hi:i<2:=h2
  rw [Array.getElem_extract]
  match i,hi with
  | 0,_=>rfl
  | 1,_=>rfl
 have e2:num a0 1=num (#[a0[0],a0[1]]:Array Value) 1:=by rw [← e,Ydx (by omega)]
 rw [e2]
 unfold prsV
 rw [e]
 rfl
theorem Ufj {a0:Array Value} (hz:2≤a0.size) {q:Nat×Nat} (h1:q.1<36) (h2:(q.2:Int)<num a0 1) (h3:num a0 1≤8):lfP (prsV a0) (⟨Ub7 q⟩:Array Value)=num a0 1 - (q.2:Int):=by
 have ht:=(Yb1 q h1 (by omega)).2.1
 unfold lfP
 rw [prs_num hz,ht,IntWalk.i64_in (q.2:Int) (by omega),IntWalk.i64_in _ (by omega)]
theorem Ufe {a0:Array Value} (hz:2≤a0.size) {q:Nat×Nat} {c:Int} (h1:q.1<36) (h2:(q.2:Int)<num a0 1) (h3:num a0 1≤8):shP (prsV a0) (prsR PZ a0 c) (⟨Ub7 q⟩:Array Value)=num (rowR PZ sumL (a0.extract 2 (2+363)) (rowC PZ c) (num a0 0) (num a0 1) (num a0 1 - (q.2:Int)).toNat) q.1:=by
 have hL:=(Yb4 c).1
 unfold shP
 rw [Ufj hz h1 h2 h3,(Yb1 q h1 (by omega)).1,Q9,Nat.mul_one]
 unfold prsR
 have h:=Ykb sumL (a0.extract 2 (2+363)) hL (num a0 0) (num a0 1) ((num a0 1).toNat+1) (show (num a0 1 - (q.2:Int)).toNat<(num a0 1).toNat+1 by omega)
 rw [← h,Ydx (by omega)]
theorem cross_lt {A A' B B' r r':Int} (hA:0<A) (hA':0<A') (hB:0<B) (e:A*B=A'*B'):r'*B<r*B' ↔ A'*r'<A*r:=by
 have hAA:0<A*A':=Int.mul_pos hA hA'
 have hD:0<A*B:=Int.mul_pos hA hB
 have e1:(A*A')*(r'*B)=(A*B)*(A'*r'):=by simp only [Int.mul_assoc,Int.mul_comm,Int.mul_left_comm]
 have e2:(A*A')*(r*B')=(A*B)*(A*r):=by rw [e];simp only [Int.mul_assoc,Int.mul_comm,Int.mul_left_comm]
 constructor
 ·intro h
  have:=Int.mul_lt_mul_of_pos_left h hAA
  rw [e1,e2] at this
  exact Int.lt_of_mul_lt_mul_left this (Int.le_of_lt hD)
 ·intro h
  have:=Int.mul_lt_mul_of_pos_left h hD
  rw [← e1,← e2] at this
  exact Int.lt_of_mul_lt_mul_left this (Int.le_of_lt hAA)
theorem gt_wor {a0:Array Value} (hz:2≤a0.size) {c:Int} (h8:num a0 1≤8) {q q':Nat×Nat} (hq:q.1<36∧(q.2:Int)<num a0 1) (hq':q'.1<36∧(q'.2:Int)<num a0 1):gtP (prsV a0) (prsR PZ a0 c) (⟨Ub7 q⟩:Array Value) (⟨Ub7 q'⟩:Array Value)=decide (worQ PZ a0 c q'<worQ PZ a0 c q):=by
 unfold gtP
 rw [Ufe hz hq.1 hq.2 h8,Ufe hz hq'.1 hq'.2 h8,Ufj hz hq.1 hq.2 h8,Ufj hz hq'.1 hq'.2 h8]
 unfold worQ worW
 simp only [Q9]
 have e:(12:Int)^q.2*12^(num a0 1 - (q.2:Int)).toNat=12^q'.2*12^(num a0 1 - (q'.2:Int)).toNat:=by
  rw [← Int.pow_add,← Int.pow_add];congr 1;omega
 exact decide_eq_decide.2 (cross_lt (Int.pow_pos (by omega)) (Int.pow_pos (by omega)) (Int.pow_pos (by omega)) e)
theorem Ycw {a0:Array Value} (hz:2≤a0.size) (hS:WT PZ 41 (a0.extract 2 (2+363))) {c:Int} (hv:Uce a0 c=true) {q:Nat×Nat} (hq:q.1<36∧(q.2:Int)<num a0 1):okP (prsV a0) (prsN a0) (prsR PZ a0 c) (⟨Ub7 q⟩:Array Value)=true∧0≤worQ PZ a0 c q:=by
 obtain ⟨⟨hok,hb⟩,h8,hcs⟩:=Zor.1 hv
 obtain ⟨H,eH⟩:=Int.eq_ofNat_of_zero_le h8.1
 have hr:=row_le hS hok (b:=num a0 0) (by omega) (k:=(q.1:Int)) (by omega) hcs (H:=H) (n:=H - q.2) (by omega) (by omega)
 have hw:=Ynv hS hok (b:=num a0 0) (by omega) (k:=(q.1:Int)) (by omega) hcs (H:=num a0 1) (h:=(q.2:Int)) (by omega) (by omega)
 have hp:=Zrr (n:=H - q.2) (by omega)
 refine ⟨Ydw.2 ?_,hw.1⟩
 rw [Ufj hz hq.1 hq.2 h8.2,Ufe hz hq.1 hq.2 h8.2,(Yb1 q hq.1 (by omega)).1]
 rw [Q9,← eH] at hr
 rw [show (num a0 1 - (q.2:Int)).toNat=H - q.2 by omega]
 unfold prsN
 refine ⟨by omega,by omega,by omega,hr.1,by omega⟩
theorem Yoy (w:Nat→Int):∀ n,∃ t:Nat,(hrM w n).1=(t:Int)
 | 0=>⟨0,rfl⟩
 | n+1=>by
  rw [hrM]
  cases decide ((hrM w n).2<w n) with
  | true=>exact ⟨n,rfl⟩
  | false=>exact Yoy w n
theorem Yko (W:Nat×Nat→Int) (c:Int) (h:Nat):∀ k,∃ a b:Nat,(clM W c h k).1=((a:Int),(b:Int))
 | 0=>⟨0,0,rfl⟩
 | k+1=>by
  rw [clM]
  cases bitI c k with
  | false=>exact Yko W c h k
  | true=>
   rw [Q1]
   cases decide ((clM W c h k).2<(hrM (fun t=>W (k,t)) h).2) with
   | true=>
    obtain ⟨t,e⟩:=Yoy (fun t=>W (k,t)) h
    refine ⟨k,t, ?_⟩
    rw [Q1,e]
   | false=>exact Yko W c h k
theorem Ygy {a0:Array Value} (hz:2≤a0.size) (hS:WT PZ 41 (a0.extract 2 (2+363))) {c:Int} (hv:Uce a0 c=true) (a1:Int) :
    allP (prsV a0) (prsN a0) (prsR PZ a0 c) (oneN a1 (num a0 1)) (oneA a1 (num a0 1))=true ∧
    (((clM (worQ PZ a0 c) a1 (num a0 1).toNat 36).2<0∧Uay (prsV a0) (prsR PZ a0 c) (oneA a1 (num a0 1)) (oneN a1 (num a0 1)) = -1) ∨
      ∃ (q:Nat×Nat) (i:Nat),i<oneN a1 (num a0 1)∧Uay (prsV a0) (prsR PZ a0 c) (oneA a1 (num a0 1)) (oneN a1 (num a0 1))=(i:Int)∧(oneA a1 (num a0 1)).extract (i*3) (i*3+3)=(⟨Ub7 q⟩:Array Value)∧q.1<36∧(q.2:Int)<num a0 1∧bitI a1 q.1=true∧clM (worQ PZ a0 c) a1 (num a0 1).toNat 36=(((q.1:Int),(q.2:Int)),worQ PZ a0 c q)∧0≤worQ PZ a0 c q):=by
  have h8:=(Zor.1 hv).2.1
  have hm:∀ q ∈ prL a1 (num a0 1).toNat 36,q.1<36∧(q.2:Int)<num a0 1:=fun q hq=>by
    obtain ⟨m1,-,m3⟩:=Yhh hq
    exact ⟨m1,by omega⟩
  have hfl:=fl_prL (worQ PZ a0 c) a1 (num a0 1).toNat 36
  obtain ⟨ka,ta,en⟩:=Yko (worQ PZ a0 c) a1 (num a0 1).toNat 36
  unfold oneN oneA
  refine ⟨Ygh.2 fun k hk=> ?_, ?_⟩
  · rw [Yds hk]
    exact (Ycw hz hS hv (hm _ (List.getElem_mem hk))).1
  · have hb:=Yfp (W:=worQ PZ a0 c) (l:=prL a1 (num a0 1).toNat 36) (gt:=gtA (prsV a0) (prsR PZ a0 c) (arrL (prL a1 (num a0 1).toNat 36))) (fun q hq=>(Ycw hz hS hv (hm q hq)).2) (fun i j hi hj=>by
      unfold gtA
      rw [Yds hi,Yds hj]
      exact gt_wor hz h8.2 (hm _ (List.getElem_mem hi)) (hm _ (List.getElem_mem hj))) (prL a1 (num a0 1).toNat 36).length (Nat.le_refl _)
    rw [List.take_length,hfl] at hb
    unfold Uay
    rcases hb with ⟨e0,e1,e2⟩ | ⟨i,hi,e1,e2⟩
    · left
      refine ⟨?_,e1⟩
      have:=congrArg Prod.snd e2
      dsimp only at this
      omega
    · right
      have hq:=hm _ (List.getElem_mem hi)
      have hmem:=Yhh (List.getElem_mem hi)
      refine ⟨(prL a1 (num a0 1).toNat 36)[i],i,hi,e1,Yds hi,hq.1,hq.2,hmem.2.1, ?_,(Ycw hz hS hv hq).2⟩
      have x1:=congrArg Prod.fst e2
      have x2:=congrArg Prod.snd e2
      dsimp only at x1 x2
      rw [en] at x1
      dsimp only at x1
      rw [Q9,Q9] at x1
      refine Prod.ext ?_ x2
      rw [en,← x1]
def relM (P:Program) (a0:Array Value) (a1 a2:Int):Array Value:=⟨Ub7 ((clM (worQ P a0 a2) a1 (num a0 1).toNat 36).1.1.toNat,(clM (worQ P a0 a2) a1 (num a0 1).toNat 36).1.2.toNat)⟩
def rowM (P:Program) (a0:Array Value) (a1 a2:Int):Int:=num (rowR P sumL (a0.extract 2 (2+363)) (rowC P a2) (num a0 0) (num a0 1) (num a0 1 - (clM (worQ P a0 a2) a1 (num a0 1).toNat 36).1.2).toNat) (clM (worQ P a0 a2) a1 (num a0 1).toNat 36).1.1.toNat
def shaM (P:Program) (a0:Array Value) (a1 a2:Int):Array Value:=Zbl (rowM P a0 a1 a2) (12^(num a0 1 - (clM (worQ P a0 a2) a1 (num a0 1).toNat 36).1.2).toNat)
theorem Zud {V:Array Value} (h:WT PZ 73 V):2≤V.size:=by
 rw [h.layLen]
 exact Nat.le_of_ble_eq_true (by kernel_rfl)
theorem Yc6 {V:Array Value} (h:WT PZ 73 V):WT PZ 41 (V.extract 2 (2+363)):=by
 have h1:=h.sub (T:=41) (o:=2) (Zjh rfl (by kernel_rfl)) (Nat.lt_of_lt_of_eq (by decide:0<363) (by kernel_rfl))
 rw [show (zc PZ 41).size=363 by kernel_rfl] at h1
 exact h1
def Zh9:Cons:=(mkΓw [(64,conS Zfr)] [(44,conG Zn1),(51,conG Zez),(65,con Zed)] [] [])
theorem Zkf (N:Nat) (a0:Array Value) (a1 a2:Int) (g_et:Addr) (g_tb:Addr) (bS:Option (Option Addr)) (n_a0x365:Nat) (aS:Array Value):ansV PZ Zh9 N Tryz.f35 [] [.r a0 73 [(365,2)],.i .u64 (a1),.i .u64 (a2)] [.gl 0 184 g_et 3000075,.gl 1 0 g_tb 1000000000,.sl (.came bS) n_a0x365 aS 82]=(bif (prsG a0 a2) then (bif (decide (a1<68719476736)&&(decide (0≤(num a0 1))&&decide ((num a0 1)≤100))) then (bif decide ((Uay (prsV a0) (prsR PZ a0 a2) (oneA a1 (num a0 1)) ((oneN a1 (num a0 1))))<(0:Int)) then (bif (allP (prsV a0) ((prsN a0)) (prsR PZ a0 a2) ((oneN a1 (num a0 1))) (oneA a1 (num a0 1))) then (some (.t [.g #[.int .i8 (0:Int),.int .i8 (0:Int),.int .i16 (0:Int)] 82,.g #[.int .i64 (0:Int),.int .i64 (0:Int)] 34,.v (.iface 117 (.int .i64 (6:Int)))],.none,true))
          else (none))
        else (bif (allP (prsV a0) ((prsN a0)) (prsR PZ a0 a2) ((oneN a1 (num a0 1))) (oneA a1 (num a0 1))) then (bif (decide (0≤(Uay (prsV a0) (prsR PZ a0 a2) (oneA a1 (num a0 1)) ((oneN a1 (num a0 1)))))&&decide ((Uay (prsV a0) (prsR PZ a0 a2) (oneA a1 (num a0 1)) ((oneN a1 (num a0 1))))<(((oneN a1 (num a0 1))):Int))) then (bif (decide (0≤(Uay (prsV a0) (prsR PZ a0 a2) (oneA a1 (num a0 1)) ((oneN a1 (num a0 1)))))&&decide ((Uay (prsV a0) (prsR PZ a0 a2) (oneA a1 (num a0 1)) ((oneN a1 (num a0 1))))<(((oneN a1 (num a0 1))):Int))) then (bif (Za1 (prsV a0) ((oneA a1 (num a0 1)).extract ((Uay (prsV a0) (prsR PZ a0 a2) (oneA a1 (num a0 1)) ((oneN a1 (num a0 1)))).toNat*3) (((Uay (prsV a0) (prsR PZ a0 a2) (oneA a1 (num a0 1)) ((oneN a1 (num a0 1)))).toNat*3)+3)) none ((prsN a0)) (prsR PZ a0 a2)) then (some (.t [.g ((oneA a1 (num a0 1)).extract ((Uay (prsV a0) (prsR PZ a0 a2) (oneA a1 (num a0 1)) ((oneN a1 (num a0 1)))).toNat*3) (((Uay (prsV a0) (prsR PZ a0 a2) (oneA a1 (num a0 1)) ((oneN a1 (num a0 1)))).toNat*3)+3)) 82,.g (Zae (prsV a0) ((oneA a1 (num a0 1)).extract ((Uay (prsV a0) (prsR PZ a0 a2) (oneA a1 (num a0 1)) ((oneN a1 (num a0 1)))).toNat*3) (((Uay (prsV a0) (prsR PZ a0 a2) (oneA a1 (num a0 1)) ((oneN a1 (num a0 1)))).toNat*3)+3)) none ((prsN a0)) (prsR PZ a0 a2)) 34,.v (.nilIface)],.none,true))
                else (none))
              else (none))
            else (none))
          else (none)))
      else (none))
    else (none)):=by kernel_rfl
theorem Zot (a0:Array Value) (a1 a2:Int) (g_et:Addr) (g_tb:Addr) (bS:Option (Option Addr)) (n_a0x365:Nat) (aS:Array Value) (h_a0:WT PZ 73 a0) (h_a1:IntKind.u64.min≤a1∧a1≤IntKind.u64.max) (h_a2:IntKind.u64.min≤a2∧a2≤IntKind.u64.max) (h_a0x365:aS.size=n_a0x365*(lay PZ 82).length∧(∀ k,k<n_a0x365→WT PZ 82 (aS.extract (k*(lay PZ 82).length) (k*(lay PZ 82).length+(lay PZ 82).length)))∧n_a0x365≤9223372036854775807) (hc0:(decide ((clM (worQ PZ a0 a2) a1 (num a0 1).toNat 36).2<(0:Int)))=false) (hg:((prsG a0 a2&&(Uce a0 a2&&decide (a1<68719476736))))=true):ansV PZ Zh9 1000 Tryz.f35 [] [.r a0 73 [(365,2)],.i .u64 (a1),.i .u64 (a2)] [.gl 0 184 g_et 3000075,.gl 1 0 g_tb 1000000000,.sl (.came bS) n_a0x365 aS 82]=some (.t [.g (relM PZ a0 a1 a2) 82,.g (shaM PZ a0 a1 a2) 34,.v (.nilIface)],.none,true):=by
 simp only [Q7] at hg
 obtain ⟨hpg,hv,hlow⟩:=hg
 obtain ⟨⟨hok,hb⟩,h8,hcs⟩:=Zor.1 hv
 obtain ⟨hall,hbest⟩:=Ygy (Zud h_a0) (Yc6 h_a0) hv a1
 refine (Zkf 1000 a0 a1 a2 g_et g_tb bS n_a0x365 aS).trans ?_
 rw [hpg,hlow,Q3 h8.1,Q3 (show num a0 1≤100 by omega),hall]
 have hc:=of_decide_eq_false hc0
 rcases hbest with ⟨hn,e⟩ | ⟨q,i,hi,e,ex,h1,h2,hbit,hcl,hw⟩
 ·exact absurd hn hc
 ·have hot:=(Ycw (Zud h_a0) (Yc6 h_a0) hv ⟨h1,h2⟩).1
  have hso:=Zpl (bb:=none) hot
  have e1:relM PZ a0 a1 a2=(⟨Ub7 q⟩:Array Value):=by unfold relM;rw [hcl];rfl
  have e2:shaM PZ a0 a1 a2=Zae (prsV a0) (⟨Ub7 q⟩:Array Value) none (prsN a0) (prsR PZ a0 a2):=by
   rw [hso.2,Ufj (Zud h_a0) h1 h2 h8.2,Ufe (Zud h_a0) h1 h2 h8.2]
   unfold shaM rowM
   rw [hcl]
   rfl
  rw [e,Q9,ex,hso.1,e1,e2,Q4 (show ¬ (i:Int)<0 by omega),Q3 (show 0≤(i:Int) by omega),Q3 (show (i:Int)<((oneN a1 (num a0 1):Nat):Int) by omega)]
  rfl
theorem Zoe (a0:Array Value) (a1 a2:Int) (g_et:Addr) (g_tb:Addr) (bS:Option (Option Addr)) (n_a0x365:Nat) (aS:Array Value) (h_a0:WT PZ 73 a0) (h_a1:IntKind.u64.min≤a1∧a1≤IntKind.u64.max) (h_a2:IntKind.u64.min≤a2∧a2≤IntKind.u64.max) (h_a0x365:aS.size=n_a0x365*(lay PZ 82).length∧(∀ k,k<n_a0x365→WT PZ 82 (aS.extract (k*(lay PZ 82).length) (k*(lay PZ 82).length+(lay PZ 82).length)))∧n_a0x365≤9223372036854775807) (hc0:(decide ((clM (worQ PZ a0 a2) a1 (num a0 1).toNat 36).2<(0:Int)))=true) (hg:((prsG a0 a2&&(Uce a0 a2&&decide (a1<68719476736))))=true):ansV PZ Zh9 1000 Tryz.f35 [] [.r a0 73 [(365,2)],.i .u64 (a1),.i .u64 (a2)] [.gl 0 184 g_et 3000075,.gl 1 0 g_tb 1000000000,.sl (.came bS) n_a0x365 aS 82]=some (.t [.g #[.int .i8 (0:Int),.int .i8 (0:Int),.int .i16 (0:Int)] 82,.g #[.int .i64 (0:Int),.int .i64 (0:Int)] 34,.v (.iface 117 (.int .i64 (6:Int)))],.none,true):=by
 simp only [Q7] at hg
 obtain ⟨hpg,hv,hlow⟩:=hg
 obtain ⟨⟨hok,hb⟩,h8,hcs⟩:=Zor.1 hv
 obtain ⟨hall,hbest⟩:=Ygy (Zud h_a0) (Yc6 h_a0) hv a1
 refine (Zkf 1000 a0 a1 a2 g_et g_tb bS n_a0x365 aS).trans ?_
 rw [hpg,hlow,Q3 h8.1,Q3 (show num a0 1≤100 by omega),hall]
 have hc:=of_decide_eq_true hc0
 rcases hbest with ⟨-,e⟩ | ⟨q,i,hi,e,ex,h1,h2,hbit,hcl,hw⟩
 ·rw [e];rfl
 ·rw [hcl] at hc
  dsimp only at hc
  omega
def Zci:SCon:=fun args h=>match args,h with
 | [.r a0 73 [(365,2)],.i .u64 a1,.i .u64 a2],[.gl 0 184 g_et 3000075,.gl 1 0 g_tb 1000000000,.sl (.came bS) n_a0x365 aS 82]=>.two (decide ((clM (worQ PZ a0 a2) a1 (num a0 1).toNat 36).2<(0:Int))) (.one (some (.t [.g #[.int .i8 (0:Int),.int .i8 (0:Int),.int .i16 (0:Int)] 82,.g #[.int .i64 (0:Int),.int .i64 (0:Int)] 34,.v (.iface 117 (.int .i64 (6:Int)))],.none,(prsG a0 a2&&(Uce a0 a2&&decide (a1<68719476736)))))) (.one (some (.t [.g (relM PZ a0 a1 a2) 82,.g (shaM PZ a0 a1 a2) 34,.v (.nilIface)],.none,(prsG a0 a2&&(Uce a0 a2&&decide (a1<68719476736))))))
 | _,_=>.one none
theorem Zjg:EntX PZ 35:=Zag (fn:=Tryz.f35) (by kernel_rfl) (by kernel_rfl) (by kernel_rfl)
theorem Zki:Uad mn PZ 35 (fun args h=>Uah (Zci args h)):=by
 intro ρ h w args vals r e hn hr hA hH
 dsimp only at hr
 unfold Zci at hr
 split at hr
 ·rename_i a0 a1 a2 g_et g_tb bS n_a0x365 aS
  simp only [Uah] at hr
  cases hc0:(decide ((clM (worQ PZ a0 a2) a1 (num a0 1).toNat 36).2<(0:Int)))
  ·rw [hc0] at hr
   simp only [Uah,Q1,Q2] at hr
   obtain ⟨rfl,rfl,hg2⟩:=BQi hr
   exact ((Zai (N:=1000) (by kernel_rfl) (mkΓw_sX (Zpi Zj0) Zio (mkΓw_cX (Zl3 Zwy) Zqa (mkΓw_cX (Zl3 Zh4) Zgu (mkΓw_cX (Zad Zet) Zds mkΓx_nilX)))) (fn:=Tryz.f35) (by kernel_rfl) (by kernel_rfl) [])) ρ _ w _ vals _ _ hn ((Zot a0 a1 a2 g_et g_tb bS n_a0x365 aS (hA.wtr 0 rfl) (hA.rng 1 rfl) (hA.rng 2 rfl) (hH.slw 2 rfl) hc0 hg2)) hA hH
  ·rw [hc0] at hr
   simp only [Uah,Q1,Q2] at hr
   obtain ⟨rfl,rfl,hg2⟩:=BQi hr
   exact ((Zai (N:=1000) (by kernel_rfl) (mkΓw_sX (Zpi Zj0) Zio (mkΓw_cX (Zl3 Zwy) Zqa (mkΓw_cX (Zl3 Zh4) Zgu (mkΓw_cX (Zad Zet) Zds mkΓx_nilX)))) (fn:=Tryz.f35) (by kernel_rfl) (by kernel_rfl) [])) ρ _ w _ vals _ _ hn ((Zoe a0 a1 a2 g_et g_tb bS n_a0x365 aS (hA.wtr 0 rfl) (hA.rng 1 rfl) (hA.rng 2 rfl) (hH.slw 2 rfl) hc0 hg2)) hA hH
 ·simp only [Uah] at hr
  cases hr
def Zgk:Con:=fun args h=>match args,h with
 | [.r a0 73 [(365,2)],.i .u64 a1,.i .u64 a2],[.gl 0 184 g_et 3000075,.gl 1 0 g_tb 1000000000,.sl (.came bS) n_a0x365 aS 82]=>some (.t [.g #[.int .i8 (0:Int),.int .i8 (0:Int),.int .i16 (0:Int)] 82,.g #[.int .i64 (0:Int),.int .i64 (0:Int)] 34,.v (.iface 117 (.int .i64 (6:Int)))],.none,(decide ((clM (worQ PZ a0 a2) a1 (num a0 1).toNat 36).2<(0:Int))&&((prsG a0 a2&&(Uce a0 a2&&decide (a1<68719476736))))))
 | _,_=>none
theorem Zqw:Uad mn PZ 35 Zgk:=Uad.of Zki (by
 intro ρ h w args vals r e hA hH hr
 unfold Zgk at hr
 split at hr
 ·rename_i a0 a1 a2 g_et g_tb bS n_a0x365 aS
  obtain ⟨rfl,rfl,hg2⟩:=BQi hr
  simp only [Q7,Bool.not_eq_true'] at hg2
  obtain ⟨q0,q1⟩:=hg2
  show Uah (Zci _ _)=_
  unfold Zci
  simp only [Uah,q0,q1,Q1,Q2,Bool.and_self]
 ·cases hr)
def Zf7:Con:=fun args h=>match args,h with
 | [.r a0 73 [(365,2)],.i .u64 a1,.i .u64 a2],[.gl 0 184 g_et 3000075,.gl 1 0 g_tb 1000000000,.sl (.came bS) n_a0x365 aS 82]=>some (.t [.g (relM PZ a0 a1 a2) 82,.g (shaM PZ a0 a1 a2) 34,.v (.nilIface)],.none,((!(decide ((clM (worQ PZ a0 a2) a1 (num a0 1).toNat 36).2<(0:Int))))&&((prsG a0 a2&&(Uce a0 a2&&decide (a1<68719476736))))))
 | _,_=>none
theorem Zql:Uad mn PZ 35 Zf7:=Uad.of Zki (by
 intro ρ h w args vals r e hA hH hr
 unfold Zf7 at hr
 split at hr
 ·rename_i a0 a1 a2 g_et g_tb bS n_a0x365 aS
  obtain ⟨rfl,rfl,hg2⟩:=BQi hr
  simp only [Q7,Bool.not_eq_true'] at hg2
  obtain ⟨q0,q1⟩:=hg2
  show Uah (Zci _ _)=_
  unfold Zci
  simp only [Uah,q0,q1,Q1,Q2,Bool.and_self]
 ·cases hr)
def Uc6 (S p:Array Value) (k c:Int):Bool:=(okS S&&(decide (0≤num p 0)&&decide (num p 0≤1)))&&((decide (0≤num p 1)&&decide (num p 1≤8))&&((decide (0≤k)&&decide (k≤35))&&Zaf S c))
theorem Ygd {S p:Array Value} {k c:Int}:Uc6 S p k c=true ↔ (okS S=true∧(0≤num p 0∧num p 0≤1))∧(0≤num p 1∧num p 1≤8)∧(0≤k∧k≤35)∧Zaf S c=true:=by
 unfold Uc6
 simp only [Q7,decide_eq_true_eq]
def worH (P:Program) (S p:Array Value) (k c:Int) (t:Nat):Int:=worW P S (num p 0) (num p 1) k (t:Int) c
def Zfu (a2 a3:Int) (a0 a1:Array Value) (bQ:Option (Option Addr)) (nQ:Nat) (aQ:Array Value):St:=(⟨.a (.w 0) :: .a (.w 1) :: .a (.i .i64 (a2)) :: .a (.i .u64 (a3))::us 4 (.a (.i .i64 (0:Int)) :: .a (.i .i64 (0:Int)) :: .a (.i .i64 (0:Int)) :: .a (.i .i64 (-1:Int)) :: .a (.i .i64 (0:Int))::us 23 ([])),[.row a0 41,.one (.r a1 45 [(2,2)]) 45,.sl (.came bQ) nQ aQ 82],[]⟩:St)
def Zhn:Int×Int×Int→LS
 | (y0_10,y0_11,y0_12)=>([.a (.i .i64 (y0_10)),.a (.i .i64 (y0_11)),.a (.i .i64 (y0_12))],[])
def Zmk:Int×Int×Int→Exit×LS
 | t=>((.exit 0),Zhn t)
def Zd5 (P : Program) (a2 a3 : Int) (a0 a1 : Array Value) (bQ : Option (Option Addr)) (nQ : Nat) (aQ : Array Value) : Int × Int × Int → Option (Stp (Int × Int × Int) (Int × Int × Int))
 | (y0_10, y0_11, y0_12) => bif decide (y0_12 < (i64.wrap (num a1 1))) then (bif (Zel a2 y0_12 a3 a0 a1 bQ nQ aQ) then (bif decide ((Zca PZ a2 y0_12 a3 a0 a1 bQ nQ aQ) > y0_11) then (some (.more (y0_12, (Zca PZ a2 y0_12 a3 a0 a1 bQ nQ aQ), (i64.wrap (y0_12 + (1 : Int))))))
    else (some (.more (y0_10, y0_11, (i64.wrap (y0_12 + (1 : Int)))))))
   else (none))
  else (some (.done (y0_10, y0_11, y0_12)))
theorem Ydh (N:Nat) (a2 a3:Int) (a0 a1:Array Value) (bQ:Option (Option Addr)) (nQ:Nat) (aQ:Array Value):∀ t:Int×Int×Int,Uai PZ (mkΓ [(48,con Zbw)]) N (cAt (codeOf Tryz.f26) [1,1,1,0,1,0,0]) (pAt (Uaa (codeOf Tryz.f26) [([10,11,12],[])]).1 [1,1,1,0,1,0]) [10,11,12] [] (Zfu a2 a3 a0 a1 bQ nQ aQ) (Zhn t)=mapS Zhn Zmk (Zd5 PZ a2 a3 a0 a1 bQ nQ aQ t):=by
 rintro ⟨y0_10,y0_11,y0_12⟩
 refine Eq.trans (b:=(bif decide (y0_12<(i64.wrap (num a1 1))) then (bif (Zel a2 y0_12 a3 a0 a1 bQ nQ aQ) then (bif decide ((Zca PZ a2 y0_12 a3 a0 a1 bQ nQ aQ) > y0_11) then (some (.more ([.a (.i .i64 (y0_12)),.a (.i .i64 (Zca PZ a2 y0_12 a3 a0 a1 bQ nQ aQ)),.a (.i .i64 (i64.wrap (y0_12+(1:Int))))],[])))
    else (some (.more ([.a (.i .i64 (y0_10)),.a (.i .i64 (y0_11)),.a (.i .i64 (i64.wrap (y0_12+(1:Int))))],[]))))
   else (none))
  else (some (.done ((.exit 0),([.a (.i .i64 (y0_10)),.a (.i .i64 (y0_11)),.a (.i .i64 (y0_12))],[])))))) (by kernel_rfl) ?_
 simp only [Zd5,Za3,Za4,Za5,Za2,Zhn,Zmk]
def Zkk (P:Program) (N:Nat) (a2 a3:Int) (a0 a1:Array Value) (bQ:Option (Option Addr)) (nQ:Nat) (aQ:Array Value) (z0_10:Int) (z0_11:Int) (z0_12:Int):Option (SV×Eff×Bool):=some (.t [.i .i64 (z0_10),.i .i64 (z0_11)],.none,true)
theorem Ztm (N:Nat) (a2 a3:Int) (a0 a1:Array Value) (bQ:Option (Option Addr)) (nQ:Nat) (aQ:Array Value) (z0_10:Int) (z0_11:Int) (z0_12:Int):(Uab 0 (kSeq (veC PZ (mkΓ [(48,con Zbw)]) N (cAt (codeOf Tryz.f26) [1,1,1,1]) (pAt (Uaa (codeOf Tryz.f26) [([10,11,12],[])]).1 [1,1,1,1]) (SV×Eff×Bool)) (finK PZ [.row a0 41,.one (.r a1 45 [(2,2)]) 45,.sl (.came bQ) nQ aQ 82] [.tmp 8,.tmp 9]))) (.exit 0) (left (writes (cAt (codeOf Tryz.f26) [1,1,1,0,1,0,0])) [10,11,12] [] (Zfu a2 a3 a0 a1 bQ nQ aQ) ([.a (.i .i64 (z0_10)),.a (.i .i64 (z0_11)),.a (.i .i64 (z0_12))],[]))=Zkk PZ N a2 a3 a0 a1 bQ nQ aQ z0_10 z0_11 z0_12:=by
 refine Eq.trans (b:=(some (.t [.i .i64 (z0_10),.i .i64 (z0_11)],.none,true))) (by kernel_rfl) ?_
 rfl
theorem Ydr (N:Nat) (a2 a3:Int) (a0 a1:Array Value) (bQ:Option (Option Addr)) (nQ:Nat) (aQ:Array Value):Uag (Uac (Uai PZ (mkΓ [(48,con Zbw)]) N (cAt (codeOf Tryz.f26) [1,1,1,0,1,0,0]) (pAt (Uaa (codeOf Tryz.f26) [([10,11,12],[])]).1 [1,1,1,0,1,0]) [10,11,12] [] (Zfu a2 a3 a0 a1 bQ nQ aQ)) N ([.a (.i .i64 (0:Int)),.a (.i .i64 (-1:Int)),.a (.i .i64 (0:Int))],[])) (fun e s=>(Uab 0 (kSeq (veC PZ (mkΓ [(48,con Zbw)]) N (cAt (codeOf Tryz.f26) [1,1,1,1]) (pAt (Uaa (codeOf Tryz.f26) [([10,11,12],[])]).1 [1,1,1,1]) (SV×Eff×Bool)) (finK PZ [.row a0 41,.one (.r a1 45 [(2,2)]) 45,.sl (.came bQ) nQ aQ 82] [.tmp 8,.tmp 9]))) e (left (writes (cAt (codeOf Tryz.f26) [1,1,1,0,1,0,0])) [10,11,12] [] (Zfu a2 a3 a0 a1 bQ nQ aQ) s))=Ual (Uac (Zd5 PZ a2 a3 a0 a1 bQ nQ aQ) N ((0:Int),(-1:Int),(0:Int))) (fun x=>Zkk PZ N a2 a3 a0 a1 bQ nQ aQ x.1 x.2.1 x.2.2):=by
 refine Zbg Zhn Zmk _ _ (Ydh N a2 a3 a0 a1 bQ nQ aQ) N ((0:Int),(-1:Int),(0:Int)) _ _ ?_
 intro x;exact Ztm N a2 a3 a0 a1 bQ nQ aQ x.1 x.2.1 x.2.2
theorem Ybt (N:Nat) (a2 a3:Int) (a0 a1:Array Value) (bQ:Option (Option Addr)) (nQ:Nat) (aQ:Array Value):ansV PZ (mkΓ [(48,con Zbw)]) N Tryz.f26 [([10,11,12],[])] [.w 0,.w 1,.i .i64 (a2),.i .u64 (a3)] [.row a0 41,.one (.r a1 45 [(2,2)]) 45,.sl (.came bQ) nQ aQ 82]=(Ual (Uac (Zd5 PZ a2 a3 a0 a1 bQ nQ aQ) N ((0:Int),(-1:Int),(0:Int))) (fun x=>Zkk PZ N a2 a3 a0 a1 bQ nQ aQ x.1 x.2.1 x.2.2)):=by
 refine Eq.trans (b:=(Uag (Uac (Uai PZ (mkΓ [(48,con Zbw)]) N (cAt (codeOf Tryz.f26) [1,1,1,0,1,0,0]) (pAt (Uaa (codeOf Tryz.f26) [([10,11,12],[])]).1 [1,1,1,0,1,0]) [10,11,12] [] (Zfu a2 a3 a0 a1 bQ nQ aQ)) N ([.a (.i .i64 (0:Int)),.a (.i .i64 (-1:Int)),.a (.i .i64 (0:Int))],[])) (fun e s=>(Uab 0 (kSeq (veC PZ (mkΓ [(48,con Zbw)]) N (cAt (codeOf Tryz.f26) [1,1,1,1]) (pAt (Uaa (codeOf Tryz.f26) [([10,11,12],[])]).1 [1,1,1,1]) (SV×Eff×Bool)) (finK PZ [.row a0 41,.one (.r a1 45 [(2,2)]) 45,.sl (.came bQ) nQ aQ 82] [.tmp 8,.tmp 9]))) e (left (writes (cAt (codeOf Tryz.f26) [1,1,1,0,1,0,0])) [10,11,12] [] (Zfu a2 a3 a0 a1 bQ nQ aQ) s)))) (by kernel_rfl) ?_
 simp only [Ydr N a2 a3 a0 a1 bQ nQ aQ]
theorem Zze (a2 a3:Int) (a0 a1:Array Value) (bQ:Option (Option Addr)) (nQ:Nat) (aQ:Array Value) (h_a2:i64.min≤a2∧a2≤i64.max) (h_a3:IntKind.u64.min≤a3∧a3≤IntKind.u64.max) (h_a0:WT PZ 41 a0) (h_a1:WT PZ 45 a1) (h_a1x2:aQ.size=nQ*(lay PZ 82).length∧(∀ k,k<nQ→WT PZ 82 (aQ.extract (k*(lay PZ 82).length) (k*(lay PZ 82).length+(lay PZ 82).length)))∧nQ≤9223372036854775807) (hg:((Uc6 a0 a1 a2 a3))=true):ansV PZ (mkΓ [(48,con Zbw)]) 1000 Tryz.f26 [([10,11,12],[])] [.w 0,.w 1,.i .i64 (a2),.i .u64 (a3)] [.row a0 41,.one (.r a1 45 [(2,2)]) 45,.sl (.came bQ) nQ aQ 82]=some (.t [.i .i64 (hrM (worH PZ a0 a1 a2 a3) (num a1 1).toNat).1,.i .i64 (hrM (worH PZ a0 a1 a2 a3) (num a1 1).toNat).2],.none,true):=by
 obtain ⟨⟨hok,hb⟩,h8,hk,hcs⟩:=Ygd.1 hg
 obtain ⟨m,em⟩:=Int.eq_ofNat_of_zero_le h8.1
 refine (Ybt 1000 a2 a3 a0 a1 bQ nQ aQ).trans ?_
 have w1:i64.wrap (num a1 1)=(m:Int):=by rw [em];exact IntWalk.i64_in _ (by omega)
 have hit:Uac (Zd5 PZ a2 a3 a0 a1 bQ nQ aQ) 1000 ((0:Int),(-1:Int),(0:Int))=some ((hrM (worH PZ a0 a1 a2 a3) m).1,(hrM (worH PZ a0 a1 a2 a3) m).2,(m:Int)):=Zdr (g:=Zd5 PZ a2 a3 a0 a1 bQ nQ aQ) (fun t=>((hrM (worH PZ a0 a1 a2 a3) t).1,(hrM (worH PZ a0 a1 a2 a3) t).2,(t:Int))) (m:=m) (x:=((hrM (worH PZ a0 a1 a2 a3) m).1,(hrM (worH PZ a0 a1 a2 a3) m).2,(m:Int))) (N:=1000) (fun t ht=>by
  have h1:decide ((t:Int)<(m:Int))=true:=Q3 (by omega)
  have hw:=worth_eq (n:=nQ) (A:=aQ) bQ h_a0 hok (k:=a2) (c:=a3) (h:=(t:Int)) hb hk hcs (by omega) h8.2
  have h3:i64.wrap ((t:Int)+1)=((t+1:Nat):Int):=by rw [IntWalk.i64_in _ (by omega)];omega
  have e1:worW PZ a0 (num a1 0) (num a1 1) a2 (t:Int) a3=worH PZ a0 a1 a2 a3 t:=rfl
  simp only [Zd5,w1,h1,h3,hw.1,hw.2,e1,Q1,gt_iff_lt]
  rw [hrM]
  cases decide ((hrM (worH PZ a0 a1 a2 a3) t).2<worH PZ a0 a1 a2 a3 t)<;>rfl) (by
  have h1:decide ((m:Int)<(m:Int))=false:=Q4 (by omega)
  simp only [Zd5,w1,h1,Q2]) (by omega)
 rw [hit,em,Q9]
 rfl
def Zle:Con:=fun args h=>match args,h with
 | [.w 0,.w 1,.i .i64 a2,.i .u64 a3],[.row a0 41,.one (.r a1 45 [(2,2)]) 45,.sl (.came bQ) nQ aQ 82]=>some (.t [.i .i64 (hrM (worH PZ a0 a1 a2 a3) (num a1 1).toNat).1,.i .i64 (hrM (worH PZ a0 a1 a2 a3) (num a1 1).toNat).2],.none,(Uc6 a0 a1 a2 a3))
 | _,_=>none
theorem Zww:EntX PZ 26:=Zag (fn:=Tryz.f26) (by kernel_rfl) (by kernel_rfl) (by kernel_rfl)
theorem Yc3:Uad mn PZ 26 Zle:=(Zai (N:=1000) (by kernel_rfl) (mkΓ_consX (Zad Yaj) Zuu mkΓ_nilX) (fn:=Tryz.f26) (by kernel_rfl) (by kernel_rfl) [([10,11,12],[])]).of (by
 intro ρ h w args vals r e hA hH hr
 unfold Zle at hr
 split at hr
 ·rename_i a2 a3 a0 a1 bQ nQ aQ
  obtain ⟨rfl,rfl,hg2⟩:=BQi hr
  exact Zze a2 a3 a0 a1 bQ nQ aQ (hA.rng 2 rfl) (hA.rng 3 rfl) (hH.wt 0 rfl) (hH.wtr 1 rfl) (hH.slw 2 rfl) hg2
 ·cases hr)
end
end Go.Proofs.YtohnggmlmglhmaaGreatDoor
