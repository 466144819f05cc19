/- BestHour, both sides. -/
import Derived.Test.YtohnggmlmglhmaaGreatDoorProg
import Derived.Test.YtohnggmlmglhmaaGreatDoorCnF
namespace Go.Proofs.YtohnggmlmglhmaaGreatDoor
open Go.ChangeShapes Go.WideShapes Go.ChangeAt Go.RowKit Ve Vc
open Tryz renaming prog → PZ
open IntKind (i64)
set_option linter.unusedVariables false
set_option linter.unusedSimpArgs false
set_option maxRecDepth 100000
noncomputable section
variable {mn:Md}
theorem Zwa {p:Array Value} (hp:WT PZ 45 p):i64.wrap (num p 0)=num p 0∧i64.wrap (num p 1)=num p 1:=by
 obtain ⟨-,b0⟩:=hp.int (o:=0) (k:=.i8) (by kernel_rfl)
 obtain ⟨-,b1⟩:=hp.int (o:=1) (k:=.i8) (by kernel_rfl)
 have m8:IntKind.i8.min = -128∧IntKind.i8.max=127:=⟨rfl,rfl⟩
 exact ⟨IntWalk.i64_in _ (by omega),IntWalk.i64_in _ (by omega)⟩
theorem Zse {S p A:Array Value} {n:Nat} (hp:WT PZ 45 p) (h:Ua7 S p n A=true):(0≤num p 0∧num p 0≤1)∧1≤num p 1∧num p 1≤8:=by
 unfold Ua7 at h
 rw [(Zwa hp).1,(Zwa hp).2] at h
 simp only [Q7] at h
 exact ⟨Ylw h.1,Ylw h.2.1⟩
theorem Zss {S p:Array Value} (hS:WT PZ 41 S) (hp:WT PZ 45 p):(voyV PZ S p).extract 2 (2+363)=S∧num (voyV PZ S p) 0=num p 0∧num (voyV PZ S p) 1=num p 1:=by
 obtain ⟨h1,h2⟩:=Yjp (S:=S) (p:=p) (Ype hS)
 have e0:∀ i,i<2→num (voyV PZ S p) i=num ((voyV PZ S p).extract 0 (0+2)) i:=fun i hi=>by rw [Yd2 (by omega),Nat.zero_add]
 refine ⟨h1, ?_, ?_⟩
 ·rw [e0 0 (by omega)]
  show num ((voyV PZ S p).extract 0 (0+2)) 0=_
  unfold voyV
  rw [h2]
  exact (Zwa hp).1
 ·rw [e0 1 (by omega)]
  unfold voyV
  rw [h2]
  exact (Zwa hp).2
theorem dec2le {x a b:Int} (h1:a≤x) (h2:x≤b):(decide (a≤x)&&decide (x≤b))=true:=by rw [Q3 h1,Q3 h2];rfl
theorem Yn1 {T:TypeId} {r:Array Value} (h:WT PZ T r) {i:Nat} {k:IntKind} {n:Int} (hi:(lay PZ T)[i]? = some (kN k)) (hn:k.min≤n∧n≤k.max):WT PZ T (r.setIfInBounds i (.int k n)):=by
 constructor
 ·rw [Array.toList_setIfInBounds,List.map_set,h.1]
  refine List.ext_getElem? fun j=> ?_
  by_cases hij:i=j
  ·subst hij
   rw [List.getElem?_set_self (List.getElem?_eq_some_iff.1 hi).1,hi];rfl
  ·rw [List.getElem?_set_ne hij]
 ·intro v hv
  rw [Array.toList_setIfInBounds] at hv
  rcases List.mem_or_eq_of_mem_set hv with h1 | rfl
  ·exact h.2 v h1
  ·exact hn
theorem Yoy {S p:Array Value} (hS:WT PZ 41 S) (hp:WT PZ 45 p):WT PZ 73 (voyV PZ S p):=by
 have hz:WT PZ 73 (zc PZ 73):=WT.zero (by kernel_rfl)
 have hy:WT PZ 71 (#[.int .i64 (i64.wrap (num p 0)),.int .i64 (i64.wrap (num p 1))]:Array Value):=by
  have h0:WT PZ 71 (#[.int .i64 0,.int .i64 0]:Array Value):=WT.zero (P:=PZ) (T:=71) (by kernel_rfl)
  exact Yn1 (i:=1) (Yn1 (i:=0) h0 (by kernel_rfl) (Zh4 .i64 (num p 0))) (by kernel_rfl) (Zh4 .i64 (num p 1))
 have h1:=WT.spl (o:=0) hz (Zja rfl (by kernel_rfl)) hy
 have h2:=WT.spl (o:=2) h1 (Zja rfl (by kernel_rfl)) hS
 have hn:=h2.nil (o:=365) (by kernel_rfl)
 unfold voyV
 rw [show ((spl (spl (zc PZ 73) 0 (#[.int .i64 (i64.wrap (num p 0)),.int .i64 (i64.wrap (num p 1))]:Array Value).toList) 2 S.toList).setIfInBounds 365 (.slice none 0 0))=spl (spl (zc PZ 73) 0 (#[.int .i64 (i64.wrap (num p 0)),.int .i64 (i64.wrap (num p 1))]:Array Value).toList) 2 S.toList from ?_]
 ·exact h2
 ·refine Array.ext_getElem? fun i=> ?_
  rw [Array.getElem?_setIfInBounds]
  split
  ·rename_i e
   subst e
   rw [hn]
   split
   ·rfl
   ·rename_i h3
    have:=Array.getElem?_eq_none (Nat.le_of_not_lt h3)
    rw [hn] at this
    cases this
  ·rfl
def worS (P:Program) (S p:Array Value) (c:Int) (q:Nat×Nat):Int:=worW P S (num p 0) (num p 1) (q.1:Int) (q.2:Int) c
theorem Ygt {S p:Array Value} (hS:WT PZ 41 S) (hp:WT PZ 45 p) (c:Int):worQ PZ (voyV PZ S p) c=worS PZ S p c:=by
 obtain ⟨e1,e2,e3⟩:=Zss hS hp
 funext q
 unfold worQ worS
 rw [e1,e2,e3]
theorem Yk4 {S p A:Array Value} {n:Nat} {c:Int} (hS:WT PZ 41 S) (hp:WT PZ 45 p) (hok:okS S=true) (hpl:Ua7 S p n A=true) (hU:U64 c) (hcs:Zaf S c=true):Ucf (voyV PZ S p) c=true∧prsG (voyV PZ S p) c=true:=by
 obtain ⟨e1,e2,e3⟩:=Zss hS hp
 obtain ⟨h0,h1⟩:=Zse hp hpl
 have hl:=Yov hU (Ynm hcs)
 constructor
 ·rw [Zop,e1,e2,e3]
  exact ⟨⟨hok,by omega⟩,by omega,hcs⟩
 ·unfold prsG
  rw [e1,e2,e3,hok,dec2 h0.1 (show num p 0<2 by omega),Q3 (show 0≤num p 1 by omega),Q3 (show num p 1≤14 by omega),Q3 hl]
  rfl
theorem sha_eq {V:Array Value} (hz:2≤V.size) (hS:WT PZ 41 (V.extract 2 (2+363))) {c a1:Int} (hv:Ucf V c=true) {q:Nat×Nat} (h1:q.1<36) (h2:(q.2:Int)<num V 1) (hcl:clM (worQ PZ V c) a1 (num V 1).toNat 36=(((q.1:Int),(q.2:Int)),worQ PZ V c q)):shaM PZ V a1 c=Ud1 (worQ PZ V c q) (12^(num V 1).toNat):=by
 have h8:=(Zop.1 hv).2.1
 have hot:=Yde.1 (Yc9 hz hS hv ⟨h1,h2⟩).1
 rw [Ufr hz h1 h2 h8.2] at hot
 have hr:=hot.2.2.2.1
 unfold shaM rowM
 rw [hcl]
 dsimp only
 rw [Q9,(Zwj hr (Int.pow_pos (by omega))).1]
 have e:(12:Int)^(num V 1).toNat=12^q.2*12^(num V 1 - (q.2:Int)).toNat:=by rw [← Int.pow_add];congr 1;omega
 have e2:worQ PZ V c q=12^q.2*num (rowR PZ sumL (V.extract 2 (2+363)) (rowC PZ c) (num V 0) (num V 1) (num V 1 - (q.2:Int)).toNat) q.1:=by
  unfold worQ worW
  rw [Q9,Q9]
 rw [e,e2,Yo0 (Int.pow_pos (by omega)) hr (Int.pow_pos (by omega))]
 rfl
theorem Yj9 (W:Nat×Nat→Int) (h:Nat) {z:Nat} (hz:z<36) (h0:0≤(hrM (fun t=>W (z,t)) h).2):∀ n,clM W (oneI z) h n=if z<n then (((z:Int),(hrM (fun t=>W (z,t)) h).1),(hrM (fun t=>W (z,t)) h).2) else ((0,0),-1)
 | 0=>by rw [if_neg (by omega)];rfl
 | n+1=>by
  rw [clM,Zzs (by omega),Yj9 W h hz h0 n]
  by_cases e:z=n
  ·subst e
   rw [if_neg (Nat.lt_irrefl z),if_pos (Nat.lt_succ_self z),Q3 (rfl:z=z),Q1,Q3 (show (((0,0),-1):(Int×Int)×Int).2<_ from Int.lt_of_lt_of_le (by decide:(-1:Int)<0) h0),Q1]
  ·rw [Q4 e,Q2]
   by_cases e2:z<n
   ·rw [if_pos e2,if_pos (by omega)]
   ·rw [if_neg e2,if_neg (by omega)]
def codH (S p:Array Value) (n:Nat) (A:Array Value) (k c:Int):Int:=bif (okS S&&Ua7 S p n A) then (bif Zaf S c then (bif Zan k S then (bif Za1 k S then 4 else 0) else 2) else 2) else 1
def Ub2 (S p:Array Value) (n:Nat) (A:Array Value) (k c:Int):Bool:=(okS S&&Ua7 S p n A)&&(Zaf S c&&(Zan k S && !(Za1 k S)))
def houH (P:Program) (S p:Array Value) (n:Nat) (A:Array Value) (k c:Int):Int:=bif Ub2 S p n A k c then (hrM (worH P S p k c) (num p 1).toNat).1 else 0
def shaH (P:Program) (S p:Array Value) (n:Nat) (A:Array Value) (k c:Int):Array Value:=bif Ub2 S p n A k c then Ud1 (hrM (worH P S p k c) (num p 1).toNat).2 (12^(num p 1).toNat) else #[.int .i64 (0:Int),.int .i64 (0:Int)]
theorem Yc8 {S p A:Array Value} {n:Nat} {k c:Int} (hS:WT PZ 41 S) (hp:WT PZ 45 p) (hok:okS S=true) (hpl:Ua7 S p n A=true) (hcs:Zaf S c=true) (hk:0≤k∧k≤35) :
  Ucc S p k c=true∧∃ t:Nat,(t:Int)<num p 1∧hrM (worH PZ S p k c) (num p 1).toNat=((t:Int),worH PZ S p k c t)∧0≤worH PZ S p k c t:=by
 obtain ⟨h0,h1⟩:=Zse hp hpl
 refine ⟨Yfh.2 ⟨⟨hok,h0⟩,by omega,hk,hcs⟩, ?_⟩
 have hw:∀ t:Nat,t<(num p 1).toNat→0≤worH PZ S p k c t:=fun t ht=>(Yoh hS hok h0 hk hcs (h:=(t:Int)) (by omega) h1.2).1
 obtain ⟨t,ht,e⟩:=(hrM_in (num p 1).toNat hw).2 (by omega)
 exact ⟨t,by omega,e,hw t ht⟩
def Zqy:Cons:=(mkΓ [(23,con Zkq),(24,con Zcc),(25,con Zj7),(26,con Zln),(27,con Zkr),(28,con Zhm)])
theorem Zyh (N:Nat) (a0 a1:Array Value) (a2 a3:Int) (bQ:Option (Option Addr)) (nQ:Nat) (aQ:Array Value):ansV PZ Zqy N Tryz.f8 [] [.g a0 41,.r a1 45 [(2,0)],.i .i64 (a2),.i .u64 (a3)] [.sl (.came bQ) nQ aQ 82]=(bif ((Za0 a3 a0 a1 bQ nQ aQ)==(0:Int)) then (bif (!((Zan a2 a0))) then (some (.t [.i .i64 (0:Int),.g #[.int .i64 (0:Int),.int .i64 (0:Int)] 34,.i .i64 (2:Int)],.none,true))
      else (bif ((Za0 a3 a0 a1 bQ nQ aQ)==(0:Int)) then (bif decide (0≤(IntKind.u64.wrap a2)) then (bif (Za1 a2 a0) then (some (.t [.i .i64 (0:Int),.g #[.int .i64 (0:Int),.int .i64 (0:Int)] 34,.i .i64 (4:Int)],.none,true))
            else (bif ((Za0 a3 a0 a1 bQ nQ aQ) != (0:Int)) then (some (.t [.i .i64 (0:Int),.g #[.int .i64 (0:Int),.int .i64 (0:Int)] 34,.i .i64 (Za0 a3 a0 a1 bQ nQ aQ)],.none,true))
              else (bif (Ucc a0 a1 a2 a3) then (bif (decide (0≤(i64.wrap (num a1 1)))&&decide ((i64.wrap (num a1 1))≤14)) then (bif (Zcz (hrM (worH PZ a0 a1 a2 a3) (num a1 1).toNat).2 (12^(i64.wrap (num a1 1)).toNat)) then (some (.t [.i .i64 (hrM (worH PZ a0 a1 a2 a3) (num a1 1).toNat).1,.g #[.int .i64 (i64.wrap (((hrM (worH PZ a0 a1 a2 a3) (num a1 1).toNat).2).tdiv (gcdW (hrM (worH PZ a0 a1 a2 a3) (num a1 1).toNat).2 (12^(i64.wrap (num a1 1)).toNat)))),.int .i64 (i64.wrap ((((12:Int)^(i64.wrap (num a1 1)).toNat)).tdiv (gcdW (hrM (worH PZ a0 a1 a2 a3) (num a1 1).toNat).2 (12^(i64.wrap (num a1 1)).toNat))))] 34,.i .i64 (0:Int)],.none,true))
                    else (none))
                  else (none))
                else (none))))
          else (none))
        else (bif ((Za0 a3 a0 a1 bQ nQ aQ) != (0:Int)) then (some (.t [.i .i64 (0:Int),.g #[.int .i64 (0:Int),.int .i64 (0:Int)] 34,.i .i64 (Za0 a3 a0 a1 bQ nQ aQ)],.none,true))
          else (bif (Ucc a0 a1 a2 a3) then (bif (decide (0≤(i64.wrap (num a1 1)))&&decide ((i64.wrap (num a1 1))≤14)) then (bif (Zcz (hrM (worH PZ a0 a1 a2 a3) (num a1 1).toNat).2 (12^(i64.wrap (num a1 1)).toNat)) then (some (.t [.i .i64 (hrM (worH PZ a0 a1 a2 a3) (num a1 1).toNat).1,.g #[.int .i64 (i64.wrap (((hrM (worH PZ a0 a1 a2 a3) (num a1 1).toNat).2).tdiv (gcdW (hrM (worH PZ a0 a1 a2 a3) (num a1 1).toNat).2 (12^(i64.wrap (num a1 1)).toNat)))),.int .i64 (i64.wrap ((((12:Int)^(i64.wrap (num a1 1)).toNat)).tdiv (gcdW (hrM (worH PZ a0 a1 a2 a3) (num a1 1).toNat).2 (12^(i64.wrap (num a1 1)).toNat))))] 34,.i .i64 (0:Int)],.none,true))
                else (none))
              else (none))
            else (none)))))
    else (bif ((Za0 a3 a0 a1 bQ nQ aQ)==(0:Int)) then (bif decide (0≤(IntKind.u64.wrap a2)) then (bif (Za1 a2 a0) then (some (.t [.i .i64 (0:Int),.g #[.int .i64 (0:Int),.int .i64 (0:Int)] 34,.i .i64 (4:Int)],.none,true))
          else (bif ((Za0 a3 a0 a1 bQ nQ aQ) != (0:Int)) then (some (.t [.i .i64 (0:Int),.g #[.int .i64 (0:Int),.int .i64 (0:Int)] 34,.i .i64 (Za0 a3 a0 a1 bQ nQ aQ)],.none,true))
            else (bif (Ucc a0 a1 a2 a3) then (bif (decide (0≤(i64.wrap (num a1 1)))&&decide ((i64.wrap (num a1 1))≤14)) then (bif (Zcz (hrM (worH PZ a0 a1 a2 a3) (num a1 1).toNat).2 (12^(i64.wrap (num a1 1)).toNat)) then (some (.t [.i .i64 (hrM (worH PZ a0 a1 a2 a3) (num a1 1).toNat).1,.g #[.int .i64 (i64.wrap (((hrM (worH PZ a0 a1 a2 a3) (num a1 1).toNat).2).tdiv (gcdW (hrM (worH PZ a0 a1 a2 a3) (num a1 1).toNat).2 (12^(i64.wrap (num a1 1)).toNat)))),.int .i64 (i64.wrap ((((12:Int)^(i64.wrap (num a1 1)).toNat)).tdiv (gcdW (hrM (worH PZ a0 a1 a2 a3) (num a1 1).toNat).2 (12^(i64.wrap (num a1 1)).toNat))))] 34,.i .i64 (0:Int)],.none,true))
                  else (none))
                else (none))
              else (none))))
        else (none))
      else (bif ((Za0 a3 a0 a1 bQ nQ aQ) != (0:Int)) then (some (.t [.i .i64 (0:Int),.g #[.int .i64 (0:Int),.int .i64 (0:Int)] 34,.i .i64 (Za0 a3 a0 a1 bQ nQ aQ)],.none,true))
        else (bif (Ucc a0 a1 a2 a3) then (bif (decide (0≤(i64.wrap (num a1 1)))&&decide ((i64.wrap (num a1 1))≤14)) then (bif (Zcz (hrM (worH PZ a0 a1 a2 a3) (num a1 1).toNat).2 (12^(i64.wrap (num a1 1)).toNat)) then (some (.t [.i .i64 (hrM (worH PZ a0 a1 a2 a3) (num a1 1).toNat).1,.g #[.int .i64 (i64.wrap (((hrM (worH PZ a0 a1 a2 a3) (num a1 1).toNat).2).tdiv (gcdW (hrM (worH PZ a0 a1 a2 a3) (num a1 1).toNat).2 (12^(i64.wrap (num a1 1)).toNat)))),.int .i64 (i64.wrap ((((12:Int)^(i64.wrap (num a1 1)).toNat)).tdiv (gcdW (hrM (worH PZ a0 a1 a2 a3) (num a1 1).toNat).2 (12^(i64.wrap (num a1 1)).toNat))))] 34,.i .i64 (0:Int)],.none,true))
              else (none))
            else (none))
          else (none))))):=by kernel_rfl
theorem Zx6 (a0 a1:Array Value) (a2 a3:Int) (bQ:Option (Option Addr)) (nQ:Nat) (aQ:Array Value) (h_a0:WT PZ 41 a0) (h_a1:WT PZ 45 a1) (h_a2:i64.min≤a2∧a2≤i64.max) (h_a3:IntKind.u64.min≤a3∧a3≤IntKind.u64.max) (h_a1x2:aQ.size=nQ*(lay PZ 82).length∧(∀ k,k<nQ→WT PZ 82 (aQ.extract (k*(lay PZ 82).length) (k*(lay PZ 82).length+(lay PZ 82).length)))∧nQ≤9223372036854775807) (hg:(true)=true):ansV PZ Zqy 1000 Tryz.f8 [] [.g a0 41,.r a1 45 [(2,0)],.i .i64 (a2),.i .u64 (a3)] [.sl (.came bQ) nQ aQ 82]=some (.t [.i .i64 (houH PZ a0 a1 nQ aQ a2 a3),.g (shaH PZ a0 a1 nQ aQ a2 a3) 34,.i .i64 (codH a0 a1 nQ aQ a2 a3)],.none,true):=by
 refine (Zyh 1000 a0 a1 a2 a3 bQ nQ aQ).trans ?_
 rw [ask_eq]
 have hu:decide (0≤IntKind.u64.wrap a2)=true:=Q3 (Zh4 .u64 _).1
 cases hP:(okS a0&&Ua7 a0 a1 nQ aQ) with
 | false=>
  have ha:askC a0 a1 nQ aQ a3=1:=by unfold askC;rw [hP];rfl
  unfold houH shaH Ub2 codH
  simp only [ha,hP,show ((1:Int)==0)=false from rfl,show ((2:Int)==0)=false from rfl,show ((4:Int)==0)=false from rfl,show ((0:Int)==0)=true from rfl,show ((1:Int) != 0)=true from rfl,show ((2:Int) != 0)=true from rfl,show ((0:Int) != 0)=false from rfl,BQ9,Q1,Q2]
 | true=>
  cases hC:Zaf a0 a3 with
  | false=>
   have ha:askC a0 a1 nQ aQ a3=2:=by unfold askC;rw [hP,hC];rfl
   unfold houH shaH Ub2 codH
   simp only [ha,hP,hC,show ((1:Int)==0)=false from rfl,show ((2:Int)==0)=false from rfl,show ((4:Int)==0)=false from rfl,show ((0:Int)==0)=true from rfl,show ((1:Int) != 0)=true from rfl,show ((2:Int) != 0)=true from rfl,show ((0:Int) != 0)=false from rfl,BQ9,Q1,Q2]
  | true=>
   have ha:askC a0 a1 nQ aQ a3=0:=by unfold askC;rw [hP,hC];rfl
   cases hI:Zan a2 a0 with
   | false=>
    unfold houH shaH Ub2 codH
    simp only [ha,hP,hC,hI,show ((1:Int)==0)=false from rfl,show ((2:Int)==0)=false from rfl,show ((4:Int)==0)=false from rfl,show ((0:Int)==0)=true from rfl,show ((1:Int) != 0)=true from rfl,show ((2:Int) != 0)=true from rfl,show ((0:Int) != 0)=false from rfl,BQ9,Q1,Q2]
   | true=>
    cases hD:Za1 a2 a0 with
    | true=>
     unfold houH shaH Ub2 codH
     simp only [ha,hP,hC,hI,hD,hu,show ((1:Int)==0)=false from rfl,show ((2:Int)==0)=false from rfl,show ((4:Int)==0)=false from rfl,show ((0:Int)==0)=true from rfl,show ((1:Int) != 0)=true from rfl,show ((2:Int) != 0)=true from rfl,show ((0:Int) != 0)=false from rfl,BQ9,Q1,Q2]
    | false=>
     have hP2:=hP
     rw [Q7] at hP2
     obtain ⟨h0,h1⟩:=Zse h_a1 hP2.2
     obtain ⟨hho,t,ht,e,hw⟩:=Yc8 h_a0 h_a1 hP2.1 hP2.2 hC (Zhn hI)
     have hsg:=(Zwj (p:=(hrM (worH PZ a0 a1 a2 a3) (num a1 1).toNat).2) (w:=12^(num a1 1).toNat) (by rw [e];exact hw) (Int.pow_pos (by omega))).2.2
     unfold houH shaH Ub2 codH
     simp only [ha,hP,hC,hI,hD,hu,hho,hsg,(Zwa h_a1).2,dec2le (show 0≤num a1 1 by omega) (show num a1 1≤14 by omega),show ((1:Int)==0)=false from rfl,show ((2:Int)==0)=false from rfl,show ((4:Int)==0)=false from rfl,show ((0:Int)==0)=true from rfl,show ((1:Int) != 0)=true from rfl,show ((2:Int) != 0)=true from rfl,show ((0:Int) != 0)=false from rfl,BQ9,Q1,Q2]
     rfl
def Zks:Con:=fun args h=>match args,h with
 | [.g a0 41,.r a1 45 [(2,0)],.i .i64 a2,.i .u64 a3],[.sl (.came bQ) nQ aQ 82]=>some (.t [.i .i64 (houH PZ a0 a1 nQ aQ a2 a3),.g (shaH PZ a0 a1 nQ aQ a2 a3) 34,.i .i64 (codH a0 a1 nQ aQ a2 a3)],.none,true)
 | _,_=>none
theorem Zuf:EntX PZ 8:=Zag (fn:=Tryz.f8) (by kernel_rfl) (by kernel_rfl) (by kernel_rfl)
theorem Yas:Uad mn PZ 8 Zks:=(Zai (N:=1000) (by kernel_rfl) (mkΓ_consX (Zac Yba) Zuo (mkΓ_consX (Zac Zpv) Zlg (mkΓ_consX (Zac Zt1) Zoi (mkΓ_consX (Zac Ydz) Zv9 (mkΓ_consX (Zac Yam) Zuz (mkΓ_consX (Zac Zp1) Zmk mkΓ_nilX)))))) (fn:=Tryz.f8) (by kernel_rfl) (by kernel_rfl) []).of (by
 intro ρ h w args vals r e hA hH hr
 unfold Zks at hr
 split at hr
 ·rename_i a0 a1 a2 a3 bQ nQ aQ
  obtain ⟨rfl,rfl,hg2⟩:=BQi hr
  exact Zx6 a0 a1 a2 a3 bQ nQ aQ (hA.wt 0 rfl) (hA.wtr 1 rfl) (hA.rng 2 rfl) (hA.rng 3 rfl) (hH.slw 0 rfl) hg2
 ·cases hr)
def Zoo:Cons:=(mkΓw [(31,conS Zfm)] [(32,conG Zkt),(33,con Ze3),(34,con Zex),(35,conG Zgh),(36,con Zfj)] [] [])
theorem Zut (N:Nat) (a0 a1:Array Value) (a2 a3:Int) (g_et:Addr) (g_tb:Addr) (bQ:Option (Option Addr)) (nQ:Nat) (aQ:Array Value):ansV PZ Zoo N Tryz.f11 [] [.g a0 41,.r a1 45 [(2,2)],.i .i64 (a2),.i .u64 (a3)] [.gl 0 184 g_et 3000075,.gl 1 0 g_tb 1000000000,.sl (.came bQ) nQ aQ 82]=(bif (okS a0&&Ua7 a0 a1 nQ aQ) then (bif (Zaf a0 a3) then (bif (!((Zal a0 a2))) then (some (.t [.i .i64 (0:Int),.g #[.int .i64 (0:Int),.int .i64 (0:Int)] 34,.i .i64 (2:Int)],.none,true))
        else (bif decide (0≤a2) then (bif (Zaj a0 a2) then (some (.t [.i .i64 (0:Int),.g #[.int .i64 (0:Int),.int .i64 (0:Int)] 34,.i .i64 (4:Int)],.none,true))
            else (bif decide (0≤a2) then (bif (decide ((clM (worQ PZ (voyV PZ a0 a1) a3) (Zam a2) (num (voyV PZ a0 a1) 1).toNat 36).2<(0:Int))&&((prsG (voyV PZ a0 a1) a3&&(Ucf (voyV PZ a0 a1) a3&&decide ((Zam a2)<68719476736))))) then (some (.t [.i .i64 (i64.wrap (num #[.int .i8 (0:Int),.int .i8 (0:Int),.int .i16 (0:Int)] 1)),.g #[.int .i64 (0:Int),.int .i64 (0:Int)] 34,.i .i64 (6:Int)],.none,true))
                else (none))
              else (none)))
          else (none)))
      else (some (.t [.i .i64 (0:Int),.g #[.int .i64 (0:Int),.int .i64 (0:Int)] 34,.i .i64 (2:Int)],.none,true)))
    else (some (.t [.i .i64 (0:Int),.g #[.int .i64 (0:Int),.int .i64 (0:Int)] 34,.i .i64 (1:Int)],.none,true))):=by kernel_rfl
def Zoh:Cons:=(mkΓw [(31,conS Zfm)] [(32,conG Zkt),(33,con Ze3),(34,con Zex),(35,conG Zf7),(36,con Zfj)] [] [])
theorem Zua (N:Nat) (a0 a1:Array Value) (a2 a3:Int) (g_et:Addr) (g_tb:Addr) (bQ:Option (Option Addr)) (nQ:Nat) (aQ:Array Value):ansV PZ Zoh N Tryz.f11 [] [.g a0 41,.r a1 45 [(2,2)],.i .i64 (a2),.i .u64 (a3)] [.gl 0 184 g_et 3000075,.gl 1 0 g_tb 1000000000,.sl (.came bQ) nQ aQ 82]=(bif (okS a0&&Ua7 a0 a1 nQ aQ) then (bif (Zaf a0 a3) then (bif (!((Zal a0 a2))) then (some (.t [.i .i64 (0:Int),.g #[.int .i64 (0:Int),.int .i64 (0:Int)] 34,.i .i64 (2:Int)],.none,true))
        else (bif decide (0≤a2) then (bif (Zaj a0 a2) then (some (.t [.i .i64 (0:Int),.g #[.int .i64 (0:Int),.int .i64 (0:Int)] 34,.i .i64 (4:Int)],.none,true))
            else (bif decide (0≤a2) then (bif ((!(decide ((clM (worQ PZ (voyV PZ a0 a1) a3) (Zam a2) (num (voyV PZ a0 a1) 1).toNat 36).2<(0:Int))))&&((prsG (voyV PZ a0 a1) a3&&(Ucf (voyV PZ a0 a1) a3&&decide ((Zam a2)<68719476736))))) then (some (.t [.i .i64 (i64.wrap (num (relM PZ (voyV PZ a0 a1) (Zam a2) a3) 1)),.g (shaM PZ (voyV PZ a0 a1) (Zam a2) a3) 34,.i .i64 (0:Int)],.none,true))
                else (none))
              else (none)))
          else (none)))
      else (some (.t [.i .i64 (0:Int),.g #[.int .i64 (0:Int),.int .i64 (0:Int)] 34,.i .i64 (2:Int)],.none,true)))
    else (some (.t [.i .i64 (0:Int),.g #[.int .i64 (0:Int),.int .i64 (0:Int)] 34,.i .i64 (1:Int)],.none,true))):=by kernel_rfl
theorem Zux (a0 a1:Array Value) (a2 a3:Int) (g_et:Addr) (g_tb:Addr) (bQ:Option (Option Addr)) (nQ:Nat) (aQ:Array Value) (h_a0:WT PZ 41 a0) (h_a1:WT PZ 45 a1) (h_a2:i64.min≤a2∧a2≤i64.max) (h_a3:IntKind.u64.min≤a3∧a3≤IntKind.u64.max) (h_a1x2:aQ.size=nQ*(lay PZ 82).length∧(∀ k,k<nQ→WT PZ 82 (aQ.extract (k*(lay PZ 82).length) (k*(lay PZ 82).length+(lay PZ 82).length)))∧nQ≤9223372036854775807) (hc0:(decide ((clM (worQ PZ (voyV PZ a0 a1) a3) (Zam a2) (num (voyV PZ a0 a1) 1).toNat 36).2<(0:Int)))=false) (hg:(true)=true):ansV PZ Zoh 1000 Tryz.f11 [] [.g a0 41,.r a1 45 [(2,2)],.i .i64 (a2),.i .u64 (a3)] [.gl 0 184 g_et 3000075,.gl 1 0 g_tb 1000000000,.sl (.came bQ) nQ aQ 82]=some (.t [.i .i64 (houH PZ a0 a1 nQ aQ a2 a3),.g (shaH PZ a0 a1 nQ aQ a2 a3) 34,.i .i64 (codH a0 a1 nQ aQ a2 a3)],.none,true):=by
 refine (Zua 1000 a0 a1 a2 a3 g_et g_tb bQ nQ aQ).trans ?_
 cases hP:(okS a0&&Ua7 a0 a1 nQ aQ) with
 | false=>
  unfold houH shaH Ub2 codH
  simp only [hP,BQ9,Q1,Q2]
 | true=>
  cases hC:Zaf a0 a3 with
  | false=>
   unfold houH shaH Ub2 codH
   simp only [hP,hC,BQ9,Q1,Q2]
  | true=>
   cases hI:Zan a2 a0 with
   | false=>
    unfold houH shaH Ub2 codH
    simp only [hP,hC,hI,Zue,BQ9,Q1,Q2]
   | true=>
    cases hD:Za1 a2 a0 with
    | true=>
     unfold houH shaH Ub2 codH
     simp only [hP,hC,hI,hD,Zue,Ybn h_a0 (Zhn hI),Q3 (Zhn hI).1,BQ9,Q1,Q2]
    | false=>
     have hP2:=hP
     rw [Q7] at hP2
     obtain ⟨h0,h1⟩:=Zse h_a1 hP2.2
     obtain ⟨hho,t,ht,e,hw⟩:=Yc8 h_a0 h_a1 hP2.1 hP2.2 hC (Zhn hI)
     obtain ⟨e1,e2,e3⟩:=Zss h_a0 h_a1
     obtain ⟨hvo,hpg⟩:=Yk4 h_a0 h_a1 hP2.1 hP2.2 h_a3 hC
     have hV:=Yoy h_a0 h_a1
     have hr:=Zhn hI
     obtain ⟨z,rfl⟩:=Int.eq_ofNat_of_zero_le hr.1
     have hz:z<36:=by omega
     have hb:Zam (z:Int)=oneI z:=Zwe z
     have hbl:decide (Zam (z:Int)<68719476736)=true:=Q3 (by
      rw [hb]
      exact Yov (Yj2 (by omega)) fun j hj=>by rw [Zzs (by omega),Q4 (by omega)])
     have hcl:clM (worQ PZ (voyV PZ a0 a1) a3) (Zam (z:Int)) (num (voyV PZ a0 a1) 1).toNat 36=(((z:Int),(t:Int)),worH PZ a0 a1 (z:Int) a3 t):=by
      have eW:(fun t=>worQ PZ (voyV PZ a0 a1) a3 (z,t))=worH PZ a0 a1 (z:Int) a3:=by rw [Ygt h_a0 h_a1];rfl
      have h:=Yj9 (worQ PZ (voyV PZ a0 a1) a3) (num a1 1).toNat hz (by rw [eW,e];exact hw) 36
      rw [hb,e3,h,if_pos hz,eW,e]
     have hQ:worQ PZ (voyV PZ a0 a1) a3 (z,t)=worH PZ a0 a1 (z:Int) a3 t:=by rw [Ygt h_a0 h_a1];rfl
     have hsh:=sha_eq (Zzu hV) (Yhc hV) hvo (q:=(z,t)) hz (by rw [e3];exact ht) (by rw [hQ];exact hcl)
     have hrel:num (relM PZ (voyV PZ a0 a1) (Zam (z:Int)) a3) 1=(t:Int):=by
      unfold relM
      rw [hcl]
      exact (Ybm (z,t) hz (by show t<100;omega)).2.1
     have wt:i64.wrap (t:Int)=(t:Int):=IntWalk.i64_in _ (by omega)
     rw [hQ,e3] at hsh
     rw [hcl] at hc0
     unfold houH shaH Ub2 codH
     simp only [hP,hC,hI,hD,Zue,Ybn h_a0 (Zhn hI),Q3 (Zhn hI).1,hcl,hc0,hvo,hpg,hbl,hrel,wt,hsh,e,BQ9,Q1,Q2]
theorem Zvh (a0 a1:Array Value) (a2 a3:Int) (g_et:Addr) (g_tb:Addr) (bQ:Option (Option Addr)) (nQ:Nat) (aQ:Array Value) (h_a0:WT PZ 41 a0) (h_a1:WT PZ 45 a1) (h_a2:i64.min≤a2∧a2≤i64.max) (h_a3:IntKind.u64.min≤a3∧a3≤IntKind.u64.max) (h_a1x2:aQ.size=nQ*(lay PZ 82).length∧(∀ k,k<nQ→WT PZ 82 (aQ.extract (k*(lay PZ 82).length) (k*(lay PZ 82).length+(lay PZ 82).length)))∧nQ≤9223372036854775807) (hc0:(decide ((clM (worQ PZ (voyV PZ a0 a1) a3) (Zam a2) (num (voyV PZ a0 a1) 1).toNat 36).2<(0:Int)))=true) (hg:(true)=true):ansV PZ Zoo 1000 Tryz.f11 [] [.g a0 41,.r a1 45 [(2,2)],.i .i64 (a2),.i .u64 (a3)] [.gl 0 184 g_et 3000075,.gl 1 0 g_tb 1000000000,.sl (.came bQ) nQ aQ 82]=some (.t [.i .i64 (houH PZ a0 a1 nQ aQ a2 a3),.g (shaH PZ a0 a1 nQ aQ a2 a3) 34,.i .i64 (codH a0 a1 nQ aQ a2 a3)],.none,true):=by
 refine (Zut 1000 a0 a1 a2 a3 g_et g_tb bQ nQ aQ).trans ?_
 cases hP:(okS a0&&Ua7 a0 a1 nQ aQ) with
 | false=>
  unfold houH shaH Ub2 codH
  simp only [hP,BQ9,Q1,Q2]
 | true=>
  cases hC:Zaf a0 a3 with
  | false=>
   unfold houH shaH Ub2 codH
   simp only [hP,hC,BQ9,Q1,Q2]
  | true=>
   cases hI:Zan a2 a0 with
   | false=>
    unfold houH shaH Ub2 codH
    simp only [hP,hC,hI,Zue,BQ9,Q1,Q2]
   | true=>
    cases hD:Za1 a2 a0 with
    | true=>
     unfold houH shaH Ub2 codH
     simp only [hP,hC,hI,hD,Zue,Ybn h_a0 (Zhn hI),Q3 (Zhn hI).1,BQ9,Q1,Q2]
    | false=>
     have hP2:=hP
     rw [Q7] at hP2
     obtain ⟨h0,h1⟩:=Zse h_a1 hP2.2
     obtain ⟨hho,t,ht,e,hw⟩:=Yc8 h_a0 h_a1 hP2.1 hP2.2 hC (Zhn hI)
     obtain ⟨e1,e2,e3⟩:=Zss h_a0 h_a1
     obtain ⟨hvo,hpg⟩:=Yk4 h_a0 h_a1 hP2.1 hP2.2 h_a3 hC
     have hV:=Yoy h_a0 h_a1
     have hr:=Zhn hI
     obtain ⟨z,rfl⟩:=Int.eq_ofNat_of_zero_le hr.1
     have hz:z<36:=by omega
     have hb:Zam (z:Int)=oneI z:=Zwe z
     have hbl:decide (Zam (z:Int)<68719476736)=true:=Q3 (by
      rw [hb]
      exact Yov (Yj2 (by omega)) fun j hj=>by rw [Zzs (by omega),Q4 (by omega)])
     have hcl:clM (worQ PZ (voyV PZ a0 a1) a3) (Zam (z:Int)) (num (voyV PZ a0 a1) 1).toNat 36=(((z:Int),(t:Int)),worH PZ a0 a1 (z:Int) a3 t):=by
      have eW:(fun t=>worQ PZ (voyV PZ a0 a1) a3 (z,t))=worH PZ a0 a1 (z:Int) a3:=by rw [Ygt h_a0 h_a1];rfl
      have h:=Yj9 (worQ PZ (voyV PZ a0 a1) a3) (num a1 1).toNat hz (by rw [eW,e];exact hw) 36
      rw [hb,e3,h,if_pos hz,eW,e]
     rw [hcl] at hc0
     exact absurd (of_decide_eq_true hc0) (by dsimp only;omega)
def Zg3:SCon:=fun args h=>match args,h with
 | [.g a0 41,.r a1 45 [(2,2)],.i .i64 a2,.i .u64 a3],[.gl 0 184 g_et 3000075,.gl 1 0 g_tb 1000000000,.sl (.came bQ) nQ aQ 82]=>.two (decide ((clM (worQ PZ (voyV PZ a0 a1) a3) (Zam a2) (num (voyV PZ a0 a1) 1).toNat 36).2<(0:Int))) (.one (some (.t [.i .i64 (houH PZ a0 a1 nQ aQ a2 a3),.g (shaH PZ a0 a1 nQ aQ a2 a3) 34,.i .i64 (codH a0 a1 nQ aQ a2 a3)],.none,true))) (.one (some (.t [.i .i64 (houH PZ a0 a1 nQ aQ a2 a3),.g (shaH PZ a0 a1 nQ aQ a2 a3) 34,.i .i64 (codH a0 a1 nQ aQ a2 a3)],.none,true)))
 | _,_=>.one none
theorem Zuk:EntX PZ 11:=Zag (fn:=Tryz.f11) (by kernel_rfl) (by kernel_rfl) (by kernel_rfl)
theorem Zzm:Uad mn PZ 11 (fun args h=>Uag (Zg3 args h)):=by
 intro ρ h w args vals r e hn hr hA hH
 dsimp only at hr
 unfold Zg3 at hr
 split at hr
 ·rename_i a0 a1 a2 a3 g_et g_tb bQ nQ aQ
  simp only [Uag] at hr
  cases hc0:(decide ((clM (worQ PZ (voyV PZ a0 a1) a3) (Zam a2) (num (voyV PZ a0 a1) 1).toNat 36).2<(0:Int)))
  ·rw [hc0] at hr
   simp only [Uag,Q1,Q2] at hr
   obtain ⟨rfl,rfl,hg2⟩:=BQi hr
   exact ((Zai (N:=1000) (by kernel_rfl) (mkΓw_sX (Zpa Zm2) Zk4 (mkΓw_cX (Zlu Zp4) Zma (mkΓw_cX (Zac Zji) Zg1 (mkΓw_cX (Zac Zky) Zhv (mkΓw_cX (Zlu Zqq) Zjb (mkΓw_cX (Zac Zlw) Zin mkΓx_nilX)))))) (fn:=Tryz.f11) (by kernel_rfl) (by kernel_rfl) [])) ρ _ w _ vals _ _ hn ((Zux a0 a1 a2 a3 g_et g_tb bQ nQ aQ (hA.wt 0 rfl) (hA.wtr 1 rfl) (hA.rng 2 rfl) (hA.rng 3 rfl) (hH.slw 2 rfl) hc0 hg2)) hA hH
  ·rw [hc0] at hr
   simp only [Uag,Q1,Q2] at hr
   obtain ⟨rfl,rfl,hg2⟩:=BQi hr
   exact ((Zai (N:=1000) (by kernel_rfl) (mkΓw_sX (Zpa Zm2) Zk4 (mkΓw_cX (Zlu Zp4) Zma (mkΓw_cX (Zac Zji) Zg1 (mkΓw_cX (Zac Zky) Zhv (mkΓw_cX (Zlu Zqm) Zjb (mkΓw_cX (Zac Zlw) Zin mkΓx_nilX)))))) (fn:=Tryz.f11) (by kernel_rfl) (by kernel_rfl) [])) ρ _ w _ vals _ _ hn ((Zvh a0 a1 a2 a3 g_et g_tb bQ nQ aQ (hA.wt 0 rfl) (hA.wtr 1 rfl) (hA.rng 2 rfl) (hA.rng 3 rfl) (hH.slw 2 rfl) hc0 hg2)) hA hH
 ·simp only [Uag] at hr
  cases hr
def Zkh:Con:=fun args h=>match args,h with
 | [.g a0 41,.r a1 45 [(2,2)],.i .i64 a2,.i .u64 a3],[.gl 0 184 g_et 3000075,.gl 1 0 g_tb 1000000000,.sl (.came bQ) nQ aQ 82]=>some (.t [.i .i64 (houH PZ a0 a1 nQ aQ a2 a3),.g (shaH PZ a0 a1 nQ aQ a2 a3) 34,.i .i64 (codH a0 a1 nQ aQ a2 a3)],.none,true)
 | _,_=>none
theorem Ybl:Uad mn PZ 11 Zkh:=Uad.of Zzm (by
 intro ρ h w args vals r e hA hH hr
 unfold Zkh at hr
 split at hr
 ·rename_i a0 a1 a2 a3 g_et g_tb bQ nQ aQ
  obtain ⟨rfl,rfl,hg2⟩:=BQi hr
  show Uag (Zg3 _ _)=_
  unfold Zg3
  simp only [Uag]
  cases (decide ((clM (worQ PZ (voyV PZ a0 a1) a3) (Zam a2) (num (voyV PZ a0 a1) 1).toNat 36).2<(0:Int)))<;>simp only [Q1,Q2]
 ·cases hr)
end
end Go.Proofs.YtohnggmlmglhmaaGreatDoor
