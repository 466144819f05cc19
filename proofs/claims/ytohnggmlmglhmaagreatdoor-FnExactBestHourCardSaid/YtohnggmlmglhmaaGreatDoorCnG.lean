/- BestHour, both sides. -/
import Derived.Test.YtohnggmlmglhmaaGreatDoorProg
import Derived.Test.YtohnggmlmglhmaaGreatDoorCnF
namespace Go.Proofs.YtohnggmlmglhmaaGreatDoor
open Go.ChangeShapes Go.WideShapes Go.ChangeAt Go.RowKit Ve Vc
open Tryz renaming prog → PZ
open IntKind (i64)
set_option linter.unusedVariables false
set_option linter.unusedSimpArgs false
set_option maxRecDepth 100000
noncomputable section
variable {mn:Md}
theorem Zvq {p:Array Value} (hp:WT PZ 45 p):i64.wrap (num p 0)=num p 0∧i64.wrap (num p 1)=num p 1:=by
 obtain ⟨-,b0⟩:=hp.int (o:=0) (k:=.i8) (by kernel_rfl)
 obtain ⟨-,b1⟩:=hp.int (o:=1) (k:=.i8) (by kernel_rfl)
 have m8:IntKind.i8.min = -128∧IntKind.i8.max=127:=⟨rfl,rfl⟩
 exact ⟨IntWalk.i64_in _ (by omega),IntWalk.i64_in _ (by omega)⟩
theorem Zrb {S p A:Array Value} {n:Nat} (hp:WT PZ 45 p) (h:Ua6 S p n A=true):(0≤num p 0∧num p 0≤1)∧1≤num p 1∧num p 1≤8:=by
 unfold Ua6 at h
 rw [(Zvq hp).1,(Zvq hp).2] at h
 simp only [Bool.and_eq_true] at h
 exact ⟨Yk9 h.1,Yk9 h.2.1⟩
theorem Zsp {S p:Array Value} (hS:WT PZ 41 S) (hp:WT PZ 45 p):(voyV PZ S p).extract 2 (2+363)=S∧num (voyV PZ S p) 0=num p 0∧num (voyV PZ S p) 1=num p 1:=by
 obtain ⟨h1,h2⟩:=Yjf (S:=S) (p:=p) (Yoq hS)
 have e0:∀ i,i<2→num (voyV PZ S p) i=num ((voyV PZ S p).extract 0 (0+2)) i:=fun i hi=>by rw [Yc9 (by omega),Nat.zero_add]
 refine ⟨h1, ?_, ?_⟩
 ·rw [e0 0 (by omega)]
  show num ((voyV PZ S p).extract 0 (0+2)) 0=_
  unfold voyV
  rw [h2]
  exact (Zvq hp).1
 ·rw [e0 1 (by omega)]
  unfold voyV
  rw [h2]
  exact (Zvq hp).2
theorem dec2le {x a b:Int} (h1:a≤x) (h2:x≤b):(decide (a≤x)&&decide (x≤b))=true:=by rw [decide_eq_true h1,decide_eq_true h2];rfl
theorem Yov {T:TypeId} {r:Array Value} (h:WT PZ T r) {i:Nat} {k:IntKind} {n:Int} (hi:(lay PZ T)[i]? = some (kN k)) (hn:k.min≤n∧n≤k.max):WT PZ T (r.setIfInBounds i (.int k n)):=by
 constructor
 ·rw [Array.toList_setIfInBounds,List.map_set,h.1]
  refine List.ext_getElem? fun j=> ?_
  by_cases hij:i=j
  ·subst hij
   rw [List.getElem?_set_self (List.getElem?_eq_some_iff.1 hi).1,hi];rfl
  ·rw [List.getElem?_set_ne hij]
 ·intro v hv
  rw [Array.toList_setIfInBounds] at hv
  rcases List.mem_or_eq_of_mem_set hv with h1 | rfl
  ·exact h.2 v h1
  ·exact hn
theorem Yno {S p:Array Value} (hS:WT PZ 41 S) (hp:WT PZ 45 p):WT PZ 73 (voyV PZ S p):=by
 have hz:WT PZ 73 (zc PZ 73):=WT.zero (by kernel_rfl)
 have hy:WT PZ 71 (#[.int .i64 (i64.wrap (num p 0)),.int .i64 (i64.wrap (num p 1))]:Array Value):=by
  have h0:WT PZ 71 (#[.int .i64 0,.int .i64 0]:Array Value):=WT.zero (P:=PZ) (T:=71) (by kernel_rfl)
  exact Yov (i:=1) (Yov (i:=0) h0 (by kernel_rfl) (Zib .i64 (num p 0))) (by kernel_rfl) (Zib .i64 (num p 1))
 have h1:=WT.spl (o:=0) hz (Zjb rfl (by kernel_rfl)) hy
 have h2:=WT.spl (o:=2) h1 (Zjb rfl (by kernel_rfl)) hS
 have hn:=h2.nil (o:=365) (by kernel_rfl)
 unfold voyV
 rw [show ((spl (spl (zc PZ 73) 0 (#[.int .i64 (i64.wrap (num p 0)),.int .i64 (i64.wrap (num p 1))]:Array Value).toList) 2 S.toList).setIfInBounds 365 (.slice none 0 0))=spl (spl (zc PZ 73) 0 (#[.int .i64 (i64.wrap (num p 0)),.int .i64 (i64.wrap (num p 1))]:Array Value).toList) 2 S.toList from ?_]
 ·exact h2
 ·refine Array.ext_getElem? fun i=> ?_
  rw [Array.getElem?_setIfInBounds]
  split
  ·rename_i e
   subst e
   rw [hn]
   split
   ·rfl
   ·rename_i h3
    have:=Array.getElem?_eq_none (Nat.le_of_not_lt h3)
    rw [hn] at this
    cases this
  ·rfl
def worS (P:Program) (S p:Array Value) (c:Int) (q:Nat×Nat):Int:=worW P S (num p 0) (num p 1) (q.1:Int) (q.2:Int) c
theorem Yhb {S p:Array Value} (hS:WT PZ 41 S) (hp:WT PZ 45 p) (c:Int):worQ PZ (voyV PZ S p) c=worS PZ S p c:=by
 obtain ⟨e1,e2,e3⟩:=Zsp hS hp
 funext q
 unfold worQ worS
 rw [e1,e2,e3]
theorem Ylo {S p A:Array Value} {n:Nat} {c:Int} (hS:WT PZ 41 S) (hp:WT PZ 45 p) (hok:okS S=true) (hpl:Ua6 S p n A=true) (hU:U64 c) (hcs:Zaf S c=true):Ucf (voyV PZ S p) c=true∧prsG (voyV PZ S p) c=true:=by
 obtain ⟨e1,e2,e3⟩:=Zsp hS hp
 obtain ⟨h0,h1⟩:=Zrb hp hpl
 have hl:=Ynt hU (Ynr hcs)
 constructor
 ·rw [Zo2,e1,e2,e3]
  exact ⟨⟨hok,by omega⟩,by omega,hcs⟩
 ·unfold prsG
  rw [e1,e2,e3,hok,dec2 h0.1 (show num p 0<2 by omega),decide_eq_true (show 0≤num p 1 by omega),decide_eq_true (show num p 1≤14 by omega),decide_eq_true hl]
  rfl
theorem sha_eq {V:Array Value} (hz:2≤V.size) (hS:WT PZ 41 (V.extract 2 (2+363))) {c a1:Int} (hv:Ucf V c=true) {q:Nat×Nat} (h1:q.1<36) (h2:(q.2:Int)<num V 1) (hcl:clM (worQ PZ V c) a1 (num V 1).toNat 36=(((q.1:Int),(q.2:Int)),worQ PZ V c q)):shaM PZ V a1 c=Ud9 (worQ PZ V c q) (12^(num V 1).toNat):=by
 have h8:=(Zo2.1 hv).2.1
 have hot:=Yc4.1 (Ycq hz hS hv ⟨h1,h2⟩).1
 rw [Ufk hz h1 h2 h8.2] at hot
 have hr:=hot.2.2.2.1
 unfold shaM rowM
 rw [hcl]
 dsimp only
 rw [Int.toNat_natCast,(Zxc hr (Int.pow_pos (by omega))).1]
 have e:(12:Int)^(num V 1).toNat=12^q.2*12^(num V 1 - (q.2:Int)).toNat:=by rw [← Int.pow_add];congr 1;omega
 have e2:worQ PZ V c q=12^q.2*num (rowR PZ sumL (V.extract 2 (2+363)) (rowC PZ c) (num V 0) (num V 1) (num V 1 - (q.2:Int)).toNat) q.1:=by
  unfold worQ worW
  rw [Int.toNat_natCast,Int.toNat_natCast]
 rw [e,e2,Yop (Int.pow_pos (by omega)) hr (Int.pow_pos (by omega))]
 rfl
theorem Ykf (W:Nat×Nat→Int) (h:Nat) {z:Nat} (hz:z<36) (h0:0≤(hrM (fun t=>W (z,t)) h).2):∀ n,clM W (oneI z) h n=if z<n then (((z:Int),(hrM (fun t=>W (z,t)) h).1),(hrM (fun t=>W (z,t)) h).2) else ((0,0),-1)
 | 0=>by rw [if_neg (by omega)];rfl
 | n+1=>by
  rw [clM,Zzh (by omega),Ykf W h hz h0 n]
  by_cases e:z=n
  ·subst e
   rw [if_neg (Nat.lt_irrefl z),if_pos (Nat.lt_succ_self z),decide_eq_true (rfl:z=z),cond_true,decide_eq_true (show (((0,0),-1):(Int×Int)×Int).2<_ from Int.lt_of_lt_of_le (by decide:(-1:Int)<0) h0),cond_true]
  ·rw [decide_eq_false e,cond_false]
   by_cases e2:z<n
   ·rw [if_pos e2,if_pos (by omega)]
   ·rw [if_neg e2,if_neg (by omega)]
def codH (S p:Array Value) (n:Nat) (A:Array Value) (k c:Int):Int:=bif (okS S&&Ua6 S p n A) then (bif Zaf S c then (bif Zam k S then (bif Za2 k S then 4 else 0) else 2) else 2) else 1
def Ub2 (S p:Array Value) (n:Nat) (A:Array Value) (k c:Int):Bool:=(okS S&&Ua6 S p n A)&&(Zaf S c&&(Zam k S && !(Za2 k S)))
def houH (P:Program) (S p:Array Value) (n:Nat) (A:Array Value) (k c:Int):Int:=bif Ub2 S p n A k c then (hrM (worH P S p k c) (num p 1).toNat).1 else 0
def shaH (P:Program) (S p:Array Value) (n:Nat) (A:Array Value) (k c:Int):Array Value:=bif Ub2 S p n A k c then Ud9 (hrM (worH P S p k c) (num p 1).toNat).2 (12^(num p 1).toNat) else #[.int .i64 (0:Int),.int .i64 (0:Int)]
theorem Ych {S p A:Array Value} {n:Nat} {k c:Int} (hS:WT PZ 41 S) (hp:WT PZ 45 p) (hok:okS S=true) (hpl:Ua6 S p n A=true) (hcs:Zaf S c=true) (hk:0≤k∧k≤35) :
  Ucg S p k c=true∧∃ t:Nat,(t:Int)<num p 1∧hrM (worH PZ S p k c) (num p 1).toNat=((t:Int),worH PZ S p k c t)∧0≤worH PZ S p k c t:=by
 obtain ⟨h0,h1⟩:=Zrb hp hpl
 refine ⟨Yf0.2 ⟨⟨hok,h0⟩,by omega,hk,hcs⟩, ?_⟩
 have hw:∀ t:Nat,t<(num p 1).toNat→0≤worH PZ S p k c t:=fun t ht=>(Ynx hS hok h0 hk hcs (h:=(t:Int)) (by omega) h1.2).1
 obtain ⟨t,ht,e⟩:=(hrM_in (num p 1).toNat hw).2 (by omega)
 exact ⟨t,by omega,e,hw t ht⟩
def Zrt:Cons:=(mkΓ [(23,con Zkg),(24,con Zcf),(25,con Zjv),(26,con Zlk),(27,con Zkt),(28,con Zhn)])
theorem Zyn (N:Nat) (a0 a1:Array Value) (a2 a3:Int) (bQ:Option (Option Addr)) (nQ:Nat) (aQ:Array Value):ansV PZ Zrt N Tryz.f8 [] [.g a0 41,.r a1 45 [(2,0)],.i .i64 (a2),.i .u64 (a3)] [.sl (.came bQ) nQ aQ 82]=(bif ((Za0 a3 a0 a1 bQ nQ aQ)==(0:Int)) then (bif (!((Zam a2 a0))) then (some (.t [.i .i64 (0:Int),.g #[.int .i64 (0:Int),.int .i64 (0:Int)] 34,.i .i64 (2:Int)],.none,true))
      else (bif ((Za0 a3 a0 a1 bQ nQ aQ)==(0:Int)) then (bif decide (0≤(IntKind.u64.wrap a2)) then (bif (Za2 a2 a0) then (some (.t [.i .i64 (0:Int),.g #[.int .i64 (0:Int),.int .i64 (0:Int)] 34,.i .i64 (4:Int)],.none,true))
            else (bif ((Za0 a3 a0 a1 bQ nQ aQ) != (0:Int)) then (some (.t [.i .i64 (0:Int),.g #[.int .i64 (0:Int),.int .i64 (0:Int)] 34,.i .i64 (Za0 a3 a0 a1 bQ nQ aQ)],.none,true))
              else (bif (Ucg a0 a1 a2 a3) then (bif (decide (0≤(i64.wrap (num a1 1)))&&decide ((i64.wrap (num a1 1))≤14)) then (bif (Zcx (hrM (worH PZ a0 a1 a2 a3) (num a1 1).toNat).2 (12^(i64.wrap (num a1 1)).toNat)) then (some (.t [.i .i64 (hrM (worH PZ a0 a1 a2 a3) (num a1 1).toNat).1,.g #[.int .i64 (i64.wrap (((hrM (worH PZ a0 a1 a2 a3) (num a1 1).toNat).2).tdiv (gcdW (hrM (worH PZ a0 a1 a2 a3) (num a1 1).toNat).2 (12^(i64.wrap (num a1 1)).toNat)))),.int .i64 (i64.wrap ((((12:Int)^(i64.wrap (num a1 1)).toNat)).tdiv (gcdW (hrM (worH PZ a0 a1 a2 a3) (num a1 1).toNat).2 (12^(i64.wrap (num a1 1)).toNat))))] 34,.i .i64 (0:Int)],.none,true))
                    else (none))
                  else (none))
                else (none))))
          else (none))
        else (bif ((Za0 a3 a0 a1 bQ nQ aQ) != (0:Int)) then (some (.t [.i .i64 (0:Int),.g #[.int .i64 (0:Int),.int .i64 (0:Int)] 34,.i .i64 (Za0 a3 a0 a1 bQ nQ aQ)],.none,true))
          else (bif (Ucg a0 a1 a2 a3) then (bif (decide (0≤(i64.wrap (num a1 1)))&&decide ((i64.wrap (num a1 1))≤14)) then (bif (Zcx (hrM (worH PZ a0 a1 a2 a3) (num a1 1).toNat).2 (12^(i64.wrap (num a1 1)).toNat)) then (some (.t [.i .i64 (hrM (worH PZ a0 a1 a2 a3) (num a1 1).toNat).1,.g #[.int .i64 (i64.wrap (((hrM (worH PZ a0 a1 a2 a3) (num a1 1).toNat).2).tdiv (gcdW (hrM (worH PZ a0 a1 a2 a3) (num a1 1).toNat).2 (12^(i64.wrap (num a1 1)).toNat)))),.int .i64 (i64.wrap ((((12:Int)^(i64.wrap (num a1 1)).toNat)).tdiv (gcdW (hrM (worH PZ a0 a1 a2 a3) (num a1 1).toNat).2 (12^(i64.wrap (num a1 1)).toNat))))] 34,.i .i64 (0:Int)],.none,true))
                else (none))
              else (none))
            else (none)))))
    else (bif ((Za0 a3 a0 a1 bQ nQ aQ)==(0:Int)) then (bif decide (0≤(IntKind.u64.wrap a2)) then (bif (Za2 a2 a0) then (some (.t [.i .i64 (0:Int),.g #[.int .i64 (0:Int),.int .i64 (0:Int)] 34,.i .i64 (4:Int)],.none,true))
          else (bif ((Za0 a3 a0 a1 bQ nQ aQ) != (0:Int)) then (some (.t [.i .i64 (0:Int),.g #[.int .i64 (0:Int),.int .i64 (0:Int)] 34,.i .i64 (Za0 a3 a0 a1 bQ nQ aQ)],.none,true))
            else (bif (Ucg a0 a1 a2 a3) then (bif (decide (0≤(i64.wrap (num a1 1)))&&decide ((i64.wrap (num a1 1))≤14)) then (bif (Zcx (hrM (worH PZ a0 a1 a2 a3) (num a1 1).toNat).2 (12^(i64.wrap (num a1 1)).toNat)) then (some (.t [.i .i64 (hrM (worH PZ a0 a1 a2 a3) (num a1 1).toNat).1,.g #[.int .i64 (i64.wrap (((hrM (worH PZ a0 a1 a2 a3) (num a1 1).toNat).2).tdiv (gcdW (hrM (worH PZ a0 a1 a2 a3) (num a1 1).toNat).2 (12^(i64.wrap (num a1 1)).toNat)))),.int .i64 (i64.wrap ((((12:Int)^(i64.wrap (num a1 1)).toNat)).tdiv (gcdW (hrM (worH PZ a0 a1 a2 a3) (num a1 1).toNat).2 (12^(i64.wrap (num a1 1)).toNat))))] 34,.i .i64 (0:Int)],.none,true))
                  else (none))
                else (none))
              else (none))))
        else (none))
      else (bif ((Za0 a3 a0 a1 bQ nQ aQ) != (0:Int)) then (some (.t [.i .i64 (0:Int),.g #[.int .i64 (0:Int),.int .i64 (0:Int)] 34,.i .i64 (Za0 a3 a0 a1 bQ nQ aQ)],.none,true))
        else (bif (Ucg a0 a1 a2 a3) then (bif (decide (0≤(i64.wrap (num a1 1)))&&decide ((i64.wrap (num a1 1))≤14)) then (bif (Zcx (hrM (worH PZ a0 a1 a2 a3) (num a1 1).toNat).2 (12^(i64.wrap (num a1 1)).toNat)) then (some (.t [.i .i64 (hrM (worH PZ a0 a1 a2 a3) (num a1 1).toNat).1,.g #[.int .i64 (i64.wrap (((hrM (worH PZ a0 a1 a2 a3) (num a1 1).toNat).2).tdiv (gcdW (hrM (worH PZ a0 a1 a2 a3) (num a1 1).toNat).2 (12^(i64.wrap (num a1 1)).toNat)))),.int .i64 (i64.wrap ((((12:Int)^(i64.wrap (num a1 1)).toNat)).tdiv (gcdW (hrM (worH PZ a0 a1 a2 a3) (num a1 1).toNat).2 (12^(i64.wrap (num a1 1)).toNat))))] 34,.i .i64 (0:Int)],.none,true))
              else (none))
            else (none))
          else (none))))):=by kernel_rfl
theorem Zwz (a0 a1:Array Value) (a2 a3:Int) (bQ:Option (Option Addr)) (nQ:Nat) (aQ:Array Value) (h_a0:WT PZ 41 a0) (h_a1:WT PZ 45 a1) (h_a2:i64.min≤a2∧a2≤i64.max) (h_a3:IntKind.u64.min≤a3∧a3≤IntKind.u64.max) (h_a1x2:aQ.size=nQ*(lay PZ 82).length∧(∀ k,k<nQ→WT PZ 82 (aQ.extract (k*(lay PZ 82).length) (k*(lay PZ 82).length+(lay PZ 82).length)))∧nQ≤9223372036854775807) (hg:(true)=true):ansV PZ Zrt 1000 Tryz.f8 [] [.g a0 41,.r a1 45 [(2,0)],.i .i64 (a2),.i .u64 (a3)] [.sl (.came bQ) nQ aQ 82]=some (.t [.i .i64 (houH PZ a0 a1 nQ aQ a2 a3),.g (shaH PZ a0 a1 nQ aQ a2 a3) 34,.i .i64 (codH a0 a1 nQ aQ a2 a3)],.none,true):=by
 refine (Zyn 1000 a0 a1 a2 a3 bQ nQ aQ).trans ?_
 rw [ask_eq]
 have hu:decide (0≤IntKind.u64.wrap a2)=true:=decide_eq_true (Zib .u64 _).1
 cases hP:(okS a0&&Ua6 a0 a1 nQ aQ) with
 | false=>
  have ha:askC a0 a1 nQ aQ a3=1:=by unfold askC;rw [hP];rfl
  unfold houH shaH Ub2 codH
  simp only [ha,hP,show ((1:Int)==0)=false from rfl,show ((2:Int)==0)=false from rfl,show ((4:Int)==0)=false from rfl,show ((0:Int)==0)=true from rfl,show ((1:Int) != 0)=true from rfl,show ((2:Int) != 0)=true from rfl,show ((0:Int) != 0)=false from rfl,BQ9]
 | true=>
  cases hC:Zaf a0 a3 with
  | false=>
   have ha:askC a0 a1 nQ aQ a3=2:=by unfold askC;rw [hP,hC];rfl
   unfold houH shaH Ub2 codH
   simp only [ha,hP,hC,show ((1:Int)==0)=false from rfl,show ((2:Int)==0)=false from rfl,show ((4:Int)==0)=false from rfl,show ((0:Int)==0)=true from rfl,show ((1:Int) != 0)=true from rfl,show ((2:Int) != 0)=true from rfl,show ((0:Int) != 0)=false from rfl,BQ9]
  | true=>
   have ha:askC a0 a1 nQ aQ a3=0:=by unfold askC;rw [hP,hC];rfl
   cases hI:Zam a2 a0 with
   | false=>
    unfold houH shaH Ub2 codH
    simp only [ha,hP,hC,hI,show ((1:Int)==0)=false from rfl,show ((2:Int)==0)=false from rfl,show ((4:Int)==0)=false from rfl,show ((0:Int)==0)=true from rfl,show ((1:Int) != 0)=true from rfl,show ((2:Int) != 0)=true from rfl,show ((0:Int) != 0)=false from rfl,BQ9]
   | true=>
    cases hD:Za2 a2 a0 with
    | true=>
     unfold houH shaH Ub2 codH
     simp only [ha,hP,hC,hI,hD,hu,show ((1:Int)==0)=false from rfl,show ((2:Int)==0)=false from rfl,show ((4:Int)==0)=false from rfl,show ((0:Int)==0)=true from rfl,show ((1:Int) != 0)=true from rfl,show ((2:Int) != 0)=true from rfl,show ((0:Int) != 0)=false from rfl,BQ9]
    | false=>
     have hP2:=hP
     rw [Bool.and_eq_true] at hP2
     obtain ⟨h0,h1⟩:=Zrb h_a1 hP2.2
     obtain ⟨hho,t,ht,e,hw⟩:=Ych h_a0 h_a1 hP2.1 hP2.2 hC (Zhy hI)
     have hsg:=(Zxc (p:=(hrM (worH PZ a0 a1 a2 a3) (num a1 1).toNat).2) (w:=12^(num a1 1).toNat) (by rw [e];exact hw) (Int.pow_pos (by omega))).2.2
     unfold houH shaH Ub2 codH
     simp only [ha,hP,hC,hI,hD,hu,hho,hsg,(Zvq h_a1).2,dec2le (show 0≤num a1 1 by omega) (show num a1 1≤14 by omega),show ((1:Int)==0)=false from rfl,show ((2:Int)==0)=false from rfl,show ((4:Int)==0)=false from rfl,show ((0:Int)==0)=true from rfl,show ((1:Int) != 0)=true from rfl,show ((2:Int) != 0)=true from rfl,show ((0:Int) != 0)=false from rfl,BQ9]
     rfl
def Zkw:Con:=fun args h=>match args,h with
 | [.g a0 41,.r a1 45 [(2,0)],.i .i64 a2,.i .u64 a3],[.sl (.came bQ) nQ aQ 82]=>some (.t [.i .i64 (houH PZ a0 a1 nQ aQ a2 a3),.g (shaH PZ a0 a1 nQ aQ a2 a3) 34,.i .i64 (codH a0 a1 nQ aQ a2 a3)],.none,true)
 | _,_=>none
theorem Zvm:EntX PZ 8:=Zag (fn:=Tryz.f8) (by kernel_rfl) (by kernel_rfl) (by kernel_rfl)
theorem Yax:Uad mn PZ 8 Zkw:=(Zai (N:=1000) (by kernel_rfl) (mkΓ_consX (Zac Ybi) Zvd (mkΓ_consX (Zac Zpx) Zk8 (mkΓ_consX (Zac Zt0) Zom (mkΓ_consX (Zac Yb1) Zw5 (mkΓ_consX (Zac Yar) Zu8 (mkΓ_consX (Zac Zp6) Zl7 mkΓ_nilX)))))) (fn:=Tryz.f8) (by kernel_rfl) (by kernel_rfl) []).of (by
 intro ρ h w args vals r e hA hH hr
 unfold Zkw at hr
 split at hr
 ·rename_i a0 a1 a2 a3 bQ nQ aQ
  obtain ⟨rfl,rfl,hg2⟩:=BQi hr
  exact Zwz a0 a1 a2 a3 bQ nQ aQ (hA.wt 0 rfl) (hA.wtr 1 rfl) (hA.rng 2 rfl) (hA.rng 3 rfl) (hH.slw 0 rfl) hg2
 ·cases hr)
def Zok:Cons:=(mkΓw [(31,conS Zfm)] [(32,conG Zkv),(33,con Zez),(34,con Zex),(35,conG Zgb),(36,con Zfk)] [] [])
theorem Zur (N:Nat) (a0 a1:Array Value) (a2 a3:Int) (g_et:Addr) (g_tb:Addr) (bQ:Option (Option Addr)) (nQ:Nat) (aQ:Array Value):ansV PZ Zok N Tryz.f11 [] [.g a0 41,.r a1 45 [(2,2)],.i .i64 (a2),.i .u64 (a3)] [.gl 0 184 g_et 3000075,.gl 1 0 g_tb 1000000000,.sl (.came bQ) nQ aQ 82]=(bif (okS a0&&Ua6 a0 a1 nQ aQ) then (bif (Zaf a0 a3) then (bif (!((Zal a0 a2))) then (some (.t [.i .i64 (0:Int),.g #[.int .i64 (0:Int),.int .i64 (0:Int)] 34,.i .i64 (2:Int)],.none,true))
        else (bif decide (0≤a2) then (bif (Zaj a0 a2) then (some (.t [.i .i64 (0:Int),.g #[.int .i64 (0:Int),.int .i64 (0:Int)] 34,.i .i64 (4:Int)],.none,true))
            else (bif decide (0≤a2) then (bif (decide ((clM (worQ PZ (voyV PZ a0 a1) a3) (Zan a2) (num (voyV PZ a0 a1) 1).toNat 36).2<(0:Int))&&((prsG (voyV PZ a0 a1) a3&&(Ucf (voyV PZ a0 a1) a3&&decide ((Zan a2)<68719476736))))) then (some (.t [.i .i64 (i64.wrap (num #[.int .i8 (0:Int),.int .i8 (0:Int),.int .i16 (0:Int)] 1)),.g #[.int .i64 (0:Int),.int .i64 (0:Int)] 34,.i .i64 (6:Int)],.none,true))
                else (none))
              else (none)))
          else (none)))
      else (some (.t [.i .i64 (0:Int),.g #[.int .i64 (0:Int),.int .i64 (0:Int)] 34,.i .i64 (2:Int)],.none,true)))
    else (some (.t [.i .i64 (0:Int),.g #[.int .i64 (0:Int),.int .i64 (0:Int)] 34,.i .i64 (1:Int)],.none,true))):=by kernel_rfl
def Zn9:Cons:=(mkΓw [(31,conS Zfm)] [(32,conG Zkv),(33,con Zez),(34,con Zex),(35,conG Zf7),(36,con Zfk)] [] [])
theorem Zt6 (N:Nat) (a0 a1:Array Value) (a2 a3:Int) (g_et:Addr) (g_tb:Addr) (bQ:Option (Option Addr)) (nQ:Nat) (aQ:Array Value):ansV PZ Zn9 N Tryz.f11 [] [.g a0 41,.r a1 45 [(2,2)],.i .i64 (a2),.i .u64 (a3)] [.gl 0 184 g_et 3000075,.gl 1 0 g_tb 1000000000,.sl (.came bQ) nQ aQ 82]=(bif (okS a0&&Ua6 a0 a1 nQ aQ) then (bif (Zaf a0 a3) then (bif (!((Zal a0 a2))) then (some (.t [.i .i64 (0:Int),.g #[.int .i64 (0:Int),.int .i64 (0:Int)] 34,.i .i64 (2:Int)],.none,true))
        else (bif decide (0≤a2) then (bif (Zaj a0 a2) then (some (.t [.i .i64 (0:Int),.g #[.int .i64 (0:Int),.int .i64 (0:Int)] 34,.i .i64 (4:Int)],.none,true))
            else (bif decide (0≤a2) then (bif ((!(decide ((clM (worQ PZ (voyV PZ a0 a1) a3) (Zan a2) (num (voyV PZ a0 a1) 1).toNat 36).2<(0:Int))))&&((prsG (voyV PZ a0 a1) a3&&(Ucf (voyV PZ a0 a1) a3&&decide ((Zan a2)<68719476736))))) then (some (.t [.i .i64 (i64.wrap (num (relM PZ (voyV PZ a0 a1) (Zan a2) a3) 1)),.g (shaM PZ (voyV PZ a0 a1) (Zan a2) a3) 34,.i .i64 (0:Int)],.none,true))
                else (none))
              else (none)))
          else (none)))
      else (some (.t [.i .i64 (0:Int),.g #[.int .i64 (0:Int),.int .i64 (0:Int)] 34,.i .i64 (2:Int)],.none,true)))
    else (some (.t [.i .i64 (0:Int),.g #[.int .i64 (0:Int),.int .i64 (0:Int)] 34,.i .i64 (1:Int)],.none,true))):=by kernel_rfl
theorem Zu9 (a0 a1:Array Value) (a2 a3:Int) (g_et:Addr) (g_tb:Addr) (bQ:Option (Option Addr)) (nQ:Nat) (aQ:Array Value) (h_a0:WT PZ 41 a0) (h_a1:WT PZ 45 a1) (h_a2:i64.min≤a2∧a2≤i64.max) (h_a3:IntKind.u64.min≤a3∧a3≤IntKind.u64.max) (h_a1x2:aQ.size=nQ*(lay PZ 82).length∧(∀ k,k<nQ→WT PZ 82 (aQ.extract (k*(lay PZ 82).length) (k*(lay PZ 82).length+(lay PZ 82).length)))∧nQ≤9223372036854775807) (hc0:(decide ((clM (worQ PZ (voyV PZ a0 a1) a3) (Zan a2) (num (voyV PZ a0 a1) 1).toNat 36).2<(0:Int)))=false) (hg:(true)=true):ansV PZ Zn9 1000 Tryz.f11 [] [.g a0 41,.r a1 45 [(2,2)],.i .i64 (a2),.i .u64 (a3)] [.gl 0 184 g_et 3000075,.gl 1 0 g_tb 1000000000,.sl (.came bQ) nQ aQ 82]=some (.t [.i .i64 (houH PZ a0 a1 nQ aQ a2 a3),.g (shaH PZ a0 a1 nQ aQ a2 a3) 34,.i .i64 (codH a0 a1 nQ aQ a2 a3)],.none,true):=by
 refine (Zt6 1000 a0 a1 a2 a3 g_et g_tb bQ nQ aQ).trans ?_
 cases hP:(okS a0&&Ua6 a0 a1 nQ aQ) with
 | false=>
  unfold houH shaH Ub2 codH
  simp only [hP,BQ9]
 | true=>
  cases hC:Zaf a0 a3 with
  | false=>
   unfold houH shaH Ub2 codH
   simp only [hP,hC,BQ9]
  | true=>
   cases hI:Zam a2 a0 with
   | false=>
    unfold houH shaH Ub2 codH
    simp only [hP,hC,hI,Zuv,BQ9]
   | true=>
    cases hD:Za2 a2 a0 with
    | true=>
     unfold houH shaH Ub2 codH
     simp only [hP,hC,hI,hD,Zuv,Ybm h_a0 (Zhy hI),decide_eq_true (Zhy hI).1,BQ9]
    | false=>
     have hP2:=hP
     rw [Bool.and_eq_true] at hP2
     obtain ⟨h0,h1⟩:=Zrb h_a1 hP2.2
     obtain ⟨hho,t,ht,e,hw⟩:=Ych h_a0 h_a1 hP2.1 hP2.2 hC (Zhy hI)
     obtain ⟨e1,e2,e3⟩:=Zsp h_a0 h_a1
     obtain ⟨hvo,hpg⟩:=Ylo h_a0 h_a1 hP2.1 hP2.2 h_a3 hC
     have hV:=Yno h_a0 h_a1
     have hr:=Zhy hI
     obtain ⟨z,rfl⟩:=Int.eq_ofNat_of_zero_le hr.1
     have hz:z<36:=by omega
     have hb:Zan (z:Int)=oneI z:=Zxp z
     have hbl:decide (Zan (z:Int)<68719476736)=true:=decide_eq_true (by
      rw [hb]
      exact Ynt (Ykd (by omega)) fun j hj=>by rw [Zzh (by omega),decide_eq_false (by omega)])
     have hcl:clM (worQ PZ (voyV PZ a0 a1) a3) (Zan (z:Int)) (num (voyV PZ a0 a1) 1).toNat 36=(((z:Int),(t:Int)),worH PZ a0 a1 (z:Int) a3 t):=by
      have eW:(fun t=>worQ PZ (voyV PZ a0 a1) a3 (z,t))=worH PZ a0 a1 (z:Int) a3:=by rw [Yhb h_a0 h_a1];rfl
      have h:=Ykf (worQ PZ (voyV PZ a0 a1) a3) (num a1 1).toNat hz (by rw [eW,e];exact hw) 36
      rw [hb,e3,h,if_pos hz,eW,e]
     have hQ:worQ PZ (voyV PZ a0 a1) a3 (z,t)=worH PZ a0 a1 (z:Int) a3 t:=by rw [Yhb h_a0 h_a1];rfl
     have hsh:=sha_eq (Zze hV) (Ygv hV) hvo (q:=(z,t)) hz (by rw [e3];exact ht) (by rw [hQ];exact hcl)
     have hrel:num (relM PZ (voyV PZ a0 a1) (Zan (z:Int)) a3) 1=(t:Int):=by
      unfold relM
      rw [hcl]
      exact (Ybq (z,t) hz (by show t<100;omega)).2.1
     have wt:i64.wrap (t:Int)=(t:Int):=IntWalk.i64_in _ (by omega)
     rw [hQ,e3] at hsh
     rw [hcl] at hc0
     unfold houH shaH Ub2 codH
     simp only [hP,hC,hI,hD,Zuv,Ybm h_a0 (Zhy hI),decide_eq_true (Zhy hI).1,hcl,hc0,hvo,hpg,hbl,hrel,wt,hsh,e,BQ9]
theorem Zuy (a0 a1:Array Value) (a2 a3:Int) (g_et:Addr) (g_tb:Addr) (bQ:Option (Option Addr)) (nQ:Nat) (aQ:Array Value) (h_a0:WT PZ 41 a0) (h_a1:WT PZ 45 a1) (h_a2:i64.min≤a2∧a2≤i64.max) (h_a3:IntKind.u64.min≤a3∧a3≤IntKind.u64.max) (h_a1x2:aQ.size=nQ*(lay PZ 82).length∧(∀ k,k<nQ→WT PZ 82 (aQ.extract (k*(lay PZ 82).length) (k*(lay PZ 82).length+(lay PZ 82).length)))∧nQ≤9223372036854775807) (hc0:(decide ((clM (worQ PZ (voyV PZ a0 a1) a3) (Zan a2) (num (voyV PZ a0 a1) 1).toNat 36).2<(0:Int)))=true) (hg:(true)=true):ansV PZ Zok 1000 Tryz.f11 [] [.g a0 41,.r a1 45 [(2,2)],.i .i64 (a2),.i .u64 (a3)] [.gl 0 184 g_et 3000075,.gl 1 0 g_tb 1000000000,.sl (.came bQ) nQ aQ 82]=some (.t [.i .i64 (houH PZ a0 a1 nQ aQ a2 a3),.g (shaH PZ a0 a1 nQ aQ a2 a3) 34,.i .i64 (codH a0 a1 nQ aQ a2 a3)],.none,true):=by
 refine (Zur 1000 a0 a1 a2 a3 g_et g_tb bQ nQ aQ).trans ?_
 cases hP:(okS a0&&Ua6 a0 a1 nQ aQ) with
 | false=>
  unfold houH shaH Ub2 codH
  simp only [hP,BQ9]
 | true=>
  cases hC:Zaf a0 a3 with
  | false=>
   unfold houH shaH Ub2 codH
   simp only [hP,hC,BQ9]
  | true=>
   cases hI:Zam a2 a0 with
   | false=>
    unfold houH shaH Ub2 codH
    simp only [hP,hC,hI,Zuv,BQ9]
   | true=>
    cases hD:Za2 a2 a0 with
    | true=>
     unfold houH shaH Ub2 codH
     simp only [hP,hC,hI,hD,Zuv,Ybm h_a0 (Zhy hI),decide_eq_true (Zhy hI).1,BQ9]
    | false=>
     have hP2:=hP
     rw [Bool.and_eq_true] at hP2
     obtain ⟨h0,h1⟩:=Zrb h_a1 hP2.2
     obtain ⟨hho,t,ht,e,hw⟩:=Ych h_a0 h_a1 hP2.1 hP2.2 hC (Zhy hI)
     obtain ⟨e1,e2,e3⟩:=Zsp h_a0 h_a1
     obtain ⟨hvo,hpg⟩:=Ylo h_a0 h_a1 hP2.1 hP2.2 h_a3 hC
     have hV:=Yno h_a0 h_a1
     have hr:=Zhy hI
     obtain ⟨z,rfl⟩:=Int.eq_ofNat_of_zero_le hr.1
     have hz:z<36:=by omega
     have hb:Zan (z:Int)=oneI z:=Zxp z
     have hbl:decide (Zan (z:Int)<68719476736)=true:=decide_eq_true (by
      rw [hb]
      exact Ynt (Ykd (by omega)) fun j hj=>by rw [Zzh (by omega),decide_eq_false (by omega)])
     have hcl:clM (worQ PZ (voyV PZ a0 a1) a3) (Zan (z:Int)) (num (voyV PZ a0 a1) 1).toNat 36=(((z:Int),(t:Int)),worH PZ a0 a1 (z:Int) a3 t):=by
      have eW:(fun t=>worQ PZ (voyV PZ a0 a1) a3 (z,t))=worH PZ a0 a1 (z:Int) a3:=by rw [Yhb h_a0 h_a1];rfl
      have h:=Ykf (worQ PZ (voyV PZ a0 a1) a3) (num a1 1).toNat hz (by rw [eW,e];exact hw) 36
      rw [hb,e3,h,if_pos hz,eW,e]
     rw [hcl] at hc0
     exact absurd (of_decide_eq_true hc0) (by dsimp only;omega)
def Zg3:SCon:=fun args h=>match args,h with
 | [.g a0 41,.r a1 45 [(2,2)],.i .i64 a2,.i .u64 a3],[.gl 0 184 g_et 3000075,.gl 1 0 g_tb 1000000000,.sl (.came bQ) nQ aQ 82]=>.two (decide ((clM (worQ PZ (voyV PZ a0 a1) a3) (Zan a2) (num (voyV PZ a0 a1) 1).toNat 36).2<(0:Int))) (.one (some (.t [.i .i64 (houH PZ a0 a1 nQ aQ a2 a3),.g (shaH PZ a0 a1 nQ aQ a2 a3) 34,.i .i64 (codH a0 a1 nQ aQ a2 a3)],.none,true))) (.one (some (.t [.i .i64 (houH PZ a0 a1 nQ aQ a2 a3),.g (shaH PZ a0 a1 nQ aQ a2 a3) 34,.i .i64 (codH a0 a1 nQ aQ a2 a3)],.none,true)))
 | _,_=>.one none
theorem Zvo:EntX PZ 11:=Zag (fn:=Tryz.f11) (by kernel_rfl) (by kernel_rfl) (by kernel_rfl)
theorem Zyr:Uad mn PZ 11 (fun args h=>Uag (Zg3 args h)):=by
 intro ρ h w args vals r e hn hr hA hH
 dsimp only at hr
 unfold Zg3 at hr
 split at hr
 ·rename_i a0 a1 a2 a3 g_et g_tb bQ nQ aQ
  simp only [Uag] at hr
  cases hc0:(decide ((clM (worQ PZ (voyV PZ a0 a1) a3) (Zan a2) (num (voyV PZ a0 a1) 1).toNat 36).2<(0:Int)))
  ·rw [hc0] at hr
   simp only [Uag,cond_true,cond_false] at hr
   obtain ⟨rfl,rfl,hg2⟩:=BQi hr
   exact ((Zai (N:=1000) (by kernel_rfl) (mkΓw_sX (Zpi Zmi) Zk3 (mkΓw_cX (Zly Zp5) Zmq (mkΓw_cX (Zac Zjy) Zg2 (mkΓw_cX (Zac Zkz) Zhx (mkΓw_cX (Zly Zqs) Zja (mkΓw_cX (Zac Zlz) Zir mkΓx_nilX)))))) (fn:=Tryz.f11) (by kernel_rfl) (by kernel_rfl) [])) ρ _ w _ vals _ _ hn ((Zu9 a0 a1 a2 a3 g_et g_tb bQ nQ aQ (hA.wt 0 rfl) (hA.wtr 1 rfl) (hA.rng 2 rfl) (hA.rng 3 rfl) (hH.slw 2 rfl) hc0 hg2)) hA hH
  ·rw [hc0] at hr
   simp only [Uag,cond_true,cond_false] at hr
   obtain ⟨rfl,rfl,hg2⟩:=BQi hr
   exact ((Zai (N:=1000) (by kernel_rfl) (mkΓw_sX (Zpi Zmi) Zk3 (mkΓw_cX (Zly Zp5) Zmq (mkΓw_cX (Zac Zjy) Zg2 (mkΓw_cX (Zac Zkz) Zhx (mkΓw_cX (Zly Zqg) Zja (mkΓw_cX (Zac Zlz) Zir mkΓx_nilX)))))) (fn:=Tryz.f11) (by kernel_rfl) (by kernel_rfl) [])) ρ _ w _ vals _ _ hn ((Zuy a0 a1 a2 a3 g_et g_tb bQ nQ aQ (hA.wt 0 rfl) (hA.wtr 1 rfl) (hA.rng 2 rfl) (hA.rng 3 rfl) (hH.slw 2 rfl) hc0 hg2)) hA hH
 ·simp only [Uag] at hr
  cases hr
def Zkn:Con:=fun args h=>match args,h with
 | [.g a0 41,.r a1 45 [(2,2)],.i .i64 a2,.i .u64 a3],[.gl 0 184 g_et 3000075,.gl 1 0 g_tb 1000000000,.sl (.came bQ) nQ aQ 82]=>some (.t [.i .i64 (houH PZ a0 a1 nQ aQ a2 a3),.g (shaH PZ a0 a1 nQ aQ a2 a3) 34,.i .i64 (codH a0 a1 nQ aQ a2 a3)],.none,true)
 | _,_=>none
theorem Yas:Uad mn PZ 11 Zkn:=Uad.of Zyr (by
 intro ρ h w args vals r e hA hH hr
 unfold Zkn at hr
 split at hr
 ·rename_i a0 a1 a2 a3 g_et g_tb bQ nQ aQ
  obtain ⟨rfl,rfl,hg2⟩:=BQi hr
  show Uag (Zg3 _ _)=_
  unfold Zg3
  simp only [Uag]
  cases (decide ((clM (worQ PZ (voyV PZ a0 a1) a3) (Zan a2) (num (voyV PZ a0 a1) 1).toNat 36).2<(0:Int)))<;>simp only [cond_true,cond_false]
 ·cases hr)
end
end Go.Proofs.YtohnggmlmglhmaaGreatDoor
