/- GiveOut, both sides. -/
import Derived.Test.YtohnggmlmglhmaaGreatDoorProg
import Derived.Test.YtohnggmlmglhmaaGreatDoorCnG
open _root_.Nat renaming le_of_ble_eq_true→jA,ble_eq_true_of_le→jB,mul_le_mul→jC
namespace Go.Proofs.YtohnggmlmglhmaaGreatDoor
open Go.ChangeShapes Go.WideShapes Go.ChangeAt Go.RowKit Ve Vc
open Tryz renaming prog → PZ
open IntKind (i64)
set_option linter.unusedVariables false
set_option linter.unusedSimpArgs false
set_option maxRecDepth 100000
noncomputable section
variable {mn:Md}
def relX (A:Array Value) (i:Nat):Array Value:=A.extract (i*3) (i*3+3)
theorem Zxs {S p A:Array Value} {n:Nat} (hp:WT PZ 45 p) (hA:∀ k,k<n→WT PZ 82 (relX A k)) (h:Uay S p n A=true):n≤12∧wsum A n≤1000∧∀ k,k<n→(0≤num (relX A k) 0∧num (relX A k) 0≤35)∧(0≤num (relX A k) 1∧num (relX A k) 1<num p 1)∧1≤num (relX A k) 2∧num (relX A k) 2≤200:=by
 obtain ⟨-,h1⟩:=Zpd hp h
 unfold Uay at h
 rw [(Zt6 hp).1,(Zt6 hp).2] at h
 simp only [Q7,Bool.not_eq_true',decide_eq_false_iff_not,decide_eq_true_eq] at h
 obtain ⟨-,-,hn,hr,hs⟩:=h
 refine ⟨by omega,hs,fun k hk=> ?_⟩
 have hb:=(Yaw S (num p 1) n A).1 hr k hk
 have hb:relB S (num p 1) (relX A k)=true:=hb
 obtain ⟨-,b0⟩:=(hA k hk).int (o:=0) (k:=.i8) (by kernel_rfl)
 obtain ⟨-,b1⟩:=(hA k hk).int (o:=1) (k:=.i8) (by kernel_rfl)
 obtain ⟨-,b2⟩:=(hA k hk).int (o:=2) (k:=.i16) (by kernel_rfl)
 have m8:IntKind.i8.min = -128∧IntKind.i8.max=127:=⟨rfl,rfl⟩
 have m16:IntKind.i16.min = -32768∧IntKind.i16.max=32767:=⟨rfl,rfl⟩
 unfold relB at hb
 rw [IntWalk.i64_in (num (relX A k) 0) (by omega),IntWalk.i64_in (num (relX A k) 1) (by omega),IntWalk.i64_in (num (relX A k) 2) (by omega),IntWalk.i64_in (num p 1 - 1) (by omega)] at hb
 simp only [Q7] at hb
 obtain ⟨c0,c1,c2⟩:=hb
 have r1:=Zoc c1
 have r2:=Zoc c2
 have r0:0≤num (relX A k) 0∧num (relX A k) 0≤35:=by
  unfold Zae at c0
  cases hI:Zax (num (relX A k) 0) S with
  | false=>rw [hI] at c0;cases c0
  | true=>exact Yhu hI
 exact ⟨r0,by omega,r2⟩
theorem Ye5 {A:Array Value} {n:Nat} (hn:n≤12) (hr:∀ k,k<n→1≤num (relX A k) 2∧num (relX A k) 2≤200):∀ j,j≤n→0≤wsum A j∧wsum A j≤200*j
 | 0,_=>⟨Int.le_refl _,Int.le_refl _⟩
 | j+1,hj=>by
  obtain ⟨h1,h2⟩:=Ye5 hn hr j (by omega)
  have h3:=hr j (by omega)
  unfold relX at h3
  rw [wsum,IntWalk.i64_in (num (A.extract (j*3) (j*3+3)) 2) (by omega),IntWalk.i64_in _ (by omega)]
  omega
theorem lf_X {a0 X:Array Value} (hz:2≤a0.size) (h2:0≤num X 1∧num X 1<num a0 1) (h3:num a0 1≤8):lfP (prsV a0) X=num a0 1 - num X 1:=by
 unfold lfP
 rw [prs_num hz,IntWalk.i64_in (num X 1) (by omega),IntWalk.i64_in _ (by omega)]
theorem sh_X {a0 X:Array Value} (hz:2≤a0.size) {c:Int} (h1:0≤num X 0∧num X 0≤35) (h2:0≤num X 1∧num X 1<num a0 1) (h3:num a0 1≤8):shP (prsV a0) (prsR PZ a0 c) X=num (rowR PZ sumL (a0.extract 2 (2+363)) (rowC PZ c) (num a0 0) (num a0 1) (num a0 1 - num X 1).toNat) (num X 0).toNat:=by
 have hL:=(Yc0 c).1
 unfold shP
 rw [lf_X hz h2 h3,Nat.mul_one]
 unfold prsR
 have h:=Ylg sumL (a0.extract 2 (2+363)) hL (num a0 0) (num a0 1) ((num a0 1).toNat+1) (show (num a0 1 - num X 1).toNat<(num a0 1).toNat+1 by omega)
 rw [← h,Zz5 (by omega)]
def worX (P:Program) (S p:Array Value) (c:Int) (X:Array Value):Int:=worW P S (num p 0) (num p 1) (num X 0) (num X 1) c
theorem gt_X {a0 X Y:Array Value} (hz:2≤a0.size) {c:Int} (h8:num a0 1≤8) (h1:0≤num X 0∧num X 0≤35) (h2:0≤num X 1∧num X 1<num a0 1) (k1:0≤num Y 0∧num Y 0≤35) (k2:0≤num Y 1∧num Y 1<num a0 1):gtP (prsV a0) (prsR PZ a0 c) X Y=decide (worX PZ (a0.extract 2 (2+363)) a0 c Y<worX PZ (a0.extract 2 (2+363)) a0 c X):=by
 unfold gtP
 rw [sh_X hz h1 h2 h8,sh_X hz k1 k2 h8,lf_X hz h2 h8,lf_X hz k2 h8]
 unfold worX worW
 have e:(12:Int)^(num X 1).toNat*12^(num a0 1 - num X 1).toNat=12^(num Y 1).toNat*12^(num a0 1 - num Y 1).toNat:=by
  rw [← Int.pow_add,← Int.pow_add];congr 1;omega
 exact decide_eq_decide.2 (cross_lt (Int.pow_pos (by omega)) (Int.pow_pos (by omega)) (Int.pow_pos (by omega)) e)
theorem ok_X {a0 X:Array Value} (hz:2≤a0.size) (hS:WT PZ 41 (a0.extract 2 (2+363))) {c:Int} (hv:voyOk a0 c=true) (h1:0≤num X 0∧num X 0≤35) (h2:0≤num X 1∧num X 1<num a0 1):okP (prsV a0) (prsN a0) (prsR PZ a0 c) X=true:=by
 obtain ⟨⟨hok,hb⟩,h8,hcs⟩:=Yea.1 hv
 obtain ⟨H,eH⟩:=Int.eq_ofNat_of_zero_le h8.1
 obtain ⟨h,eh⟩:=Int.eq_ofNat_of_zero_le h2.1
 have hr:=row_le hS hok (b:=num a0 0) (by omega) h1 hcs (H:=H) (n:=H - h) (by omega) (by omega)
 have hp:=Zto (n:=H - h) (by omega)
 refine Yhk.2 ?_
 rw [lf_X hz h2 h8.2,sh_X hz h1 h2 h8.2]
 rw [← eH] at hr
 rw [show (num a0 1 - num X 1).toNat=H - h by omega]
 unfold prsN
 refine ⟨by omega,by omega,by omega,hr.1,by omega⟩
def gtS (P:Program) (S p:Array Value) (c:Int) (A:Array Value) (i j:Nat):Bool:=decide (worX P S p c (relX A j)<worX P S p c (relX A i))
theorem Ymy {gt gt':Nat→Nat→Bool} {n:Nat} {A:Array Value} (h:∀ i j,i<n→j<n→gt i j=gt' i j):∀ m,gvJ gt n A m=gvJ gt' n A m∧gvOk gt n A m=gvOk gt' n A m
 | 0=>⟨rfl,rfl⟩
 | m+1=>by
  obtain ⟨h1,h2⟩:=Ymy h (A:=A) m
  rw [gvJ,gvJ,gvOk,gvOk,h1,h2,Yem n h]
  exact ⟨rfl,rfl⟩
def gvX (P:Program) (S p:Array Value) (n:Nat) (A:Array Value) (c m:Int):Array Value:=(gvJ (gtS P S p c A) n A m.toNat).extract 0 (n*3)
theorem gvX_eq {S p A:Array Value} {n:Nat} {c m:Int} (h:A.size=n*3):gvX PZ S p n A c m=gvJ (gtS PZ S p c A) n A m.toNat:=by
 unfold gvX
 rw [← h,← Ypz (gtS PZ S p c A) n A m.toNat]
 exact Array.extract_size
def okG (P:Program) (S p:Array Value) (n:Nat) (A:Array Value) (c m:Int):Bool:=(okS S&&Uay S p n A)&&(Zad S c&&(Zaa m 0 1000&&(!(decide (wsum A n+m > 1000))&&gvOk (gtS P S p c A) n A m.toNat)))
def codG (S p:Array Value) (n:Nat) (A:Array Value) (c m:Int):Int:=bif (okS S&&Uay S p n A) then (bif Zad S c then (bif Zaa m 0 1000 then (bif decide (wsum A n+m > 1000) then 3 else 6) else 2) else 2) else 1
def forA (P:Program) (S p:Array Value) (c:Int) (A:Array Value) (n:Nat):Array Value:=⟨(List.range n).map fun i:Nat=>.int .i64 (worX P S p c (relX A i))⟩
theorem Ymp {S p A:Array Value} {c:Int} {n i:Nat} (h:i<n):num (forA PZ S p c A n) i=worX PZ S p c (relX A i):=by
 have e:(forA PZ S p c A n)[i]? = some (.int .i64 (worX PZ S p c (relX A i))):=by unfold forA;simp [h]
 unfold num;rw [e]
theorem Yp2 (S p A:Array Value) (c:Int) (n:Nat):forA PZ S p c A (n+1)=forA PZ S p c A n++#[.int .i64 (worX PZ S p c (relX A n))]:=by
 unfold forA
 rw [List.range_succ,List.map_append]
 simp
theorem Ztq (a2:Int) (a0 a1:Array Value) (bQ:Option (Option Addr)) (nQ:Nat) (aQ:Array Value) (h_a2:IntKind.u64.min≤a2∧a2≤IntKind.u64.max) (h_a0:WT PZ 41 a0) (h_a1:WT PZ 45 a1) (h_a1x2:SlT 82 nQ aQ) (hc0:((okS a0&&Uay a0 a1 nQ aQ))=false) (hg:(true)=true):ansV PZ Zh3 1000 Tryz.f23 [] [.w 0,.w 1,.i .u64 (a2)] [.row a0 41,.one (.r a1 45 [(2,2)]) 45,.sl (.came bQ) nQ aQ 82]=some (.a (.i .i64 (1:Int)),.none,true):=by
 refine (Zky a2 a0 a1 bQ nQ aQ h_a2 h_a0 h_a1 h_a1x2 rfl).trans ?_
 rw [Yom]
 unfold askC
 simp only [hc0,  Q1,Q2]
theorem Ztk (a2:Int) (a0 a1:Array Value) (bQ:Option (Option Addr)) (nQ:Nat) (aQ:Array Value) (h_a2:IntKind.u64.min≤a2∧a2≤IntKind.u64.max) (h_a0:WT PZ 41 a0) (h_a1:WT PZ 45 a1) (h_a1x2:SlT 82 nQ aQ) (hc0:((okS a0&&Uay a0 a1 nQ aQ))=true) (hc1:((Zad a0 a2))=false) (hg:(true)=true):ansV PZ Zh3 1000 Tryz.f23 [] [.w 0,.w 1,.i .u64 (a2)] [.row a0 41,.one (.r a1 45 [(2,2)]) 45,.sl (.came bQ) nQ aQ 82]=some (.a (.i .i64 (2:Int)),.none,true):=by
 refine (Zky a2 a0 a1 bQ nQ aQ h_a2 h_a0 h_a1 h_a1x2 rfl).trans ?_
 rw [Yom]
 unfold askC
 simp only [hc0,hc1,Q1,Q2]
theorem Ztu (a2:Int) (a0 a1:Array Value) (bQ:Option (Option Addr)) (nQ:Nat) (aQ:Array Value) (h_a2:IntKind.u64.min≤a2∧a2≤IntKind.u64.max) (h_a0:WT PZ 41 a0) (h_a1:WT PZ 45 a1) (h_a1x2:SlT 82 nQ aQ) (hc0:((okS a0&&Uay a0 a1 nQ aQ))=true) (hc1:((Zad a0 a2))=true) (hg:(true)=true):ansV PZ Zh3 1000 Tryz.f23 [] [.w 0,.w 1,.i .u64 (a2)] [.row a0 41,.one (.r a1 45 [(2,2)]) 45,.sl (.came bQ) nQ aQ 82]=some (.a (.i .i64 (0:Int)),.none,true):=by
 refine (Zky a2 a0 a1 bQ nQ aQ h_a2 h_a0 h_a1 h_a1x2 rfl).trans ?_
 rw [Yom]
 unfold askC
 simp only [hc0,hc1,Q1,Q2]
def Zix:SCon:=fun args h=>match args,h with
 | [.w 0,.w 1,.i .u64 a2],[.row a0 41,.one (.r a1 45 [(2,2)]) 45,.sl (.came bQ) nQ aQ 82]=>.two ((okS a0&&Uay a0 a1 nQ aQ)) (.two ((Zad a0 a2)) (.one (some (.a (.i .i64 (0:Int)),.none,true))) (.one (some (.a (.i .i64 (2:Int)),.none,true)))) (.one (some (.a (.i .i64 (1:Int)),.none,true)))
 | _,_=>.one none
theorem Zlx:EntX PZ 23:=Zag (fn:=Tryz.f23) (by kernel_rfl) (by kernel_rfl) (by kernel_rfl)
theorem Znm:Uab mn PZ 23 (fun args h=>Uac (Zix args h)):=by
 intro ρ h w args vals r e hn hr hA hH
 dsimp only at hr
 unfold Zix at hr
 split at hr
 ·rename_i a2 a0 a1 bQ nQ aQ
  simp only [Uac] at hr
  cases hc0:((okS a0&&Uay a0 a1 nQ aQ))
  ·rw [hc0] at hr
   simp only [Uac,Q1,Q2] at hr
   obtain ⟨rfl,rfl,hg2⟩:=BQi hr
   exact ((Zaf (N:=1000) (by kernel_rfl) (mkΓ_consX (Zac Zqw) Zl1 (mkΓ_consX (Zac Zqk) Zl4 (mkΓ_consX (Zac Zje) Zgx mkΓ_nilX))) (fn:=Tryz.f23) (by kernel_rfl) (by kernel_rfl) [])) ρ _ w _ vals _ _ hn ((Ztq a2 a0 a1 bQ nQ aQ (hA.rng 2 rfl) (hH.wt 0 rfl) (hH.wtr 1 rfl) (hH.slw 2 rfl) hc0 hg2)) hA hH
  ·rw [hc0] at hr
   simp only [Uac,Q1,Q2] at hr
   cases hc1:((Zad a0 a2))
   ·rw [hc1] at hr
    simp only [Uac,Q1,Q2] at hr
    obtain ⟨rfl,rfl,hg2⟩:=BQi hr
    exact ((Zaf (N:=1000) (by kernel_rfl) (mkΓ_consX (Zac Zqw) Zl1 (mkΓ_consX (Zac Zqk) Zl4 (mkΓ_consX (Zac Zje) Zgx mkΓ_nilX))) (fn:=Tryz.f23) (by kernel_rfl) (by kernel_rfl) [])) ρ _ w _ vals _ _ hn ((Ztk a2 a0 a1 bQ nQ aQ (hA.rng 2 rfl) (hH.wt 0 rfl) (hH.wtr 1 rfl) (hH.slw 2 rfl) hc0 hc1 hg2)) hA hH
   ·rw [hc1] at hr
    simp only [Uac,Q1,Q2] at hr
    obtain ⟨rfl,rfl,hg2⟩:=BQi hr
    exact ((Zaf (N:=1000) (by kernel_rfl) (mkΓ_consX (Zac Zqw) Zl1 (mkΓ_consX (Zac Zqk) Zl4 (mkΓ_consX (Zac Zje) Zgx mkΓ_nilX))) (fn:=Tryz.f23) (by kernel_rfl) (by kernel_rfl) [])) ρ _ w _ vals _ _ hn ((Ztu a2 a0 a1 bQ nQ aQ (hA.rng 2 rfl) (hH.wt 0 rfl) (hH.wtr 1 rfl) (hH.slw 2 rfl) hc0 hc1 hg2)) hA hH
 ·simp only [Uac] at hr
  cases hr
theorem Ycm (N:Nat) (a0:Array Value) (bR:Option (Option Addr)) (nR:Nat) (aR:Array Value):ansV PZ (mkΓ []) N Tryz.f49 [] [.w 0] [.one (.r a0 45 [(2,1)]) 45,.sl (.came bR) nR aR 82]=(bif (Nat.ble ((0+nR)*bytesOf PZ 82) 140737488355328) then (some (.a (.r #[.int .i8 (num a0 0),.int .i8 (num a0 1),.slice none 0 0] 45 [(2,HOLE)]),.newS (some 1000000) (0+nR) ((#[]:Array Value)++aR) 82,true))
  else (none)):=by kernel_rfl
def Zak (a0:Array Value) (bR:Option (Option Addr)) (nR:Nat) (aR:Array Value):Nat:=(0+nR)
def Zb8 (a0:Array Value) (bR:Option (Option Addr)) (nR:Nat) (aR:Array Value):Array Value:=((#[]:Array Value)++aR)
def Ze8 (a0:Array Value) (bR:Option (Option Addr)) (nR:Nat) (aR:Array Value):Bool:=(Nat.ble ((0+nR)*bytesOf PZ 82) 140737488355328)
theorem Zzr (a0:Array Value) (bR:Option (Option Addr)) (nR:Nat) (aR:Array Value) (h_a0:WT PZ 45 a0) (h_a0x2:SlT 82 nR aR) (hg:((Ze8 a0 bR nR aR))=true):ansV PZ (mkΓ []) 1000 Tryz.f49 [] [.w 0] [.one (.r a0 45 [(2,1)]) 45,.sl (.came bR) nR aR 82]=some (.a (.r #[.int .i8 (num a0 0),.int .i8 (num a0 1),.slice none 0 0] 45 [(2,HOLE)]),.newS (some 1000000) (Zak a0 bR nR aR) (Zb8 a0 bR nR aR) 82,true):=by
 refine (Ycm 1000 a0 bR nR aR).trans ?_
 unfold Ze8 at hg
 unfold Zak Zb8
 revert hg
 generalize ((Nat.ble ((0+nR)*bytesOf PZ 82) 140737488355328))=b2
 intro hg
 cases b2
 ·skip
  first | exact (nomatch (hg:false=true)) | (simp only [Q1,Q2,BQ6];done) | rfl
 ·skip
  first | (simp only [Q1,Q2,BQ6];done) | rfl | exact (nomatch (hg:false=true))
def Zl2:Con:=fun args h=>match args,h with
 | [.w 0],[.one (.r a0 45 [(2,1)]) 45,.sl (.came bR) nR aR 82]=>some (.a (.r #[.int .i8 (num a0 0),.int .i8 (num a0 1),.slice none 0 0] 45 [(2,HOLE)]),.newS (some 1000000) (Zak a0 bR nR aR) (Zb8 a0 bR nR aR) 82,(Ze8 a0 bR nR aR))
 | _,_=>none
theorem Zol:EntX PZ 49:=Zag (fn:=Tryz.f49) (by kernel_rfl) (by kernel_rfl) (by kernel_rfl)
theorem Zsp:Uab mn PZ 49 Zl2:=(Zaf (N:=1000) (by kernel_rfl) mkΓ_nilX (fn:=Tryz.f49) (by kernel_rfl) (by kernel_rfl) []).of (by
 intro ρ h w args vals r e hA hH hr
 unfold Zl2 at hr
 split at hr
 ·rename_i a0 bR nR aR
  obtain ⟨rfl,rfl,hg2⟩:=BQi hr
  exact Zzr a0 bR nR aR (hH.wtr 0 rfl) (hH.slw 1 rfl) hg2
 ·cases hr)
theorem Zuh (N:Nat) (a0:Array Value) (bS:Option (Option Addr)) (n_a0x365:Nat) (aS:Array Value) (b_a1:Option (Option Addr)) (n_a1:Nat) (a1:Array Value):ansV PZ (mkΓ []) N Tryz.f43 [] [.r a0 73 [(365,0)],.l 1] [.sl (.came bS) n_a0x365 aS 82,.sl (.came b_a1) n_a1 a1 82]=(some (.a (.r #[.int .i8 (IntKind.i8.wrap (num a0 0)),.int .i8 (IntKind.i8.wrap (num a0 1)),.slice none 0 0] 45 [(2,1)]),.none,true)):=by kernel_rfl
theorem Zsg (a0:Array Value) (bS:Option (Option Addr)) (n_a0x365:Nat) (aS:Array Value) (b_a1:Option (Option Addr)) (n_a1:Nat) (a1:Array Value) (h_a0:WT PZ 73 a0) (h_a0x365:SlT 82 n_a0x365 aS) (h_a1:SlT 82 n_a1 a1) (hg:(true)=true):ansV PZ (mkΓ []) 1000 Tryz.f43 [] [.r a0 73 [(365,0)],.l 1] [.sl (.came bS) n_a0x365 aS 82,.sl (.came b_a1) n_a1 a1 82]=some (.a (.r #[.int .i8 (IntKind.i8.wrap (num a0 0)),.int .i8 (IntKind.i8.wrap (num a0 1)),.slice none 0 0] 45 [(2,1)]),.none,true):=by
 refine (Zuh 1000 a0 bS n_a0x365 aS b_a1 n_a1 a1).trans ?_
 rfl
def Zf2:Con:=fun args h=>match args,h with
 | [.r a0 73 [(365,0)],.l 1],[.sl (.came bS) n_a0x365 aS 82,.sl (.came b_a1) n_a1 a1 82]=>some (.a (.r #[.int .i8 (IntKind.i8.wrap (num a0 0)),.int .i8 (IntKind.i8.wrap (num a0 1)),.slice none 0 0] 45 [(2,1)]),.none,true)
 | _,_=>none
theorem Zhi:EntX PZ 43:=Zag (fn:=Tryz.f43) (by kernel_rfl) (by kernel_rfl) (by kernel_rfl)
theorem Zjv:Uab mn PZ 43 Zf2:=(Zaf (N:=1000) (by kernel_rfl) mkΓ_nilX (fn:=Tryz.f43) (by kernel_rfl) (by kernel_rfl) []).of (by
 intro ρ h w args vals r e hA hH hr
 unfold Zf2 at hr
 split at hr
 ·rename_i a0 bS n_a0x365 aS b_a1 n_a1 a1
  obtain ⟨rfl,rfl,hg2⟩:=BQi hr
  exact Zsg a0 bS n_a0x365 aS b_a1 n_a1 a1 (hA.wtr 0 rfl) (hH.slw 0 rfl) (hH.slw 1 rfl) hg2
 ·cases hr)
def Za7:Cons:=(mkΓw [(23,conS Zix)] [(47,con Zcw),(48,con Zlg),(49,con Zl2)] [] [])
def Zgb (a0 a1:Array Value) (a2 a3:Int) (bQ:Option (Option Addr)) (nQ:Nat) (aQ:Array Value):St:=(⟨.a (.g a0 41) :: .a (.r a1 45 [(2,0)]) :: .a (.i .u64 (a2)) :: .a (.i .i64 (a3)) :: .a (.w 1) :: .a (.w 2) :: .a (.u) :: .a (.u) :: .a (.w 3) :: .a (.i .i64 (0:Int)) :: .a (.i .i64 (0:Int)) :: .a (.i .i64 (a3)) :: .a (.l 7) :: .a (.i .i64 (0:Int))::us 5 (.a (.i .u64 (a2)) :: .a (.i .i64 (0:Int)) :: .a (.i .i64 (0:Int)) :: .a (.b (true)) :: .a (.b (true)) :: .a (.i .i64 (a3)) :: .a (.b ((Zaa a3 (0:Int) (1000:Int)))) :: .a (.b ((!((Zaa a3 (0:Int) (1000:Int)))))) :: .a (.b ((!((Zaa a3 (0:Int) (1000:Int)))))) :: .a (.i .i64 (0:Int)) :: .a (.b (false)) :: .a (.u) :: .a (.u) :: .a (.i .i64 (a3)) :: .a (.l 5)::us 80 ([])),[.sl (.came bQ) nQ aQ 82,.row a0 41,.one (.r a1 45 [(2,0)]) 45,.one (.r #[.int .i8 (0:Int),.int .i8 (0:Int),.slice none 0 0] 45 []) 45,.no,.sp,.no,.sl .own 0 (#[]:Array Value) 2],[5]⟩:St)
def Zht:Int×Int×Nat×Array Value→LS
 | (y0_11,y0_13,m0_12,y0_12)=>([.a (.i .i64 (y0_11)),.a (.i .i64 (y0_13)),.a (.l 7)],[.sl .own m0_12 y0_12 2])
def Zm9:Int×Int×Nat×Array Value→Exit×LS
 | t=>((.exit 0),Zht t)
def Zeb (P : Program) (a0 a1 : Array Value) (a2 a3 : Int) (bQ : Option (Option Addr)) (nQ : Nat) (aQ : Array Value) : Int × Int × Nat × Array Value → Option (Stp (Int × Int × Nat × Array Value) ((Int × Int × Nat × Array Value) ⊕ (SV × Eff × Bool)))
 | (y0_11, y0_13, m0_12, y0_12) => bif decide (y0_13 < (nQ : Int)) then (bif (decide (0 ≤ y0_13) && decide (y0_13 < (nQ : Int))) then (bif (Zes (i64.wrap (num (aQ.extract ((y0_13).toNat * 3) (((y0_13).toNat * 3) + 3)) 0)) (i64.wrap (num (aQ.extract ((y0_13).toNat * 3) (((y0_13).toNat * 3) + 3)) 1)) a2 a0 a1 bQ nQ aQ) then (bif (Nat.ble ((m0_12 + 1) * bytesOf PZ 2) 140737488355328) then (some (.more ((i64.wrap (y0_11 + (i64.wrap (num (aQ.extract ((y0_13).toNat * 3) (((y0_13).toNat * 3) + 3)) 2)))), (i64.wrap (y0_13 + (1 : Int))), (m0_12 + 1), (y0_12 ++ (#[.int .i64 (Zdq PZ (i64.wrap (num (aQ.extract ((y0_13).toNat * 3) (((y0_13).toNat * 3) + 3)) 0)) (i64.wrap (num (aQ.extract ((y0_13).toNat * 3) (((y0_13).toNat * 3) + 3)) 1)) a2 a0 a1 bQ nQ aQ)] : Array Value)))))
     else (none))
    else (none))
   else (none))
  else (some (.done (.inl (y0_11, y0_13, m0_12, y0_12))))
def Ubg:=(Uaf (codeOf Tryz.f20) [([4000000000,11,13],[1000012,2]),([4000000000,9,16],[8]),([17,18],[])]).1
def Ucm (N:Nat) (bQ:Option (Option Addr)) (nQ:Nat) (aQ:Array Value):=(Uan 0 (kSeq (veC PZ Za7 N (cAt (codeOf Tryz.f20) [1,1,1,1,1,1,1]) (pAt Ubg [1,1,1,1,1,1,1]) (SV×Eff×Bool)) (finK PZ [.sl (.came bQ) nQ aQ 82] [.cell 8 45,.tmp 9])))
theorem Ydh (N:Nat) (a0 a1:Array Value) (a2 a3:Int) (bQ:Option (Option Addr)) (nQ:Nat) (aQ:Array Value):∀ t:Int×Int×Nat×Array Value,Uf2 PZ Za7 N (cAt (codeOf Tryz.f20) [1,1,1,1,1,1,0,1,0,0]) (pAt Ubg [1,1,1,1,1,1,0,1,0]) [11,13] [] 12 2 7 (Zgb a0 a1 a2 a3 bQ nQ aQ) (Ucm N bQ nQ aQ) (Zht t)=mapS Zht (eR Zm9) (Zeb PZ a0 a1 a2 a3 bQ nQ aQ t):=by
 rintro ⟨y0_11,y0_13,m0_12,y0_12⟩
 refine Eq.trans (b:=(bif decide (y0_13<(nQ:Int)) then (bif (decide (0≤y0_13)&&decide (y0_13<(nQ:Int))) then (bif (Zes (i64.wrap (num (aQ.extract ((y0_13).toNat*3) (((y0_13).toNat*3)+3)) 0)) (i64.wrap (num (aQ.extract ((y0_13).toNat*3) (((y0_13).toNat*3)+3)) 1)) a2 a0 a1 bQ nQ aQ) then (bif (Nat.ble ((m0_12+1)*bytesOf PZ 2) 140737488355328) then (some (.more ([.a (.i .i64 (i64.wrap (y0_11+(i64.wrap (num (aQ.extract ((y0_13).toNat*3) (((y0_13).toNat*3)+3)) 2))))),.a (.i .i64 (i64.wrap (y0_13+(1:Int)))),.a (.l 7)],[.sl .own (m0_12+1) (y0_12++(#[.int .i64 (Zdq PZ (i64.wrap (num (aQ.extract ((y0_13).toNat*3) (((y0_13).toNat*3)+3)) 0)) (i64.wrap (num (aQ.extract ((y0_13).toNat*3) (((y0_13).toNat*3)+3)) 1)) a2 a0 a1 bQ nQ aQ)]:Array Value)) 2])))
     else (none))
    else (none))
   else (none))
  else (some (.done (.inl ((.exit 0),([.a (.i .i64 (y0_11)),.a (.i .i64 (y0_13)),.a (.l 7)],[.sl .own m0_12 y0_12 2]))))))) (by kernel_rfl) ?_
 simp only [Zeb,Zaz,Zay,Za1,Za0,Zht,Zm9,eR]
def Zgi (a0 a1:Array Value) (a2 a3:Int) (bQ:Option (Option Addr)) (nQ:Nat) (aQ:Array Value) (z0_11:Int) (z0_13:Int) (p0_12:Nat) (z0_12:Array Value) (y1_9:Int) (y1_16:Int) (r1_8:Array Value):St:=(⟨.a (.g a0 41) :: .a (.r a1 45 [(2,0)]) :: .a (.i .u64 (a2)) :: .a (.i .i64 (a3)) :: .a (.w 1) :: .a (.w 2) :: .a (.u) :: .a (.u) :: .a (.w 3) :: .a (.i .i64 (y1_9)) :: .a (.i .i64 (0:Int)) :: .a (.i .i64 (z0_11)) :: .a (.l 7) :: .a (.i .i64 (z0_13)) :: .a (.x) :: .a (.w 9) :: .a (.i .i64 (y1_16)) :: .a (.i .i64 (-1:Int)) :: .a (.i .i64 (0:Int)) :: .a (.i .u64 (a2)) :: .a (.i .i64 (0:Int)) :: .a (.i .i64 (0:Int)) :: .a (.b (true)) :: .a (.b (true)) :: .a (.i .i64 (a3)) :: .a (.b ((Zaa a3 (0:Int) (1000:Int)))) :: .a (.b ((!((Zaa a3 (0:Int) (1000:Int)))))) :: .a (.b ((!((Zaa a3 (0:Int) (1000:Int)))))) :: .a (.i .i64 (0:Int)) :: .a (.b (false)) :: .a (.u) :: .a (.u) :: .a (.i .i64 (a3)) :: .a (.l 5)::xs 28 (.a (.i .i64 (z0_11)) :: .a (.b (decide (z0_11 > (1000:Int)))) :: .a (.u) :: .a (.r #[.int .i8 (num a1 0),.int .i8 (num a1 1),.slice none 0 0] 45 [(2,8)]) :: .a (.i .i64 (y1_16)) :: .a (.i .i64 (a3)) :: .a (.b (decide (y1_16<a3)))::xs 44 (.a (.u)::[])),[.sl (.came bQ) nQ aQ 82,.row a0 41,.one (.r a1 45 [(2,0)]) 45,.one (.r #[.int .i8 (0:Int),.int .i8 (0:Int),.slice none 0 0] 45 []) 45,.no,.sp,.no,.sl .own p0_12 z0_12 2,.sl .own ((Zak a1 bQ nQ aQ)) r1_8 82,.one (.r #[.int .i8 (num a1 0),.int .i8 (num a1 1),.slice none 0 0] 45 [(2,8)]) 45,.no],[8]⟩:St)
def Ze7:Int×Int→LS
 | (y2_17,y2_18)=>([.a (.i .i64 (y2_17)),.a (.i .i64 (y2_18))],[])
def Zh7:Int×Int→Exit×LS
 | t=>((.exit 4),Ze7 t)
def Zef (P:Program) (a0 a1:Array Value) (a2 a3:Int) (bQ:Option (Option Addr)) (nQ:Nat) (aQ:Array Value) (z0_11:Int) (z0_13:Int) (p0_12:Nat) (z0_12:Array Value) (y1_9:Int) (y1_16:Int) (r1_8:Array Value):Int×Int→Option (Stp (Int×Int) (Int×Int))
  | (y2_17,y2_18)=>bif decide (y2_18<(((Zak a1 bQ nQ aQ)):Int)) then (bif (decide (0≤y2_18)&&decide (y2_18<(((Zak a1 bQ nQ aQ)):Int))) then (bif decide ((num r1_8 (((y2_18).toNat*3)+2))<(200:Int)) then (bif decide (y2_17<(0:Int)) then (some (.more (y2_18,(i64.wrap (y2_18+(1:Int))))))
          else (bif (decide (0≤y2_18)&&decide (y2_18<(p0_12:Int))) then (bif (decide (0≤y2_17)&&decide (y2_17<(p0_12:Int))) then (bif decide ((num z0_12 ((y2_18).toNat*1)) > (num z0_12 ((y2_17).toNat*1))) then (some (.more (y2_18,(i64.wrap (y2_18+(1:Int))))))
                else (some (.more (y2_17,(i64.wrap (y2_18+(1:Int)))))))
              else (none))
            else (none)))
        else (some (.more (y2_17,(i64.wrap (y2_18+(1:Int)))))))
      else (none))
    else (some (.done (y2_17,y2_18)))
theorem Znt (N:Nat) (a0 a1:Array Value) (a2 a3:Int) (bQ:Option (Option Addr)) (nQ:Nat) (aQ:Array Value) (z0_11:Int) (z0_13:Int) (p0_12:Nat) (z0_12:Array Value) (y1_9:Int) (y1_16:Int) (r1_8:Array Value):∀ t:Int×Int,Uag PZ Za7 N (cAt (codeOf Tryz.f20) [1,1,1,1,1,1,1,1,1,0,1,0,0,1,0,0,1,0,1,0,0]) (pAt Ubg [1,1,1,1,1,1,1,1,1,0,1,0,1,0,1,0,1,0]) [17,18] [] (Zgi a0 a1 a2 a3 bQ nQ aQ z0_11 z0_13 p0_12 z0_12 y1_9 y1_16 r1_8) (Ze7 t)=mapS Ze7 Zh7 (Zef PZ a0 a1 a2 a3 bQ nQ aQ z0_11 z0_13 p0_12 z0_12 y1_9 y1_16 r1_8 t):=by
  rintro ⟨y2_17,y2_18⟩
  refine Eq.trans (b:=(bif decide (y2_18<(((Zak a1 bQ nQ aQ)):Int)) then (bif (decide (0≤y2_18)&&decide (y2_18<(((Zak a1 bQ nQ aQ)):Int))) then (bif decide ((num r1_8 (((y2_18).toNat*3)+2))<(200:Int)) then (bif decide (y2_17<(0:Int)) then (some (.more ([.a (.i .i64 (y2_18)),.a (.i .i64 (i64.wrap (y2_18+(1:Int))))],[])))
          else (bif (decide (0≤y2_18)&&decide (y2_18<(p0_12:Int))) then (bif (decide (0≤y2_17)&&decide (y2_17<(p0_12:Int))) then (bif decide ((num z0_12 ((y2_18).toNat*1)) > (num z0_12 ((y2_17).toNat*1))) then (some (.more ([.a (.i .i64 (y2_18)),.a (.i .i64 (i64.wrap (y2_18+(1:Int))))],[])))
                else (some (.more ([.a (.i .i64 (y2_17)),.a (.i .i64 (i64.wrap (y2_18+(1:Int))))],[]))))
              else (none))
            else (none)))
        else (some (.more ([.a (.i .i64 (y2_17)),.a (.i .i64 (i64.wrap (y2_18+(1:Int))))],[]))))
      else (none))
    else (some (.done ((.exit 4),([.a (.i .i64 (y2_17)),.a (.i .i64 (y2_18))],[])))))) (by kernel_rfl) ?_
  simp only [Zef,Zaz,Zay,Za1,Za0,Ze7,Zh7]
def Uha (a0 a1:Array Value) (a2 a3 z0_11 z0_13:Int) (bQ:Option (Option Addr)) (nQ:Nat) (aQ:Array Value) (p0_12:Nat) (z0_12:Array Value):=(⟨.a (.g a0 41) :: .a (.r a1 45 [(2,0)]) :: .a (.i .u64 (a2)) :: .a (.i .i64 (a3)) :: .a (.w 1) :: .a (.w 2) :: .a (.u) :: .a (.u) :: .a (.w 3) :: .a (.i .i64 (0:Int)) :: .a (.i .i64 (0:Int)) :: .a (.i .i64 (z0_11)) :: .a (.l 7) :: .a (.i .i64 (z0_13)) :: .a (.x) :: .a (.w 9) :: .a (.i .i64 (0:Int)) :: .a (.u) :: .a (.u) :: .a (.i .u64 (a2)) :: .a (.i .i64 (0:Int)) :: .a (.i .i64 (0:Int)) :: .a (.b (true)) :: .a (.b (true)) :: .a (.i .i64 (a3)) :: .a (.b ((Zaa a3 (0:Int) (1000:Int)))) :: .a (.b ((!((Zaa a3 (0:Int) (1000:Int)))))) :: .a (.b ((!((Zaa a3 (0:Int) (1000:Int)))))) :: .a (.i .i64 (0:Int)) :: .a (.b (false)) :: .a (.u) :: .a (.u) :: .a (.i .i64 (a3)) :: .a (.l 5)::xs 28 (.a (.i .i64 (z0_11)) :: .a (.b (decide (z0_11 > (1000:Int)))) :: .a (.u) :: .a (.r #[.int .i8 (num a1 0),.int .i8 (num a1 1),.slice none 0 0] 45 [(2,8)])::us 48 ([])),[.sl (.came bQ) nQ aQ 82,.row a0 41,.one (.r a1 45 [(2,0)]) 45,.one (.r #[.int .i8 (0:Int),.int .i8 (0:Int),.slice none 0 0] 45 []) 45,.no,.sp,.no,.sl .own p0_12 z0_12 2,.sl .own ((Zak a1 bQ nQ aQ)) (Zb8 a1 bQ nQ aQ) 82,.one (.r #[.int .i8 (num a1 0),.int .i8 (num a1 1),.slice none 0 0] 45 [(2,8)]) 45,.no],[9,7,5]⟩:St)
def Zga (a0 a1:Array Value) (a2 a3:Int) (bQ:Option (Option Addr)) (nQ:Nat) (aQ:Array Value) (z0_11:Int) (z0_13:Int) (p0_12:Nat) (z0_12:Array Value):St:=(Uha a0 a1 a2 a3 z0_11 z0_13 bQ nQ aQ p0_12 z0_12)
def Zdb (a1:Array Value) (bQ:Option (Option Addr)) (nQ:Nat) (aQ:Array Value):Int×Int×Array Value→LS
 | (y1_9,y1_16,r1_8)=>([.a (.i .i64 (y1_9)),.a (.i .i64 (y1_16))],[.sl .own ((Zak a1 bQ nQ aQ)) r1_8 82])
def Zgp (a1:Array Value) (bQ:Option (Option Addr)) (nQ:Nat) (aQ:Array Value):Int×Int×Array Value→Exit×LS
 | t=>((.exit 2),(Zdb a1 bQ nQ aQ) t)
def Ze4 (P:Program) (N:Nat) (a0 a1:Array Value) (a2 a3:Int) (bQ:Option (Option Addr)) (nQ:Nat) (aQ:Array Value) (z0_11:Int) (z0_13:Int) (p0_12:Nat) (z0_12:Array Value) (y1_9:Int) (y1_16:Int) (r1_8:Array Value) (z2_17:Int) (z2_18:Int):Option (Stp (Int×Int×Array Value) ((Int×Int×Array Value) ⊕ (SV×Eff×Bool))):=bif decide (z2_17<(0:Int)) then (some (.done (.inr (.t [.r #[.int .i8 (0:Int),.int .i8 (0:Int),.slice none 0 0] 45 [],.i .i64 (6:Int)],.none,true))))
  else (bif (decide (0≤z2_17)&&decide (z2_17<(((Zak a1 bQ nQ aQ)):Int))) then (bif (decide (0≤z2_17)&&decide (z2_17<(((Zak a1 bQ nQ aQ)):Int))) then (some (.more (y1_9,(i64.wrap (y1_16+(1:Int))),(r1_8.setIfInBounds (((z2_17).toNat*3)+2) (.int .i16 (IntKind.i16.wrap ((num r1_8 (((z2_17).toNat*3)+2))+(1:Int))))))))
    else (none))
   else (none))
def Uce (N:Nat) (bQ:Option (Option Addr)) (nQ:Nat) (aQ:Array Value):=(Uan 2 (kSeq (veC PZ Za7 N (cAt (codeOf Tryz.f20) [1,1,1,1,1,1,1,1,1,1]) (pAt Ubg [1,1,1,1,1,1,1,1,1,1]) (SV×Eff×Bool)) (finK PZ [.sl (.came bQ) nQ aQ 82] [.cell 8 45,.tmp 9])))
def Ufg (N:Nat) (a0 a1:Array Value) (a2 a3 z0_11 z0_13:Int) (bQ:Option (Option Addr)) (nQ:Nat) (aQ:Array Value) (p0_12:Nat) (z0_12:Array Value):=(Uan 4 (kSeq (veC PZ Za7 N (cAt (codeOf Tryz.f20) [1,1,1,1,1,1,1,1,1,0,1,0,0,1,0,0,1,1]) (pAt Ubg [1,1,1,1,1,1,1,1,1,0,1,0,1,0,1,1]) (Stp LS ((Exit×LS) ⊕ (SV×Eff×Bool)))) (Uan 3 (kSeq (veC PZ Za7 N (cAt (codeOf Tryz.f20) [1,1,1,1,1,1,1,1,1,0,1,0,0,1,1]) (pAt Ubg [1,1,1,1,1,1,1,1,1,0,1,0,1,1]) (Stp LS ((Exit×LS) ⊕ (SV×Eff×Bool)))) (Uc6 11 [9,16] [8] (Uha a0 a1 a2 a3 z0_11 z0_13 bQ nQ aQ p0_12 z0_12) (Uce N bQ nQ aQ))))))
theorem Zu1 (N:Nat) (a0 a1:Array Value) (a2 a3:Int) (bQ:Option (Option Addr)) (nQ:Nat) (aQ:Array Value) (z0_11:Int) (z0_13:Int) (p0_12:Nat) (z0_12:Array Value) (y1_9:Int) (y1_16:Int) (r1_8:Array Value) (z2_17:Int) (z2_18:Int):(Ufg N a0 a1 a2 a3 z0_11 z0_13 bQ nQ aQ p0_12 z0_12) (.exit 4) (left (writes (cAt (codeOf Tryz.f20) [1,1,1,1,1,1,1,1,1,0,1,0,0,1,0,0,1,0,1,0,0])) [17,18] [] (Zgi a0 a1 a2 a3 bQ nQ aQ z0_11 z0_13 p0_12 z0_12 y1_9 y1_16 r1_8) ([.a (.i .i64 (z2_17)),.a (.i .i64 (z2_18))],[]))=mapS (Zdb a1 bQ nQ aQ) (eR (Zgp a1 bQ nQ aQ)) (Ze4 PZ N a0 a1 a2 a3 bQ nQ aQ z0_11 z0_13 p0_12 z0_12 y1_9 y1_16 r1_8 z2_17 z2_18):=by
 refine Eq.trans (b:=(bif decide (z2_17<(0:Int)) then (some (.done (.inr (.t [.r #[.int .i8 (0:Int),.int .i8 (0:Int),.slice none 0 0] 45 [],.i .i64 (6:Int)],.none,true))))
  else (bif (decide (0≤z2_17)&&decide (z2_17<(((Zak a1 bQ nQ aQ)):Int))) then (bif (decide (0≤z2_17)&&decide (z2_17<(((Zak a1 bQ nQ aQ)):Int))) then (some (.more ([.a (.i .i64 (y1_9)),.a (.i .i64 (i64.wrap (y1_16+(1:Int))))],[.sl .own ((Zak a1 bQ nQ aQ)) (r1_8.setIfInBounds (((z2_17).toNat*3)+2) (.int .i16 (IntKind.i16.wrap ((num r1_8 (((z2_17).toNat*3)+2))+(1:Int))))) 82])))
    else (none))
   else (none)))) (by kernel_rfl) ?_
 simp only [Ze4,Zaz,Zay,Za1,Za0,Zdb,eR]
theorem Yeq (N:Nat) (a0 a1:Array Value) (a2 a3:Int) (bQ:Option (Option Addr)) (nQ:Nat) (aQ:Array Value) (z0_11:Int) (z0_13:Int) (p0_12:Nat) (z0_12:Array Value) (y1_9:Int) (y1_16:Int) (r1_8:Array Value):Uah (Uaa (Uag PZ Za7 N (cAt (codeOf Tryz.f20) [1,1,1,1,1,1,1,1,1,0,1,0,0,1,0,0,1,0,1,0,0]) (pAt Ubg [1,1,1,1,1,1,1,1,1,0,1,0,1,0,1,0,1,0]) [17,18] [] (Zgi a0 a1 a2 a3 bQ nQ aQ z0_11 z0_13 p0_12 z0_12 y1_9 y1_16 r1_8)) N ([.a (.i .i64 (-1:Int)),.a (.i .i64 (0:Int))],[])) (fun e s=>(Ufg N a0 a1 a2 a3 z0_11 z0_13 bQ nQ aQ p0_12 z0_12) e (left (writes (cAt (codeOf Tryz.f20) [1,1,1,1,1,1,1,1,1,0,1,0,0,1,0,0,1,0,1,0,0])) [17,18] [] (Zgi a0 a1 a2 a3 bQ nQ aQ z0_11 z0_13 p0_12 z0_12 y1_9 y1_16 r1_8) s))=mapS (Zdb a1 bQ nQ aQ) (eR (Zgp a1 bQ nQ aQ)) (Uak (Uaa (Zef PZ a0 a1 a2 a3 bQ nQ aQ z0_11 z0_13 p0_12 z0_12 y1_9 y1_16 r1_8) N ((-1:Int),(0:Int))) (fun x=>Ze4 PZ N a0 a1 a2 a3 bQ nQ aQ z0_11 z0_13 p0_12 z0_12 y1_9 y1_16 r1_8 x.1 x.2)):=by
 rw [Ya9 (Zdb a1 bQ nQ aQ) (eR (Zgp a1 bQ nQ aQ))]
 first
 | (have h:=Zbd (α:=Stp LS (Exit×LS)) Ze7 Zh7 _ _ (Znt N a0 a1 a2 a3 bQ nQ aQ z0_11 z0_13 p0_12 z0_12 y1_9 y1_16 r1_8) N ((-1:Int),(0:Int));refine h _ _ ?_)
 | (have h:=Zbd (α:=Stp BS (Exit×BS)) Ze7 Zh7 _ _ (Znt N a0 a1 a2 a3 bQ nQ aQ z0_11 z0_13 p0_12 z0_12 y1_9 y1_16 r1_8) N ((-1:Int),(0:Int));refine h _ _ ?_)
 | (have h:=Zbd (α:=Stp LS ((Exit×LS) ⊕ (SV×Eff×Bool))) Ze7 Zh7 _ _ (Znt N a0 a1 a2 a3 bQ nQ aQ z0_11 z0_13 p0_12 z0_12 y1_9 y1_16 r1_8) N ((-1:Int),(0:Int));refine h _ _ ?_)
 intro x;exact Zu1 N a0 a1 a2 a3 bQ nQ aQ z0_11 z0_13 p0_12 z0_12 y1_9 y1_16 r1_8 x.1 x.2
def Zbo (P:Program) (N:Nat) (a0 a1:Array Value) (a2 a3:Int) (bQ:Option (Option Addr)) (nQ:Nat) (aQ:Array Value) (z0_11:Int) (z0_13:Int) (p0_12:Nat) (z0_12:Array Value):Int×Int×Array Value→Option (Stp (Int×Int×Array Value) ((Int×Int×Array Value) ⊕ (SV×Eff×Bool)))
 | (y1_9,y1_16,r1_8)=>bif decide (y1_16<a3) then (Uak (Uaa (Zef P a0 a1 a2 a3 bQ nQ aQ z0_11 z0_13 p0_12 z0_12 y1_9 y1_16 r1_8) N ((-1:Int),(0:Int))) (fun x=>Ze4 P N a0 a1 a2 a3 bQ nQ aQ z0_11 z0_13 p0_12 z0_12 y1_9 y1_16 r1_8 x.1 x.2))
  else (some (.done (.inl (y1_9,y1_16,r1_8))))
theorem Ydb (N:Nat) (a0 a1:Array Value) (a2 a3:Int) (bQ:Option (Option Addr)) (nQ:Nat) (aQ:Array Value) (z0_11:Int) (z0_13:Int) (p0_12:Nat) (z0_12:Array Value):∀ t:Int×Int×Array Value,Udu PZ Za7 N (cAt (codeOf Tryz.f20) [1,1,1,1,1,1,1,1,1,0,1,0,0]) (pAt Ubg [1,1,1,1,1,1,1,1,1,0,1,0]) [9,16] [8] (Zga a0 a1 a2 a3 bQ nQ aQ z0_11 z0_13 p0_12 z0_12) (Uce N bQ nQ aQ) ((Zdb a1 bQ nQ aQ) t)=mapS (Zdb a1 bQ nQ aQ) (eR (Zgp a1 bQ nQ aQ)) (Zbo PZ N a0 a1 a2 a3 bQ nQ aQ z0_11 z0_13 p0_12 z0_12 t):=by
 rintro ⟨y1_9,y1_16,r1_8⟩
 refine Eq.trans (b:=(bif decide (y1_16<a3) then (Uah (Uaa (Uag PZ Za7 N (cAt (codeOf Tryz.f20) [1,1,1,1,1,1,1,1,1,0,1,0,0,1,0,0,1,0,1,0,0]) (pAt Ubg [1,1,1,1,1,1,1,1,1,0,1,0,1,0,1,0,1,0]) [17,18] [] (Zgi a0 a1 a2 a3 bQ nQ aQ z0_11 z0_13 p0_12 z0_12 y1_9 y1_16 r1_8)) N ([.a (.i .i64 (-1:Int)),.a (.i .i64 (0:Int))],[])) (fun e s=>(Ufg N a0 a1 a2 a3 z0_11 z0_13 bQ nQ aQ p0_12 z0_12) e (left (writes (cAt (codeOf Tryz.f20) [1,1,1,1,1,1,1,1,1,0,1,0,0,1,0,0,1,0,1,0,0])) [17,18] [] (Zgi a0 a1 a2 a3 bQ nQ aQ z0_11 z0_13 p0_12 z0_12 y1_9 y1_16 r1_8) s)))
  else (some (.done (.inl ((.exit 2),([.a (.i .i64 (y1_9)),.a (.i .i64 (y1_16))],[.sl .own ((Zak a1 bQ nQ aQ)) r1_8 82]))))))) (by kernel_rfl) ?_
 simp only [Yeq N a0 a1 a2 a3 bQ nQ aQ z0_11 z0_13 p0_12 z0_12 y1_9 y1_16 r1_8,Zbo,Zaz,Zay,Za1,Za0,Zdb,Zgp,eR]
def Zf7 (P:Program) (N:Nat) (a0 a1:Array Value) (a2 a3:Int) (bQ:Option (Option Addr)) (nQ:Nat) (aQ:Array Value) (z0_11:Int) (z0_13:Int) (p0_12:Nat) (z0_12:Array Value) (z1_9:Int) (z1_16:Int) (q1_8:Array Value):Option (SV×Eff×Bool):=some (.t [.r #[.int .i8 (num a1 0),.int .i8 (num a1 1),.slice none 0 0] 45 [(2,HOLE)],.i .i64 (0:Int)],.newS (some 1000000) ((Zak a1 bQ nQ aQ)) q1_8 82,true)
theorem Zva (N:Nat) (a0 a1:Array Value) (a2 a3:Int) (bQ:Option (Option Addr)) (nQ:Nat) (aQ:Array Value) (z0_11:Int) (z0_13:Int) (p0_12:Nat) (z0_12:Array Value) (z1_9:Int) (z1_16:Int) (q1_8:Array Value):(Uce N bQ nQ aQ) (.exit 2) (left (writes (cAt (codeOf Tryz.f20) [1,1,1,1,1,1,1,1,1,0,1,0,0])) [9,16] [8] (Zga a0 a1 a2 a3 bQ nQ aQ z0_11 z0_13 p0_12 z0_12) ([.a (.i .i64 (z1_9)),.a (.i .i64 (z1_16))],[.sl .own ((Zak a1 bQ nQ aQ)) q1_8 82]))=Zf7 PZ N a0 a1 a2 a3 bQ nQ aQ z0_11 z0_13 p0_12 z0_12 z1_9 z1_16 q1_8:=by
 refine Eq.trans (b:=(some (.t [.r #[.int .i8 (num a1 0),.int .i8 (num a1 1),.slice none 0 0] 45 [(2,HOLE)],.i .i64 (0:Int)],.newS (some 1000000) ((Zak a1 bQ nQ aQ)) q1_8 82,true))) (by kernel_rfl) ?_
 rfl
theorem Yes (N:Nat) (a0 a1:Array Value) (a2 a3:Int) (bQ:Option (Option Addr)) (nQ:Nat) (aQ:Array Value) (z0_11:Int) (z0_13:Int) (p0_12:Nat) (z0_12:Array Value):Ubx (Uaa (Udu PZ Za7 N (cAt (codeOf Tryz.f20) [1,1,1,1,1,1,1,1,1,0,1,0,0]) (pAt Ubg [1,1,1,1,1,1,1,1,1,0,1,0]) [9,16] [8] (Zga a0 a1 a2 a3 bQ nQ aQ z0_11 z0_13 p0_12 z0_12) (Uce N bQ nQ aQ)) N ([.a (.i .i64 (0:Int)),.a (.i .i64 (0:Int))],[.sl .own ((Zak a1 bQ nQ aQ)) (Zb8 a1 bQ nQ aQ) 82])) (fun e s=>(Uce N bQ nQ aQ) e (left (writes (cAt (codeOf Tryz.f20) [1,1,1,1,1,1,1,1,1,0,1,0,0])) [9,16] [8] (Zga a0 a1 a2 a3 bQ nQ aQ z0_11 z0_13 p0_12 z0_12) s))=Ufv (Uaa (Zbo PZ N a0 a1 a2 a3 bQ nQ aQ z0_11 z0_13 p0_12 z0_12) N ((0:Int),(0:Int),(Zb8 a1 bQ nQ aQ))) (fun x=>Zf7 PZ N a0 a1 a2 a3 bQ nQ aQ z0_11 z0_13 p0_12 z0_12 x.1 x.2.1 x.2.2):=by
 refine Zz0 (Zdb a1 bQ nQ aQ) (Zgp a1 bQ nQ aQ) _ _ (Ydb N a0 a1 a2 a3 bQ nQ aQ z0_11 z0_13 p0_12 z0_12) N ((0:Int),(0:Int),(Zb8 a1 bQ nQ aQ)) _ _ ?_
 intro x;exact Zva N a0 a1 a2 a3 bQ nQ aQ z0_11 z0_13 p0_12 z0_12 x.1 x.2.1 x.2.2
def Ze3 (P:Program) (N:Nat) (a0 a1:Array Value) (a2 a3:Int) (bQ:Option (Option Addr)) (nQ:Nat) (aQ:Array Value) (z0_11:Int) (z0_13:Int) (p0_12:Nat) (z0_12:Array Value):Option (SV×Eff×Bool):=bif decide (z0_11 > (1000:Int)) then (some (.t [.r #[.int .i8 (0:Int),.int .i8 (0:Int),.slice none 0 0] 45 [],.i .i64 (3:Int)],.none,true))
  else (bif (Ze8 a1 bQ nQ aQ) then (Ufv (Uaa (Zbo P N a0 a1 a2 a3 bQ nQ aQ z0_11 z0_13 p0_12 z0_12) N ((0:Int),(0:Int),(Zb8 a1 bQ nQ aQ))) (fun x=>Zf7 P N a0 a1 a2 a3 bQ nQ aQ z0_11 z0_13 p0_12 z0_12 x.1 x.2.1 x.2.2))
   else (none))
theorem Zug (N:Nat) (a0 a1:Array Value) (a2 a3:Int) (bQ:Option (Option Addr)) (nQ:Nat) (aQ:Array Value) (z0_11:Int) (z0_13:Int) (p0_12:Nat) (z0_12:Array Value):(Ucm N bQ nQ aQ) (.exit 0) (left (writes (cAt (codeOf Tryz.f20) [1,1,1,1,1,1,0,1,0,0])) [11,13,12] [7] (Zgb a0 a1 a2 a3 bQ nQ aQ) ([.a (.i .i64 (z0_11)),.a (.i .i64 (z0_13)),.a (.l 7)],[.sl .own p0_12 z0_12 2]))=Ze3 PZ N a0 a1 a2 a3 bQ nQ aQ z0_11 z0_13 p0_12 z0_12:=by
 refine Eq.trans (b:=(bif decide (z0_11 > (1000:Int)) then (some (.t [.r #[.int .i8 (0:Int),.int .i8 (0:Int),.slice none 0 0] 45 [],.i .i64 (3:Int)],.none,true))
  else (bif (Ze8 a1 bQ nQ aQ) then (Ubx (Uaa (Udu PZ Za7 N (cAt (codeOf Tryz.f20) [1,1,1,1,1,1,1,1,1,0,1,0,0]) (pAt Ubg [1,1,1,1,1,1,1,1,1,0,1,0]) [9,16] [8] (Zga a0 a1 a2 a3 bQ nQ aQ z0_11 z0_13 p0_12 z0_12) (Uce N bQ nQ aQ)) N ([.a (.i .i64 (0:Int)),.a (.i .i64 (0:Int))],[.sl .own ((Zak a1 bQ nQ aQ)) (Zb8 a1 bQ nQ aQ) 82])) (fun e s=>(Uce N bQ nQ aQ) e (left (writes (cAt (codeOf Tryz.f20) [1,1,1,1,1,1,1,1,1,0,1,0,0])) [9,16] [8] (Zga a0 a1 a2 a3 bQ nQ aQ z0_11 z0_13 p0_12 z0_12) s)))
   else (none)))) (by kernel_rfl) ?_
 simp only [Yes N a0 a1 a2 a3 bQ nQ aQ z0_11 z0_13 p0_12 z0_12,Ze3]
theorem Yeh (N:Nat) (a0 a1:Array Value) (a2 a3:Int) (bQ:Option (Option Addr)) (nQ:Nat) (aQ:Array Value):Ubx (Uaa (Uf2 PZ Za7 N (cAt (codeOf Tryz.f20) [1,1,1,1,1,1,0,1,0,0]) (pAt Ubg [1,1,1,1,1,1,0,1,0]) [11,13] [] 12 2 7 (Zgb a0 a1 a2 a3 bQ nQ aQ) (Ucm N bQ nQ aQ)) N ([.a (.i .i64 (a3)),.a (.i .i64 (0:Int)),.a (.l 7)],[.sl .own 0 (#[]:Array Value) 2])) (fun e s=>(Ucm N bQ nQ aQ) e (left (writes (cAt (codeOf Tryz.f20) [1,1,1,1,1,1,0,1,0,0])) [11,13,12] [7] (Zgb a0 a1 a2 a3 bQ nQ aQ) s))=Ufv (Uaa (Zeb PZ a0 a1 a2 a3 bQ nQ aQ) N (a3,(0:Int),0,(#[]:Array Value))) (fun x=>Ze3 PZ N a0 a1 a2 a3 bQ nQ aQ x.1 x.2.1 x.2.2.1 x.2.2.2):=by
 refine Zz0 Zht Zm9 _ _ (Ydh N a0 a1 a2 a3 bQ nQ aQ) N (a3,(0:Int),0,(#[]:Array Value)) _ _ ?_
 intro x;exact Zug N a0 a1 a2 a3 bQ nQ aQ x.1 x.2.1 x.2.2.1 x.2.2.2
theorem Ycc (N:Nat) (a0 a1:Array Value) (a2 a3:Int) (bQ:Option (Option Addr)) (nQ:Nat) (aQ:Array Value):ansV PZ Za7 N Tryz.f20 [([4000000000,11,13],[1000012,2]),([4000000000,9,16],[8]),([17,18],[])] [.g a0 41,.r a1 45 [(2,0)],.i .u64 (a2),.i .i64 (a3)] [.sl (.came bQ) nQ aQ 82]=(bif (okS a0&&Uay a0 a1 nQ aQ) then (bif (Zad a0 a2) then (bif (!((Zaa a3 (0:Int) (1000:Int)))) then (some (.t [.r #[.int .i8 (0:Int),.int .i8 (0:Int),.slice none 0 0] 45 [],.i .i64 (2:Int)],.none,true))
    else (Ufv (Uaa (Zeb PZ a0 a1 a2 a3 bQ nQ aQ) N (a3,(0:Int),0,(#[]:Array Value))) (fun x=>Ze3 PZ N a0 a1 a2 a3 bQ nQ aQ x.1 x.2.1 x.2.2.1 x.2.2.2)))
   else (some (.t [.r #[.int .i8 (0:Int),.int .i8 (0:Int),.slice none 0 0] 45 [],.i .i64 (2:Int)],.none,true)))
  else (some (.t [.r #[.int .i8 (0:Int),.int .i8 (0:Int),.slice none 0 0] 45 [],.i .i64 (1:Int)],.none,true))):=by
 refine Eq.trans (b:=(bif (okS a0&&Uay a0 a1 nQ aQ) then (bif (Zad a0 a2) then (bif (!((Zaa a3 (0:Int) (1000:Int)))) then (some (.t [.r #[.int .i8 (0:Int),.int .i8 (0:Int),.slice none 0 0] 45 [],.i .i64 (2:Int)],.none,true))
    else (Ubx (Uaa (Uf2 PZ Za7 N (cAt (codeOf Tryz.f20) [1,1,1,1,1,1,0,1,0,0]) (pAt Ubg [1,1,1,1,1,1,0,1,0]) [11,13] [] 12 2 7 (Zgb a0 a1 a2 a3 bQ nQ aQ) (Ucm N bQ nQ aQ)) N ([.a (.i .i64 (a3)),.a (.i .i64 (0:Int)),.a (.l 7)],[.sl .own 0 (#[]:Array Value) 2])) (fun e s=>(Ucm N bQ nQ aQ) e (left (writes (cAt (codeOf Tryz.f20) [1,1,1,1,1,1,0,1,0,0])) [11,13,12] [7] (Zgb a0 a1 a2 a3 bQ nQ aQ) s))))
   else (some (.t [.r #[.int .i8 (0:Int),.int .i8 (0:Int),.slice none 0 0] 45 [],.i .i64 (2:Int)],.none,true)))
  else (some (.t [.r #[.int .i8 (0:Int),.int .i8 (0:Int),.slice none 0 0] 45 [],.i .i64 (1:Int)],.none,true)))) (by kernel_rfl) ?_
 simp only [Yeh N a0 a1 a2 a3 bQ nQ aQ]
theorem Zpn (a0 a1:Array Value) (a2 a3:Int) (bQ:Option (Option Addr)) (nQ:Nat) (aQ:Array Value) (z1 z2 y1 y2:Int) (hn:nQ≤12) (hc:Zak a1 bQ nQ aQ=nQ) (r:Array Value):Uaa (Zef PZ a0 a1 a2 a3 bQ nQ aQ z1 z2 nQ (forA PZ a0 a1 a2 aQ nQ) y1 y2 r) 18446744073709551616 ((-1:Int),(0:Int))=some (Ua2 (gtS PZ a0 a1 a2 aQ) r nQ,(nQ:Int)):=
 Zcc (g:=Zef PZ a0 a1 a2 a3 bQ nQ aQ z1 z2 nQ (forA PZ a0 a1 a2 aQ nQ) y1 y2 r) (fun k=>(Ua2 (gtS PZ a0 a1 a2 aQ) r k,(k:Int))) (m:=nQ) (x:=(Ua2 (gtS PZ a0 a1 a2 aQ) r nQ,(nQ:Int))) (N:=18446744073709551616) (fun k hk=>by
  have h1:decide ((k:Int)<(nQ:Int))=true:=Q3 (by omega)
  have h0:decide (0≤(k:Int))=true:=Q3 (by omega)
  have h3:i64.wrap ((k:Int)+1)=((k+1:Nat):Int):=by rw [IntWalk.i64_in _ (by omega)];omega
  have hin:=Zog (gtS PZ a0 a1 a2 aQ) r k
  have e2:num (r.extract (k*3) (k*3+3)) 2=num r (k*3+2):=Zz5 (by omega)
  have e1:Ua2 (gtS PZ a0 a1 a2 aQ) r (k+1)=bif decide (num r (k*3+2)<(200:Int)) then (bif decide (Ua2 (gtS PZ a0 a1 a2 aQ) r k<(0:Int)) then (k:Int) else (bif (gtS PZ a0 a1 a2 aQ) k (Ua2 (gtS PZ a0 a1 a2 aQ) r k).toNat then (k:Int) else Ua2 (gtS PZ a0 a1 a2 aQ) r k)) else Ua2 (gtS PZ a0 a1 a2 aQ) r k:=by rw [Ua2,e2]
  rw [e1]
  clear e1
  generalize Ua2 (gtS PZ a0 a1 a2 aQ) r k=z at hin⊢
  simp only [Zef,hc,h1,h0,h3,Q9,Bool.and_self,Q1]
  cases decide (num r (k*3+2)<(200:Int)) with
  | false=>simp only [Q2]
  | true=>
   by_cases hz:z<0
   ·simp only [Q3 hz,Q1]
   ·have hf:decide (num (forA PZ a0 a1 a2 aQ nQ) (k*1) > num (forA PZ a0 a1 a2 aQ nQ) (z.toNat*1))=(gtS PZ a0 a1 a2 aQ) k z.toNat:=by
     rw [Nat.mul_one,Nat.mul_one,Ymp hk,Ymp (show z.toNat<nQ by omega)]
     rfl
    simp only [Q4 hz,Q1,Q2,dec2 (show 0≤z by omega) (show z<(nQ:Int) by omega),hf]
    cases (gtS PZ a0 a1 a2 aQ) k z.toNat<;>rfl) (by
  have h1:decide ((nQ:Int)<(nQ:Int))=false:=Q4 (by omega)
  simp only [Zef,hc,h1,Q2]) (by omega)
theorem Zri (a0 a1:Array Value) (a2 a3:Int) (bQ:Option (Option Addr)) (nQ:Nat) (aQ:Array Value) (h_a0:WT PZ 41 a0) (h_a1:WT PZ 45 a1) (h_A:∀ k,k<nQ→WT PZ 82 (relX aQ k)) (h_sz:aQ.size=nQ*3):ansV PZ Za7 18446744073709551616 Tryz.f20 [([4000000000,11,13],[1000012,2]),([4000000000,9,16],[8]),([17,18],[])] [.g a0 41,.r a1 45 [(2,0)],.i .u64 (a2),.i .i64 (a3)] [.sl (.came bQ) nQ aQ 82]=bif (okG PZ a0 a1 nQ aQ a2 a3) then some (.t [.r #[.int .i8 (num a1 0),.int .i8 (num a1 1),.slice none 0 0] 45 [(2,HOLE)],.i .i64 (0:Int)],.newS (some 1000000) nQ (gvX PZ a0 a1 nQ aQ a2 a3) 82,true) else some (.t [.r #[.int .i8 (0:Int),.int .i8 (0:Int),.slice none 0 0] 45 [],.i .i64 (codG a0 a1 nQ aQ a2 a3)],.none,true):=by
 refine (Ycc 18446744073709551616 a0 a1 a2 a3 bQ nQ aQ).trans ?_
 rw [gvX_eq h_sz]
 cases hP:(okS a0&&Uay a0 a1 nQ aQ) with
 | false=>
  unfold okG codG
  simp only [hP,BQ9,Q1,Q2]
 | true=>
  cases hC:Zad a0 a2 with
  | false=>
   unfold okG codG
   simp only [hP,hC,BQ9,Q1,Q2]
  | true=>
   cases hI:Zaa a3 0 1000 with
   | false=>
    unfold okG codG
    simp only [hP,hC,hI,BQ9,Q1,Q2]
   | true=>
    have hP2:=hP
    rw [Q7] at hP2
    obtain ⟨h0,h1⟩:=Zpd h_a1 hP2.2
    obtain ⟨hn,hs,hr⟩:=Zxs h_a1 h_A hP2.2
    have h3:=Zoc hI
    have hw:=Ye5 hn (fun k hk=>(hr k hk).2.2)
    have hc1:Zak a1 bQ nQ aQ=nQ:=by unfold Zak;omega
    have hc2:Zb8 a1 bQ nQ aQ=aQ:=by unfold Zb8;exact Array.empty_append
    have hby:bytesOf PZ 82≤1000:=jA (by kernel_rfl)
    have hby2:bytesOf PZ 2≤1000:=jA (by kernel_rfl)
    have hc3:Ze8 a1 bQ nQ aQ=true:=by
     unfold Ze8
     exact jB (Nat.le_trans (jC (show _≤12 by omega) hby) (by decide))
    have hit:Uaa (Zeb PZ a0 a1 a2 a3 bQ nQ aQ) 18446744073709551616 (a3,(0:Int),0,(#[]:Array Value))=some (.inl (a3+wsum aQ nQ,(nQ:Int),nQ,forA PZ a0 a1 a2 aQ nQ)):=by
     have h:=Zcc (g:=Zeb PZ a0 a1 a2 a3 bQ nQ aQ) (fun k=>(a3+wsum aQ k,(k:Int),k,forA PZ a0 a1 a2 aQ k)) (m:=nQ) (x:=.inl (a3+wsum aQ nQ,(nQ:Int),nQ,forA PZ a0 a1 a2 aQ nQ)) (N:=18446744073709551616) (fun k hk=>by
      have g1:decide ((k:Int)<(nQ:Int))=true:=Q3 (by omega)
      have g0:decide (0≤(k:Int))=true:=Q3 (by omega)
      have g3:i64.wrap ((k:Int)+1)=((k+1:Nat):Int):=by rw [IntWalk.i64_in _ (by omega)];omega
      obtain ⟨r0,r1,r2⟩:=hr k hk
      have w0:i64.wrap (num (relX aQ k) 0)=num (relX aQ k) 0:=IntWalk.i64_in _ (by omega)
      have w1:i64.wrap (num (relX aQ k) 1)=num (relX aQ k) 1:=IntWalk.i64_in _ (by omega)
      have w2:i64.wrap (num (relX aQ k) 2)=num (relX aQ k) 2:=IntWalk.i64_in _ (by omega)
      have hwo:=worth_eq (n:=nQ) (A:=aQ) bQ h_a0 hP2.1 (k:=num (relX aQ k) 0) (c:=a2) (h:=num (relX aQ k) 1) h0 r0 hC r1 h1.2
      have eX:worW PZ a0 (num a1 0) (num a1 1) (num (relX aQ k) 0) (num (relX aQ k) 1) a2=worX PZ a0 a1 a2 (relX aQ k):=rfl
      have hb:Nat.ble ((k+1)*bytesOf PZ 2) 140737488355328=true:=jB (Nat.le_trans (jC (show _≤12 by omega) hby2) (by decide))
      have hk1:=hw k (by omega)
      have es:wsum aQ (k+1)=wsum aQ k+num (relX aQ k) 2:=by
       have e:wsum aQ (k+1)=i64.wrap (wsum aQ k+i64.wrap (num (relX aQ k) 2)):=rfl
       rw [e,w2,IntWalk.i64_in _ (by omega)]
      have et:i64.wrap (a3+wsum aQ k+num (relX aQ k) 2)=a3+wsum aQ (k+1):=by rw [es,IntWalk.i64_in _ (by omega)];omega
      have eR:aQ.extract (k*3) (k*3+3)=relX aQ k:=rfl
      rw [Yp2]
      simp only [Zeb,g1,g0,g3,Q9,eR,w0,w1,w2,hwo.1,hwo.2,hb,et,eX,Bool.and_self,Q1]) (by
      have g1:decide ((nQ:Int)<(nQ:Int))=false:=Q4 (by omega)
      simp only [Zeb,g1,Q2]) (by omega)
     have e0:a3+wsum aQ 0=a3:=by show a3+0=a3;omega
     have ef:forA PZ a0 a1 a2 aQ 0=#[]:=rfl
     rw [e0,ef] at h
     exact h
    simp only [BQ9,Q1,Q2]
    rw [hit]
    show Ze3 PZ 18446744073709551616 a0 a1 a2 a3 bQ nQ aQ (a3+wsum aQ nQ) (nQ:Int) nQ (forA PZ a0 a1 a2 aQ nQ)=_
    unfold Ze3
    rw [hc3,hc2,show (a3+wsum aQ nQ:Int)=wsum aQ nQ+a3 by omega]
    unfold okG codG
    cases hT:decide (wsum aQ nQ+a3 > (1000:Int)) with
    | true=>simp only [hP,hC,hI,BQ9,Q1,Q2]
    | false=>
     simp only [hP,hC,hI,BQ9,Q1,Q2]
     obtain ⟨m,rfl⟩:=Int.eq_ofNat_of_zero_le h3.1
     rw [Q9]
     have hstep:∀ j,j<m→¬ Ua2 (gtS PZ a0 a1 a2 aQ) (gvJ (gtS PZ a0 a1 a2 aQ) nQ aQ j) nQ<0→Zbo PZ 18446744073709551616 a0 a1 a2 (m:Int) bQ nQ aQ (wsum aQ nQ+(m:Int)) (nQ:Int) nQ (forA PZ a0 a1 a2 aQ nQ) ((0:Int),(j:Int),gvJ (gtS PZ a0 a1 a2 aQ) nQ aQ j)=some (.more ((0:Int),((j+1:Nat):Int),gvJ (gtS PZ a0 a1 a2 aQ) nQ aQ (j+1))):=fun j hj hz=>by
      have g1:decide ((j:Int)<(m:Int))=true:=Q3 (by omega)
      have g3:i64.wrap ((j:Int)+1)=((j+1:Nat):Int):=by rw [IntWalk.i64_in _ (by omega)];omega
      have hin:=Zog (gtS PZ a0 a1 a2 aQ) (gvJ (gtS PZ a0 a1 a2 aQ) nQ aQ j) nQ
      have hb:=Zpn a0 a1 a2 (m:Int) bQ nQ aQ (wsum aQ nQ+(m:Int)) (nQ:Int) (0:Int) (j:Int) hn hc1 (gvJ (gtS PZ a0 a1 a2 aQ) nQ aQ j)
      rw [gvJ]
      unfold incA
      simp only [Zbo,g1,hb,Uak,Ze4,hc1,g3,Q4 hz,dec2 (show 0≤Ua2 (gtS PZ a0 a1 a2 aQ) (gvJ (gtS PZ a0 a1 a2 aQ) nQ aQ j) nQ by omega) hin.2,Q1,Q2]
     cases hG:gvOk (gtS PZ a0 a1 a2 aQ) nQ aQ m with
     | true=>
      have hok:=gv_ok hG
      have hit2:Uaa (Zbo PZ 18446744073709551616 a0 a1 a2 (m:Int) bQ nQ aQ (wsum aQ nQ+(m:Int)) (nQ:Int) nQ (forA PZ a0 a1 a2 aQ nQ)) 18446744073709551616 ((0:Int),(0:Int),aQ)=some (.inl ((0:Int),(m:Int),gvJ (gtS PZ a0 a1 a2 aQ) nQ aQ m)):=Zcc (g:=Zbo PZ 18446744073709551616 a0 a1 a2 (m:Int) bQ nQ aQ (wsum aQ nQ+(m:Int)) (nQ:Int) nQ (forA PZ a0 a1 a2 aQ nQ)) (fun j=>((0:Int),(j:Int),gvJ (gtS PZ a0 a1 a2 aQ) nQ aQ j)) (m:=m) (x:=.inl ((0:Int),(m:Int),gvJ (gtS PZ a0 a1 a2 aQ) nQ aQ m)) (N:=18446744073709551616) (fun j hj=>hstep j hj (hok j hj)) (by
       have g1:decide ((m:Int)<(m:Int))=false:=Q4 (by omega)
       simp only [Zbo,g1,Q2]) (by omega)
      rw [hit2]
      show Zf7 PZ 18446744073709551616 a0 a1 a2 (m:Int) bQ nQ aQ (wsum aQ nQ+(m:Int)) (nQ:Int) nQ (forA PZ a0 a1 a2 aQ nQ) (0:Int) (m:Int) (gvJ (gtS PZ a0 a1 a2 aQ) nQ aQ m)=_
      unfold Zf7
      rw [hc1]
      rfl
     | false=>
      obtain ⟨j0,hj0,hbef,hz⟩:=Yk4 hG
      have hit2:Uaa (Zbo PZ 18446744073709551616 a0 a1 a2 (m:Int) bQ nQ aQ (wsum aQ nQ+(m:Int)) (nQ:Int) nQ (forA PZ a0 a1 a2 aQ nQ)) 18446744073709551616 ((0:Int),(0:Int),aQ)=some (.inr (.t [.r #[.int .i8 (0:Int),.int .i8 (0:Int),.slice none 0 0] 45 [],.i .i64 ((6:Int))],.none,true)):=Zcc (g:=Zbo PZ 18446744073709551616 a0 a1 a2 (m:Int) bQ nQ aQ (wsum aQ nQ+(m:Int)) (nQ:Int) nQ (forA PZ a0 a1 a2 aQ nQ)) (fun j=>((0:Int),(j:Int),gvJ (gtS PZ a0 a1 a2 aQ) nQ aQ j)) (m:=j0) (x:=.inr (.t [.r #[.int .i8 (0:Int),.int .i8 (0:Int),.slice none 0 0] 45 [],.i .i64 ((6:Int))],.none,true)) (N:=18446744073709551616) (fun j hj=>hstep j (by omega) (hbef j hj)) (by
       have g1:decide ((j0:Int)<(m:Int))=true:=Q3 (by omega)
       have hb:=Zpn a0 a1 a2 (m:Int) bQ nQ aQ (wsum aQ nQ+(m:Int)) (nQ:Int) (0:Int) (j0:Int) hn hc1 (gvJ (gtS PZ a0 a1 a2 aQ) nQ aQ j0)
       simp only [Zbo,g1,hb,Uak,Ze4,Q3 hz,Q1]) (by omega)
      rw [hit2]
      rfl
def givB (P:Program) (S p:Array Value) (n:Nat) (A:Array Value) (c m:Int) (i:Nat):Int:=bif okG P S p n A c m then num p i else 0
def givV (P:Program) (S p:Array Value) (n:Nat) (A:Array Value) (c m:Int):Array Value:=#[.int .i8 (givB P S p n A c m 0),.int .i8 (givB P S p n A c m 1),.slice none 0 0]
def givC (P:Program) (S p:Array Value) (n:Nat) (A:Array Value) (c m:Int):Int:=bif okG P S p n A c m then 0 else codG S p n A c m
def givN (P:Program) (S p:Array Value) (n:Nat) (A:Array Value) (c m:Int):Nat:=bif okG P S p n A c m then n else 0
def givA (P:Program) (S p:Array Value) (n:Nat) (A:Array Value) (c m:Int):Array Value:=bif okG P S p n A c m then gvX P S p n A c m else #[]
theorem Zym (a0 a1:Array Value) (a2 a3:Int) (bQ:Option (Option Addr)) (nQ:Nat) (aQ:Array Value) (h_a0:WT PZ 41 a0) (h_a1:WT PZ 45 a1) (h_a2:IntKind.u64.min≤a2∧a2≤IntKind.u64.max) (h_a3:i64.min≤a3∧a3≤i64.max) (h_a1x2:SlT 82 nQ aQ) (hc0:((okG PZ a0 a1 nQ aQ a2 a3))=false) (hg:(true)=true):ansV PZ Za7 18446744073709551616 Tryz.f20 [([4000000000,11,13],[1000012,2]),([4000000000,9,16],[8]),([17,18],[])] [.g a0 41,.r a1 45 [(2,0)],.i .u64 (a2),.i .i64 (a3)] [.sl (.came bQ) nQ aQ 82]=some (.t [.r #[.int .i8 (0:Int),.int .i8 (0:Int),.slice none 0 0] 45 [],.i .i64 (codG a0 a1 nQ aQ a2 a3)],.none,true):=by
 have hl3:(lay PZ 82).length=3:=by kernel_rfl
 have hA:∀ k,k<nQ→WT PZ 82 (relX aQ k):=fun k hk=>by
  have:=h_a1x2.2.1 k hk
  rw [hl3] at this
  exact this
 have hsz:aQ.size=nQ*3:=by
  have:=h_a1x2.1
  rwa [hl3] at this
 exact (Zri a0 a1 a2 a3 bQ nQ aQ h_a0 h_a1 hA hsz).trans (by rw [hc0];rfl)
theorem Zzg (a0 a1:Array Value) (a2 a3:Int) (bQ:Option (Option Addr)) (nQ:Nat) (aQ:Array Value) (h_a0:WT PZ 41 a0) (h_a1:WT PZ 45 a1) (h_a2:IntKind.u64.min≤a2∧a2≤IntKind.u64.max) (h_a3:i64.min≤a3∧a3≤i64.max) (h_a1x2:SlT 82 nQ aQ) (hc0:((okG PZ a0 a1 nQ aQ a2 a3))=true) (hg:(true)=true):ansV PZ Za7 18446744073709551616 Tryz.f20 [([4000000000,11,13],[1000012,2]),([4000000000,9,16],[8]),([17,18],[])] [.g a0 41,.r a1 45 [(2,0)],.i .u64 (a2),.i .i64 (a3)] [.sl (.came bQ) nQ aQ 82]=some (.t [.r #[.int .i8 (num a1 0),.int .i8 (num a1 1),.slice none 0 0] 45 [(2,HOLE)],.i .i64 (0:Int)],.newS (some 1000000) nQ (gvX PZ a0 a1 nQ aQ a2 a3) 82,true):=by
 have hl3:(lay PZ 82).length=3:=by kernel_rfl
 have hA:∀ k,k<nQ→WT PZ 82 (relX aQ k):=fun k hk=>by
  have:=h_a1x2.2.1 k hk
  rw [hl3] at this
  exact this
 have hsz:aQ.size=nQ*3:=by
  have:=h_a1x2.1
  rwa [hl3] at this
 exact (Zri a0 a1 a2 a3 bQ nQ aQ h_a0 h_a1 hA hsz).trans (by rw [hc0];rfl)
def Zih:SCon:=fun args h=>match args,h with
 | [.g a0 41,.r a1 45 [(2,0)],.i .u64 a2,.i .i64 a3],[.sl (.came bQ) nQ aQ 82]=>.two ((okG PZ a0 a1 nQ aQ a2 a3)) (.one (some (.t [.r #[.int .i8 (num a1 0),.int .i8 (num a1 1),.slice none 0 0] 45 [(2,HOLE)],.i .i64 (0:Int)],.newS (some 1000000) nQ (gvX PZ a0 a1 nQ aQ a2 a3) 82,true))) (.one (some (.t [.r #[.int .i8 (0:Int),.int .i8 (0:Int),.slice none 0 0] 45 [(2,HOLE)],.i .i64 (codG a0 a1 nQ aQ a2 a3)],.newS (some 1000000) 0 (#[]:Array Value) 82,true)))
 | _,_=>.one none
theorem Zyw:EntX PZ 20:=Zag (fn:=Tryz.f20) (by kernel_rfl) (by kernel_rfl) (by kernel_rfl)
theorem Ybs:Uab mn PZ 20 (fun args h=>Uac (Zih args h)):=by
 intro ρ h w args vals r e hn hr hA hH
 dsimp only at hr
 unfold Zih at hr
 split at hr
 ·rename_i a0 a1 a2 a3 bQ nQ aQ
  simp only [Uac] at hr
  cases hc0:((okG PZ a0 a1 nQ aQ a2 a3))
  ·rw [hc0] at hr
   simp only [Uac,Q1,Q2] at hr
   obtain ⟨rfl,rfl,hg2⟩:=BQi hr
   exact (Uab.nilR (Zaf (N:=18446744073709551616) (by kernel_rfl) (mkΓw_sX (Zlq Znm) Zlx (mkΓw_cX (Zac Zgw) Zep (mkΓw_cX (Zac Zq9) Znh (mkΓw_cX (Zac Zsp) Zol mkΓx_nilX)))) (fn:=Tryz.f20) (by kernel_rfl) (by kernel_rfl) [([4000000000,11,13],[1000012,2]),([4000000000,9,16],[8]),([17,18],[])]) 2 82) ρ _ w _ vals _ _ hn (congrArg (Vc.nilR 2 82) (Zym a0 a1 a2 a3 bQ nQ aQ (hA.wt 0 rfl) (hA.wtr 1 rfl) (hA.rng 2 rfl) (hA.rng 3 rfl) (hH.slw 0 rfl) hc0 hg2)) hA hH
  ·rw [hc0] at hr
   simp only [Uac,Q1,Q2] at hr
   obtain ⟨rfl,rfl,hg2⟩:=BQi hr
   exact ((Zaf (N:=18446744073709551616) (by kernel_rfl) (mkΓw_sX (Zlq Znm) Zlx (mkΓw_cX (Zac Zgw) Zep (mkΓw_cX (Zac Zq9) Znh (mkΓw_cX (Zac Zsp) Zol mkΓx_nilX)))) (fn:=Tryz.f20) (by kernel_rfl) (by kernel_rfl) [([4000000000,11,13],[1000012,2]),([4000000000,9,16],[8]),([17,18],[])])) ρ _ w _ vals _ _ hn ((Zzg a0 a1 a2 a3 bQ nQ aQ (hA.wt 0 rfl) (hA.wtr 1 rfl) (hA.rng 2 rfl) (hA.rng 3 rfl) (hH.slw 0 rfl) hc0 hg2)) hA hH
 ·simp only [Uac] at hr
  cases hr
def Zl8:Con:=fun args h=>match args,h with
 | [.g a0 41,.r a1 45 [(2,0)],.i .u64 a2,.i .i64 a3],[.sl (.came bQ) nQ aQ 82]=>some (.t [.r (givV PZ a0 a1 nQ aQ a2 a3) 45 [(2,HOLE)],.i .i64 (givC PZ a0 a1 nQ aQ a2 a3)],.newS (some 1000000) (givN PZ a0 a1 nQ aQ a2 a3) (givA PZ a0 a1 nQ aQ a2 a3) 82,true)
 | _,_=>none
theorem Ye4:Uab mn PZ 20 Zl8:=Uab.of Ybs (by
 intro ρ h w args vals r e hA hH hr
 unfold Zl8 at hr
 split at hr
 ·rename_i a0 a1 a2 a3 bQ nQ aQ
  obtain ⟨rfl,rfl,hg2⟩:=BQi hr
  show Uac (Zih _ _)=_
  unfold Zih
  simp only [Uac]
  unfold givV givB givC givN givA
  cases (okG PZ a0 a1 nQ aQ a2 a3)<;>rfl
 ·cases hr)
theorem Ydd {a0 a1 A:Array Value} {n:Nat} {c:Int} (hS:WT PZ 41 a0) (hp:WT PZ 45 a1) (hA:∀ k,k<n→WT PZ 82 (relX A k)) (hok:okS a0=true) (hpl:Uay a0 a1 n A=true) (hU:U64 c) (hcs:Zad a0 c=true) :
  prsG (voyV PZ a0 a1) c=true∧allP (prsV (voyV PZ a0 a1)) (prsN (voyV PZ a0 a1)) (prsR PZ (voyV PZ a0 a1) c) n A=true∧(∀ m,gvJ (gtA (prsV (voyV PZ a0 a1)) (prsR PZ (voyV PZ a0 a1) c) A) n A m=gvJ (gtS PZ a0 a1 c A) n A m∧gvOk (gtA (prsV (voyV PZ a0 a1)) (prsR PZ (voyV PZ a0 a1) c) A) n A m=gvOk (gtS PZ a0 a1 c A) n A m):=by
 obtain ⟨hvo,hpg⟩:=voy_good hS hp hok hpl hU hcs
 obtain ⟨e1,e2,e3⟩:=Zpq hS hp
 have hV:=voyV_wt hS hp
 have h8:=(Yea.1 hvo).2.1
 obtain ⟨-,-,hr⟩:=Zxs hp hA hpl
 have hw:∀ X,worX PZ ((voyV PZ a0 a1).extract 2 (2+363)) (voyV PZ a0 a1) c X=worX PZ a0 a1 c X:=fun X=>by unfold worX;rw [e1,e2,e3]
 refine ⟨hpg,Zx1.2 fun k hk=> ?_,fun m=>Ymy (fun i j hi hj=> ?_) m⟩
 ·exact ok_X (Yp9 hV) (voy_sea hV) hvo (hr k hk).1 (by rw [e3];exact (hr k hk).2.1)
 ·have h:=gt_X (Yp9 hV) (c:=c) h8.2 (hr i hi).1 (by rw [e3];exact (hr i hi).2.1) (hr j hj).1 (by rw [e3];exact (hr j hj).2.1)
  unfold gtA gtS
  refine h.trans ?_
  rw [hw,hw]
def Zml:Cons:=(mkΓw [(31,conS Zf3)] [(32,conG Zlo),(43,con Zf2),(50,con Zdc),(51,conG Zc8),(52,con Zfx)] [] [])
theorem Zoj (N:Nat) (a0 a1:Array Value) (a2 a3:Int) (g_et:Addr) (g_tb:Addr) (bQ:Option (Option Addr)) (nQ:Nat) (aQ:Array Value):ansV PZ Zml N Tryz.f21 [] [.g a0 41,.r a1 45 [(2,2)],.i .u64 (a2),.i .i64 (a3)] [.gl 0 184 g_et 3000075,.gl 1 0 g_tb 1000000000,.sl (.came bQ) nQ aQ 82]=(bif (okS a0&&Uay a0 a1 nQ aQ) then (bif (Zad a0 a2) then (bif decide (a3<(0:Int)) then (some (.t [.r #[.int .i8 (0:Int),.int .i8 (0:Int),.slice none 0 0] 45 [],.i .i64 (2:Int)],.none,true))
        else (bif decide (a3 > (1000:Int)) then (some (.t [.r #[.int .i8 (0:Int),.int .i8 (0:Int),.slice none 0 0] 45 [],.i .i64 (2:Int)],.none,true))
          else (bif decide ((i64.wrap ((wsum aQ nQ)+a3)) > (1000:Int)) then (some (.t [.r #[.int .i8 (0:Int),.int .i8 (0:Int),.slice none 0 0] 45 [],.i .i64 (3:Int)],.none,true))
            else (bif (prsG (voyV PZ a0 a1) a2) then (bif ((gvOk (gtA (prsV (voyV PZ a0 a1)) (prsR PZ (voyV PZ a0 a1) a2) aQ) nQ aQ a3.toNat)&&(((allP (prsV (voyV PZ a0 a1)) ((prsN (voyV PZ a0 a1))) (prsR PZ (voyV PZ a0 a1) a2) nQ aQ)&&(Nat.ble (nQ*bytesOf PZ 82) 140737488355328&&decide (0≤a3∧a3≤1000000000))))) then (some (.t [.r #[.int .i8 (IntKind.i8.wrap (num (voyV PZ a0 a1) 0)),.int .i8 (IntKind.i8.wrap (num (voyV PZ a0 a1) 1)),.slice none 0 0] 45 [(2,HOLE)],.i .i64 (0:Int)],.newS (some 1000000) nQ (gvJ (gtA (prsV (voyV PZ a0 a1)) (prsR PZ (voyV PZ a0 a1) a2) aQ) nQ aQ a3.toNat) 82,true))
                else (none))
              else (none)))))
      else (some (.t [.r #[.int .i8 (0:Int),.int .i8 (0:Int),.slice none 0 0] 45 [],.i .i64 (2:Int)],.none,true)))
    else (some (.t [.r #[.int .i8 (0:Int),.int .i8 (0:Int),.slice none 0 0] 45 [],.i .i64 (1:Int)],.none,true))):=by kernel_rfl
def Zrh:Cons:=(mkΓw [(31,conS Zf3)] [(32,conG Zlo),(43,con Zf2),(50,con Zdc),(51,conG Zc8),(52,con Zfy)] [] [])
theorem Zyu (N:Nat) (a0 a1:Array Value) (a2 a3:Int) (g_et:Addr) (g_tb:Addr) (bQ:Option (Option Addr)) (nQ:Nat) (aQ:Array Value):ansV PZ Zrh N Tryz.f21 [] [.g a0 41,.r a1 45 [(2,2)],.i .u64 (a2),.i .i64 (a3)] [.gl 0 184 g_et 3000075,.gl 1 0 g_tb 1000000000,.sl (.came bQ) nQ aQ 82]=(bif (okS a0&&Uay a0 a1 nQ aQ) then (bif (Zad a0 a2) then (bif decide (a3<(0:Int)) then (some (.t [.r #[.int .i8 (0:Int),.int .i8 (0:Int),.slice none 0 0] 45 [],.i .i64 (2:Int)],.none,true))
        else (bif decide (a3 > (1000:Int)) then (some (.t [.r #[.int .i8 (0:Int),.int .i8 (0:Int),.slice none 0 0] 45 [],.i .i64 (2:Int)],.none,true))
          else (bif decide ((i64.wrap ((wsum aQ nQ)+a3)) > (1000:Int)) then (some (.t [.r #[.int .i8 (0:Int),.int .i8 (0:Int),.slice none 0 0] 45 [],.i .i64 (3:Int)],.none,true))
            else (bif (prsG (voyV PZ a0 a1) a2) then (bif ((!((gvOk (gtA (prsV (voyV PZ a0 a1)) (prsR PZ (voyV PZ a0 a1) a2) aQ) nQ aQ a3.toNat)))&&(((allP (prsV (voyV PZ a0 a1)) ((prsN (voyV PZ a0 a1))) (prsR PZ (voyV PZ a0 a1) a2) nQ aQ)&&(Nat.ble (nQ*bytesOf PZ 82) 140737488355328&&decide (0≤a3∧a3≤1000000000))))) then (some (.t [.r #[.int .i8 (0:Int),.int .i8 (0:Int),.slice none 0 0] 45 [],.i .i64 (6:Int)],.none,true))
                else (none))
              else (none)))))
      else (some (.t [.r #[.int .i8 (0:Int),.int .i8 (0:Int),.slice none 0 0] 45 [],.i .i64 (2:Int)],.none,true)))
    else (some (.t [.r #[.int .i8 (0:Int),.int .i8 (0:Int),.slice none 0 0] 45 [],.i .i64 (1:Int)],.none,true))):=by kernel_rfl
theorem Zyt (a0 a1:Array Value) (a2 a3:Int) (g_et:Addr) (g_tb:Addr) (bQ:Option (Option Addr)) (nQ:Nat) (aQ:Array Value) (h_a0:WT PZ 41 a0) (h_a1:WT PZ 45 a1) (h_a2:IntKind.u64.min≤a2∧a2≤IntKind.u64.max) (h_a3:i64.min≤a3∧a3≤i64.max) (h_a1x2:SlT 82 nQ aQ) (hc0:((okG PZ a0 a1 nQ aQ a2 a3))=false) (hc1:((gvOk (gtA (prsV (voyV PZ a0 a1)) (prsR PZ (voyV PZ a0 a1) a2) aQ) nQ aQ a3.toNat))=false) (hg:(true)=true):ansV PZ Zrh 1000 Tryz.f21 [] [.g a0 41,.r a1 45 [(2,2)],.i .u64 (a2),.i .i64 (a3)] [.gl 0 184 g_et 3000075,.gl 1 0 g_tb 1000000000,.sl (.came bQ) nQ aQ 82]=some (.t [.r #[.int .i8 (0:Int),.int .i8 (0:Int),.slice none 0 0] 45 [],.i .i64 (codG a0 a1 nQ aQ a2 a3)],.none,true):=by
 have hl3:(lay PZ 82).length=3:=by kernel_rfl
 have hA:∀ k,k<nQ→WT PZ 82 (relX aQ k):=fun k hk=>by
  have:=h_a1x2.2.1 k hk
  rw [hl3] at this
  exact this
 have hsz:aQ.size=nQ*3:=by
  have:=h_a1x2.1
  rwa [hl3] at this
 refine (Zyu 1000 a0 a1 a2 a3 g_et g_tb bQ nQ aQ).trans ?_
 cases hP:(okS a0&&Uay a0 a1 nQ aQ) with
 | false=>
  unfold codG
  simp only [hP,BQ9,Q1,Q2]
 | true=>
  cases hC:Zad a0 a2 with
  | false=>
   unfold codG
   simp only [hP,hC,BQ9,Q1,Q2]
  | true=>
   cases hI:Zaa a3 0 1000 with
   | false=>
    have hI2:=hI
    rw [in_eq] at hI2
    have hlt:a3<0∨a3 > 1000:=by
     have:=of_decide_eq_false hI2
     omega
    unfold codG
    rcases hlt with h | h
    ·simp only [hP,hC,hI,Q3 h,BQ9,Q1,Q2]
    ·simp only [hP,hC,hI,Q4 (show ¬ a3<0 by omega),Q3 h,BQ9,Q1,Q2]
   | true=>
    have hP2:=hP
    rw [Q7] at hP2
    have h3:=Zoc hI
    obtain ⟨hn,hs,hr⟩:=Zxs h_a1 hA hP2.2
    have hw:=Ye5 hn (fun k hk=>(hr k hk).2.2) nQ (Nat.le_refl _)
    have ew:i64.wrap (wsum aQ nQ+a3)=wsum aQ nQ+a3:=IntWalk.i64_in _ (by omega)
    have l0:decide (a3<(0:Int))=false:=Q4 (by omega)
    have l1:decide (a3 > (1000:Int))=false:=Q4 (by omega)
    rw [ew,l0,l1]
    cases hT:decide (wsum aQ nQ+a3 > (1000:Int)) with
    | true=>
     unfold codG
     simp only [hP,hC,hI,hT,BQ9,Q1,Q2]
    | false=>
     obtain ⟨hpg,hall,hgv⟩:=Ydd h_a0 h_a1 hA hP2.1 hP2.2 h_a2 hC
     obtain ⟨e1,e2,e3⟩:=Zpq h_a0 h_a1
     obtain ⟨g0,g1⟩:=Zpd h_a1 hP2.2
     have w8:IntKind.i8.wrap (num a1 0)=num a1 0∧IntKind.i8.wrap (num a1 1)=num a1 1:=⟨IntWalk.i8_in _ (by omega),IntWalk.i8_in _ (by omega)⟩
     have hby:Nat.ble (nQ*bytesOf PZ 82) 140737488355328=true:=by
      have hby:bytesOf PZ 82≤1000:=jA (by kernel_rfl)
      exact jB (Nat.le_trans (jC (show nQ≤12 from hn) hby) (by decide))
     have hd:decide (0≤a3∧a3≤1000000000)=true:=Q3 (by omega)
     simp only [Q1,Q2]
     rw [hpg,hall,hby,hd,hc1]
     unfold codG
     rw [hP,hC,hI,hT]
     rfl
theorem Zyh (a0 a1:Array Value) (a2 a3:Int) (g_et:Addr) (g_tb:Addr) (bQ:Option (Option Addr)) (nQ:Nat) (aQ:Array Value) (h_a0:WT PZ 41 a0) (h_a1:WT PZ 45 a1) (h_a2:IntKind.u64.min≤a2∧a2≤IntKind.u64.max) (h_a3:i64.min≤a3∧a3≤i64.max) (h_a1x2:SlT 82 nQ aQ) (hc0:((okG PZ a0 a1 nQ aQ a2 a3))=false) (hc1:((gvOk (gtA (prsV (voyV PZ a0 a1)) (prsR PZ (voyV PZ a0 a1) a2) aQ) nQ aQ a3.toNat))=true) (hg:(true)=true):ansV PZ Zml 1000 Tryz.f21 [] [.g a0 41,.r a1 45 [(2,2)],.i .u64 (a2),.i .i64 (a3)] [.gl 0 184 g_et 3000075,.gl 1 0 g_tb 1000000000,.sl (.came bQ) nQ aQ 82]=some (.t [.r #[.int .i8 (0:Int),.int .i8 (0:Int),.slice none 0 0] 45 [],.i .i64 (codG a0 a1 nQ aQ a2 a3)],.none,true):=by
 have hl3:(lay PZ 82).length=3:=by kernel_rfl
 have hA:∀ k,k<nQ→WT PZ 82 (relX aQ k):=fun k hk=>by
  have:=h_a1x2.2.1 k hk
  rw [hl3] at this
  exact this
 have hsz:aQ.size=nQ*3:=by
  have:=h_a1x2.1
  rwa [hl3] at this
 refine (Zoj 1000 a0 a1 a2 a3 g_et g_tb bQ nQ aQ).trans ?_
 cases hP:(okS a0&&Uay a0 a1 nQ aQ) with
 | false=>
  unfold codG
  simp only [hP,BQ9,Q1,Q2]
 | true=>
  cases hC:Zad a0 a2 with
  | false=>
   unfold codG
   simp only [hP,hC,BQ9,Q1,Q2]
  | true=>
   cases hI:Zaa a3 0 1000 with
   | false=>
    have hI2:=hI
    rw [in_eq] at hI2
    have hlt:a3<0∨a3 > 1000:=by
     have:=of_decide_eq_false hI2
     omega
    unfold codG
    rcases hlt with h | h
    ·simp only [hP,hC,hI,Q3 h,BQ9,Q1,Q2]
    ·simp only [hP,hC,hI,Q4 (show ¬ a3<0 by omega),Q3 h,BQ9,Q1,Q2]
   | true=>
    have hP2:=hP
    rw [Q7] at hP2
    have h3:=Zoc hI
    obtain ⟨hn,hs,hr⟩:=Zxs h_a1 hA hP2.2
    have hw:=Ye5 hn (fun k hk=>(hr k hk).2.2) nQ (Nat.le_refl _)
    have ew:i64.wrap (wsum aQ nQ+a3)=wsum aQ nQ+a3:=IntWalk.i64_in _ (by omega)
    have l0:decide (a3<(0:Int))=false:=Q4 (by omega)
    have l1:decide (a3 > (1000:Int))=false:=Q4 (by omega)
    rw [ew,l0,l1]
    cases hT:decide (wsum aQ nQ+a3 > (1000:Int)) with
    | true=>
     unfold codG
     simp only [hP,hC,hI,hT,BQ9,Q1,Q2]
    | false=>
     obtain ⟨hpg,hall,hgv⟩:=Ydd h_a0 h_a1 hA hP2.1 hP2.2 h_a2 hC
     obtain ⟨e1,e2,e3⟩:=Zpq h_a0 h_a1
     obtain ⟨g0,g1⟩:=Zpd h_a1 hP2.2
     have w8:IntKind.i8.wrap (num a1 0)=num a1 0∧IntKind.i8.wrap (num a1 1)=num a1 1:=⟨IntWalk.i8_in _ (by omega),IntWalk.i8_in _ (by omega)⟩
     have hby:Nat.ble (nQ*bytesOf PZ 82) 140737488355328=true:=by
      have hby:bytesOf PZ 82≤1000:=jA (by kernel_rfl)
      exact jB (Nat.le_trans (jC (show nQ≤12 from hn) hby) (by decide))
     have hd:decide (0≤a3∧a3≤1000000000)=true:=Q3 (by omega)
     simp only [Q1,Q2]
     exfalso
     unfold okG at hc0
     rw [hP,hC,hI,hT,← (hgv a3.toNat).2,hc1] at hc0
     cases hc0
theorem Zxp (a0 a1:Array Value) (a2 a3:Int) (g_et:Addr) (g_tb:Addr) (bQ:Option (Option Addr)) (nQ:Nat) (aQ:Array Value) (h_a0:WT PZ 41 a0) (h_a1:WT PZ 45 a1) (h_a2:IntKind.u64.min≤a2∧a2≤IntKind.u64.max) (h_a3:i64.min≤a3∧a3≤i64.max) (h_a1x2:SlT 82 nQ aQ) (hc0:((okG PZ a0 a1 nQ aQ a2 a3))=true) (hg:(true)=true):ansV PZ Zml 1000 Tryz.f21 [] [.g a0 41,.r a1 45 [(2,2)],.i .u64 (a2),.i .i64 (a3)] [.gl 0 184 g_et 3000075,.gl 1 0 g_tb 1000000000,.sl (.came bQ) nQ aQ 82]=some (.t [.r #[.int .i8 (num a1 0),.int .i8 (num a1 1),.slice none 0 0] 45 [(2,HOLE)],.i .i64 (0:Int)],.newS (some 1000000) nQ (gvX PZ a0 a1 nQ aQ a2 a3) 82,true):=by
 have hl3:(lay PZ 82).length=3:=by kernel_rfl
 have hA:∀ k,k<nQ→WT PZ 82 (relX aQ k):=fun k hk=>by
  have:=h_a1x2.2.1 k hk
  rw [hl3] at this
  exact this
 have hsz:aQ.size=nQ*3:=by
  have:=h_a1x2.1
  rwa [hl3] at this
 refine (Zoj 1000 a0 a1 a2 a3 g_et g_tb bQ nQ aQ).trans ?_
 cases hP:(okS a0&&Uay a0 a1 nQ aQ) with
 | false=>
  exfalso
  unfold okG at hc0
  simp only [hP,BQ9,Q1,Q2] at hc0
  cases hc0
 | true=>
  cases hC:Zad a0 a2 with
  | false=>
   exfalso
   unfold okG at hc0
   simp only [hP,hC,BQ9,Q1,Q2] at hc0
   cases hc0
  | true=>
   cases hI:Zaa a3 0 1000 with
   | false=>
    exfalso
    unfold okG at hc0
    simp only [hP,hC,hI,BQ9,Q1,Q2] at hc0
    cases hc0
   | true=>
    have hP2:=hP
    rw [Q7] at hP2
    have h3:=Zoc hI
    obtain ⟨hn,hs,hr⟩:=Zxs h_a1 hA hP2.2
    have hw:=Ye5 hn (fun k hk=>(hr k hk).2.2) nQ (Nat.le_refl _)
    have ew:i64.wrap (wsum aQ nQ+a3)=wsum aQ nQ+a3:=IntWalk.i64_in _ (by omega)
    have l0:decide (a3<(0:Int))=false:=Q4 (by omega)
    have l1:decide (a3 > (1000:Int))=false:=Q4 (by omega)
    rw [ew,l0,l1]
    cases hT:decide (wsum aQ nQ+a3 > (1000:Int)) with
    | true=>
     exfalso
     unfold okG at hc0
     simp only [hP,hC,hI,hT,BQ9,Q1,Q2] at hc0
     cases hc0
    | false=>
     obtain ⟨hpg,hall,hgv⟩:=Ydd h_a0 h_a1 hA hP2.1 hP2.2 h_a2 hC
     obtain ⟨e1,e2,e3⟩:=Zpq h_a0 h_a1
     obtain ⟨g0,g1⟩:=Zpd h_a1 hP2.2
     have w8:IntKind.i8.wrap (num a1 0)=num a1 0∧IntKind.i8.wrap (num a1 1)=num a1 1:=⟨IntWalk.i8_in _ (by omega),IntWalk.i8_in _ (by omega)⟩
     have hby:Nat.ble (nQ*bytesOf PZ 82) 140737488355328=true:=by
      have hby:bytesOf PZ 82≤1000:=jA (by kernel_rfl)
      exact jB (Nat.le_trans (jC (show nQ≤12 from hn) hby) (by decide))
     have hd:decide (0≤a3∧a3≤1000000000)=true:=Q3 (by omega)
     simp only [Q1,Q2]
     have hg5:gvOk (gtS PZ a0 a1 a2 aQ) nQ aQ a3.toNat=true:=by
      unfold okG at hc0
      rw [hP,hC,hI,hT] at hc0
      simpa using hc0
     rw [hpg,hall,hby,hd,(hgv a3.toNat).1,(hgv a3.toNat).2,hg5,e2,e3,w8.1,w8.2,gvX_eq hsz]
     rfl
def Zib:SCon:=fun args h=>match args,h with
 | [.g a0 41,.r a1 45 [(2,2)],.i .u64 a2,.i .i64 a3],[.gl 0 184 g_et 3000075,.gl 1 0 g_tb 1000000000,.sl (.came bQ) nQ aQ 82]=>.two ((okG PZ a0 a1 nQ aQ a2 a3)) (.one (some (.t [.r #[.int .i8 (num a1 0),.int .i8 (num a1 1),.slice none 0 0] 45 [(2,HOLE)],.i .i64 (0:Int)],.newS (some 1000000) nQ (gvX PZ a0 a1 nQ aQ a2 a3) 82,true))) (.two ((gvOk (gtA (prsV (voyV PZ a0 a1)) (prsR PZ (voyV PZ a0 a1) a2) aQ) nQ aQ a3.toNat)) (.one (some (.t [.r #[.int .i8 (0:Int),.int .i8 (0:Int),.slice none 0 0] 45 [(2,HOLE)],.i .i64 (codG a0 a1 nQ aQ a2 a3)],.newS (some 1000000) 0 (#[]:Array Value) 82,true))) (.one (some (.t [.r #[.int .i8 (0:Int),.int .i8 (0:Int),.slice none 0 0] 45 [(2,HOLE)],.i .i64 (codG a0 a1 nQ aQ a2 a3)],.newS (some 1000000) 0 (#[]:Array Value) 82,true))))
 | _,_=>.one none
theorem Zw3:EntX PZ 21:=Zag (fn:=Tryz.f21) (by kernel_rfl) (by kernel_rfl) (by kernel_rfl)
theorem Ycb:Uab mn PZ 21 (fun args h=>Uac (Zib args h)):=by
 intro ρ h w args vals r e hn hr hA hH
 dsimp only at hr
 unfold Zib at hr
 split at hr
 ·rename_i a0 a1 a2 a3 g_et g_tb bQ nQ aQ
  simp only [Uac] at hr
  cases hc0:((okG PZ a0 a1 nQ aQ a2 a3))
  ·rw [hc0] at hr
   simp only [Uac,Q1,Q2] at hr
   cases hc1:((gvOk (gtA (prsV (voyV PZ a0 a1)) (prsR PZ (voyV PZ a0 a1) a2) aQ) nQ aQ a3.toNat))
   ·rw [hc1] at hr
    simp only [Uac,Q1,Q2] at hr
    obtain ⟨rfl,rfl,hg2⟩:=BQi hr
    exact (Uab.nilR (Zaf (N:=1000) (by kernel_rfl) (mkΓw_sX (Zlq Zjr) Zhw (mkΓw_cX (Zq5 Zmi) Zj1 (mkΓw_cX (Zac Zjv) Zhi (mkΓw_cX (Zac Zfb) Zd7 (mkΓw_cX (Zq5 Zfe) Zeo (mkΓw_cX (Zac Zpk) Zfd mkΓx_nilX)))))) (fn:=Tryz.f21) (by kernel_rfl) (by kernel_rfl) []) 2 82) ρ _ w _ vals _ _ hn (congrArg (Vc.nilR 2 82) (Zyt a0 a1 a2 a3 g_et g_tb bQ nQ aQ (hA.wt 0 rfl) (hA.wtr 1 rfl) (hA.rng 2 rfl) (hA.rng 3 rfl) (hH.slw 2 rfl) hc0 hc1 hg2)) hA hH
   ·rw [hc1] at hr
    simp only [Uac,Q1,Q2] at hr
    obtain ⟨rfl,rfl,hg2⟩:=BQi hr
    exact (Uab.nilR (Zaf (N:=1000) (by kernel_rfl) (mkΓw_sX (Zlq Zjr) Zhw (mkΓw_cX (Zq5 Zmi) Zj1 (mkΓw_cX (Zac Zjv) Zhi (mkΓw_cX (Zac Zfb) Zd7 (mkΓw_cX (Zq5 Zfe) Zeo (mkΓw_cX (Zac Zj4) Zfd mkΓx_nilX)))))) (fn:=Tryz.f21) (by kernel_rfl) (by kernel_rfl) []) 2 82) ρ _ w _ vals _ _ hn (congrArg (Vc.nilR 2 82) (Zyh a0 a1 a2 a3 g_et g_tb bQ nQ aQ (hA.wt 0 rfl) (hA.wtr 1 rfl) (hA.rng 2 rfl) (hA.rng 3 rfl) (hH.slw 2 rfl) hc0 hc1 hg2)) hA hH
  ·rw [hc0] at hr
   simp only [Uac,Q1,Q2] at hr
   obtain ⟨rfl,rfl,hg2⟩:=BQi hr
   exact ((Zaf (N:=1000) (by kernel_rfl) (mkΓw_sX (Zlq Zjr) Zhw (mkΓw_cX (Zq5 Zmi) Zj1 (mkΓw_cX (Zac Zjv) Zhi (mkΓw_cX (Zac Zfb) Zd7 (mkΓw_cX (Zq5 Zfe) Zeo (mkΓw_cX (Zac Zj4) Zfd mkΓx_nilX)))))) (fn:=Tryz.f21) (by kernel_rfl) (by kernel_rfl) [])) ρ _ w _ vals _ _ hn ((Zxp a0 a1 a2 a3 g_et g_tb bQ nQ aQ (hA.wt 0 rfl) (hA.wtr 1 rfl) (hA.rng 2 rfl) (hA.rng 3 rfl) (hH.slw 2 rfl) hc0 hg2)) hA hH
 ·simp only [Uac] at hr
  cases hr
def Zl5:Con:=fun args h=>match args,h with
 | [.g a0 41,.r a1 45 [(2,2)],.i .u64 a2,.i .i64 a3],[.gl 0 184 g_et 3000075,.gl 1 0 g_tb 1000000000,.sl (.came bQ) nQ aQ 82]=>some (.t [.r (givV PZ a0 a1 nQ aQ a2 a3) 45 [(2,HOLE)],.i .i64 (givC PZ a0 a1 nQ aQ a2 a3)],.newS (some 1000000) (givN PZ a0 a1 nQ aQ a2 a3) (givA PZ a0 a1 nQ aQ a2 a3) 82,true)
 | _,_=>none
theorem Ye2:Uab mn PZ 21 Zl5:=Uab.of Ycb (by
 intro ρ h w args vals r e hA hH hr
 unfold Zl5 at hr
 split at hr
 ·rename_i a0 a1 a2 a3 g_et g_tb bQ nQ aQ
  obtain ⟨rfl,rfl,hg2⟩:=BQi hr
  show Uac (Zib _ _)=_
  unfold Zib
  simp only [Uac]
  unfold givV givB givC givN givA
  cases (okG PZ a0 a1 nQ aQ a2 a3)<;>cases (gvOk (gtA (prsV (voyV PZ a0 a1)) (prsR PZ (voyV PZ a0 a1) a2) aQ) nQ aQ a3.toNat)<;>rfl
 ·cases hr)
end
end Go.Proofs.YtohnggmlmglhmaaGreatDoor
