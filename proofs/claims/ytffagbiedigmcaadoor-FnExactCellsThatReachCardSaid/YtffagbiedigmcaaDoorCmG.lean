/- The cells that reach some cells: both sides. -/
import Derived.Test.YtffagbiedigmcaaDoorProg
import Derived.Test.YtffagbiedigmcaaDoorCmF
namespace Go.Proofs.YtffagbiedigmcaaDoor
open Go.ChangeShapes Go.WideShapes Go.ChangeAt Go.RowKit Ve Vc
open Tryd (prog)
open IntKind (i64)
set_option linter.unusedVariables false
set_option linter.unusedSimpArgs false
set_option maxRecDepth 100000
noncomputable section
variable {mn:Md}
theorem Yg3 {S:Array Value} {c:Int} (h:Zai S c=true):∀ j,36≤j→bitI c j=false:=fun j hj=>by
 by_cases h64:j<64
 ·cases hb:bitI c j with
  | false=>rfl
  | true=>
   have:=(Zwx (a:=c) (b:=gridI (num S 0) (num S 1) 36)).1 h j h64 hb
   rw [Zuw _ _ 36 (by omega),decide_eq_false (by omega)] at this
   cases this
 ·exact bit_high (by omega) c
theorem ext3 (x y z:Value):(#[x,y,z]:Array Value).extract (0*3) (0*3+3)=#[x,y,z]:=by
 simp
theorem from_gd {S:Array Value} (hok:okS S=true) {k b h c:Int} (hb:0≤b∧b≤1) (hk:0≤k∧k≤35) (hh:1≤h∧h≤8) (hw:Zac k S=true):Zdv k b h c S=true:=by
 have n0:num (#[.int .i8 (IntKind.i8.wrap b),.int .i8 (IntKind.i8.wrap h),.slice none 0 0]:Array Value) 0=b:=IntWalk.i8_in b (by omega)
 have n1:num (#[.int .i8 (IntKind.i8.wrap b),.int .i8 (IntKind.i8.wrap h),.slice none 0 0]:Array Value) 1=h:=IntWalk.i8_in h (by omega)
 have a0:num (#[.int .i8 (IntKind.i8.wrap k),.int .i8 (0:Int),.int .i16 (1:Int)]:Array Value) 0=k:=IntWalk.i8_in k (by omega)
 have a1:num (#[.int .i8 (IntKind.i8.wrap k),.int .i8 (0:Int),.int .i16 (1:Int)]:Array Value) 1=0:=rfl
 have a2:num (#[.int .i8 (IntKind.i8.wrap k),.int .i8 (0:Int),.int .i16 (1:Int)]:Array Value) 2=1:=rfl
 have hr:relAll S h 1 (#[.int .i8 (IntKind.i8.wrap k),.int .i8 (0:Int),.int .i16 (1:Int)]:Array Value)=true:=(Zx8 S h 1 _).2 fun j hj=>by
  obtain rfl:j=0:=by omega
  show relB S h ((#[.int .i8 (IntKind.i8.wrap k),.int .i8 (0:Int),.int .i16 (1:Int)]:Array Value).extract (0*3) (0*3+3))=true
  rw [ext3]
  unfold relB
  rw [a0,a1,a2,IntWalk.i64_in k (by omega),IntWalk.i64_in (h - 1) (by omega),IntWalk.i64_in 0 (by omega),IntWalk.i64_in 1 (by omega),hw,in_of (by omega),in_of (by omega)]
  rfl
 have hs:wsum (#[.int .i8 (IntKind.i8.wrap k),.int .i8 (0:Int),.int .i16 (1:Int)]:Array Value) 1=1:=by
  show i64.wrap (0+i64.wrap (num ((#[.int .i8 (IntKind.i8.wrap k),.int .i8 (0:Int),.int .i16 (1:Int)]:Array Value).extract (0*3) (0*3+3)) 2))=1
  rw [ext3,a2,IntWalk.i64_in 1 (by omega),IntWalk.i64_in _ (by omega)];rfl
 unfold Zdv planB
 rw [n0,n1,IntWalk.i64_in b (by omega),IntWalk.i64_in h (by omega),hr,hs,hok,in_of (by omega),in_of (by omega)]
 rfl
theorem zs_num:∀ i,i<40→num (zc prog 123) i=0:=by
 have:((List.range 40).all fun i=>num (zc prog 123) i==0)=true:=by kernel_rfl
 intro i hi
 exact eq_of_beq (List.all_eq_true.1 this i (List.mem_range.2 hi))
theorem Zty (S:Array Value) {k b:Int} (hb:0≤b∧b≤1) (hk:0≤k∧k≤35):∀ j:Nat,j≤100→spreadV prog S b 1 (#[.int .i8 (IntKind.i8.wrap k),.int .i8 (0:Int),.int .i16 (1:Int)]:Array Value) (j+1)=driftV prog S (oneX prog k b) (j+1)
 | 0,_=>by
  have a0:num (#[.int .i8 (IntKind.i8.wrap k),.int .i8 (0:Int),.int .i16 (1:Int)]:Array Value) 0=k:=IntWalk.i8_in k (by omega)
  have a1:num (#[.int .i8 (IntKind.i8.wrap k),.int .i8 (0:Int),.int .i16 (1:Int)]:Array Value) 1=0:=rfl
  have a2:num (#[.int .i8 (IntKind.i8.wrap k),.int .i8 (0:Int),.int .i16 (1:Int)]:Array Value) 2=1:=rfl
  have hz:(zc prog 123).size=40:=by kernel_rfl
  have e:withV ((0:Nat):Int) 1 (#[.int .i8 (IntKind.i8.wrap k),.int .i8 (0:Int),.int .i16 (1:Int)]:Array Value) ((zc prog 123).setIfInBounds 0 (.int .i8 b))=oneX prog k b:=by
   unfold withV
   rw [Zd0,Ziz]
   unfold putR
   rw [ext3,a0,a1,a2,show (i64.wrap 0==((0:Nat):Int))=true from by decide,cond_true]
   unfold put2 oneX
   rw [Zdb,if_neg (by omega),zs_num 2 (by omega),Zdb,if_neg (by omega),Zdb,if_neg (by omega),zs_num _ (by omega),IntWalk.i8_in b (by omega)]
   rfl
  rw [spreadV,driftV,spreadV,driftV,e]
 | j+1,hj=>by
  have a1:num (#[.int .i8 (IntKind.i8.wrap k),.int .i8 (0:Int),.int .i16 (1:Int)]:Array Value) 1=0:=rfl
  have e:∀ X,withV ((j+1:Nat):Int) 1 (#[.int .i8 (IntKind.i8.wrap k),.int .i8 (0:Int),.int .i16 (1:Int)]:Array Value) X=X:=fun X=>by
   unfold withV
   rw [Zd0,Ziz]
   unfold putR
   rw [ext3,a1,IntWalk.i64_in 0 (by omega),show ((0:Int)==((j+1:Nat):Int))=false from beq_eq_false_iff_ne.2 (by omega),cond_false]
  rw [spreadV,e,Zty S hb hk j (by omega),driftV,driftV,driftV]
theorem from_src {S:Array Value} (hS:WT prog 35 S) (hok:okS S=true) {k b h c:Int} (hU:U64 c) (hb:0≤b∧b≤1) (hk:0≤k∧k≤35) (hh:1≤h∧h≤8) (hcs:Zai S c=true):(Zcj prog k b h c S != 0)=decide (num (rowR prog sumL S (rowC prog c) b h h.toNat) k.toNat > 0):=by
 have n0:num (#[.int .i8 (IntKind.i8.wrap b),.int .i8 (IntKind.i8.wrap h),.slice none 0 0]:Array Value) 0=b:=IntWalk.i8_in b (by omega)
 have n1:num (#[.int .i8 (IntKind.i8.wrap b),.int .i8 (IntKind.i8.wrap h),.slice none 0 0]:Array Value) 1=h:=IntWalk.i8_in h (by omega)
 obtain ⟨m,rfl⟩:∃ m:Nat,h=((m+1:Nat):Int):=⟨h.toNat - 1,by omega⟩
 have eE:endV prog S (#[.int .i8 (IntKind.i8.wrap b),.int .i8 (IntKind.i8.wrap ((m+1:Nat):Int)),.slice none 0 0]:Array Value) 1 (#[.int .i8 (IntKind.i8.wrap k),.int .i8 (0:Int),.int .i16 (1:Int)]:Array Value)=driftV prog S (oneX prog k b) (m+1):=by
  unfold endV
  rw [n0,n1,Int.toNat_natCast]
  exact Zty S hb hk m (by omega)
 unfold Zcj reaV
 rw [eE,Int.toNat_natCast,row_dot hS hok hb hk hcs (h:=m+1) (by omega)]
 have hM:=Zsg hS hok hb hk (m+1) (by omega)
 generalize driftV prog S (oneX prog k b) (m+1)=X at hM⊢
 have hnn:∀ i,i<36→0≤num X (3+i)*num (rowC prog c) i:=fun i hi=>by
  have:=hM.1 i (by omega)
  rw [(Znx c).2 i hi]
  split<;>omega
 rw [Bool.eq_iff_iff,decide_eq_true_iff]
 refine (and_pos (a:=c) (b:=folds (fbF (X.extract 3 (3+36))) 0 36)).trans (Iff.trans ?_ (sm_pos 36 hnn).symm)
 have hbit:=(fb_bit (X.extract 3 (3+36)) 36 (Nat.le_refl _)).2
 constructor
 ·rintro ⟨i,hi,h1,h2⟩
  rw [hbit,Bool.and_eq_true,decide_eq_true_iff,decide_eq_true_iff] at h2
  refine ⟨i,h2.1, ?_⟩
  have h3:=h2.2
  rw [Nat.mul_one,Zzf X h2.1] at h3
  rw [(Znx c).2 i h2.1,if_pos h1];omega
 ·rintro ⟨i,hi,h1⟩
  have hn:=hM.1 i (by omega)
  rw [(Znx c).2 i hi] at h1
  by_cases hc:bitI c i=true
  ·rw [if_pos hc] at h1
   refine ⟨i,by omega,hc, ?_⟩
   rw [hbit,Bool.and_eq_true,decide_eq_true_iff,decide_eq_true_iff,Nat.mul_one,Zzf X hi]
   exact ⟨hi,by omega⟩
  ·rw [if_neg hc] at h1;omega
def fromQ (P:Program) (S:Array Value) (b h c:Int) (k:Nat):Bool:=Zac (k:Int) S&&(Zcj P (k:Int) b h c S != 0)
theorem src_eq {S:Array Value} (hS:WT prog 35 S) (hok:okS S=true) {b h c:Int} (hU:U64 c) (hb:0≤b∧b≤1) (hh:1≤h∧h≤8) (hcs:Zai S c=true):folds (orF (fromQ prog S b h c)) 0 36=srcV prog S b h c:=by
 obtain ⟨u1,b1⟩:=Ycx (fromQ prog S b h c) 36 (Nat.le_refl _)
 obtain ⟨u2,b2⟩:=fb_bit (rowR prog sumL S (rowC prog c) b h h.toNat) 36 (Nat.le_refl _)
 have e:srcV prog S b h c=andI (andNotI (gridI (num S 0) (num S 1) 36) (num S 2)) (folds (fbF (rowR prog sumL S (rowC prog c) b h h.toNat)) 0 36):=rfl
 rw [e]
 refine Zzl u1 (Ve.u64_and _ _) fun k hk64=> ?_
 rw [b1,Zwo,Zsp _ _ hk64,Zuw _ _ 36 (Nat.le_refl _),b2]
 by_cases hk:k<36
 ·rw [decide_eq_true hk,Bool.true_and,Bool.true_and,Bool.true_and]
  unfold fromQ
  rw [from_src hS hok hU hb (by omega) hh hcs,(Ztq hS hk).2,Int.toNat_natCast,Nat.mul_one]
 ·rw [decide_eq_false hk];simp
def ctrC (S:Array Value) (b h c:Int):Int:=bif okS S then (bif (Zaa b 0 1&&(Zaa h 1 8&&Zai S c)) then 0 else 2) else 1
def ctrV (P:Program) (S:Array Value) (b h c:Int):Int:=bif okS S then (bif (Zaa b 0 1&&(Zaa h 1 8&&Zai S c)) then srcV P S b h c else 0) else 0
theorem begun_eq (S:Array Value) (b h c:Int):Za1 b h c S=ctrC S b h c:=by
 unfold Za1 ctrC Zai
 simp only [bne]
 cases okS S<;>cases Zaa b 0 1<;>cases Zaa h 1 8<;>cases ((IntKind.u64.wrap (BitVec.ofInt IntKind.u64.bits c &&& ~~~(BitVec.ofInt IntKind.u64.bits (gridI (num S 0) (num S 1) 36))).toNat)==(0:Int))<;>rfl
def Zic:Cons:=(mkΓw [(22,conS Zgv)] [(23,conG Zkq),(24,conG Ze2)] [] [])
theorem Zlc (N:Nat) (a0:Array Value) (a1 a2 a3:Int) (g_et:Addr) (g_tb:Addr):ansV prog Zic N Tryd.f8 [] [.g a0 35,.i .i64 (a1),.i .i64 (a2),.i .u64 (a3)] [.gl 0 154 g_et 3000062,.gl 1 0 g_tb 1000000000]=(bif okS a0 then (bif (Zaa a1 0 1&&(Zaa a2 1 8&&Zai a0 a3)) then (bif (((okS ((spl (spl (zc prog 60) 0 (#[.int .i64 (a1),.int .i64 (a2)]:Array Value).toList) 2 a0.toList).extract 2 (2+363))&&(decide (0≤(num (spl (spl (zc prog 60) 0 (#[.int .i64 (a1),.int .i64 (a2)]:Array Value).toList) 2 a0.toList) 0))&&decide ((num (spl (spl (zc prog 60) 0 (#[.int .i64 (a1),.int .i64 (a2)]:Array Value).toList) 2 a0.toList) 0)<2)))&&(decide (0≤(num (spl (spl (zc prog 60) 0 (#[.int .i64 (a1),.int .i64 (a2)]:Array Value).toList) 2 a0.toList) 1))&&decide ((num (spl (spl (zc prog 60) 0 (#[.int .i64 (a1),.int .i64 (a2)]:Array Value).toList) 2 a0.toList) 1)≤14)))&&decide (a3<68719476736)) then (some (.t [.i .u64 (srcV prog ((spl (spl (zc prog 60) 0 (#[.int .i64 (a1),.int .i64 (a2)]:Array Value).toList) 2 a0.toList).extract 2 (2+363)) (num (spl (spl (zc prog 60) 0 (#[.int .i64 (a1),.int .i64 (a2)]:Array Value).toList) 2 a0.toList) 0) (num (spl (spl (zc prog 60) 0 (#[.int .i64 (a1),.int .i64 (a2)]:Array Value).toList) 2 a0.toList) 1) a3),.i .i64 (0:Int)],.none,true))
    else (none))
   else (some (.t [.i .u64 (0:Int),.i .i64 (2:Int)],.none,true)))
  else (some (.t [.i .u64 (0:Int),.i .i64 (1:Int)],.none,true))):=by kernel_rfl
theorem Zkr (a0:Array Value) (a1 a2 a3:Int) (g_et:Addr) (g_tb:Addr) (h_a0:WT prog 35 a0) (h_a1:i64.min≤a1∧a1≤i64.max) (h_a2:i64.min≤a2∧a2≤i64.max) (h_a3:IntKind.u64.min≤a3∧a3≤IntKind.u64.max) (hg:(true)=true):ansV prog Zic 1000 Tryd.f8 [] [.g a0 35,.i .i64 (a1),.i .i64 (a2),.i .u64 (a3)] [.gl 0 154 g_et 3000062,.gl 1 0 g_tb 1000000000]=some (.t [.i .u64 (ctrV prog a0 a1 a2 a3),.i .i64 (ctrC a0 a1 a2 a3)],.none,true):=by
 unfold ctrC ctrV
 refine (Zlc 1000 a0 a1 a2 a3 g_et g_tb).trans ?_
 have hz:a0.size=363:=Zvz h_a0
 rw [(Zns hz).1,(Yde hz).1,(Yde hz).2]
 cases hok:okS a0 with
 | false=>simp only [cond_true,cond_false,show ((1:Int) != 0)=true from rfl]
 | true=>
  cases hr:(Zaa a1 0 1&&(Zaa a2 1 8&&Zai a0 a3)) with
  | false=>simp only [cond_true,cond_false,show ((2:Int) != 0)=true from rfl]
  | true=>
   simp only [cond_true,cond_false,show ((0:Int) != 0)=false from rfl]
   have hU:U64 a3:=h_a3
   have hr':=hr
   rw [Bool.and_eq_true,Bool.and_eq_true] at hr'
   obtain ⟨g0,g1,hc⟩:=hr'
   have hb:=Znt g0
   have hh:=Znt g1
   have hlow:=low_of hU (Yg3 hc)
   rw [dec2 hb.1 (show a1<2 by omega),decide_eq_true (show 0≤a2 by omega),decide_eq_true (show a2≤14 by omega),decide_eq_true hlow]
   rfl
def Ze3:Con:=fun args h=>match args,h with
 | [.g a0 35,.i .i64 a1,.i .i64 a2,.i .u64 a3],[.gl 0 154 g_et 3000062,.gl 1 0 g_tb 1000000000]=>some (.t [.i .u64 (ctrV prog a0 a1 a2 a3),.i .i64 (ctrC a0 a1 a2 a3)],.none,true)
 | _,_=>none
theorem Zj8:EntX prog 8:=Zam (fn:=Tryd.f8) (by kernel_rfl) (by kernel_rfl) (by kernel_rfl)
theorem Zmf:ConOkX mn prog 8 Ze3:=(Zat (N:=1000) (by kernel_rfl) (mkΓw_sX (conS_okX Zq3) Zn5 (mkΓw_cX (Zu3 Zuq) Zo5 (mkΓw_cX (Zu3 Zl5) Zkd mkΓx_nilX))) (fn:=Tryd.f8) (by kernel_rfl) (by kernel_rfl) []).of (by
 intro ρ h w args vals r e hA hH hr
 unfold Ze3 at hr
 split at hr
 ·rename_i a0 a1 a2 a3 g_et g_tb
  obtain ⟨rfl,hg⟩:=Prod.mk.inj (Option.some.inj hr)
  obtain ⟨rfl,hg2⟩:=Prod.mk.inj hg
  exact Zkr a0 a1 a2 a3 g_et g_tb (hA.wt 0 rfl) (hA.rng 1 rfl) (hA.rng 2 rfl) (hA.rng 3 rfl) hg2
 ·cases hr)
def Zbd:Cons:=(mkΓ [(18,con Zhw),(19,con Zfv),(20,con Zil)])
def Zb5 (a0:Array Value) (a1 a2 a3:Int):St:=(⟨.a (.g a0 35) :: .a (.i .i64 (a1)) :: .a (.i .i64 (a2)) :: .a (.i .u64 (a3)) :: .a (.w 0)::us 3 (.a (.i .u64 (0:Int)) :: .a (.i .i64 (0:Int)) :: .a (.i .i64 (Za1 a1 a2 a3 a0)) :: .a (.i .u64 (0:Int)) :: .a (.i .i64 (0:Int)) :: .a (.i .i64 (a1)) :: .a (.i .i64 (a2)) :: .a (.i .u64 (a3)) :: .a (.i .i64 (Za1 a1 a2 a3 a0)) :: .a (.i .i64 (Za1 a1 a2 a3 a0)) :: .a (.b (((Za1 a1 a2 a3 a0) != (0:Int))))::us 21 ([])),[.row a0 35,.no,.no],[]⟩:St)
def Zcz:Int×Int→LS
 | (y0_11,y0_12)=>([.a (.i .u64 (y0_11)),.a (.i .i64 (y0_12))],[])
def Zfi:Int×Int→Exit×LS
 | t=>((.exit 0),Zcz t)
def Za3 (P : Program) (a0 : Array Value) (a1 a2 a3 : Int) : Int × Int → Option (Stp (Int × Int) (Int × Int))
 | (y0_11, y0_12) => bif decide (y0_12 < (36 : Int)) then (bif (Za0 y0_12 a0) then (bif (Zac y0_12 a0) then (bif (Zdv y0_12 a1 a2 a3 a0) then (bif ((Zcj prog y0_12 a1 a2 a3 a0) != (0 : Int)) then (bif decide (0 ≤ (IntKind.u64.wrap y0_12)) then (some (.more ((IntKind.u64.wrap (BitVec.ofInt IntKind.u64.bits y0_11 ||| BitVec.ofInt IntKind.u64.bits (IntKind.u64.wrap ((1 : Int) * 2 ^ (min ((IntKind.u64.wrap y0_12)).toNat IntKind.u64.bits)))).toNat), (i64.wrap (y0_12 + (1 : Int))))))
       else (none))
      else (some (.more (y0_11, (i64.wrap (y0_12 + (1 : Int)))))))
     else (none))
    else (some (.more (y0_11, (i64.wrap (y0_12 + (1 : Int)))))))
   else (none))
  else (some (.done (y0_11, y0_12)))
theorem Zmd (N:Nat) (a0:Array Value) (a1 a2 a3:Int):∀ t:Int×Int,stepV prog Zbd N (cAt (codeOf Tryd.f6) [1,1,1,0,1,0,0]) (pAt (mkPlan (codeOf Tryd.f6) [([11,12],[])]).1 [1,1,1,0,1,0]) [11,12] [] (Zb5 a0 a1 a2 a3) (Zcz t)=mapS Zcz Zfi (Za3 prog a0 a1 a2 a3 t):=by
 rintro ⟨y0_11,y0_12⟩
 refine Eq.trans (b:=(bif decide (y0_12<(36:Int)) then (bif (Za0 y0_12 a0) then (bif (Zac y0_12 a0) then (bif (Zdv y0_12 a1 a2 a3 a0) then (bif ((Zcj prog y0_12 a1 a2 a3 a0) != (0:Int)) then (bif decide (0≤(IntKind.u64.wrap y0_12)) then (some (.more ([.a (.i .u64 (IntKind.u64.wrap (BitVec.ofInt IntKind.u64.bits y0_11 ||| BitVec.ofInt IntKind.u64.bits (IntKind.u64.wrap ((1:Int)*2^(min ((IntKind.u64.wrap y0_12)).toNat IntKind.u64.bits)))).toNat)),.a (.i .i64 (i64.wrap (y0_12+(1:Int))))],[])))
       else (none))
      else (some (.more ([.a (.i .u64 (y0_11)),.a (.i .i64 (i64.wrap (y0_12+(1:Int))))],[]))))
     else (none))
    else (some (.more ([.a (.i .u64 (y0_11)),.a (.i .i64 (i64.wrap (y0_12+(1:Int))))],[]))))
   else (none))
  else (some (.done ((.exit 0),([.a (.i .u64 (y0_11)),.a (.i .i64 (y0_12))],[])))))) (by kernel_rfl) ?_
 simp only [Za3,Zbe,Zbc,Zbb,Zbf,Zcz,Zfi]
def Zes (P:Program) (N:Nat) (a0:Array Value) (a1 a2 a3:Int) (z0_11:Int) (z0_12:Int):Option (SV×Eff×Bool):=some (.t [.i .u64 (z0_11),.i .i64 (0:Int)],.none,true)
theorem Zja (N:Nat) (a0:Array Value) (a1 a2 a3:Int) (z0_11:Int) (z0_12:Int):(kBlock 0 (kSeq (veC prog Zbd N (cAt (codeOf Tryd.f6) [1,1,1,1]) (pAt (mkPlan (codeOf Tryd.f6) [([11,12],[])]).1 [1,1,1,1]) (SV×Eff×Bool)) (finK prog [] [.tmp 8,.tmp 9]))) (.exit 0) (left (writes (cAt (codeOf Tryd.f6) [1,1,1,0,1,0,0])) [11,12] [] (Zb5 a0 a1 a2 a3) ([.a (.i .u64 (z0_11)),.a (.i .i64 (z0_12))],[]))=Zes prog N a0 a1 a2 a3 z0_11 z0_12:=by
 refine Eq.trans (b:=(some (.t [.i .u64 (z0_11),.i .i64 (0:Int)],.none,true))) (by kernel_rfl) ?_
 rfl
theorem Zmg (N:Nat) (a0:Array Value) (a1 a2 a3:Int):bindX (iterO (stepV prog Zbd N (cAt (codeOf Tryd.f6) [1,1,1,0,1,0,0]) (pAt (mkPlan (codeOf Tryd.f6) [([11,12],[])]).1 [1,1,1,0,1,0]) [11,12] [] (Zb5 a0 a1 a2 a3)) N ([.a (.i .u64 (0:Int)),.a (.i .i64 (0:Int))],[])) (fun e s=>(kBlock 0 (kSeq (veC prog Zbd N (cAt (codeOf Tryd.f6) [1,1,1,1]) (pAt (mkPlan (codeOf Tryd.f6) [([11,12],[])]).1 [1,1,1,1]) (SV×Eff×Bool)) (finK prog [] [.tmp 8,.tmp 9]))) e (left (writes (cAt (codeOf Tryd.f6) [1,1,1,0,1,0,0])) [11,12] [] (Zb5 a0 a1 a2 a3) s))=nodeX (iterO (Za3 prog a0 a1 a2 a3) N ((0:Int),(0:Int))) (fun x=>Zes prog N a0 a1 a2 a3 x.1 x.2):=by
 refine Zcl Zcz Zfi _ _ (Zmd N a0 a1 a2 a3) N ((0:Int),(0:Int)) _ _ ?_
 intro x;exact Zja N a0 a1 a2 a3 x.1 x.2
theorem Zk9 (N:Nat) (a0:Array Value) (a1 a2 a3:Int):ansV prog Zbd N Tryd.f6 [([11,12],[])] [.g a0 35,.i .i64 (a1),.i .i64 (a2),.i .u64 (a3)] []=(bif ((Za1 a1 a2 a3 a0) != (0:Int)) then (some (.t [.i .u64 (0:Int),.i .i64 (Za1 a1 a2 a3 a0)],.none,true))
  else (nodeX (iterO (Za3 prog a0 a1 a2 a3) N ((0:Int),(0:Int))) (fun x=>Zes prog N a0 a1 a2 a3 x.1 x.2))):=by
 refine Eq.trans (b:=(bif ((Za1 a1 a2 a3 a0) != (0:Int)) then (some (.t [.i .u64 (0:Int),.i .i64 (Za1 a1 a2 a3 a0)],.none,true))
  else (bindX (iterO (stepV prog Zbd N (cAt (codeOf Tryd.f6) [1,1,1,0,1,0,0]) (pAt (mkPlan (codeOf Tryd.f6) [([11,12],[])]).1 [1,1,1,0,1,0]) [11,12] [] (Zb5 a0 a1 a2 a3)) N ([.a (.i .u64 (0:Int)),.a (.i .i64 (0:Int))],[])) (fun e s=>(kBlock 0 (kSeq (veC prog Zbd N (cAt (codeOf Tryd.f6) [1,1,1,1]) (pAt (mkPlan (codeOf Tryd.f6) [([11,12],[])]).1 [1,1,1,1]) (SV×Eff×Bool)) (finK prog [] [.tmp 8,.tmp 9]))) e (left (writes (cAt (codeOf Tryd.f6) [1,1,1,0,1,0,0])) [11,12] [] (Zb5 a0 a1 a2 a3) s))))) (by kernel_rfl) ?_
 simp only [Zmg N a0 a1 a2 a3]
theorem Zk1 (a0:Array Value) (a1 a2 a3:Int) (h_a0:WT prog 35 a0) (h_a1:i64.min≤a1∧a1≤i64.max) (h_a2:i64.min≤a2∧a2≤i64.max) (h_a3:IntKind.u64.min≤a3∧a3≤IntKind.u64.max) (hg:(true)=true):ansV prog Zbd 1000 Tryd.f6 [([11,12],[])] [.g a0 35,.i .i64 (a1),.i .i64 (a2),.i .u64 (a3)] []=some (.t [.i .u64 (ctrV prog a0 a1 a2 a3),.i .i64 (ctrC a0 a1 a2 a3)],.none,true):=by
 refine (Zk9 1000 a0 a1 a2 a3).trans ?_
 rw [begun_eq]
 unfold ctrC ctrV
 cases hok:okS a0 with
 | false=>simp only [cond_true,cond_false,show ((1:Int) != 0)=true from rfl]
 | true=>
  cases hr:(Zaa a1 0 1&&(Zaa a2 1 8&&Zai a0 a3)) with
  | false=>simp only [cond_true,cond_false,show ((2:Int) != 0)=true from rfl]
  | true=>
   simp only [cond_true,cond_false,show ((0:Int) != 0)=false from rfl]
   have hU:U64 a3:=h_a3
   have hr':=hr
   rw [Bool.and_eq_true,Bool.and_eq_true] at hr'
   obtain ⟨g0,g1,hc⟩:=hr'
   have hb:=Znt g0
   have hh:=Znt g1
   have hit:iterO (Za3 prog a0 a1 a2 a3) 1000 ((0:Int),(0:Int))=some (srcV prog a0 a1 a2 a3,(36:Int)):=by
    rw [← src_eq h_a0 hok hU hb hh hc]
    exact Zg6 (g:=Za3 prog a0 a1 a2 a3) (fun (acc:Int) k=>(acc,(k:Int))) (orF (fromQ prog a0 a1 a2 a3)) (m:=36) (t:=(0:Int)) (x:=(folds (orF (fromQ prog a0 a1 a2 a3)) 0 36,(36:Int))) (N:=1000) (fun k s hk _=>by
     have h1:decide ((k:Int)<36)=true:=decide_eq_true (by omega)
     have h3:i64.wrap ((k:Int)+1)=((k+1:Nat):Int):=by rw [w64 (by omega)];omega
     have h6:decide (0≤IntKind.u64.wrap (k:Int))=true:=decide_eq_true (Zg1 .u64 _).1
     unfold orF fromQ
     simp only [Za3,h1,h3,h6,(Ztq h_a0 hk).1,cond_true]
     cases hw:Zac (k:Int) a0 with
     | false=>simp only [cond_false,Bool.false_and]
     | true=>
      rw [from_gd hok hb (by omega) hh hw]
      simp only [cond_true,Bool.true_and]
      rw [u64w hk,Int.toNat_natCast]
      cases (Zcj prog (k:Int) a1 a2 a3 a0 != 0)<;>rfl) (by
     have h1:decide (((36:Nat):Int)<36)=false:=by decide
     generalize folds (orF (fromQ prog a0 a1 a2 a3)) 0 36=q
     simp only [Za3,h1,cond_false]
     rfl) (by omega)
   rw [hit]
   rfl
def Ze1:Con:=fun args h=>match args,h with
 | [.g a0 35,.i .i64 a1,.i .i64 a2,.i .u64 a3],[]=>some (.t [.i .u64 (ctrV prog a0 a1 a2 a3),.i .i64 (ctrC a0 a1 a2 a3)],.none,true)
 | _,_=>none
theorem Zke:EntX prog 6:=Zam (fn:=Tryd.f6) (by kernel_rfl) (by kernel_rfl) (by kernel_rfl)
theorem Zl6:ConOkX mn prog 6 Ze1:=(Zat (N:=1000) (by kernel_rfl) (mkΓ_consX (Zag Zuh) Zpy (mkΓ_consX (Zag Zj7) Zh2 (mkΓ_consX (Zag Zw6) Zqo mkΓ_nilX))) (fn:=Tryd.f6) (by kernel_rfl) (by kernel_rfl) [([11,12],[])]).of (by
 intro ρ h w args vals r e hA hH hr
 unfold Ze1 at hr
 split at hr
 ·rename_i a0 a1 a2 a3
  obtain ⟨rfl,hg⟩:=Prod.mk.inj (Option.some.inj hr)
  obtain ⟨rfl,hg2⟩:=Prod.mk.inj hg
  exact Zk1 a0 a1 a2 a3 (hA.wt 0 rfl) (hA.rng 1 rfl) (hA.rng 2 rfl) (hA.rng 3 rfl) hg2
 ·cases hr)
end
end Go.Proofs.YtffagbiedigmcaaDoor
