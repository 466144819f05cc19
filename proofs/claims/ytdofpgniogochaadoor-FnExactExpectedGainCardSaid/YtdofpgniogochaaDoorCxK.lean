import Derived.Test.YtdofpgniogochaaDoorProg
import Derived.Test.YtdofpgniogochaaDoorCxJ
namespace Go.Proofs.YtdofpgniogochaaDoor
open Go.ChangeShapes Go.WideShapes Go.ChangeAt Go.RowKit Ve Vc
open Tryd (prog)
open IntKind (i64)
set_option linter.unusedVariables false
set_option linter.unusedSimpArgs false
set_option maxRecDepth 100000
noncomputable section
variable {F:Vc.Fd}
theorem Yj8 {w h:Int} {k:Nat} (h1:((k % 6:Nat):Int)<w) (h2:((k / 6:Nat):Int)<h):inC w h k=true:=by
 unfold inC;rw [decide_eq_true h1,decide_eq_true h2];rfl
theorem gw_in {S:Array Value} (h0:1≤num S 0∧num S 0≤6∧1≤num S 1∧num S 1≤6) {k:Nat} (hk:k<36) (hi:inC (num S 0) (num S 1) k=true) (w:Nat) (hw:w<5) (hn:gw S k w ≠ -1):inC (num S 0) (num S 1) (gw S k w).toNat=true:=by
 obtain ⟨hx,hy⟩:=Ykh hi
 obtain ⟨a1,a2,a3,a4⟩:=h0
 match w,hw with
 | 0,_=>exact hi
 | 1,_=>
  simp only [gw] at hn⊢
  by_cases c:6≤k
  ·simp only [c,decide_true,cond_true]
   rw [show ((k:Int) - 6).toNat=k - 6 by omega]
   exact Yj8 (by omega) (by omega)
  ·simp [c] at hn
 | 2,_=>
  simp only [gw] at hn⊢
  by_cases c:((k % 6:Nat):Int)+1<num S 0
  ·simp only [decide_eq_true c,cond_true]
   rw [show ((k:Int)+1).toNat=k+1 by omega]
   exact Yj8 (by omega) (by omega)
  ·simp only [decide_eq_false c,cond_false] at hn;exact absurd rfl hn
 | 3,_=>
  simp only [gw] at hn⊢
  by_cases c:((k / 6:Nat):Int)+1<num S 1
  ·simp only [decide_eq_true c,cond_true]
   rw [show ((k:Int)+6).toNat=k+6 by omega]
   exact Yj8 (by omega) (by omega)
  ·simp only [decide_eq_false c,cond_false] at hn;exact absurd rfl hn
 | 4,_=>
  simp only [gw] at hn⊢
  by_cases c:1≤k % 6
  ·simp only [decide_eq_true c,cond_true]
   rw [show ((k:Int) - 1).toNat=k - 1 by omega]
   exact Yj8 (by omega) (by omega)
  ·simp only [decide_eq_false c,cond_false] at hn;exact absurd rfl hn
def ZO (S X:Array Value):Prop:=∀ k,k<36→inC (num S 0) (num S 1) k=false→num X (3+k)=0
def zo (S X:Array Value):Bool:=(List.range 36).all fun k=>inC (num S 0) (num S 1) k || (num X (3+k)==0)
theorem zo_iff {S X:Array Value}:zo S X=true ↔ ZO S X:=by
 unfold zo ZO
 rw [List.all_eq_true]
 constructor
 ·intro h k hk hf
  have:=h k (List.mem_range.2 hk)
  rw [hf,Bool.false_or,beq_iff_eq] at this
  exact this
 ·intro h k hk
  cases hf:inC (num S 0) (num S 1) k with
  | true=>rfl
  | false=>rw [Bool.false_or,beq_iff_eq];exact h k (List.mem_range.1 hk) hf
theorem Yk6 {S X:Array Value} (hX:WT prog 53 X) (hok:okS S=true) (hS:WT prog 35 S) (h:ZO S X):ZO S (hourV prog S X):=by
 intro k hk hf
 obtain ⟨i1,i2⟩:=Zwt X
 have hd:=Zrq hok
 have w:=(Zri (S:=S) hX).int (o:=3+k) (k:=.i64) (Zme (by omega) (by omega))
 refine cg_eq ((Yfi i1 (j:=3+k) (by omega)).trans (.of ?_)) w.2 (by omega)
 rw [(Zrd X).2.2 k hk,Int.zero_add]
 refine (Zhp 36 (g:=fun _=>0) fun i hi=> ?_).trans (Zob 36)
 rw [(Yav hS hi).2]
 cases hin:inC (num S 0) (num S 1) i with
 | false=>
  rw [Bool.false_and,if_neg (by simp),show 3+i*1=3+i by omega,h i hi hin]
  simp
 | true=>
  have hik:i≠k:=fun e=>by rw [e,hf] at hin;cases hin
  cases bitI (num S 2) i with
  | true=>rw [Bool.not_true,Bool.and_false,if_neg (by simp),if_neg (by omega)]
  | false=>
   rw [Bool.not_false,Bool.and_self,if_pos rfl]
   refine (Zhp 5 (g:=fun _=>0) fun w hw=> ?_).trans (Zob 5)
   rw [Yby hd hi hin w hw,if_neg]
   unfold destW
   by_cases hg:gw S i w = -1
   ·rw [hg,if_pos (by omega)];omega
   ·have:=Yah hd hi hin w hw hg
    rw [if_neg (show ¬ gw S i w<0 by omega)]
    intro e
    have e':(gw S i w).toNat=k:=by omega
    have:=gw_in hd hi hin w hw hg
    rw [e',hf] at this
    cases this
def driftV (P:Program) (S X:Array Value):Nat→Array Value
 | 0=>X
 | n+1=>hourV P S (driftV P S X n)
theorem Ybe {S X:Array Value} (hb:0≤num X 0∧num X 0<2) (hh:0≤num X 1∧num X 1≤14):∀ n,n≤14→num (driftV prog S X n) 0=num X 0∧num (driftV prog S X n) 1=num X 1+n
 | 0,_=>⟨rfl,by simp [driftV]⟩
 | n+1,hn=>by
  obtain ⟨h1,h2⟩:=Ybe hb hh n (by omega)
  obtain ⟨e1,e2,_⟩:=Zrd (driftV prog S X n)
  constructor
  ·rw [driftV,Yb5 _ _ (by omega),e1,h1]
  ·rw [driftV,Yb5 _ _ (by omega),e2,h2]
   have:IntKind.i8.wrap (num X 1+(n:Int)+1)=num X 1+(n:Int)+1:=IntWalk.i8_in _ (by omega)
   rw [this];omega
theorem Ykq {S X:Array Value} (hb:0≤num X 0∧num X 0<2) (hh:0≤num X 1∧num X 1≤14) {n:Nat} (hn:n≤14):tdS (driftV prog S X n)=(num X 0+num X 1+n) % 2:=by
 obtain ⟨h1,h2⟩:=Ybe (S:=S) hb hh n hn
 unfold tdS
 rw [h1,h2]
 have:IntKind.i8.wrap (num X 0+(num X 1+(n:Int)))=num X 0+num X 1+(n:Int):=by rw [IntWalk.i8_in _ (by omega)];omega
 rw [this,Int.tmod_eq_emod_of_nonneg (by omega)]
theorem Ykb {S X:Array Value} (hX:WT prog 53 X) (n:Nat):WT prog 53 (driftV prog S X n):=by
 induction n with
 | zero=>exact hX
 | succ n ih=>rw [driftV];exact Zri ih
theorem Ylk {S X:Array Value} (hX:WT prog 53 X) (hok:okS S=true) (hS:WT prog 35 S) (h:ZO S X) (n:Nat):ZO S (driftV prog S X n):=by
 induction n with
 | zero=>exact h
 | succ n ih=>rw [driftV];exact Yk6 (Ykb hX n) hok hS ih
def goG (S X:Array Value):Bool:=okS S&&((decide (0≤num X 0)&&decide (num X 0<2))&&((decide (0≤num X 1)&&decide (num X 1≤100))&&zo S X))
theorem Ynu {S X:Array Value}:goG S X=true ↔ okS S=true∧(0≤num X 0∧num X 0<2)∧(0≤num X 1∧num X 1≤100)∧ZO S X:=by
 unfold goG
 rw [← zo_iff]
 simp only [Bool.and_eq_true,decide_eq_true_eq]
def Zk8:Con:=fun args h=>match args,h with
 | [.g a0 35,.g a1 53],[]=>some (.a (.g (hourV prog a0 a1) 53),.none,goG a0 a1)
 | _,_=>none
theorem Zv3:EntX prog 41:=Zai (fn:=Tryd.f41) (by kernel_rfl) (by kernel_rfl) (by kernel_rfl)
theorem Yco:ConOkX (md F) prog 41 Zk8:=by
 intro ρ h v args vals r ef hno hr hA hH
 unfold Zk8 at hr
 split at hr
 ·rename_i a0 a1
  obtain ⟨rfl,hg⟩:=Prod.mk.inj (Option.some.inj hr)
  obtain ⟨rfl,hg2⟩:=Prod.mk.inj hg
  obtain ⟨hok,h0,h1,hz⟩:=Ynu.1 hg2
  have wS:WT prog 35 a0:=hA.wt 0 rfl
  have wX:WT prog 53 a1:=hA.wt 1 rfl
  have ht:tdS a1=(num a1 0+num a1 1) % 2:=by
   unfold tdS
   rw [IntWalk.i8_in _ (by omega),Int.tmod_eq_emod_of_nonneg (by omega)]
  have hG:flowG a0 a1=true:=by
   unfold flowG
   rw [hok,Bool.true_and,Ykp h0 h1]
   exact dec2 (by rw [ht];omega) (by rw [ht];omega)
  have e:vals=[.agg a0,.agg a1]:=by
   obtain ⟨hl,hv⟩:=hA
   match vals,hl,hv with
   | [x,y],_,hv=>
    have q0:x = .agg a0:=(hv 0 _ x rfl rfl).1
    have q1:y = .agg a1:=(hv 1 _ y rfl rfl).1
    rw [q0,q1]
  subst e
  have hh:=hour_eq wX hok h0 h1 hz wS
  exact (Ync wS wX hG F v).mono fun r v' h=>⟨⟨h.1.trans (by rw [hh]),Zri wX⟩,h.2⟩
 ·cases hr
def Zeo (a1:Array Value) (a2:Int) (a0:Array Value):St:=(⟨.a (.w 0) :: .a (.g a1 53) :: .a (.i .i64 (a2)) :: .a (.u) :: .a (.w 1) :: .a (.u) :: .a (.w 2) :: .a (.i .i64 (0:Int))::us 8 ([]),[.row a0 35,.row a1 53,.row (zc prog 53) 53],[]⟩:St)
def Zf1:Int×Array Value→LS
 | (y0_7,r0_1)=>([.a (.i .i64 (y0_7))],[.row r0_1 53])
def Zkz:Int×Array Value→Exit×LS
 | t=>((.exit 0),Zf1 t)
def Zcp (P:Program) (a1:Array Value) (a2:Int) (a0:Array Value):Int×Array Value→Option (Stp (Int×Array Value) (Int×Array Value))
 | (y0_7,r0_1)=>bif decide (y0_7<a2) then (bif (okS a0&&(decide (0≤tdS r0_1)&&decide (tdS r0_1<2))) then (some (.more ((i64.wrap (y0_7+(1:Int))),(hourV prog a0 r0_1))))
   else (none))
  else (some (.done (y0_7,r0_1)))
theorem Zze (N:Nat) (a1:Array Value) (a2:Int) (a0:Array Value):∀ t:Int×Array Value,stepV prog (mkΓ [(96,con Zbw)]) N (cAt (codeOf Tryd.f74) [1,0,1,0,0]) (pAt (mkPlan (codeOf Tryd.f74) [([7],[1])]).1 [1,0,1,0]) [7] [1] (Zeo a1 a2 a0) (Zf1 t)=mapS Zf1 Zkz (Zcp prog a1 a2 a0 t):=by
 rintro ⟨y0_7,r0_1⟩
 refine Eq.trans (b:=(bif decide (y0_7<a2) then (bif (okS a0&&(decide (0≤tdS r0_1)&&decide (tdS r0_1<2))) then (some (.more ([.a (.i .i64 (i64.wrap (y0_7+(1:Int))))],[.row (hourV prog a0 r0_1) 53])))
   else (none))
  else (some (.done ((.exit 0),([.a (.i .i64 (y0_7))],[.row r0_1 53])))))) (by kernel_rfl) ?_
 simp only [Zcp,Zav,Zas,Zat,Zau,Zf1,Zkz]
def Zi7 (P:Program) (N:Nat) (a1:Array Value) (a2:Int) (a0:Array Value) (z0_7:Int) (q0_1:Array Value):Option (SV×Eff×Bool):=some (.a (.g q0_1 53),.none,true)
theorem Zp6 (N:Nat) (a1:Array Value) (a2:Int) (a0:Array Value) (z0_7:Int) (q0_1:Array Value):(kBlock 0 (kSeq (veC prog (mkΓ [(96,con Zbw)]) N (cAt (codeOf Tryd.f74) [1,1]) (pAt (mkPlan (codeOf Tryd.f74) [([7],[1])]).1 [1,1]) (SV×Eff×Bool)) (finK prog [.row a0 35] [.cell 6 53]))) (.exit 0) (left (writes (cAt (codeOf Tryd.f74) [1,0,1,0,0])) [7] [1] (Zeo a1 a2 a0) ([.a (.i .i64 (z0_7))],[.row q0_1 53]))=Zi7 prog N a1 a2 a0 z0_7 q0_1:=by
 refine Eq.trans (b:=(some (.a (.g q0_1 53),.none,true))) (by kernel_rfl) ?_
 rfl
theorem Zz6 (N:Nat) (a1:Array Value) (a2:Int) (a0:Array Value):bindX (iterO (stepV prog (mkΓ [(96,con Zbw)]) N (cAt (codeOf Tryd.f74) [1,0,1,0,0]) (pAt (mkPlan (codeOf Tryd.f74) [([7],[1])]).1 [1,0,1,0]) [7] [1] (Zeo a1 a2 a0)) N ([.a (.i .i64 (0:Int))],[.row a1 53])) (fun e s=>(kBlock 0 (kSeq (veC prog (mkΓ [(96,con Zbw)]) N (cAt (codeOf Tryd.f74) [1,1]) (pAt (mkPlan (codeOf Tryd.f74) [([7],[1])]).1 [1,1]) (SV×Eff×Bool)) (finK prog [.row a0 35] [.cell 6 53]))) e (left (writes (cAt (codeOf Tryd.f74) [1,0,1,0,0])) [7] [1] (Zeo a1 a2 a0) s))=nodeX (iterO (Zcp prog a1 a2 a0) N ((0:Int),a1)) (fun x=>Zi7 prog N a1 a2 a0 x.1 x.2):=by
 refine Za9 Zf1 Zkz _ _ (Zze N a1 a2 a0) N ((0:Int),a1) _ _ ?_
 intro x;exact Zp6 N a1 a2 a0 x.1 x.2
theorem Zx7 (N:Nat) (a1:Array Value) (a2:Int) (a0:Array Value):ansV prog (mkΓ [(96,con Zbw)]) N Tryd.f74 [([7],[1])] [.w 0,.g a1 53,.i .i64 (a2)] [.row a0 35]=(nodeX (iterO (Zcp prog a1 a2 a0) N ((0:Int),a1)) (fun x=>Zi7 prog N a1 a2 a0 x.1 x.2)):=by
 refine Eq.trans (b:=(bindX (iterO (stepV prog (mkΓ [(96,con Zbw)]) N (cAt (codeOf Tryd.f74) [1,0,1,0,0]) (pAt (mkPlan (codeOf Tryd.f74) [([7],[1])]).1 [1,0,1,0]) [7] [1] (Zeo a1 a2 a0)) N ([.a (.i .i64 (0:Int))],[.row a1 53])) (fun e s=>(kBlock 0 (kSeq (veC prog (mkΓ [(96,con Zbw)]) N (cAt (codeOf Tryd.f74) [1,1]) (pAt (mkPlan (codeOf Tryd.f74) [([7],[1])]).1 [1,1]) (SV×Eff×Bool)) (finK prog [.row a0 35] [.cell 6 53]))) e (left (writes (cAt (codeOf Tryd.f74) [1,0,1,0,0])) [7] [1] (Zeo a1 a2 a0) s)))) (by kernel_rfl) ?_
 simp only [Zz6 N a1 a2 a0]
theorem Zwn (a1:Array Value) (a2:Int) (a0:Array Value) (h_a1:WT prog 53 a1) (h_a2:i64.min≤a2∧a2≤i64.max) (h_a0:WT prog 35 a0) (hg:((okS a0&&((decide (0≤num a1 0)&&decide (num a1 0<2))&&((decide (0≤num a1 1)&&decide (num a1 1≤14))&&(decide (0≤a2)&&decide (a2≤14))))))=true):ansV prog (mkΓ [(96,con Zbw)]) 1000 Tryd.f74 [([7],[1])] [.w 0,.g a1 53,.i .i64 (a2)] [.row a0 35]=some (.a (.g (driftV prog a0 a1 a2.toNat) 53),.none,true):=by
 simp only [Bool.and_eq_true,decide_eq_true_eq] at hg
 obtain ⟨hok,hb,hh,h0,h14⟩:=hg
 obtain ⟨m,rfl⟩:=Int.eq_ofNat_of_zero_le h0
 refine (Zx7 1000 a1 (m:Int) a0).trans ?_
 have h:=Zb9 (g:=Zcp prog a1 (m:Int) a0) (fun j=>((j:Int),driftV prog a0 a1 j)) (m:=m) (x:=((m:Int),driftV prog a0 a1 m)) (N:=1000) (fun j hj=>by
  have h1:decide ((j:Int)<(m:Int))=true:=decide_eq_true (by omega)
  have h3:i64.wrap ((j:Int)+1)=((j+1:Nat):Int):=by rw [w64 (by omega)];omega
  have ht:=Ykq (S:=a0) hb hh (show j≤14 by omega)
  have h4:=dec2 (a:=tdS (driftV prog a0 a1 j)) (b:=2) (by rw [ht];omega) (by rw [ht];omega)
  simp only [Zcp,h1,h3,hok,h4,Bool.and_self,cond_true]
  rfl) (by
  have h1:decide ((m:Int)<(m:Int))=false:=decide_eq_false (by omega)
  simp only [Zcp,h1,cond_false]) (by omega)
 have h':iterO (Zcp prog a1 (m:Int) a0) 1000 ((0:Int),a1)=some ((m:Int),driftV prog a0 a1 m):=h
 rw [h']
 rfl
def Zhf:Con:=fun args h=>match args,h with
 | [.w 0,.g a1 53,.i .i64 a2],[.row a0 35]=>some (.a (.g (driftV prog a0 a1 a2.toNat) 53),.none,(okS a0&&((decide (0≤num a1 0)&&decide (num a1 0<2))&&((decide (0≤num a1 1)&&decide (num a1 1≤14))&&(decide (0≤a2)&&decide (a2≤14))))))
 | _,_=>none
theorem Zt0:EntX prog 74:=Zai (fn:=Tryd.f74) (by kernel_rfl) (by kernel_rfl) (by kernel_rfl)
theorem Zzv:ConOkX (md F) prog 74 Zhf:=(Zaj (N:=1000) (by kernel_rfl) (mkΓ_consX (Zad Ybu) Zvf mkΓ_nilX) (fn:=Tryd.f74) (by kernel_rfl) (by kernel_rfl) [([7],[1])]).of (by
 intro ρ h w args vals r e hA hH hr
 unfold Zhf at hr
 split at hr
 ·rename_i a1 a2 a0
  obtain ⟨rfl,hg⟩:=Prod.mk.inj (Option.some.inj hr)
  obtain ⟨rfl,hg2⟩:=Prod.mk.inj hg
  exact Zwn a1 a2 a0 (hA.wt 1 rfl) (hA.rng 2 rfl) (hH.wt 0 rfl) hg2
 ·cases hr)
end
end Go.Proofs.YtdofpgniogochaaDoor
