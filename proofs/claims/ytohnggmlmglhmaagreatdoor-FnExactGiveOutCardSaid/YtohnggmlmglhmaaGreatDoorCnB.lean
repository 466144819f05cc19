/- What a release is worth, forward and backward. -/
import Derived.Test.YtohnggmlmglhmaaGreatDoorProg
import Derived.Test.YtohnggmlmglhmaaGreatDoorCnA
open _root_.Int renaming eq_ofNat_of_zero_le→jA
namespace Go.Proofs.YtohnggmlmglhmaaGreatDoor
open Go.ChangeShapes Go.WideShapes Go.ChangeAt Go.RowKit Ve Vc
open Tryz renaming prog → PZ
set_option linter.unusedVariables false
set_option linter.unusedSimpArgs false
set_option maxRecDepth 100000
noncomputable section
variable {mn:Md}
def Zfk (a1:Array Value) (a2:Int) (a0:Array Value):St:=(⟨.a (.w 0) :: .a (.g a1 144) :: .a (.i .i64 (a2)) :: .a (.u) :: .a (.w 1) :: .a (.u) :: .a (.w 2) :: .a (.i .i64 (0:Int))::us 8 ([]),[.row a0 41,.row a1 144,.row (zc PZ 144) 144],[]⟩:St)
def Zha:Int×Array Value→LS
 | (y0_7,r0_1)=>([.a (.i .i64 (y0_7))],[.row r0_1 144])
def Zmj:Int×Array Value→Exit×LS
 | t=>((.exit 0),Zha t)
def Zdo (P:Program) (a1:Array Value) (a2:Int) (a0:Array Value):Int×Array Value→Option (Stp (Int×Array Value) (Int×Array Value))
 | (y0_7,r0_1)=>bif decide (y0_7<a2) then (bif (okS a0&&(decide (0≤tdS r0_1)&&decide (tdS r0_1<2))) then (some (.more ((IntKind.i64.wrap (y0_7+(1:Int))),(Ub0 PZ a0 r0_1))))
   else (none))
  else (some (.done (y0_7,r0_1)))
def Ue0:=(Uaf (codeOf Tryz.f77) [([7],[1])]).1
theorem Ycx (N:Nat) (a1:Array Value) (a2:Int) (a0:Array Value):∀ t:Int×Array Value,Uag PZ (mkΓ [(105,con Zdn)]) N (cAt (codeOf Tryz.f77) [1,0,1,0,0]) (pAt Ue0 [1,0,1,0]) [7] [1] (Zfk a1 a2 a0) (Zha t)=mapS Zha Zmj (Zdo PZ a1 a2 a0 t):=by
 rintro ⟨y0_7,r0_1⟩
 refine Eq.trans (b:=(bif decide (y0_7<a2) then (bif (okS a0&&(decide (0≤tdS r0_1)&&decide (tdS r0_1<2))) then (some (.more ([.a (.i .i64 (IntKind.i64.wrap (y0_7+(1:Int))))],[.row (Ub0 PZ a0 r0_1) 144])))
   else (none))
  else (some (.done ((.exit 0),([.a (.i .i64 (y0_7))],[.row r0_1 144])))))) (by kernel_rfl) ?_
 simp only [Zdo,Zaz,Zay,Za1,Za0,Zha,Zmj]
def Zkn (P:Program) (N:Nat) (a1:Array Value) (a2:Int) (a0:Array Value) (z0_7:Int) (q0_1:Array Value):Option (SV×Eff×Bool):=some (.a (.g q0_1 144),.none,true)
def Ufl (N:Nat) (a0:Array Value):=(Uan 0 (kSeq (veC PZ (mkΓ [(105,con Zdn)]) N (cAt (codeOf Tryz.f77) [1,1]) (pAt Ue0 [1,1]) (SV×Eff×Bool)) (finK PZ [.row a0 41] [.cell 6 144])))
theorem Ztm (N:Nat) (a1:Array Value) (a2:Int) (a0:Array Value) (z0_7:Int) (q0_1:Array Value):(Ufl N a0) (.exit 0) (left (writes (cAt (codeOf Tryz.f77) [1,0,1,0,0])) [7] [1] (Zfk a1 a2 a0) ([.a (.i .i64 (z0_7))],[.row q0_1 144]))=Zkn PZ N a1 a2 a0 z0_7 q0_1:=by
 refine Eq.trans (b:=(some (.a (.g q0_1 144),.none,true))) (by kernel_rfl) ?_
 rfl
theorem Yci (N:Nat) (a1:Array Value) (a2:Int) (a0:Array Value):Uah (Uaa (Uag PZ (mkΓ [(105,con Zdn)]) N (cAt (codeOf Tryz.f77) [1,0,1,0,0]) (pAt Ue0 [1,0,1,0]) [7] [1] (Zfk a1 a2 a0)) N ([.a (.i .i64 (0:Int))],[.row a1 144])) (fun e s=>(Ufl N a0) e (left (writes (cAt (codeOf Tryz.f77) [1,0,1,0,0])) [7] [1] (Zfk a1 a2 a0) s))=Uak (Uaa (Zdo PZ a1 a2 a0) N ((0:Int),a1)) (fun x=>Zkn PZ N a1 a2 a0 x.1 x.2):=by
 refine Zbd Zha Zmj _ _ (Ycx N a1 a2 a0) N ((0:Int),a1) _ _ ?_
 intro x;exact Ztm N a1 a2 a0 x.1 x.2
theorem Yai (N:Nat) (a1:Array Value) (a2:Int) (a0:Array Value):ansV PZ (mkΓ [(105,con Zdn)]) N Tryz.f77 [([7],[1])] [.w 0,.g a1 144,.i .i64 (a2)] [.row a0 41]=(Uak (Uaa (Zdo PZ a1 a2 a0) N ((0:Int),a1)) (fun x=>Zkn PZ N a1 a2 a0 x.1 x.2)):=by
 refine Eq.trans (b:=(Uah (Uaa (Uag PZ (mkΓ [(105,con Zdn)]) N (cAt (codeOf Tryz.f77) [1,0,1,0,0]) (pAt Ue0 [1,0,1,0]) [7] [1] (Zfk a1 a2 a0)) N ([.a (.i .i64 (0:Int))],[.row a1 144])) (fun e s=>(Ufl N a0) e (left (writes (cAt (codeOf Tryz.f77) [1,0,1,0,0])) [7] [1] (Zfk a1 a2 a0) s)))) (by kernel_rfl) ?_
 simp only [Yci N a1 a2 a0]
theorem Zxx (a1:Array Value) (a2:Int) (a0:Array Value) (h_a1:WT PZ 144 a1) (h_a2:IntKind.i64.min≤a2∧a2≤IntKind.i64.max) (h_a0:WT PZ 41 a0) (hg:((okS a0&&((decide (0≤num a1 0)&&decide (num a1 0<2))&&((decide (0≤num a1 1)&&decide (num a1 1≤14))&&(decide (0≤a2)&&decide (a2≤14))))))=true):ansV PZ (mkΓ [(105,con Zdn)]) 1000 Tryz.f77 [([7],[1])] [.w 0,.g a1 144,.i .i64 (a2)] [.row a0 41]=some (.a (.g (Uav PZ a0 a1 a2.toNat) 144),.none,true):=by
 simp only [Q7,decide_eq_true_eq] at hg
 obtain ⟨hok,hb,hh,h0,h14⟩:=hg
 obtain ⟨m,rfl⟩:=jA h0
 refine (Yai 1000 a1 (m:Int) a0).trans ?_
 have h:=Zcc (g:=Zdo PZ a1 (m:Int) a0) (fun j=>((j:Int),Uav PZ a0 a1 j)) (m:=m) (x:=((m:Int),Uav PZ a0 a1 m)) (N:=1000) (fun j hj=>by
  have h1:decide ((j:Int)<(m:Int))=true:=Q3 (by omega)
  have h3:IntKind.i64.wrap ((j:Int)+1)=((j+1:Nat):Int):=by rw [w64 (by omega)];omega
  have ht:=Yhj (S:=a0) hb hh (show j≤14 by omega)
  have h4:=dec2 (a:=tdS (Uav PZ a0 a1 j)) (b:=2) (by rw [ht];omega) (by rw [ht];omega)
  simp only [Zdo,h1,h3,hok,h4,Bool.and_self,Q1]
  rfl) (by
  have h1:decide ((m:Int)<(m:Int))=false:=Q4 (by omega)
  simp only [Zdo,h1,Q2]) (by omega)
 have h':Uaa (Zdo PZ a1 (m:Int) a0) 1000 ((0:Int),a1)=some ((m:Int),Uav PZ a0 a1 m):=h
 rw [h']
 rfl
def Zk9:Con:=fun args h=>match args,h with
 | [.w 0,.g a1 144,.i .i64 a2],[.row a0 41]=>some (.a (.g (Uav PZ a0 a1 a2.toNat) 144),.none,(okS a0&&((decide (0≤num a1 0)&&decide (num a1 0<2))&&((decide (0≤num a1 1)&&decide (num a1 1≤14))&&(decide (0≤a2)&&decide (a2≤14))))))
 | _,_=>none
theorem Zwm:EntX PZ 77:=Zag (fn:=Tryz.f77) (by kernel_rfl) (by kernel_rfl) (by kernel_rfl)
theorem Ycj:Uab mn PZ 77 Zk9:=(Zaf (N:=1000) (by kernel_rfl) (mkΓ_consX (Zac Yef) Zxd mkΓ_nilX) (fn:=Tryz.f77) (by kernel_rfl) (by kernel_rfl) [([7],[1])]).of (by
 intro ρ h w args vals r e hA hH hr
 unfold Zk9 at hr
 split at hr
 ·rename_i a1 a2 a0
  obtain ⟨rfl,rfl,hg2⟩:=BQi hr
  exact Zxx a1 a2 a0 (hA.wt 1 rfl) (hA.rng 2 rfl) (hH.wt 0 rfl) hg2
 ·cases hr)
def Ub5 (c:Int) (X:Array Value):Nat→Int
 | 0=>0
 | k+1=>bif bitI c k then IntKind.i64.wrap (Ub5 c X k+num X (3+k*1)) else Ub5 c X k
theorem Zyp {X:Array Value} {T:Int} (hM:Mass X T) (hT:T≤9223372036854775807) (c:Int):∀ k,k≤37→0≤Ub5 c X k∧Ub5 c X k≤sumI (fun i=>num X (3+i)) k∧sumI (fun i=>num X (3+i)) k≤T
 | 0,_=>⟨Int.le_refl _,Int.le_refl _,by have:=Znl (f:=fun i=>num X (3+i)) 37 hM.1;rw [hM.2] at this;exact this⟩
 | k+1,hk=>by
  obtain ⟨h1,h2,h3⟩:=Zyp hM hT c k (by omega)
  have hx:=hM.1 k (by omega)
  have hle:sumI (fun i=>num X (3+i)) (k+1)≤T:=by
   rw [← hM.2]
   have key:∀ m,k+1+m≤37→sumI (fun i=>num X (3+i)) (k+1)≤sumI (fun i=>num X (3+i)) (k+1+m):=by
    intro m
    induction m with
    | zero=>intro _;exact Int.le_refl _
    | succ m ih=>
     intro hm
     have a1:=ih (by omega)
     have a2:=hM.1 (k+1+m) (by omega)
     have a3:sumI (fun i=>num X (3+i)) (k+1+(m+1))=sumI (fun i=>num X (3+i)) (k+1+m)+num X (3+(k+1+m)):=rfl
     omega
   have a1:=key (36 - k) (by omega)
   rw [show k+1+(36 - k)=37 by omega] at a1
   exact a1
  have e1:sumI (fun i=>num X (3+i)) (k+1)=sumI (fun i=>num X (3+i)) k+num X (3+k):=rfl
  rw [e1] at hle⊢
  rw [Ub5,show 3+k*1=3+k by omega]
  cases bitI c k with
  | false=>rw [Q2];omega
  | true=>rw [Q1,IntWalk.i64_in _ (by omega)];omega
def Zhb (a1:Int) (a0:Array Value):St:=(⟨.a (.w 0) :: .a (.i .u64 (a1)) :: .a (.u) :: .a (.u) :: .a (.i .i64 (0:Int)) :: .a (.i .i64 (0:Int)) :: .a (.i .i64 (0:Int))::us 19 ([]),[.row a0 144],[]⟩:St)
def Zi4:Int×Int→LS
 | (y0_5,y0_6)=>([.a (.i .i64 (y0_5)),.a (.i .i64 (y0_6))],[])
def Zo5:Int×Int→Exit×LS
 | t=>((.exit 0),Zi4 t)
def Zd6 (P : Program) (a1 : Int) (a0 : Array Value) : Int × Int → Option (Stp (Int × Int) (Int × Int))
 | (y0_5, y0_6) => bif decide (y0_6 < (36 : Int)) then (bif decide (0 ≤ (IntKind.u64.wrap y0_6)) then (bif (((((a1).fdiv (2 ^ (min ((IntKind.u64.wrap y0_6)).toNat IntKind.u64.bits)))).tmod (2 : Int)) == (1 : Int)) then (bif (decide (0 ≤ y0_6) && decide (y0_6 < 36)) then (some (.more ((IntKind.i64.wrap (y0_5 + (num a0 (3 + ((y0_6).toNat * 1))))), (IntKind.i64.wrap (y0_6 + (1 : Int))))))
     else (none))
    else (some (.more (y0_5, (IntKind.i64.wrap (y0_6 + (1 : Int)))))))
   else (none))
  else (some (.done (y0_5, y0_6)))
def Uei:=(Uaf (codeOf Tryz.f78) [([5,6],[])]).1
theorem Yfj (N:Nat) (a1:Int) (a0:Array Value):∀ t:Int×Int,Uag PZ (mkΓ []) N (cAt (codeOf Tryz.f78) [1,1,0,1,0,0]) (pAt Uei [1,1,0,1,0]) [5,6] [] (Zhb a1 a0) (Zi4 t)=mapS Zi4 Zo5 (Zd6 PZ a1 a0 t):=by
 rintro ⟨y0_5,y0_6⟩
 refine Eq.trans (b:=(bif decide (y0_6<(36:Int)) then (bif decide (0≤(IntKind.u64.wrap y0_6)) then (bif (((((a1).fdiv (2^(min ((IntKind.u64.wrap y0_6)).toNat IntKind.u64.bits)))).tmod (2:Int))==(1:Int)) then (bif (decide (0≤y0_6)&&decide (y0_6<36)) then (some (.more ([.a (.i .i64 (IntKind.i64.wrap (y0_5+(num a0 (3+((y0_6).toNat*1)))))),.a (.i .i64 (IntKind.i64.wrap (y0_6+(1:Int))))],[])))
     else (none))
    else (some (.more ([.a (.i .i64 (y0_5)),.a (.i .i64 (IntKind.i64.wrap (y0_6+(1:Int))))],[]))))
   else (none))
  else (some (.done ((.exit 0),([.a (.i .i64 (y0_5)),.a (.i .i64 (y0_6))],[])))))) (by kernel_rfl) ?_
 simp only [Zd6,Zaz,Zay,Za1,Za0,Zi4,Zo5]
def Zjc (P:Program) (N:Nat) (a1:Int) (a0:Array Value) (z0_5:Int) (z0_6:Int):Option (SV×Eff×Bool):=some (.a (.i .i64 (z0_5)),.none,true)
def Ufi (N:Nat) (a0:Array Value):=(Uan 0 (kSeq (veC PZ (mkΓ []) N (cAt (codeOf Tryz.f78) [1,1,1]) (pAt Uei [1,1,1]) (SV×Eff×Bool)) (finK PZ [.row a0 144] [.tmp 4])))
theorem Zwe (N:Nat) (a1:Int) (a0:Array Value) (z0_5:Int) (z0_6:Int):(Ufi N a0) (.exit 0) (left (writes (cAt (codeOf Tryz.f78) [1,1,0,1,0,0])) [5,6] [] (Zhb a1 a0) ([.a (.i .i64 (z0_5)),.a (.i .i64 (z0_6))],[]))=Zjc PZ N a1 a0 z0_5 z0_6:=by
 refine Eq.trans (b:=(some (.a (.i .i64 (z0_5)),.none,true))) (by kernel_rfl) ?_
 rfl
theorem Yfo (N:Nat) (a1:Int) (a0:Array Value):Uah (Uaa (Uag PZ (mkΓ []) N (cAt (codeOf Tryz.f78) [1,1,0,1,0,0]) (pAt Uei [1,1,0,1,0]) [5,6] [] (Zhb a1 a0)) N ([.a (.i .i64 (0:Int)),.a (.i .i64 (0:Int))],[])) (fun e s=>(Ufi N a0) e (left (writes (cAt (codeOf Tryz.f78) [1,1,0,1,0,0])) [5,6] [] (Zhb a1 a0) s))=Uak (Uaa (Zd6 PZ a1 a0) N ((0:Int),(0:Int))) (fun x=>Zjc PZ N a1 a0 x.1 x.2):=by
 refine Zbd Zi4 Zo5 _ _ (Yfj N a1 a0) N ((0:Int),(0:Int)) _ _ ?_
 intro x;exact Zwe N a1 a0 x.1 x.2
theorem Yc7 (N:Nat) (a1:Int) (a0:Array Value):ansV PZ (mkΓ []) N Tryz.f78 [([5,6],[])] [.w 0,.i .u64 (a1)] [.row a0 144]=(Uak (Uaa (Zd6 PZ a1 a0) N ((0:Int),(0:Int))) (fun x=>Zjc PZ N a1 a0 x.1 x.2)):=by
 refine Eq.trans (b:=(Uah (Uaa (Uag PZ (mkΓ []) N (cAt (codeOf Tryz.f78) [1,1,0,1,0,0]) (pAt Uei [1,1,0,1,0]) [5,6] [] (Zhb a1 a0)) N ([.a (.i .i64 (0:Int)),.a (.i .i64 (0:Int))],[])) (fun e s=>(Ufi N a0) e (left (writes (cAt (codeOf Tryz.f78) [1,1,0,1,0,0])) [5,6] [] (Zhb a1 a0) s)))) (by kernel_rfl) ?_
 simp only [Yfo N a1 a0]
theorem Yb4 (a1:Int) (a0:Array Value) (h_a1:IntKind.u64.min≤a1∧a1≤IntKind.u64.max) (h_a0:WT PZ 144 a0) (hg:(true)=true):ansV PZ (mkΓ []) 1000 Tryz.f78 [([5,6],[])] [.w 0,.i .u64 (a1)] [.row a0 144]=some (.a (.i .i64 (Ub5 a1 a0 36)),.none,true):=by
 refine (Yc7 1000 a1 a0).trans ?_
 have hq:∀ q:Int,Uaa (Zd6 PZ a1 a0) 1000 ((0:Int),(0:Int))=some (q,(36:Int))→Uak (Uaa (Zd6 PZ a1 a0) 1000 ((0:Int),(0:Int))) (fun x=>Zjc PZ 1000 a1 a0 x.1 x.2)=some (.a (.i .i64 q),.none,true):=fun q e=>by rw [e];rfl
 refine hq _ ?_
 exact Zcc (g:=Zd6 PZ a1 a0) (fun k=>(Ub5 a1 a0 k,(k:Int))) (m:=36) (x:=(Ub5 a1 a0 36,(36:Int))) (N:=1000) (fun k hk=>by
  have h1:decide ((k:Int)<36)=true:=Q3 (by omega)
  have h0:decide (0≤(k:Int))=true:=Q3 (by omega)
  have h3:IntKind.i64.wrap ((k:Int)+1)=((k+1:Nat):Int):=by rw [w64 (by omega)];omega
  have h6:decide (0≤IntKind.u64.wrap (k:Int))=true:=Q3 (Zjk .u64 _).1
  have hb:((a1.fdiv (2^(min (IntKind.u64.wrap (k:Int)).toNat IntKind.u64.bits))).tmod (2:Int)==(1:Int))=bitI a1 k:=by rw [u64w hk,Q9];exact Ypr h_a1 (by omega)
  simp only [Zd6,h1,h0,h3,h6,Q9,Bool.and_self,Q1]
  rw [hb]
  skip
  have e7:Ub5 a1 a0 (k+1)=bif bitI a1 k then IntKind.i64.wrap (Ub5 a1 a0 k+num a0 (3+k*1)) else Ub5 a1 a0 k:=rfl
  rw [e7]
  cases bitI a1 k<;>simp only [Q1,Q2]) (by
  have h1:decide (((36:Nat):Int)<36)=false:=by decide
  simp only [Zd6,h1,Q2]
  rfl) (by omega)
def Zmz:Con:=fun args h=>match args,h with
 | [.w 0,.i .u64 a1],[.row a0 144]=>some (.a (.i .i64 (Ub5 a1 a0 36)),.none,true)
 | _,_=>none
theorem Ybb:EntX PZ 78:=Zag (fn:=Tryz.f78) (by kernel_rfl) (by kernel_rfl) (by kernel_rfl)
theorem Yfz:Uab mn PZ 78 Zmz:=(Zaf (N:=1000) (by kernel_rfl) mkΓ_nilX (fn:=Tryz.f78) (by kernel_rfl) (by kernel_rfl) [([5,6],[])]).of (by
 intro ρ h w args vals r e hA hH hr
 unfold Zmz at hr
 split at hr
 ·rename_i a1 a0
  obtain ⟨rfl,rfl,hg2⟩:=BQi hr
  exact Yb4 a1 a0 (hA.rng 1 rfl) (hH.wt 0 rfl) hg2
 ·cases hr)
def Zts:Cons:=(mkΓ [(28,con Zll),(77,con Zk9),(78,con Zmz)])
theorem Ybc (N:Nat) (a2 a3 a4:Int) (a0 a1:Array Value) (bQ:Option (Option Addr)) (nQ:Nat) (aQ:Array Value):ansV PZ Zts N Tryz.f48 [] [.w 0,.w 1,.i .i64 (a2),.i .i64 (a3),.i .u64 (a4)] [.row a0 41,.one (.r a1 45 [(2,2)]) 45,.sl (.came bQ) nQ aQ 82]=(bif (decide (0≤a3)&&decide (a3≤14)) then (bif (decide (0≤a2)&&decide (a2<36)) then (bif (okS a0&&((decide (0≤num (((((zc PZ 144).setIfInBounds 0 (.int .i8 (num a1 0))).setIfInBounds 1 (.int .i8 (IntKind.i8.wrap a3))).setIfInBounds 2 (.int .i64 (1:Int))).setIfInBounds (3+((a2).toNat*1)) (.int .i64 (12^a3.toNat))) 0)&&decide (num (((((zc PZ 144).setIfInBounds 0 (.int .i8 (num a1 0))).setIfInBounds 1 (.int .i8 (IntKind.i8.wrap a3))).setIfInBounds 2 (.int .i64 (1:Int))).setIfInBounds (3+((a2).toNat*1)) (.int .i64 (12^a3.toNat))) 0<2))&&((decide (0≤num (((((zc PZ 144).setIfInBounds 0 (.int .i8 (num a1 0))).setIfInBounds 1 (.int .i8 (IntKind.i8.wrap a3))).setIfInBounds 2 (.int .i64 (1:Int))).setIfInBounds (3+((a2).toNat*1)) (.int .i64 (12^a3.toNat))) 1)&&decide (num (((((zc PZ 144).setIfInBounds 0 (.int .i8 (num a1 0))).setIfInBounds 1 (.int .i8 (IntKind.i8.wrap a3))).setIfInBounds 2 (.int .i64 (1:Int))).setIfInBounds (3+((a2).toNat*1)) (.int .i64 (12^a3.toNat))) 1≤14))&&(decide (0≤(IntKind.i64.wrap ((IntKind.i64.wrap (num a1 1)) - a3)))&&decide ((IntKind.i64.wrap ((IntKind.i64.wrap (num a1 1)) - a3))≤14))))) then (some (.a (.i .i64 (Ub5 a4 (Uav PZ a0 (((((zc PZ 144).setIfInBounds 0 (.int .i8 (num a1 0))).setIfInBounds 1 (.int .i8 (IntKind.i8.wrap a3))).setIfInBounds 2 (.int .i64 (1:Int))).setIfInBounds (3+((a2).toNat*1)) (.int .i64 (12^a3.toNat))) (IntKind.i64.wrap ((IntKind.i64.wrap (num a1 1)) - a3)).toNat) 36)),.none,true))
    else (none))
   else (none))
  else (none)):=by kernel_rfl
def Zdq (P:Program) (a2 a3 a4:Int) (a0 a1:Array Value) (bQ:Option (Option Addr)) (nQ:Nat) (aQ:Array Value):Int:=(Ub5 a4 (Uav P a0 (((((zc P 144).setIfInBounds 0 (.int .i8 (num a1 0))).setIfInBounds 1 (.int .i8 (IntKind.i8.wrap a3))).setIfInBounds 2 (.int .i64 (1:Int))).setIfInBounds (3+((a2).toNat*1)) (.int .i64 (12^a3.toNat))) (IntKind.i64.wrap ((IntKind.i64.wrap (num a1 1)) - a3)).toNat) 36)
def Zes (a2 a3 a4:Int) (a0 a1:Array Value) (bQ:Option (Option Addr)) (nQ:Nat) (aQ:Array Value):Bool:=(bif (decide (0≤a3)&&decide (a3≤14)) then (bif (decide (0≤a2)&&decide (a2<36)) then (okS a0&&((decide (0≤num (((((zc PZ 144).setIfInBounds 0 (.int .i8 (num a1 0))).setIfInBounds 1 (.int .i8 (IntKind.i8.wrap a3))).setIfInBounds 2 (.int .i64 (1:Int))).setIfInBounds (3+((a2).toNat*1)) (.int .i64 (12^a3.toNat))) 0)&&decide (num (((((zc PZ 144).setIfInBounds 0 (.int .i8 (num a1 0))).setIfInBounds 1 (.int .i8 (IntKind.i8.wrap a3))).setIfInBounds 2 (.int .i64 (1:Int))).setIfInBounds (3+((a2).toNat*1)) (.int .i64 (12^a3.toNat))) 0<2))&&((decide (0≤num (((((zc PZ 144).setIfInBounds 0 (.int .i8 (num a1 0))).setIfInBounds 1 (.int .i8 (IntKind.i8.wrap a3))).setIfInBounds 2 (.int .i64 (1:Int))).setIfInBounds (3+((a2).toNat*1)) (.int .i64 (12^a3.toNat))) 1)&&decide (num (((((zc PZ 144).setIfInBounds 0 (.int .i8 (num a1 0))).setIfInBounds 1 (.int .i8 (IntKind.i8.wrap a3))).setIfInBounds 2 (.int .i64 (1:Int))).setIfInBounds (3+((a2).toNat*1)) (.int .i64 (12^a3.toNat))) 1≤14))&&(decide (0≤(IntKind.i64.wrap ((IntKind.i64.wrap (num a1 1)) - a3)))&&decide ((IntKind.i64.wrap ((IntKind.i64.wrap (num a1 1)) - a3))≤14))))) else false) else false)
theorem Zx2 (a2 a3 a4:Int) (a0 a1:Array Value) (bQ:Option (Option Addr)) (nQ:Nat) (aQ:Array Value) (h_a2:IntKind.i64.min≤a2∧a2≤IntKind.i64.max) (h_a3:IntKind.i64.min≤a3∧a3≤IntKind.i64.max) (h_a4:IntKind.u64.min≤a4∧a4≤IntKind.u64.max) (h_a0:WT PZ 41 a0) (h_a1:WT PZ 45 a1) (h_a1x2:SlT 82 nQ aQ) (hg:((Zes a2 a3 a4 a0 a1 bQ nQ aQ))=true):ansV PZ Zts 1000 Tryz.f48 [] [.w 0,.w 1,.i .i64 (a2),.i .i64 (a3),.i .u64 (a4)] [.row a0 41,.one (.r a1 45 [(2,2)]) 45,.sl (.came bQ) nQ aQ 82]=some (.a (.i .i64 (Zdq PZ a2 a3 a4 a0 a1 bQ nQ aQ)),.none,true):=by
 refine (Ybc 1000 a2 a3 a4 a0 a1 bQ nQ aQ).trans ?_
 unfold Zes at hg
 unfold Zdq
 revert hg
 generalize (decide (0≤a3))=b2
 intro hg
 cases b2
 ·skip
  first | exact (nomatch (hg:false=true)) | (simp only [Q1,Q2,BQ6];done) | rfl
 ·skip
  revert hg
  generalize (decide (a3≤14))=b4
  intro hg
  cases b4
  ·skip
   first | exact (nomatch (hg:false=true)) | (simp only [Q1,Q2,BQ6];done) | rfl
  ·skip
   revert hg
   generalize (decide (0≤a2))=b6
   intro hg
   cases b6
   ·skip
    first | exact (nomatch (hg:false=true)) | (simp only [Q1,Q2,BQ6];done) | rfl
   ·skip
    revert hg
    generalize (decide (a2<36))=b8
    intro hg
    cases b8
    ·skip
     first | exact (nomatch (hg:false=true)) | (simp only [Q1,Q2,BQ6];done) | rfl
    ·skip
     revert hg
     generalize ((okS a0&&((decide (0≤num (((((zc PZ 144).setIfInBounds 0 (.int .i8 (num a1 0))).setIfInBounds 1 (.int .i8 (IntKind.i8.wrap a3))).setIfInBounds 2 (.int .i64 (1:Int))).setIfInBounds (3+((a2).toNat*1)) (.int .i64 (12^a3.toNat))) 0)&&decide (num (((((zc PZ 144).setIfInBounds 0 (.int .i8 (num a1 0))).setIfInBounds 1 (.int .i8 (IntKind.i8.wrap a3))).setIfInBounds 2 (.int .i64 (1:Int))).setIfInBounds (3+((a2).toNat*1)) (.int .i64 (12^a3.toNat))) 0<2))&&((decide (0≤num (((((zc PZ 144).setIfInBounds 0 (.int .i8 (num a1 0))).setIfInBounds 1 (.int .i8 (IntKind.i8.wrap a3))).setIfInBounds 2 (.int .i64 (1:Int))).setIfInBounds (3+((a2).toNat*1)) (.int .i64 (12^a3.toNat))) 1)&&decide (num (((((zc PZ 144).setIfInBounds 0 (.int .i8 (num a1 0))).setIfInBounds 1 (.int .i8 (IntKind.i8.wrap a3))).setIfInBounds 2 (.int .i64 (1:Int))).setIfInBounds (3+((a2).toNat*1)) (.int .i64 (12^a3.toNat))) 1≤14))&&(decide (0≤(IntKind.i64.wrap ((IntKind.i64.wrap (num a1 1)) - a3)))&&decide ((IntKind.i64.wrap ((IntKind.i64.wrap (num a1 1)) - a3))≤14))))))=b10
     intro hg
     cases b10
     ·skip
      first | exact (nomatch (hg:false=true)) | (simp only [Q1,Q2,BQ6];done) | rfl
     ·skip
      first | (simp only [Q1,Q2,BQ6];done) | rfl | exact (nomatch (hg:false=true))
def Zlg:Con:=fun args h=>match args,h with
 | [.w 0,.w 1,.i .i64 a2,.i .i64 a3,.i .u64 a4],[.row a0 41,.one (.r a1 45 [(2,2)]) 45,.sl (.came bQ) nQ aQ 82]=>some (.a (.i .i64 (Zdq PZ a2 a3 a4 a0 a1 bQ nQ aQ)),.none,(Zes a2 a3 a4 a0 a1 bQ nQ aQ))
 | _,_=>none
theorem Znh:EntX PZ 48:=Zag (fn:=Tryz.f48) (by kernel_rfl) (by kernel_rfl) (by kernel_rfl)
theorem Zq9:Uab mn PZ 48 Zlg:=(Zaf (N:=1000) (by kernel_rfl) (mkΓ_consX (Zac Yck) Zv6 (mkΓ_consX (Zac Ycj) Zwm (mkΓ_consX (Zac Yfz) Ybb mkΓ_nilX))) (fn:=Tryz.f48) (by kernel_rfl) (by kernel_rfl) []).of (by
 intro ρ h w args vals r e hA hH hr
 unfold Zlg at hr
 split at hr
 ·rename_i a2 a3 a4 a0 a1 bQ nQ aQ
  obtain ⟨rfl,rfl,hg2⟩:=BQi hr
  exact Zx2 a2 a3 a4 a0 a1 bQ nQ aQ (hA.rng 2 rfl) (hA.rng 3 rfl) (hA.rng 4 rfl) (hH.wt 0 rfl) (hH.wtr 1 rfl) (hH.slw 2 rfl) hg2
 ·cases hr)
def Ube (P:Program) (k b h T:Int):Array Value:=((((zc P 144).setIfInBounds 0 (.int .i8 b)).setIfInBounds 1 (.int .i8 (IntKind.i8.wrap h))).setIfInBounds 2 (.int .i64 (1:Int))).setIfInBounds (3+(k.toNat*1)) (.int .i64 T)
theorem Zxv {k b h T:Int} (hk:0≤k∧k≤35) (hh:0≤h∧h≤14):num (Ube PZ k b h T) 0=b∧num (Ube PZ k b h T) 1=h∧(Ube PZ k b h T).size=40∧∀ i,i<37→num (Ube PZ k b h T) (3+i)=if k.toNat=i then T else 0:=by
 have hz:(zc PZ 144).size=40:=by kernel_rfl
 unfold Ube
 refine ⟨?_, ?_,by simp [hz],fun i hi=> ?_⟩
 ·rw [Zhr,if_neg (by omega),Zhr,if_neg (by omega),Zhr,if_neg (by omega),Zhr,if_pos (by omega)]
 ·rw [Zhr,if_neg (by omega),Zhr,if_neg (by omega),Zhr,if_pos (by simp [hz]),IntWalk.i8_in _ (by omega)]
 ·rw [Zhr]
  by_cases e:k.toNat=i
  ·rw [if_pos (by simp [hz];omega),if_pos e]
  ·rw [if_neg (by omega),if_neg e,Zhr,if_neg (by omega),Zhr,if_neg (by omega),Zhr,if_neg (by omega),zs_num _ (by omega)]
theorem Ymq {k b h T:Int} (hk:0≤k∧k≤35) (hb:0≤b∧b≤1) (hT:IntKind.i64.min≤T∧T≤IntKind.i64.max):WT PZ 144 (Ube PZ k b h T):=by
 have i8:IntKind.i8.min = -128∧IntKind.i8.max=127:=⟨rfl,rfl⟩
 have i64:IntKind.i64.min = -9223372036854775808∧IntKind.i64.max=9223372036854775807:=⟨rfl,rfl⟩
 have h0:WT PZ 144 ((zc PZ 144).setIfInBounds 0 (.int .i8 b)):=Zsd (k:=.i8) (WT.zero (by kernel_rfl)) Yi9.1 (by omega)
 have h1:=Zsd (k:=.i8) (i:=1) h0 Yi9.2 (Zjk .i8 h)
 have h2:=Zsd (k:=.i64) (i:=2) (n:=1) h1 (Yga (by omega) (by omega)) (by omega)
 exact Zsd (k:=.i64) h2 (Yga (by omega) (by omega)) hT
theorem Ygk {k b h T:Int} (hk:0≤k∧k≤35) (hh:0≤h∧h≤14) (hT:0≤T):Mass (Ube PZ k b h T) T:=by
 obtain ⟨_,_,_,hn⟩:=Zxv (b:=b) (T:=T) hk hh
 have hv:∀ i,i<37→num (Ube PZ k b h T) (3+i)=if k.toNat=0+i then T else 0:=fun i hi=>by rw [hn i hi,Nat.zero_add]
 refine ⟨fun i hi=>by rw [hn i hi];split<;>omega, ?_⟩
 rw [Zpb 37 hv,Zyy T (d:=k.toNat) (o:=0) 37,if_pos (by omega)]
theorem Zv4 {S X:Array Value} (hS:WT PZ 41 S) (hok:okS S=true) (hX:WT PZ 144 X) {b T:Int} {j:Nat} (hb:0≤b∧b≤1) (n0:num X 0=b) (n1:num X 1=(j:Int)) (hT:0≤T) (hM:Mass X T):∀ n,j+n≤14→T*12^n≤10000000000→Mass (Uav PZ S X n) (T*12^n)
 | 0,_,_=>by
  have e:T*12^0=T:=by rw [Int.pow_zero,Int.mul_one]
  rw [e];exact hM
 | n+1,hj,hle=>by
  have hp:0<(12:Int)^n:=Int.pow_pos (by omega)
  have e1:T*12^(n+1)=12*(T*12^n):=by rw [Int.pow_succ,Int.mul_comm (12^n) 12,← Int.mul_assoc,Int.mul_comm T 12,Int.mul_assoc]
  have hnn:0≤T*12^n:=Int.mul_nonneg hT (by omega)
  rw [e1] at hle⊢
  have ih:=Zv4 hS hok hX hb n0 n1 hT hM n (by omega) (by omega)
  have htd:=Yhj (S:=S) (X:=X) (by rw [n0];omega) (by rw [n1];omega) (show n≤14 by omega)
  rw [n0,n1] at htd
  rw [Uav]
  exact (Yoo hS (drift_wt hX n) hok ih (by omega) (t:=((b+(j:Int)+(n:Int)) % 2).toNat) (by omega) (by rw [htd];omega)).1
theorem Zz8 {S L X:Array Value} (hS:WT PZ 41 S) (hok:okS S=true) (hz:∀ k,k<36→inC (num S 0) (num S 1) k=false→num L k=0) {b:Int} {h j:Nat} (hb:0≤b∧b≤1) (n0:num X 0=b) (n1:num X 1=(j:Int)) (hh:h≤14) :
  ∀ i,j+i≤h→cg (dot (Uav PZ S X i) (rowR PZ sumL S L b (h:Int) (h - j - i))) (dot X (rowR PZ sumL S L b (h:Int) (h - j)))
 | 0,_=>cg.refl _
 | i+1,hi'=>by
  have htd:=Yhj (S:=S) (X:=X) (by rw [n0];omega) (by rw [n1];omega) (show i≤14 by omega)
  rw [n0,n1] at htd
  refine cg.trans ?_ (Zz8 hS hok hz hb n0 n1 hh i (by omega))
  have hd:=hour_dot hS (Zt5 hok) (r:=rowR PZ sumL S L b (h:Int) (h - j - (i+1))) (Yo2 hz b (h:Int) _) (X:=Uav PZ S X i) (by rw [htd];omega)
  have er:rowR PZ sumL S L b (h:Int) (h - j - i)=rowF PZ sumL S (rowR PZ sumL S L b (h:Int) (h - j - (i+1))) (tdS (Uav PZ S X i)):=by
   rw [show h - j - i=(h - j - (i+1))+1 by omega,rowR,show (h - j - (i+1))+1=h - j - i by omega]
   congr 1
   rw [htd,w64 (n:=(h:Int) - ((h - j - i:Nat):Int)) (by omega),w64 (n:=b+((h:Int) - ((h - j - i:Nat):Int))) (by omega),Int.tmod_eq_emod_of_nonneg (by omega)]
   omega
  rw [er]
  exact hd
theorem Ymb {Y:Array Value} {T:Int} (hM:Mass Y T) (hT:T≤9223372036854775807) (c:Int):∀ m,m≤36→Ub5 c Y m=sm (fun i=>num Y (3+i)*num (rowC PZ c) i) m
 | 0,_=>rfl
 | m+1,hm=>by
  have ih:=Ymb hM hT c m (by omega)
  have h1:=Zyp hM hT c (m+1) (by omega)
  have h0:=Zyp hM hT c m (by omega)
  have hx:=hM.1 m (by omega)
  have e1:sumI (fun i=>num Y (3+i)) (m+1)=sumI (fun i=>num Y (3+i)) m+num Y (3+m):=rfl
  rw [e1] at h1
  rw [Zk2,(Yc0 c).2 m (by omega),← ih,Ub5,show 3+m*1=3+m by omega]
  cases bitI c m with
  | false=>rw [Q2,if_neg (by simp)];omega
  | true=>rw [Q1,if_pos rfl,IntWalk.i64_in _ (by omega)];omega
theorem Ymu {S:Array Value} {c:Int} (hcs:Zad S c=true):∀ j,j<36→inC (num S 0) (num S 1) j=false→num (rowC PZ c) j=0:=fun j hj hi=>by
 rw [(Yc0 c).2 j hj,if_neg]
 intro hbit
 have:=(Yel (a:=c) (b:=Uaz (num S 0) (num S 1) 36)).1 hcs j (by omega) hbit
 rw [Yip _ _ 36 (by omega),hi,Bool.and_false] at this
 cases this
theorem Yko {k b h T:Int} (hk:0≤k∧k≤35) (hh:0≤h∧h≤14) (r:Array Value):dot (Ube PZ k b h T) r=T*num r k.toNat:=by
 obtain ⟨_,_,_,hn⟩:=Zxv (b:=b) (T:=T) hk hh
 unfold dot
 rw [sm_one 36 (show k.toNat<36 by omega) (fun i hi hne=>by rw [hn i (by omega),if_neg (fun e=>hne e.symm),Int.zero_mul]),hn _ (by omega),if_pos rfl]
theorem Zto {n:Nat} (h:n≤8):0<(12:Int)^n∧(12:Int)^n≤429981696:=by
 have hl:∀ n,n≤8→0<(12:Int)^n∧(12:Int)^n≤429981696:=by decide
 exact hl n h
theorem row_le {S:Array Value} (hS:WT PZ 41 S) (hok:okS S=true) {k b c:Int} (hb:0≤b∧b≤1) (hk:0≤k∧k≤35) (hcs:Zad S c=true) {H n:Nat} (hn:1≤n∧n≤H) (hH:H≤8) :
  0≤num (rowR PZ sumL S (rowC PZ c) b (H:Int) n) k.toNat∧num (rowR PZ sumL S (rowC PZ c) b (H:Int) n) k.toNat≤12^n:=by
 have i64:IntKind.i64.min = -9223372036854775808∧IntKind.i64.max=9223372036854775807:=⟨rfl,rfl⟩
 obtain ⟨n0,n1,_,_⟩:=Zxv (k:=k) (b:=b) (h:=((H - n:Nat):Int)) (T:=1) hk (by omega)
 have hp:=Zto (n:=n) (by omega)
 have hM:=Zv4 hS hok (Ymq (h:=((H - n:Nat):Int)) hk hb (by omega)) (b:=b) (T:=1) (j:=H - n) hb n0 n1 (by omega) (Ygk hk (by omega) (by omega)) n (by omega) (by omega)
 have hf:=Zz8 hS hok (Ymu hcs) (X:=Ube PZ k b ((H - n:Nat):Int) 1) (h:=H) hb n0 n1 (by omega) n (by omega)
 rw [show H - (H - n) - n=0 by omega,show H - (H - n)=n by omega,Yko hk (by omega),Int.one_mul] at hf
 have e0:(rowR PZ sumL S (rowC PZ c) b (H:Int) 0)=rowC PZ c:=rfl
 rw [e0] at hf
 rw [Int.one_mul] at hM
 have hd:=sm_le (f:=fun i=>num (Uav PZ S (Ube PZ k b ((H - n:Nat):Int) 1) n) (3+i)*num (rowC PZ c) i) (g:=fun i=>num (Uav PZ S (Ube PZ k b ((H - n:Nat):Int) 1) n) (3+i)) 36 (fun i hi=>by
  have:=hM.1 i (by omega)
  rw [(Yc0 c).2 i hi]
  split<;>omega)
 have h37:sumI (fun i=>num (Uav PZ S (Ube PZ k b ((H - n:Nat):Int) 1) n) (3+i)) 37=sumI (fun i=>num (Uav PZ S (Ube PZ k b ((H - n:Nat):Int) 1) n) (3+i)) 36+num (Uav PZ S (Ube PZ k b ((H - n:Nat):Int) 1) n) (3+36):=rfl
 have h36:=hM.1 36 (by omega)
 have hs:=hM.2
 have er:num (rowR PZ sumL S (rowC PZ c) b (H:Int) n) k.toNat=dot (Uav PZ S (Ube PZ k b ((H - n:Nat):Int) 1) n) (rowC PZ c):=by
  refine (cg_eq hf ?_ ?_).symm
  ·unfold dot;omega
  ·obtain ⟨m,rfl⟩:∃ m,n=m+1:=⟨n - 1,by omega⟩
   have:=Ylj sumL S (rowR PZ sumL S (rowC PZ c) b (H:Int) m) ((IntKind.i64.wrap (b+IntKind.i64.wrap ((H:Int) - ((m+1:Nat):Int)))).tmod 2) (show k.toNat<36 by omega)
   rw [Nat.mul_one] at this
   rw [rowR,this]
   split
   ·exact sumL_in _ _
   ·omega
 rw [er]
 unfold dot
 omega
def worW (P:Program) (S:Array Value) (b H k h c:Int):Int:=12^h.toNat*num (rowR P sumL S (rowC P c) b H (H - h).toNat) k.toNat
theorem wor_le {S:Array Value} (hS:WT PZ 41 S) (hok:okS S=true) {k b c H h:Int} (hb:0≤b∧b≤1) (hk:0≤k∧k≤35) (hcs:Zad S c=true) (hh:0≤h∧h<H) (hH:H≤8):0≤worW PZ S b H k h c∧worW PZ S b H k h c≤12^H.toNat:=by
 obtain ⟨H',rfl⟩:=jA (show 0≤H by omega)
 obtain ⟨h',rfl⟩:=jA hh.1
 have hr:=row_le hS hok hb hk hcs (H:=H') (n:=H' - h') (by omega) (by omega)
 have e:((H':Int) - (h':Int)).toNat=H' - h':=by omega
 unfold worW
 rw [e,Q9,Q9]
 have hp:=Zto (n:=h') (by omega)
 refine ⟨Int.mul_nonneg (by omega) hr.1, ?_⟩
 rw [show H'=h'+(H' - h') by omega,Int.pow_add]
 rw [show h'+(H' - h')=H' by omega]
 exact Int.mul_le_mul_of_nonneg_left hr.2 (by omega)
theorem worth_eq {S p A:Array Value} {n:Nat} (bb:Option (Option Addr)) (hS:WT PZ 41 S) (hok:okS S=true) {k c h:Int} (hb:0≤num p 0∧num p 0≤1) (hk:0≤k∧k≤35) (hcs:Zad S c=true) (hh:0≤h∧h<num p 1) (hH:num p 1≤8) :
  Zes k h c S p bb n A=true∧Zdq PZ k h c S p bb n A=worW PZ S (num p 0) (num p 1) k h c:=by
 have i64:IntKind.i64.min = -9223372036854775808∧IntKind.i64.max=9223372036854775807:=⟨rfl,rfl⟩
 have hw:=wor_le hS hok hb hk hcs hh hH
 obtain ⟨H',eH⟩:=jA (show 0≤num p 1 by omega)
 obtain ⟨h',rfl⟩:=jA hh.1
 have w1:IntKind.i64.wrap (IntKind.i64.wrap (num p 1) - (h':Int))=num p 1 - (h':Int):=by rw [IntWalk.i64_in (num p 1) (by omega),IntWalk.i64_in _ (by omega)]
 obtain ⟨n0,n1,_,_⟩:=Zxv (k:=k) (b:=num p 0) (h:=(h':Int)) (T:=12^h') hk (by omega)
 have eX:((((zc PZ 144).setIfInBounds 0 (.int .i8 (num p 0))).setIfInBounds 1 (.int .i8 (IntKind.i8.wrap (h':Int)))).setIfInBounds 2 (.int .i64 (1:Int))).setIfInBounds (3+(k.toNat*1)) (.int .i64 (12^(h':Int).toNat))=Ube PZ k (num p 0) (h':Int) (12^h'):=by
  rw [Q9];rfl
 constructor
 ·unfold Zes
  rw [eX,n0,n1,w1,hok,dec2 hb.1 (show num p 0<2 by omega),dec2 hk.1 (show k<36 by omega),Q3 (show 0≤(h':Int) by omega),Q3 (show (h':Int)≤14 by omega),Q3 (show 0≤num p 1 - (h':Int) by omega),Q3 (show num p 1 - (h':Int)≤14 by omega)]
  rfl
 ·have e0:Zdq PZ k (h':Int) c S p bb n A=Ub5 c (Uav PZ S (Ube PZ k (num p 0) (h':Int) (12^h')) (num p 1 - (h':Int)).toNat) 36:=by
   unfold Zdq
   rw [eX,w1]
  rw [e0]
  have hp:=Zto (n:=h') (by omega)
  have hpH:=Zto (n:=H') (by omega)
  have e1:(num p 1 - (h':Int)).toNat=H' - h':=by omega
  have e2:(12:Int)^h'*12^(H' - h')=12^H':=by rw [← Int.pow_add];congr 1;omega
  have hM:=Zv4 hS hok (Ymq (h:=(h':Int)) hk hb (by omega)) (b:=num p 0) (T:=12^h') (j:=h') hb n0 n1 (by omega) (Ygk hk (by omega) (by omega)) (H' - h') (by omega) (by omega)
  rw [e2] at hM
  have hf:=Zz8 hS hok (Ymu hcs) (X:=Ube PZ k (num p 0) (h':Int) (12^h')) (h:=H') hb n0 n1 (by omega) (H' - h') (by omega)
  rw [show H' - h' - (H' - h')=0 by omega,Yko hk (by omega)] at hf
  have e3:rowR PZ sumL S (rowC PZ c) (num p 0) (H':Int) 0=rowC PZ c:=rfl
  rw [e3] at hf
  have hmd:=Ymb hM (by omega) c 36 (Nat.le_refl _)
  have hmm:=Zyp hM (by omega) c 36 (by omega)
  have eW:worW PZ S (num p 0) (num p 1) k (h':Int) c=12^h'*num (rowR PZ sumL S (rowC PZ c) (num p 0) (H':Int) (H' - h')) k.toNat:=by
   unfold worW
   rw [e1,Q9,eH]
  rw [eH,Q9] at hw
  rw [← eH,eW] at hw
  rw [eW,e1,hmd]
  rw [hmd] at hmm
  exact cg_eq hf (by omega) (by omega)
end
end Go.Proofs.YtohnggmlmglhmaaGreatDoor
