/- What a release is worth, forward and backward. -/
import Derived.Test.YtohnggmlmglhmaaGreatDoorProg
import Derived.Test.YtohnggmlmglhmaaGreatDoorCnA
namespace Go.Proofs.YtohnggmlmglhmaaGreatDoor
open Go.ChangeShapes Go.WideShapes Go.ChangeAt Go.RowKit Ve Vc
open Tryz renaming prog → PZ
set_option linter.unusedVariables false
set_option linter.unusedSimpArgs false
set_option maxRecDepth 100000
noncomputable section
variable {mn:Md}
def Zfa (a1:Array Value) (a2:Int) (a0:Array Value):St:=(⟨.a (.w 0) :: .a (.g a1 144) :: .a (.i .i64 (a2)) :: .a (.u) :: .a (.w 1) :: .a (.u) :: .a (.w 2) :: .a (.i .i64 (0:Int))::us 8 ([]),[.row a0 41,.row a1 144,.row (zc PZ 144) 144],[]⟩:St)
def Zgq:Int×Array Value→LS
 | (y0_7,r0_1)=>([.a (.i .i64 (y0_7))],[.row r0_1 144])
def Zli:Int×Array Value→Exit×LS
 | t=>((.exit 0),Zgq t)
def Zdj (P:Program) (a1:Array Value) (a2:Int) (a0:Array Value):Int×Array Value→Option (Stp (Int×Array Value) (Int×Array Value))
 | (y0_7,r0_1)=>bif decide (y0_7<a2) then (bif (okS a0&&(decide (0≤tdS r0_1)&&decide (tdS r0_1<2))) then (some (.more ((IntKind.i64.wrap (y0_7+(1:Int))),(Ub1 PZ a0 r0_1))))
   else (none))
  else (some (.done (y0_7,r0_1)))
theorem Ybv (N:Nat) (a1:Array Value) (a2:Int) (a0:Array Value):∀ t:Int×Array Value,Uai PZ (mkΓ [(105,con Zcb)]) N (cAt (codeOf Tryz.f77) [1,0,1,0,0]) (pAt (Uaa (codeOf Tryz.f77) [([7],[1])]).1 [1,0,1,0]) [7] [1] (Zfa a1 a2 a0) (Zgq t)=mapS Zgq Zli (Zdj PZ a1 a2 a0 t):=by
 rintro ⟨y0_7,r0_1⟩
 refine Eq.trans (b:=(bif decide (y0_7<a2) then (bif (okS a0&&(decide (0≤tdS r0_1)&&decide (tdS r0_1<2))) then (some (.more ([.a (.i .i64 (IntKind.i64.wrap (y0_7+(1:Int))))],[.row (Ub1 PZ a0 r0_1) 144])))
   else (none))
  else (some (.done ((.exit 0),([.a (.i .i64 (y0_7))],[.row r0_1 144])))))) (by kernel_rfl) ?_
 simp only [Zdj,Za3,Za4,Za5,Za2,Zgq,Zli]
def Zjv (P:Program) (N:Nat) (a1:Array Value) (a2:Int) (a0:Array Value) (z0_7:Int) (q0_1:Array Value):Option (SV×Eff×Bool):=some (.a (.g q0_1 144),.none,true)
theorem Zr3 (N:Nat) (a1:Array Value) (a2:Int) (a0:Array Value) (z0_7:Int) (q0_1:Array Value):(Uab 0 (kSeq (veC PZ (mkΓ [(105,con Zcb)]) N (cAt (codeOf Tryz.f77) [1,1]) (pAt (Uaa (codeOf Tryz.f77) [([7],[1])]).1 [1,1]) (SV×Eff×Bool)) (finK PZ [.row a0 41] [.cell 6 144]))) (.exit 0) (left (writes (cAt (codeOf Tryz.f77) [1,0,1,0,0])) [7] [1] (Zfa a1 a2 a0) ([.a (.i .i64 (z0_7))],[.row q0_1 144]))=Zjv PZ N a1 a2 a0 z0_7 q0_1:=by
 refine Eq.trans (b:=(some (.a (.g q0_1 144),.none,true))) (by kernel_rfl) ?_
 rfl
theorem Ya3 (N:Nat) (a1:Array Value) (a2:Int) (a0:Array Value):Uag (Uac (Uai PZ (mkΓ [(105,con Zcb)]) N (cAt (codeOf Tryz.f77) [1,0,1,0,0]) (pAt (Uaa (codeOf Tryz.f77) [([7],[1])]).1 [1,0,1,0]) [7] [1] (Zfa a1 a2 a0)) N ([.a (.i .i64 (0:Int))],[.row a1 144])) (fun e s=>(Uab 0 (kSeq (veC PZ (mkΓ [(105,con Zcb)]) N (cAt (codeOf Tryz.f77) [1,1]) (pAt (Uaa (codeOf Tryz.f77) [([7],[1])]).1 [1,1]) (SV×Eff×Bool)) (finK PZ [.row a0 41] [.cell 6 144]))) e (left (writes (cAt (codeOf Tryz.f77) [1,0,1,0,0])) [7] [1] (Zfa a1 a2 a0) s))=Ual (Uac (Zdj PZ a1 a2 a0) N ((0:Int),a1)) (fun x=>Zjv PZ N a1 a2 a0 x.1 x.2):=by
 refine Zbg Zgq Zli _ _ (Ybv N a1 a2 a0) N ((0:Int),a1) _ _ ?_
 intro x;exact Zr3 N a1 a2 a0 x.1 x.2
theorem Zzn (N:Nat) (a1:Array Value) (a2:Int) (a0:Array Value):ansV PZ (mkΓ [(105,con Zcb)]) N Tryz.f77 [([7],[1])] [.w 0,.g a1 144,.i .i64 (a2)] [.row a0 41]=(Ual (Uac (Zdj PZ a1 a2 a0) N ((0:Int),a1)) (fun x=>Zjv PZ N a1 a2 a0 x.1 x.2)):=by
 refine Eq.trans (b:=(Uag (Uac (Uai PZ (mkΓ [(105,con Zcb)]) N (cAt (codeOf Tryz.f77) [1,0,1,0,0]) (pAt (Uaa (codeOf Tryz.f77) [([7],[1])]).1 [1,0,1,0]) [7] [1] (Zfa a1 a2 a0)) N ([.a (.i .i64 (0:Int))],[.row a1 144])) (fun e s=>(Uab 0 (kSeq (veC PZ (mkΓ [(105,con Zcb)]) N (cAt (codeOf Tryz.f77) [1,1]) (pAt (Uaa (codeOf Tryz.f77) [([7],[1])]).1 [1,1]) (SV×Eff×Bool)) (finK PZ [.row a0 41] [.cell 6 144]))) e (left (writes (cAt (codeOf Tryz.f77) [1,0,1,0,0])) [7] [1] (Zfa a1 a2 a0) s)))) (by kernel_rfl) ?_
 simp only [Ya3 N a1 a2 a0]
theorem Zwf (a1:Array Value) (a2:Int) (a0:Array Value) (h_a1:WT PZ 144 a1) (h_a2:IntKind.i64.min≤a2∧a2≤IntKind.i64.max) (h_a0:WT PZ 41 a0) (hg:((okS a0&&((decide (0≤num a1 0)&&decide (num a1 0<2))&&((decide (0≤num a1 1)&&decide (num a1 1≤14))&&(decide (0≤a2)&&decide (a2≤14))))))=true):ansV PZ (mkΓ [(105,con Zcb)]) 1000 Tryz.f77 [([7],[1])] [.w 0,.g a1 144,.i .i64 (a2)] [.row a0 41]=some (.a (.g (Uav PZ a0 a1 a2.toNat) 144),.none,true):=by
 simp only [Q7,decide_eq_true_eq] at hg
 obtain ⟨hok,hb,hh,h0,h14⟩:=hg
 obtain ⟨m,rfl⟩:=Int.eq_ofNat_of_zero_le h0
 refine (Zzn 1000 a1 (m:Int) a0).trans ?_
 have h:=Zdr (g:=Zdj PZ a1 (m:Int) a0) (fun j=>((j:Int),Uav PZ a0 a1 j)) (m:=m) (x:=((m:Int),Uav PZ a0 a1 m)) (N:=1000) (fun j hj=>by
  have h1:decide ((j:Int)<(m:Int))=true:=Q3 (by omega)
  have h3:IntKind.i64.wrap ((j:Int)+1)=((j+1:Nat):Int):=by rw [w64 (by omega)];omega
  have ht:=Yht (S:=a0) hb hh (show j≤14 by omega)
  have h4:=dec2 (a:=tdS (Uav PZ a0 a1 j)) (b:=2) (by rw [ht];omega) (by rw [ht];omega)
  simp only [Zdj,h1,h3,hok,h4,Bool.and_self,Q1]
  rfl) (by
  have h1:decide ((m:Int)<(m:Int))=false:=Q4 (by omega)
  simp only [Zdj,h1,Q2]) (by omega)
 have h':Uac (Zdj PZ a1 (m:Int) a0) 1000 ((0:Int),a1)=some ((m:Int),Uav PZ a0 a1 m):=h
 rw [h']
 rfl
def Zkl:Con:=fun args h=>match args,h with
 | [.w 0,.g a1 144,.i .i64 a2],[.row a0 41]=>some (.a (.g (Uav PZ a0 a1 a2.toNat) 144),.none,(okS a0&&((decide (0≤num a1 0)&&decide (num a1 0<2))&&((decide (0≤num a1 1)&&decide (num a1 1≤14))&&(decide (0≤a2)&&decide (a2≤14))))))
 | _,_=>none
theorem Zvm:EntX PZ 77:=Zag (fn:=Tryz.f77) (by kernel_rfl) (by kernel_rfl) (by kernel_rfl)
theorem Yan:Uad mn PZ 77 Zkl:=(Zai (N:=1000) (by kernel_rfl) (mkΓ_consX (Zad Ycp) Zw1 mkΓ_nilX) (fn:=Tryz.f77) (by kernel_rfl) (by kernel_rfl) [([7],[1])]).of (by
 intro ρ h w args vals r e hA hH hr
 unfold Zkl at hr
 split at hr
 ·rename_i a1 a2 a0
  obtain ⟨rfl,rfl,hg2⟩:=BQi hr
  exact Zwf a1 a2 a0 (hA.wt 1 rfl) (hA.rng 2 rfl) (hH.wt 0 rfl) hg2
 ·cases hr)
def Uby (c:Int) (X:Array Value):Nat→Int
 | 0=>0
 | k+1=>bif bitI c k then IntKind.i64.wrap (Uby c X k+num X (3+k*1)) else Uby c X k
theorem Zyf {X:Array Value} {T:Int} (hM:Mass X T) (hT:T≤9223372036854775807) (c:Int):∀ k,k≤37→0≤Uby c X k∧Uby c X k≤sumI (fun i=>num X (3+i)) k∧sumI (fun i=>num X (3+i)) k≤T
 | 0,_=>⟨Int.le_refl _,Int.le_refl _,by have:=Zl8 (f:=fun i=>num X (3+i)) 37 hM.1;rw [hM.2] at this;exact this⟩
 | k+1,hk=>by
  obtain ⟨h1,h2,h3⟩:=Zyf hM hT c k (by omega)
  have hx:=hM.1 k (by omega)
  have hle:sumI (fun i=>num X (3+i)) (k+1)≤T:=by
   rw [← hM.2]
   have key:∀ m,k+1+m≤37→sumI (fun i=>num X (3+i)) (k+1)≤sumI (fun i=>num X (3+i)) (k+1+m):=by
    intro m
    induction m with
    | zero=>intro _;exact Int.le_refl _
    | succ m ih=>
     intro hm
     have a1:=ih (by omega)
     have a2:=hM.1 (k+1+m) (by omega)
     have a3:sumI (fun i=>num X (3+i)) (k+1+(m+1))=sumI (fun i=>num X (3+i)) (k+1+m)+num X (3+(k+1+m)):=rfl
     omega
   have a1:=key (36 - k) (by omega)
   rw [show k+1+(36 - k)=37 by omega] at a1
   exact a1
  have e1:sumI (fun i=>num X (3+i)) (k+1)=sumI (fun i=>num X (3+i)) k+num X (3+k):=rfl
  rw [e1] at hle⊢
  rw [Uby,show 3+k*1=3+k by omega]
  cases bitI c k with
  | false=>rw [Q2];omega
  | true=>rw [Q1,IntWalk.i64_in _ (by omega)];omega
def Zgv (a1:Int) (a0:Array Value):St:=(⟨.a (.w 0) :: .a (.i .u64 (a1)) :: .a (.u) :: .a (.u) :: .a (.i .i64 (0:Int)) :: .a (.i .i64 (0:Int)) :: .a (.i .i64 (0:Int))::us 19 ([]),[.row a0 144],[]⟩:St)
def Zij:Int×Int→LS
 | (y0_5,y0_6)=>([.a (.i .i64 (y0_5)),.a (.i .i64 (y0_6))],[])
def Zn2:Int×Int→Exit×LS
 | t=>((.exit 0),Zij t)
def Zd0 (P : Program) (a1 : Int) (a0 : Array Value) : Int × Int → Option (Stp (Int × Int) (Int × Int))
 | (y0_5, y0_6) => bif decide (y0_6 < (36 : Int)) then (bif decide (0 ≤ (IntKind.u64.wrap y0_6)) then (bif (((((a1).fdiv (2 ^ (min ((IntKind.u64.wrap y0_6)).toNat IntKind.u64.bits)))).tmod (2 : Int)) == (1 : Int)) then (bif (decide (0 ≤ y0_6) && decide (y0_6 < 36)) then (some (.more ((IntKind.i64.wrap (y0_5 + (num a0 (3 + ((y0_6).toNat * 1))))), (IntKind.i64.wrap (y0_6 + (1 : Int))))))
     else (none))
    else (some (.more (y0_5, (IntKind.i64.wrap (y0_6 + (1 : Int)))))))
   else (none))
  else (some (.done (y0_5, y0_6)))
theorem Yem (N:Nat) (a1:Int) (a0:Array Value):∀ t:Int×Int,Uai PZ (mkΓ []) N (cAt (codeOf Tryz.f78) [1,1,0,1,0,0]) (pAt (Uaa (codeOf Tryz.f78) [([5,6],[])]).1 [1,1,0,1,0]) [5,6] [] (Zgv a1 a0) (Zij t)=mapS Zij Zn2 (Zd0 PZ a1 a0 t):=by
 rintro ⟨y0_5,y0_6⟩
 refine Eq.trans (b:=(bif decide (y0_6<(36:Int)) then (bif decide (0≤(IntKind.u64.wrap y0_6)) then (bif (((((a1).fdiv (2^(min ((IntKind.u64.wrap y0_6)).toNat IntKind.u64.bits)))).tmod (2:Int))==(1:Int)) then (bif (decide (0≤y0_6)&&decide (y0_6<36)) then (some (.more ([.a (.i .i64 (IntKind.i64.wrap (y0_5+(num a0 (3+((y0_6).toNat*1)))))),.a (.i .i64 (IntKind.i64.wrap (y0_6+(1:Int))))],[])))
     else (none))
    else (some (.more ([.a (.i .i64 (y0_5)),.a (.i .i64 (IntKind.i64.wrap (y0_6+(1:Int))))],[]))))
   else (none))
  else (some (.done ((.exit 0),([.a (.i .i64 (y0_5)),.a (.i .i64 (y0_6))],[])))))) (by kernel_rfl) ?_
 simp only [Zd0,Za3,Za4,Za5,Za2,Zij,Zn2]
def Zix (P:Program) (N:Nat) (a1:Int) (a0:Array Value) (z0_5:Int) (z0_6:Int):Option (SV×Eff×Bool):=some (.a (.i .i64 (z0_5)),.none,true)
theorem Zup (N:Nat) (a1:Int) (a0:Array Value) (z0_5:Int) (z0_6:Int):(Uab 0 (kSeq (veC PZ (mkΓ []) N (cAt (codeOf Tryz.f78) [1,1,1]) (pAt (Uaa (codeOf Tryz.f78) [([5,6],[])]).1 [1,1,1]) (SV×Eff×Bool)) (finK PZ [.row a0 144] [.tmp 4]))) (.exit 0) (left (writes (cAt (codeOf Tryz.f78) [1,1,0,1,0,0])) [5,6] [] (Zgv a1 a0) ([.a (.i .i64 (z0_5)),.a (.i .i64 (z0_6))],[]))=Zix PZ N a1 a0 z0_5 z0_6:=by
 refine Eq.trans (b:=(some (.a (.i .i64 (z0_5)),.none,true))) (by kernel_rfl) ?_
 rfl
theorem Yei (N:Nat) (a1:Int) (a0:Array Value):Uag (Uac (Uai PZ (mkΓ []) N (cAt (codeOf Tryz.f78) [1,1,0,1,0,0]) (pAt (Uaa (codeOf Tryz.f78) [([5,6],[])]).1 [1,1,0,1,0]) [5,6] [] (Zgv a1 a0)) N ([.a (.i .i64 (0:Int)),.a (.i .i64 (0:Int))],[])) (fun e s=>(Uab 0 (kSeq (veC PZ (mkΓ []) N (cAt (codeOf Tryz.f78) [1,1,1]) (pAt (Uaa (codeOf Tryz.f78) [([5,6],[])]).1 [1,1,1]) (SV×Eff×Bool)) (finK PZ [.row a0 144] [.tmp 4]))) e (left (writes (cAt (codeOf Tryz.f78) [1,1,0,1,0,0])) [5,6] [] (Zgv a1 a0) s))=Ual (Uac (Zd0 PZ a1 a0) N ((0:Int),(0:Int))) (fun x=>Zix PZ N a1 a0 x.1 x.2):=by
 refine Zbg Zij Zn2 _ _ (Yem N a1 a0) N ((0:Int),(0:Int)) _ _ ?_
 intro x;exact Zup N a1 a0 x.1 x.2
theorem Ydj (N:Nat) (a1:Int) (a0:Array Value):ansV PZ (mkΓ []) N Tryz.f78 [([5,6],[])] [.w 0,.i .u64 (a1)] [.row a0 144]=(Ual (Uac (Zd0 PZ a1 a0) N ((0:Int),(0:Int))) (fun x=>Zix PZ N a1 a0 x.1 x.2)):=by
 refine Eq.trans (b:=(Uag (Uac (Uai PZ (mkΓ []) N (cAt (codeOf Tryz.f78) [1,1,0,1,0,0]) (pAt (Uaa (codeOf Tryz.f78) [([5,6],[])]).1 [1,1,0,1,0]) [5,6] [] (Zgv a1 a0)) N ([.a (.i .i64 (0:Int)),.a (.i .i64 (0:Int))],[])) (fun e s=>(Uab 0 (kSeq (veC PZ (mkΓ []) N (cAt (codeOf Tryz.f78) [1,1,1]) (pAt (Uaa (codeOf Tryz.f78) [([5,6],[])]).1 [1,1,1]) (SV×Eff×Bool)) (finK PZ [.row a0 144] [.tmp 4]))) e (left (writes (cAt (codeOf Tryz.f78) [1,1,0,1,0,0])) [5,6] [] (Zgv a1 a0) s)))) (by kernel_rfl) ?_
 simp only [Yei N a1 a0]
theorem Ybw (a1:Int) (a0:Array Value) (h_a1:IntKind.u64.min≤a1∧a1≤IntKind.u64.max) (h_a0:WT PZ 144 a0) (hg:(true)=true):ansV PZ (mkΓ []) 1000 Tryz.f78 [([5,6],[])] [.w 0,.i .u64 (a1)] [.row a0 144]=some (.a (.i .i64 (Uby a1 a0 36)),.none,true):=by
 refine (Ydj 1000 a1 a0).trans ?_
 have hq:∀ q:Int,Uac (Zd0 PZ a1 a0) 1000 ((0:Int),(0:Int))=some (q,(36:Int))→Ual (Uac (Zd0 PZ a1 a0) 1000 ((0:Int),(0:Int))) (fun x=>Zix PZ 1000 a1 a0 x.1 x.2)=some (.a (.i .i64 q),.none,true):=fun q e=>by rw [e];rfl
 refine hq _ ?_
 exact Zdr (g:=Zd0 PZ a1 a0) (fun k=>(Uby a1 a0 k,(k:Int))) (m:=36) (x:=(Uby a1 a0 36,(36:Int))) (N:=1000) (fun k hk=>by
  have h1:decide ((k:Int)<36)=true:=Q3 (by omega)
  have h0:decide (0≤(k:Int))=true:=Q3 (by omega)
  have h3:IntKind.i64.wrap ((k:Int)+1)=((k+1:Nat):Int):=by rw [w64 (by omega)];omega
  have h6:decide (0≤IntKind.u64.wrap (k:Int))=true:=Q3 (Zh7 .u64 _).1
  have hb:((a1.fdiv (2^(min (IntKind.u64.wrap (k:Int)).toNat IntKind.u64.bits))).tmod (2:Int)==(1:Int))=bitI a1 k:=by rw [u64w hk,Q9];exact Ypj h_a1 (by omega)
  simp only [Zd0,h1,h0,h3,h6,Q9,Bool.and_self,Q1]
  rw [hb]
  skip
  have e7:Uby a1 a0 (k+1)=bif bitI a1 k then IntKind.i64.wrap (Uby a1 a0 k+num a0 (3+k*1)) else Uby a1 a0 k:=rfl
  rw [e7]
  cases bitI a1 k<;>simp only [Q1,Q2]) (by
  have h1:decide (((36:Nat):Int)<36)=false:=by decide
  simp only [Zd0,h1,Q2]
  rfl) (by omega)
def Zml:Con:=fun args h=>match args,h with
 | [.w 0,.i .u64 a1],[.row a0 144]=>some (.a (.i .i64 (Uby a1 a0 36)),.none,true)
 | _,_=>none
theorem Zy9:EntX PZ 78:=Zag (fn:=Tryz.f78) (by kernel_rfl) (by kernel_rfl) (by kernel_rfl)
theorem Yel:Uad mn PZ 78 Zml:=(Zai (N:=1000) (by kernel_rfl) mkΓ_nilX (fn:=Tryz.f78) (by kernel_rfl) (by kernel_rfl) [([5,6],[])]).of (by
 intro ρ h w args vals r e hA hH hr
 unfold Zml at hr
 split at hr
 ·rename_i a1 a0
  obtain ⟨rfl,rfl,hg2⟩:=BQi hr
  exact Ybw a1 a0 (hA.rng 1 rfl) (hH.wt 0 rfl) hg2
 ·cases hr)
def Zr9:Cons:=(mkΓ [(28,con Zh2),(77,con Zkl),(78,con Zml)])
theorem Zyu (N:Nat) (a2 a3 a4:Int) (a0 a1:Array Value) (bQ:Option (Option Addr)) (nQ:Nat) (aQ:Array Value):ansV PZ Zr9 N Tryz.f48 [] [.w 0,.w 1,.i .i64 (a2),.i .i64 (a3),.i .u64 (a4)] [.row a0 41,.one (.r a1 45 [(2,2)]) 45,.sl (.came bQ) nQ aQ 82]=(bif (decide (0≤a3)&&decide (a3≤14)) then (bif (decide (0≤a2)&&decide (a2<36)) then (bif (okS a0&&((decide (0≤num (((((zc PZ 144).setIfInBounds 0 (.int .i8 (num a1 0))).setIfInBounds 1 (.int .i8 (IntKind.i8.wrap a3))).setIfInBounds 2 (.int .i64 (1:Int))).setIfInBounds (3+((a2).toNat*1)) (.int .i64 (12^a3.toNat))) 0)&&decide (num (((((zc PZ 144).setIfInBounds 0 (.int .i8 (num a1 0))).setIfInBounds 1 (.int .i8 (IntKind.i8.wrap a3))).setIfInBounds 2 (.int .i64 (1:Int))).setIfInBounds (3+((a2).toNat*1)) (.int .i64 (12^a3.toNat))) 0<2))&&((decide (0≤num (((((zc PZ 144).setIfInBounds 0 (.int .i8 (num a1 0))).setIfInBounds 1 (.int .i8 (IntKind.i8.wrap a3))).setIfInBounds 2 (.int .i64 (1:Int))).setIfInBounds (3+((a2).toNat*1)) (.int .i64 (12^a3.toNat))) 1)&&decide (num (((((zc PZ 144).setIfInBounds 0 (.int .i8 (num a1 0))).setIfInBounds 1 (.int .i8 (IntKind.i8.wrap a3))).setIfInBounds 2 (.int .i64 (1:Int))).setIfInBounds (3+((a2).toNat*1)) (.int .i64 (12^a3.toNat))) 1≤14))&&(decide (0≤(IntKind.i64.wrap ((IntKind.i64.wrap (num a1 1)) - a3)))&&decide ((IntKind.i64.wrap ((IntKind.i64.wrap (num a1 1)) - a3))≤14))))) then (some (.a (.i .i64 (Uby a4 (Uav PZ a0 (((((zc PZ 144).setIfInBounds 0 (.int .i8 (num a1 0))).setIfInBounds 1 (.int .i8 (IntKind.i8.wrap a3))).setIfInBounds 2 (.int .i64 (1:Int))).setIfInBounds (3+((a2).toNat*1)) (.int .i64 (12^a3.toNat))) (IntKind.i64.wrap ((IntKind.i64.wrap (num a1 1)) - a3)).toNat) 36)),.none,true))
    else (none))
   else (none))
  else (none)):=by kernel_rfl
def Zca (P:Program) (a2 a3 a4:Int) (a0 a1:Array Value) (bQ:Option (Option Addr)) (nQ:Nat) (aQ:Array Value):Int:=(Uby a4 (Uav P a0 (((((zc P 144).setIfInBounds 0 (.int .i8 (num a1 0))).setIfInBounds 1 (.int .i8 (IntKind.i8.wrap a3))).setIfInBounds 2 (.int .i64 (1:Int))).setIfInBounds (3+((a2).toNat*1)) (.int .i64 (12^a3.toNat))) (IntKind.i64.wrap ((IntKind.i64.wrap (num a1 1)) - a3)).toNat) 36)
def Zel (a2 a3 a4:Int) (a0 a1:Array Value) (bQ:Option (Option Addr)) (nQ:Nat) (aQ:Array Value):Bool:=(bif (decide (0≤a3)&&decide (a3≤14)) then (bif (decide (0≤a2)&&decide (a2<36)) then (okS a0&&((decide (0≤num (((((zc PZ 144).setIfInBounds 0 (.int .i8 (num a1 0))).setIfInBounds 1 (.int .i8 (IntKind.i8.wrap a3))).setIfInBounds 2 (.int .i64 (1:Int))).setIfInBounds (3+((a2).toNat*1)) (.int .i64 (12^a3.toNat))) 0)&&decide (num (((((zc PZ 144).setIfInBounds 0 (.int .i8 (num a1 0))).setIfInBounds 1 (.int .i8 (IntKind.i8.wrap a3))).setIfInBounds 2 (.int .i64 (1:Int))).setIfInBounds (3+((a2).toNat*1)) (.int .i64 (12^a3.toNat))) 0<2))&&((decide (0≤num (((((zc PZ 144).setIfInBounds 0 (.int .i8 (num a1 0))).setIfInBounds 1 (.int .i8 (IntKind.i8.wrap a3))).setIfInBounds 2 (.int .i64 (1:Int))).setIfInBounds (3+((a2).toNat*1)) (.int .i64 (12^a3.toNat))) 1)&&decide (num (((((zc PZ 144).setIfInBounds 0 (.int .i8 (num a1 0))).setIfInBounds 1 (.int .i8 (IntKind.i8.wrap a3))).setIfInBounds 2 (.int .i64 (1:Int))).setIfInBounds (3+((a2).toNat*1)) (.int .i64 (12^a3.toNat))) 1≤14))&&(decide (0≤(IntKind.i64.wrap ((IntKind.i64.wrap (num a1 1)) - a3)))&&decide ((IntKind.i64.wrap ((IntKind.i64.wrap (num a1 1)) - a3))≤14))))) else false) else false)
theorem Zw9 (a2 a3 a4:Int) (a0 a1:Array Value) (bQ:Option (Option Addr)) (nQ:Nat) (aQ:Array Value) (h_a2:IntKind.i64.min≤a2∧a2≤IntKind.i64.max) (h_a3:IntKind.i64.min≤a3∧a3≤IntKind.i64.max) (h_a4:IntKind.u64.min≤a4∧a4≤IntKind.u64.max) (h_a0:WT PZ 41 a0) (h_a1:WT PZ 45 a1) (h_a1x2:aQ.size=nQ*(lay PZ 82).length∧(∀ k,k<nQ→WT PZ 82 (aQ.extract (k*(lay PZ 82).length) (k*(lay PZ 82).length+(lay PZ 82).length)))∧nQ≤9223372036854775807) (hg:((Zel a2 a3 a4 a0 a1 bQ nQ aQ))=true):ansV PZ Zr9 1000 Tryz.f48 [] [.w 0,.w 1,.i .i64 (a2),.i .i64 (a3),.i .u64 (a4)] [.row a0 41,.one (.r a1 45 [(2,2)]) 45,.sl (.came bQ) nQ aQ 82]=some (.a (.i .i64 (Zca PZ a2 a3 a4 a0 a1 bQ nQ aQ)),.none,true):=by
 refine (Zyu 1000 a2 a3 a4 a0 a1 bQ nQ aQ).trans ?_
 unfold Zel at hg
 unfold Zca
 revert hg
 generalize (decide (0≤a3))=b2
 intro hg
 cases b2
 ·skip
  first | exact (nomatch (hg:false=true)) | (simp only [Q1,Q2,BQ6];done) | rfl
 ·skip
  revert hg
  generalize (decide (a3≤14))=b4
  intro hg
  cases b4
  ·skip
   first | exact (nomatch (hg:false=true)) | (simp only [Q1,Q2,BQ6];done) | rfl
  ·skip
   revert hg
   generalize (decide (0≤a2))=b6
   intro hg
   cases b6
   ·skip
    first | exact (nomatch (hg:false=true)) | (simp only [Q1,Q2,BQ6];done) | rfl
   ·skip
    revert hg
    generalize (decide (a2<36))=b8
    intro hg
    cases b8
    ·skip
     first | exact (nomatch (hg:false=true)) | (simp only [Q1,Q2,BQ6];done) | rfl
    ·skip
     revert hg
     generalize ((okS a0&&((decide (0≤num (((((zc PZ 144).setIfInBounds 0 (.int .i8 (num a1 0))).setIfInBounds 1 (.int .i8 (IntKind.i8.wrap a3))).setIfInBounds 2 (.int .i64 (1:Int))).setIfInBounds (3+((a2).toNat*1)) (.int .i64 (12^a3.toNat))) 0)&&decide (num (((((zc PZ 144).setIfInBounds 0 (.int .i8 (num a1 0))).setIfInBounds 1 (.int .i8 (IntKind.i8.wrap a3))).setIfInBounds 2 (.int .i64 (1:Int))).setIfInBounds (3+((a2).toNat*1)) (.int .i64 (12^a3.toNat))) 0<2))&&((decide (0≤num (((((zc PZ 144).setIfInBounds 0 (.int .i8 (num a1 0))).setIfInBounds 1 (.int .i8 (IntKind.i8.wrap a3))).setIfInBounds 2 (.int .i64 (1:Int))).setIfInBounds (3+((a2).toNat*1)) (.int .i64 (12^a3.toNat))) 1)&&decide (num (((((zc PZ 144).setIfInBounds 0 (.int .i8 (num a1 0))).setIfInBounds 1 (.int .i8 (IntKind.i8.wrap a3))).setIfInBounds 2 (.int .i64 (1:Int))).setIfInBounds (3+((a2).toNat*1)) (.int .i64 (12^a3.toNat))) 1≤14))&&(decide (0≤(IntKind.i64.wrap ((IntKind.i64.wrap (num a1 1)) - a3)))&&decide ((IntKind.i64.wrap ((IntKind.i64.wrap (num a1 1)) - a3))≤14))))))=b10
     intro hg
     cases b10
     ·skip
      first | exact (nomatch (hg:false=true)) | (simp only [Q1,Q2,BQ6];done) | rfl
     ·skip
      first | (simp only [Q1,Q2,BQ6];done) | rfl | exact (nomatch (hg:false=true))
def Zbw:Con:=fun args h=>match args,h with
 | [.w 0,.w 1,.i .i64 a2,.i .i64 a3,.i .u64 a4],[.row a0 41,.one (.r a1 45 [(2,2)]) 45,.sl (.came bQ) nQ aQ 82]=>some (.a (.i .i64 (Zca PZ a2 a3 a4 a0 a1 bQ nQ aQ)),.none,(Zel a2 a3 a4 a0 a1 bQ nQ aQ))
 | _,_=>none
theorem Zuu:EntX PZ 48:=Zag (fn:=Tryz.f48) (by kernel_rfl) (by kernel_rfl) (by kernel_rfl)
theorem Yaj:Uad mn PZ 48 Zbw:=(Zai (N:=1000) (by kernel_rfl) (mkΓ_consX (Zad Zp8) Zmo (mkΓ_consX (Zad Yan) Zvm (mkΓ_consX (Zad Yel) Zy9 mkΓ_nilX))) (fn:=Tryz.f48) (by kernel_rfl) (by kernel_rfl) []).of (by
 intro ρ h w args vals r e hA hH hr
 unfold Zbw at hr
 split at hr
 ·rename_i a2 a3 a4 a0 a1 bQ nQ aQ
  obtain ⟨rfl,rfl,hg2⟩:=BQi hr
  exact Zw9 a2 a3 a4 a0 a1 bQ nQ aQ (hA.rng 2 rfl) (hA.rng 3 rfl) (hA.rng 4 rfl) (hH.wt 0 rfl) (hH.wtr 1 rfl) (hH.slw 2 rfl) hg2
 ·cases hr)
def Ubg (P:Program) (k b h T:Int):Array Value:=((((zc P 144).setIfInBounds 0 (.int .i8 b)).setIfInBounds 1 (.int .i8 (IntKind.i8.wrap h))).setIfInBounds 2 (.int .i64 (1:Int))).setIfInBounds (3+(k.toNat*1)) (.int .i64 T)
theorem Zvy {k b h T:Int} (hk:0≤k∧k≤35) (hh:0≤h∧h≤14):num (Ubg PZ k b h T) 0=b∧num (Ubg PZ k b h T) 1=h∧(Ubg PZ k b h T).size=40∧∀ i,i<37→num (Ubg PZ k b h T) (3+i)=if k.toNat=i then T else 0:=by
 have hz:(zc PZ 144).size=40:=by kernel_rfl
 unfold Ubg
 refine ⟨?_, ?_,by simp [hz],fun i hi=> ?_⟩
 ·rw [Zg6,if_neg (by omega),Zg6,if_neg (by omega),Zg6,if_neg (by omega),Zg6,if_pos (by omega)]
 ·rw [Zg6,if_neg (by omega),Zg6,if_neg (by omega),Zg6,if_pos (by simp [hz]),IntWalk.i8_in _ (by omega)]
 ·rw [Zg6]
  by_cases e:k.toNat=i
  ·rw [if_pos (by simp [hz];omega),if_pos e]
  ·rw [if_neg (by omega),if_neg e,Zg6,if_neg (by omega),Zg6,if_neg (by omega),Zg6,if_neg (by omega),zs_num _ (by omega)]
theorem Yli {k b h T:Int} (hk:0≤k∧k≤35) (hb:0≤b∧b≤1) (hT:IntKind.i64.min≤T∧T≤IntKind.i64.max):WT PZ 144 (Ubg PZ k b h T):=by
 have i8:IntKind.i8.min = -128∧IntKind.i8.max=127:=⟨rfl,rfl⟩
 have i64:IntKind.i64.min = -9223372036854775808∧IntKind.i64.max=9223372036854775807:=⟨rfl,rfl⟩
 have h0:WT PZ 144 ((zc PZ 144).setIfInBounds 0 (.int .i8 b)):=Zsm (k:=.i8) (WT.zero (by kernel_rfl)) Yif.1 (by omega)
 have h1:=Zsm (k:=.i8) (i:=1) h0 Yif.2 (Zh7 .i8 h)
 have h2:=Zsm (k:=.i64) (i:=2) (n:=1) h1 (Yfq (by omega) (by omega)) (by omega)
 exact Zsm (k:=.i64) h2 (Yfq (by omega) (by omega)) hT
theorem Yfd {k b h T:Int} (hk:0≤k∧k≤35) (hh:0≤h∧h≤14) (hT:0≤T):Mass (Ubg PZ k b h T) T:=by
 obtain ⟨_,_,_,hn⟩:=Zvy (b:=b) (T:=T) hk hh
 have hv:∀ i,i<37→num (Ubg PZ k b h T) (3+i)=if k.toNat=0+i then T else 0:=fun i hi=>by rw [hn i hi,Nat.zero_add]
 refine ⟨fun i hi=>by rw [hn i hi];split<;>omega, ?_⟩
 rw [Zoi 37 hv,Zwx T (d:=k.toNat) (o:=0) 37,if_pos (by omega)]
theorem Zu7 {S X:Array Value} (hS:WT PZ 41 S) (hok:okS S=true) (hX:WT PZ 144 X) {b T:Int} {j:Nat} (hb:0≤b∧b≤1) (n0:num X 0=b) (n1:num X 1=(j:Int)) (hT:0≤T) (hM:Mass X T):∀ n,j+n≤14→T*12^n≤10000000000→Mass (Uav PZ S X n) (T*12^n)
 | 0,_,_=>by
  have e:T*12^0=T:=by rw [Int.pow_zero,Int.mul_one]
  rw [e];exact hM
 | n+1,hj,hle=>by
  have hp:0<(12:Int)^n:=Int.pow_pos (by omega)
  have e1:T*12^(n+1)=12*(T*12^n):=by rw [Int.pow_succ,Int.mul_comm (12^n) 12,← Int.mul_assoc,Int.mul_comm T 12,Int.mul_assoc]
  have hnn:0≤T*12^n:=Int.mul_nonneg hT (by omega)
  rw [e1] at hle⊢
  have ih:=Zu7 hS hok hX hb n0 n1 hT hM n (by omega) (by omega)
  have htd:=Yht (S:=S) (X:=X) (by rw [n0];omega) (by rw [n1];omega) (show n≤14 by omega)
  rw [n0,n1] at htd
  rw [Uav]
  exact (Yov hS (drift_wt hX n) hok ih (by omega) (t:=((b+(j:Int)+(n:Int)) % 2).toNat) (by omega) (by rw [htd];omega)).1
theorem Zy0 {S L X:Array Value} (hS:WT PZ 41 S) (hok:okS S=true) (hz:∀ k,k<36→inC (num S 0) (num S 1) k=false→num L k=0) {b:Int} {h j:Nat} (hb:0≤b∧b≤1) (n0:num X 0=b) (n1:num X 1=(j:Int)) (hh:h≤14) :
  ∀ i,j+i≤h→cg (dot (Uav PZ S X i) (rowR PZ sumL S L b (h:Int) (h - j - i))) (dot X (rowR PZ sumL S L b (h:Int) (h - j)))
 | 0,_=>cg.refl _
 | i+1,hi'=>by
  have htd:=Yht (S:=S) (X:=X) (by rw [n0];omega) (by rw [n1];omega) (show i≤14 by omega)
  rw [n0,n1] at htd
  refine cg.trans ?_ (Zy0 hS hok hz hb n0 n1 hh i (by omega))
  have hd:=hour_dot hS (Zs0 hok) (r:=rowR PZ sumL S L b (h:Int) (h - j - (i+1))) (Yo2 hz b (h:Int) _) (X:=Uav PZ S X i) (by rw [htd];omega)
  have er:rowR PZ sumL S L b (h:Int) (h - j - i)=rowF PZ sumL S (rowR PZ sumL S L b (h:Int) (h - j - (i+1))) (tdS (Uav PZ S X i)):=by
   rw [show h - j - i=(h - j - (i+1))+1 by omega,rowR,show (h - j - (i+1))+1=h - j - i by omega]
   congr 1
   rw [htd,w64 (n:=(h:Int) - ((h - j - i:Nat):Int)) (by omega),w64 (n:=b+((h:Int) - ((h - j - i:Nat):Int))) (by omega),Int.tmod_eq_emod_of_nonneg (by omega)]
   omega
  rw [er]
  exact hd
theorem Ylb {Y:Array Value} {T:Int} (hM:Mass Y T) (hT:T≤9223372036854775807) (c:Int):∀ m,m≤36→Uby c Y m=sm (fun i=>num Y (3+i)*num (rowC PZ c) i) m
 | 0,_=>rfl
 | m+1,hm=>by
  have ih:=Ylb hM hT c m (by omega)
  have h1:=Zyf hM hT c (m+1) (by omega)
  have h0:=Zyf hM hT c m (by omega)
  have hx:=hM.1 m (by omega)
  have e1:sumI (fun i=>num Y (3+i)) (m+1)=sumI (fun i=>num Y (3+i)) m+num Y (3+m):=rfl
  rw [e1] at h1
  rw [Zjy,(Yb4 c).2 m (by omega),← ih,Uby,show 3+m*1=3+m by omega]
  cases bitI c m with
  | false=>rw [Q2,if_neg (by simp)];omega
  | true=>rw [Q1,if_pos rfl,IntWalk.i64_in _ (by omega)];omega
theorem Ylw {S:Array Value} {c:Int} (hcs:Zaf S c=true):∀ j,j<36→inC (num S 0) (num S 1) j=false→num (rowC PZ c) j=0:=fun j hj hi=>by
 rw [(Yb4 c).2 j hj,if_neg]
 intro hbit
 have:=(Ydo (a:=c) (b:=Uau (num S 0) (num S 1) 36)).1 hcs j (by omega) hbit
 rw [Zxr _ _ 36 (by omega),hi,Bool.and_false] at this
 cases this
theorem Yid {k b h T:Int} (hk:0≤k∧k≤35) (hh:0≤h∧h≤14) (r:Array Value):dot (Ubg PZ k b h T) r=T*num r k.toNat:=by
 obtain ⟨_,_,_,hn⟩:=Zvy (b:=b) (T:=T) hk hh
 unfold dot
 rw [sm_one 36 (show k.toNat<36 by omega) (fun i hi hne=>by rw [hn i (by omega),if_neg (fun e=>hne e.symm),Int.zero_mul]),hn _ (by omega),if_pos rfl]
theorem Zrr {n:Nat} (h:n≤8):0<(12:Int)^n∧(12:Int)^n≤429981696:=by
 have hl:∀ n,n≤8→0<(12:Int)^n∧(12:Int)^n≤429981696:=by decide
 exact hl n h
theorem row_le {S:Array Value} (hS:WT PZ 41 S) (hok:okS S=true) {k b c:Int} (hb:0≤b∧b≤1) (hk:0≤k∧k≤35) (hcs:Zaf S c=true) {H n:Nat} (hn:1≤n∧n≤H) (hH:H≤8) :
  0≤num (rowR PZ sumL S (rowC PZ c) b (H:Int) n) k.toNat∧num (rowR PZ sumL S (rowC PZ c) b (H:Int) n) k.toNat≤12^n:=by
 have i64:IntKind.i64.min = -9223372036854775808∧IntKind.i64.max=9223372036854775807:=⟨rfl,rfl⟩
 obtain ⟨n0,n1,_,_⟩:=Zvy (k:=k) (b:=b) (h:=((H - n:Nat):Int)) (T:=1) hk (by omega)
 have hp:=Zrr (n:=n) (by omega)
 have hM:=Zu7 hS hok (Yli (h:=((H - n:Nat):Int)) hk hb (by omega)) (b:=b) (T:=1) (j:=H - n) hb n0 n1 (by omega) (Yfd hk (by omega) (by omega)) n (by omega) (by omega)
 have hf:=Zy0 hS hok (Ylw hcs) (X:=Ubg PZ k b ((H - n:Nat):Int) 1) (h:=H) hb n0 n1 (by omega) n (by omega)
 rw [show H - (H - n) - n=0 by omega,show H - (H - n)=n by omega,Yid hk (by omega),Int.one_mul] at hf
 have e0:(rowR PZ sumL S (rowC PZ c) b (H:Int) 0)=rowC PZ c:=rfl
 rw [e0] at hf
 rw [Int.one_mul] at hM
 have hd:=sm_le (f:=fun i=>num (Uav PZ S (Ubg PZ k b ((H - n:Nat):Int) 1) n) (3+i)*num (rowC PZ c) i) (g:=fun i=>num (Uav PZ S (Ubg PZ k b ((H - n:Nat):Int) 1) n) (3+i)) 36 (fun i hi=>by
  have:=hM.1 i (by omega)
  rw [(Yb4 c).2 i hi]
  split<;>omega)
 have h37:sumI (fun i=>num (Uav PZ S (Ubg PZ k b ((H - n:Nat):Int) 1) n) (3+i)) 37=sumI (fun i=>num (Uav PZ S (Ubg PZ k b ((H - n:Nat):Int) 1) n) (3+i)) 36+num (Uav PZ S (Ubg PZ k b ((H - n:Nat):Int) 1) n) (3+36):=rfl
 have h36:=hM.1 36 (by omega)
 have hs:=hM.2
 have er:num (rowR PZ sumL S (rowC PZ c) b (H:Int) n) k.toNat=dot (Uav PZ S (Ubg PZ k b ((H - n:Nat):Int) 1) n) (rowC PZ c):=by
  refine (cg_eq hf ?_ ?_).symm
  ·unfold dot;omega
  ·obtain ⟨m,rfl⟩:∃ m,n=m+1:=⟨n - 1,by omega⟩
   have:=Yku sumL S (rowR PZ sumL S (rowC PZ c) b (H:Int) m) ((IntKind.i64.wrap (b+IntKind.i64.wrap ((H:Int) - ((m+1:Nat):Int)))).tmod 2) (show k.toNat<36 by omega)
   rw [Nat.mul_one] at this
   rw [rowR,this]
   split
   ·exact sumL_in _ _
   ·omega
 rw [er]
 unfold dot
 omega
def worW (P:Program) (S:Array Value) (b H k h c:Int):Int:=12^h.toNat*num (rowR P sumL S (rowC P c) b H (H - h).toNat) k.toNat
theorem Ynv {S:Array Value} (hS:WT PZ 41 S) (hok:okS S=true) {k b c H h:Int} (hb:0≤b∧b≤1) (hk:0≤k∧k≤35) (hcs:Zaf S c=true) (hh:0≤h∧h<H) (hH:H≤8):0≤worW PZ S b H k h c∧worW PZ S b H k h c≤12^H.toNat:=by
 obtain ⟨H',rfl⟩:=Int.eq_ofNat_of_zero_le (show 0≤H by omega)
 obtain ⟨h',rfl⟩:=Int.eq_ofNat_of_zero_le hh.1
 have hr:=row_le hS hok hb hk hcs (H:=H') (n:=H' - h') (by omega) (by omega)
 have e:((H':Int) - (h':Int)).toNat=H' - h':=by omega
 unfold worW
 rw [e,Q9,Q9]
 have hp:=Zrr (n:=h') (by omega)
 refine ⟨Int.mul_nonneg (by omega) hr.1, ?_⟩
 rw [show H'=h'+(H' - h') by omega,Int.pow_add]
 rw [show h'+(H' - h')=H' by omega]
 exact Int.mul_le_mul_of_nonneg_left hr.2 (by omega)
theorem worth_eq {S p A:Array Value} {n:Nat} (bb:Option (Option Addr)) (hS:WT PZ 41 S) (hok:okS S=true) {k c h:Int} (hb:0≤num p 0∧num p 0≤1) (hk:0≤k∧k≤35) (hcs:Zaf S c=true) (hh:0≤h∧h<num p 1) (hH:num p 1≤8) :
  Zel k h c S p bb n A=true∧Zca PZ k h c S p bb n A=worW PZ S (num p 0) (num p 1) k h c:=by
 have i64:IntKind.i64.min = -9223372036854775808∧IntKind.i64.max=9223372036854775807:=⟨rfl,rfl⟩
 have hw:=Ynv hS hok hb hk hcs hh hH
 obtain ⟨H',eH⟩:=Int.eq_ofNat_of_zero_le (show 0≤num p 1 by omega)
 obtain ⟨h',rfl⟩:=Int.eq_ofNat_of_zero_le hh.1
 have w1:IntKind.i64.wrap (IntKind.i64.wrap (num p 1) - (h':Int))=num p 1 - (h':Int):=by rw [IntWalk.i64_in (num p 1) (by omega),IntWalk.i64_in _ (by omega)]
 obtain ⟨n0,n1,_,_⟩:=Zvy (k:=k) (b:=num p 0) (h:=(h':Int)) (T:=12^h') hk (by omega)
 have eX:((((zc PZ 144).setIfInBounds 0 (.int .i8 (num p 0))).setIfInBounds 1 (.int .i8 (IntKind.i8.wrap (h':Int)))).setIfInBounds 2 (.int .i64 (1:Int))).setIfInBounds (3+(k.toNat*1)) (.int .i64 (12^(h':Int).toNat))=Ubg PZ k (num p 0) (h':Int) (12^h'):=by
  rw [Q9];rfl
 constructor
 ·unfold Zel
  rw [eX,n0,n1,w1,hok,dec2 hb.1 (show num p 0<2 by omega),dec2 hk.1 (show k<36 by omega),Q3 (show 0≤(h':Int) by omega),Q3 (show (h':Int)≤14 by omega),Q3 (show 0≤num p 1 - (h':Int) by omega),Q3 (show num p 1 - (h':Int)≤14 by omega)]
  rfl
 ·have e0:Zca PZ k (h':Int) c S p bb n A=Uby c (Uav PZ S (Ubg PZ k (num p 0) (h':Int) (12^h')) (num p 1 - (h':Int)).toNat) 36:=by
   unfold Zca
   rw [eX,w1]
  rw [e0]
  have hp:=Zrr (n:=h') (by omega)
  have hpH:=Zrr (n:=H') (by omega)
  have e1:(num p 1 - (h':Int)).toNat=H' - h':=by omega
  have e2:(12:Int)^h'*12^(H' - h')=12^H':=by rw [← Int.pow_add];congr 1;omega
  have hM:=Zu7 hS hok (Yli (h:=(h':Int)) hk hb (by omega)) (b:=num p 0) (T:=12^h') (j:=h') hb n0 n1 (by omega) (Yfd hk (by omega) (by omega)) (H' - h') (by omega) (by omega)
  rw [e2] at hM
  have hf:=Zy0 hS hok (Ylw hcs) (X:=Ubg PZ k (num p 0) (h':Int) (12^h')) (h:=H') hb n0 n1 (by omega) (H' - h') (by omega)
  rw [show H' - h' - (H' - h')=0 by omega,Yid hk (by omega)] at hf
  have e3:rowR PZ sumL S (rowC PZ c) (num p 0) (H':Int) 0=rowC PZ c:=rfl
  rw [e3] at hf
  have hmd:=Ylb hM (by omega) c 36 (Nat.le_refl _)
  have hmm:=Zyf hM (by omega) c 36 (by omega)
  have eW:worW PZ S (num p 0) (num p 1) k (h':Int) c=12^h'*num (rowR PZ sumL S (rowC PZ c) (num p 0) (H':Int) (H' - h')) k.toNat:=by
   unfold worW
   rw [e1,Q9,eH]
  rw [eH,Q9] at hw
  rw [← eH,eW] at hw
  rw [eW,e1,hmd]
  rw [hmd] at hmm
  exact cg_eq hf (by omega) (by omega)
end
end Go.Proofs.YtohnggmlmglhmaaGreatDoor
