/- Parts of twelve, in company. -/
import Derived.Test.YtohnggmlmglhmaaGreatDoorProg
import Derived.Test.YtohnggmlmglhmaaGreatDoorCxC
namespace Go.Proofs.YtohnggmlmglhmaaGreatDoor
open Go.ChangeShapes Go.WideShapes Go.ChangeAt Go.RowKit Ve Vc
open Tryz renaming prog → PZ
open IntKind (i64)
set_option linter.unusedVariables false
set_option linter.unusedSimpArgs false
set_option maxRecDepth 100000
noncomputable section
variable {mn:Md}
def Ze1 (a0:Array Value):St:=(⟨.a (.g a0 24) :: .a (.w 0) :: .a (.w 1) :: .a (.w 2) :: .a (.i .i64 (0:Int))::us 10 ([]),[.row a0 24,.row #[.int .u8 (0:Int),.int .u8 (0:Int),.int .u8 (0:Int),.int .u8 (0:Int),.int .u8 (0:Int)] 37,.row #[.int .u8 (0:Int),.int .u8 (0:Int),.int .u8 (0:Int),.int .u8 (0:Int),.int .u8 (0:Int)] 37],[]⟩:St)
def Zf5:Int×Array Value→LS
 | (y0_4,r0_2)=>([.a (.i .i64 (y0_4))],[.row r0_2 37])
def Zld:Int×Array Value→Exit×LS
 | t=>((.exit 0),Zf5 t)
def Zc5 (P : Program) (a0 : Array Value) : Int × Array Value → Option (Stp (Int × Array Value) (Int × Array Value))
 | (y0_4, r0_2) => bif decide (y0_4 < (5 : Int)) then (bif (decide (0 ≤ y0_4) && decide (y0_4 < 5)) then (bif (decide (0 ≤ y0_4) && decide (y0_4 < 5)) then (some (.more ((i64.wrap (y0_4 + (1 : Int))), (r0_2.setIfInBounds ((y0_4).toNat * 1) (.int .u8 (num a0 ((y0_4).toNat * 1)))))))
    else (none))
   else (none))
  else (some (.done (y0_4, r0_2)))
def Udz:=(Uaf (codeOf Tryz.f83) [([4],[2])]).1
theorem Ya0 (N:Nat) (a0:Array Value):∀ t:Int×Array Value,Uag PZ (mkΓ []) N (cAt (codeOf Tryz.f83) [1,1,0,1,0,0]) (pAt Udz [1,1,0,1,0]) [4] [2] (Ze1 a0) (Zf5 t)=mapS Zf5 Zld (Zc5 PZ a0 t):=by
 rintro ⟨y0_4,r0_2⟩
 refine Eq.trans (b:=(bif decide (y0_4<(5:Int)) then (bif (decide (0≤y0_4)&&decide (y0_4<5)) then (bif (decide (0≤y0_4)&&decide (y0_4<5)) then (some (.more ([.a (.i .i64 (i64.wrap (y0_4+(1:Int))))],[.row (r0_2.setIfInBounds ((y0_4).toNat*1) (.int .u8 (num a0 ((y0_4).toNat*1)))) 37])))
    else (none))
   else (none))
  else (some (.done ((.exit 0),([.a (.i .i64 (y0_4))],[.row r0_2 37])))))) (by kernel_rfl) ?_
 simp only [Zc5,Zaz,Zay,Za1,Za0,Zf5,Zld]
def Zjy (P:Program) (N:Nat) (a0:Array Value) (z0_4:Int) (q0_2:Array Value):Option (SV×Eff×Bool):=some (.a (.g q0_2 37),.none,true)
def Uf1 (N:Nat):=(Uan 0 (kSeq (veC PZ (mkΓ []) N (cAt (codeOf Tryz.f83) [1,1,1]) (pAt Udz [1,1,1]) (SV×Eff×Bool)) (finK PZ [] [.cell 2 37])))
theorem Zr5 (N:Nat) (a0:Array Value) (z0_4:Int) (q0_2:Array Value):(Uf1 N) (.exit 0) (left (writes (cAt (codeOf Tryz.f83) [1,1,0,1,0,0])) [4] [2] (Ze1 a0) ([.a (.i .i64 (z0_4))],[.row q0_2 37]))=Zjy PZ N a0 z0_4 q0_2:=by
 refine Eq.trans (b:=(some (.a (.g q0_2 37),.none,true))) (by kernel_rfl) ?_
 rfl
theorem Yag (N:Nat) (a0:Array Value):Uah (Uaa (Uag PZ (mkΓ []) N (cAt (codeOf Tryz.f83) [1,1,0,1,0,0]) (pAt Udz [1,1,0,1,0]) [4] [2] (Ze1 a0)) N ([.a (.i .i64 (0:Int))],[.row (#[.int .u8 (0:Int),.int .u8 (0:Int),.int .u8 (0:Int),.int .u8 (0:Int),.int .u8 (0:Int)]:Array Value) 37])) (fun e s=>(Uf1 N) e (left (writes (cAt (codeOf Tryz.f83) [1,1,0,1,0,0])) [4] [2] (Ze1 a0) s))=Uak (Uaa (Zc5 PZ a0) N ((0:Int),(#[.int .u8 (0:Int),.int .u8 (0:Int),.int .u8 (0:Int),.int .u8 (0:Int),.int .u8 (0:Int)]:Array Value))) (fun x=>Zjy PZ N a0 x.1 x.2):=by
 refine Zbd Zf5 Zld _ _ (Ya0 N a0) N ((0:Int),(#[.int .u8 (0:Int),.int .u8 (0:Int),.int .u8 (0:Int),.int .u8 (0:Int),.int .u8 (0:Int)]:Array Value)) _ _ ?_
 intro x;exact Zr5 N a0 x.1 x.2
theorem Zx9 (N:Nat) (a0:Array Value):ansV PZ (mkΓ []) N Tryz.f83 [([4],[2])] [.g a0 24] []=(Uak (Uaa (Zc5 PZ a0) N ((0:Int),(#[.int .u8 (0:Int),.int .u8 (0:Int),.int .u8 (0:Int),.int .u8 (0:Int),.int .u8 (0:Int)]:Array Value))) (fun x=>Zjy PZ N a0 x.1 x.2)):=by
 refine Eq.trans (b:=(Uah (Uaa (Uag PZ (mkΓ []) N (cAt (codeOf Tryz.f83) [1,1,0,1,0,0]) (pAt Udz [1,1,0,1,0]) [4] [2] (Ze1 a0)) N ([.a (.i .i64 (0:Int))],[.row (#[.int .u8 (0:Int),.int .u8 (0:Int),.int .u8 (0:Int),.int .u8 (0:Int),.int .u8 (0:Int)]:Array Value) 37])) (fun e s=>(Uf1 N) e (left (writes (cAt (codeOf Tryz.f83) [1,1,0,1,0,0])) [4] [2] (Ze1 a0) s)))) (by kernel_rfl) ?_
 simp only [Yag N a0]
theorem Zv0 (a0:Array Value) (h_a0:WT PZ 24 a0) (hg:(true)=true):ansV PZ (mkΓ []) 1000 Tryz.f83 [([4],[2])] [.g a0 24] []=some (.a (.g a0 37),.none,true):=by
 have hs:a0.size=(#[.int .u8 (0:Int),.int .u8 (0:Int),.int .u8 (0:Int),.int .u8 (0:Int),.int .u8 (0:Int)]:Array Value).size:=by rw [h_a0.layLen];kernel_rfl
 have hz:a0.size=5:=by rw [h_a0.layLen];kernel_rfl
 have hL:∀ k,k<5→(lay PZ 24)[k*1]? = some 4:=by
  intro k hk
  have h:(List.range 5).all (fun k=>(lay PZ 24)[k*1]? == some 4)=true:=by kernel_rfl
  exact eq_of_beq (List.all_eq_true.1 h k (List.mem_range.2 hk))
 have h:=Zcc (g:=Zc5 PZ a0) (fun k=>((k:Int),upto a0 (#[.int .u8 (0:Int),.int .u8 (0:Int),.int .u8 (0:Int),.int .u8 (0:Int),.int .u8 (0:Int)]:Array Value) (k*1))) (m:=5) (x:=(((5:Nat):Int),upto a0 (#[.int .u8 (0:Int),.int .u8 (0:Int),.int .u8 (0:Int),.int .u8 (0:Int),.int .u8 (0:Int)]:Array Value) (5*1))) (N:=1000) (fun k hk=>by
  have h1:decide ((k:Int)<5)=true:=Q3 (by omega)
  have h0:decide (0≤(k:Int))=true:=Q3 (by omega)
  have h3:i64.wrap ((k:Int)+1)=((k+1:Nat):Int):=by rw [IntWalk.i64_in _ (by omega)];omega
  have h4:((k:Int)).toNat=k:=Q9 k
  have h5:(upto a0 (#[.int .u8 (0:Int),.int .u8 (0:Int),.int .u8 (0:Int),.int .u8 (0:Int),.int .u8 (0:Int)]:Array Value) (k*1)).setIfInBounds (k*1) (.int .u8 (num a0 (k*1)))=upto a0 (#[.int .u8 (0:Int),.int .u8 (0:Int),.int .u8 (0:Int),.int .u8 (0:Int),.int .u8 (0:Int)]:Array Value) ((k+1)*1):=by
   rw [Nat.add_mul];exact Zqv hs (h_a0.int (k:=.u8) (hL k hk)).1
  simp only [Zc5,h1,h0,Bool.and_self,h4,Q1,h3,h5]) (by
  have h1:decide (((5:Nat):Int)<5)=false:=by decide
  simp only [Zc5,h1,Q2]) (by omega)
 simp only [Nat.zero_mul,Zpu hs,Zt0 hs hz] at h
 refine (Zx9 1000 a0).trans ?_
 have h':Uaa (Zc5 PZ a0) 1000 ((0:Int),(#[.int .u8 (0:Int),.int .u8 (0:Int),.int .u8 (0:Int),.int .u8 (0:Int),.int .u8 (0:Int)]:Array Value))=some (((5:Nat):Int),a0):=h
 rw [h']
 rfl
def Zco:Con:=fun args h=>match args,h with
 | [.g a0 24],[]=>some (.a (.g a0 37),.none,true)
 | _,_=>none
theorem Zub:EntX PZ 83:=Zag (fn:=Tryz.f83) (by kernel_rfl) (by kernel_rfl) (by kernel_rfl)
theorem Ya3:Uab mn PZ 83 Zco:=(Zaf (N:=1000) (by kernel_rfl) mkΓ_nilX (fn:=Tryz.f83) (by kernel_rfl) (by kernel_rfl) [([4],[2])]).of (by
 intro ρ h w args vals r e hA hH hr
 unfold Zco at hr
 split at hr
 ·rename_i a0
  obtain ⟨rfl,rfl,hg2⟩:=BQi hr
  exact Zv0 a0 (hA.wt 0 rfl) hg2
 ·cases hr)
def Zdl (a0:Array Value):St:=(⟨.a (.g a0 25) :: .a (.w 0) :: .a (.w 1) :: .a (.w 2) :: .a (.i .i64 (0:Int))::us 11 ([]),[.row a0 25,.row (zc PZ 38) 38,.row (zc PZ 38) 38],[]⟩:St)
def Zeu:Int×Array Value→LS
 | (y0_4,r0_2)=>([.a (.i .i64 (y0_4))],[.row r0_2 38])
def Ziv:Int×Array Value→Exit×LS
 | t=>((.exit 0),Zeu t)
def Zby (P : Program) (a0 : Array Value) : Int × Array Value → Option (Stp (Int × Array Value) (Int × Array Value))
 | (y0_4, r0_2) => bif decide (y0_4 < (36 : Int)) then (bif (decide (0 ≤ y0_4) && decide (y0_4 < 36)) then (bif (decide (0 ≤ y0_4) && decide (y0_4 < 36)) then (some (.more ((i64.wrap (y0_4 + (1 : Int))), (spl r0_2 ((y0_4).toNat * 5) (a0.extract ((y0_4).toNat * 5) (((y0_4).toNat * 5) + 5)).toList))))
    else (none))
   else (none))
  else (some (.done (y0_4, r0_2)))
def Uen:=(Uaf (codeOf Tryz.f57) [([4],[2])]).1
theorem Zuj (N:Nat) (a0:Array Value):∀ t:Int×Array Value,Uag PZ (mkΓ [(83,con Zco)]) N (cAt (codeOf Tryz.f57) [1,1,0,1,0,0]) (pAt Uen [1,1,0,1,0]) [4] [2] (Zdl a0) (Zeu t)=mapS Zeu Ziv (Zby PZ a0 t):=by
 rintro ⟨y0_4,r0_2⟩
 refine Eq.trans (b:=(bif decide (y0_4<(36:Int)) then (bif (decide (0≤y0_4)&&decide (y0_4<36)) then (bif (decide (0≤y0_4)&&decide (y0_4<36)) then (some (.more ([.a (.i .i64 (i64.wrap (y0_4+(1:Int))))],[.row (spl r0_2 ((y0_4).toNat*5) (a0.extract ((y0_4).toNat*5) (((y0_4).toNat*5)+5)).toList) 38])))
    else (none))
   else (none))
  else (some (.done ((.exit 0),([.a (.i .i64 (y0_4))],[.row r0_2 38])))))) (by kernel_rfl) ?_
 simp only [Zby,Zaz,Zay,Za1,Za0,Zeu,Ziv]
def Zho (P:Program) (N:Nat) (a0:Array Value) (z0_4:Int) (q0_2:Array Value):Option (SV×Eff×Bool):=some (.a (.g q0_2 38),.none,true)
def Ufq (N:Nat):=(Uan 0 (kSeq (veC PZ (mkΓ [(83,con Zco)]) N (cAt (codeOf Tryz.f57) [1,1,1]) (pAt Uen [1,1,1]) (SV×Eff×Bool)) (finK PZ [] [.cell 2 38])))
theorem Zo3 (N:Nat) (a0:Array Value) (z0_4:Int) (q0_2:Array Value):(Ufq N) (.exit 0) (left (writes (cAt (codeOf Tryz.f57) [1,1,0,1,0,0])) [4] [2] (Zdl a0) ([.a (.i .i64 (z0_4))],[.row q0_2 38]))=Zho PZ N a0 z0_4 q0_2:=by
 refine Eq.trans (b:=(some (.a (.g q0_2 38),.none,true))) (by kernel_rfl) ?_
 rfl
theorem Zue (N:Nat) (a0:Array Value):Uah (Uaa (Uag PZ (mkΓ [(83,con Zco)]) N (cAt (codeOf Tryz.f57) [1,1,0,1,0,0]) (pAt Uen [1,1,0,1,0]) [4] [2] (Zdl a0)) N ([.a (.i .i64 (0:Int))],[.row (zc PZ 38) 38])) (fun e s=>(Ufq N) e (left (writes (cAt (codeOf Tryz.f57) [1,1,0,1,0,0])) [4] [2] (Zdl a0) s))=Uak (Uaa (Zby PZ a0) N ((0:Int),(zc PZ 38))) (fun x=>Zho PZ N a0 x.1 x.2):=by
 refine Zbd Zeu Ziv _ _ (Zuj N a0) N ((0:Int),(zc PZ 38)) _ _ ?_
 intro x;exact Zo3 N a0 x.1 x.2
theorem Zti (N:Nat) (a0:Array Value):ansV PZ (mkΓ [(83,con Zco)]) N Tryz.f57 [([4],[2])] [.g a0 25] []=(Uak (Uaa (Zby PZ a0) N ((0:Int),(zc PZ 38))) (fun x=>Zho PZ N a0 x.1 x.2)):=by
 refine Eq.trans (b:=(Uah (Uaa (Uag PZ (mkΓ [(83,con Zco)]) N (cAt (codeOf Tryz.f57) [1,1,0,1,0,0]) (pAt Uen [1,1,0,1,0]) [4] [2] (Zdl a0)) N ([.a (.i .i64 (0:Int))],[.row (zc PZ 38) 38])) (fun e s=>(Ufq N) e (left (writes (cAt (codeOf Tryz.f57) [1,1,0,1,0,0])) [4] [2] (Zdl a0) s)))) (by kernel_rfl) ?_
 simp only [Zue N a0]
theorem Zrw (a0:Array Value) (h_a0:WT PZ 25 a0) (hg:(true)=true):ansV PZ (mkΓ [(83,con Zco)]) 1000 Tryz.f57 [([4],[2])] [.g a0 25] []=some (.a (.g a0 38),.none,true):=by
 have hs:a0.size=(zc PZ 38).size:=by rw [h_a0.layLen];kernel_rfl
 have hz:a0.size=180:=by rw [h_a0.layLen];kernel_rfl
 have hL:∀ k,k<36→(lay PZ 25)[k*5]? = some 4:=by
  intro k hk
  have h:(List.range 36).all (fun k=>(lay PZ 25)[k*5]? == some 4)=true:=by kernel_rfl
  exact eq_of_beq (List.all_eq_true.1 h k (List.mem_range.2 hk))
 have h:=Zcc (g:=Zby PZ a0) (fun k=>((k:Int),upto a0 (zc PZ 38) (k*5))) (m:=36) (x:=(((36:Nat):Int),upto a0 (zc PZ 38) (36*5))) (N:=1000) (fun k hk=>by
  have h1:decide ((k:Int)<36)=true:=Q3 (by omega)
  have h0:decide (0≤(k:Int))=true:=Q3 (by omega)
  have h3:i64.wrap ((k:Int)+1)=((k+1:Nat):Int):=by rw [IntWalk.i64_in _ (by omega)];omega
  have h4:((k:Int)).toNat=k:=Q9 k
  have h5:spl (upto a0 (zc PZ 38) (k*5)) (k*5) (a0.extract (k*5) (k*5+5)).toList=upto a0 (zc PZ 38) ((k+1)*5):=by
   rw [Nat.add_mul];exact Yc4 hs (by omega) rfl
  simp only [Zby,h1,h0,Bool.and_self,h4,Q1,h3,h5]) (by
  have h1:decide (((36:Nat):Int)<36)=false:=by decide
  simp only [Zby,h1,Q2]) (by omega)
 simp only [Nat.zero_mul,Zpu hs,Zt0 hs hz] at h
 refine (Zti 1000 a0).trans ?_
 have h':Uaa (Zby PZ a0) 1000 ((0:Int),(zc PZ 38))=some (((36:Nat):Int),a0):=h
 rw [h']
 rfl
def Zbj:Con:=fun args h=>match args,h with
 | [.g a0 25],[]=>some (.a (.g a0 38),.none,true)
 | _,_=>none
theorem Zqr:EntX PZ 57:=Zag (fn:=Tryz.f57) (by kernel_rfl) (by kernel_rfl) (by kernel_rfl)
theorem Zu4:Uab mn PZ 57 Zbj:=(Zaf (N:=1000) (by kernel_rfl) (mkΓ_consX (Zac Ya3) Zub mkΓ_nilX) (fn:=Tryz.f57) (by kernel_rfl) (by kernel_rfl) [([4],[2])]).of (by
 intro ρ h w args vals r e hA hH hr
 unfold Zbj at hr
 split at hr
 ·rename_i a0
  obtain ⟨rfl,rfl,hg2⟩:=BQi hr
  exact Zrw a0 (hA.wt 0 rfl) hg2
 ·cases hr)
def Zcr (a0:Array Value):St:=(⟨.a (.g a0 26) :: .a (.w 0) :: .a (.w 1) :: .a (.w 2) :: .a (.i .i64 (0:Int))::us 11 ([]),[.row a0 26,.row (zc PZ 39) 39,.row (zc PZ 39) 39],[]⟩:St)
def Zdz:Int×Array Value→LS
 | (y0_4,r0_2)=>([.a (.i .i64 (y0_4))],[.row r0_2 39])
def Zhm:Int×Array Value→Exit×LS
 | t=>((.exit 0),Zdz t)
def Zbe (P : Program) (a0 : Array Value) : Int × Array Value → Option (Stp (Int × Array Value) (Int × Array Value))
 | (y0_4, r0_2) => bif decide (y0_4 < (2 : Int)) then (bif (decide (0 ≤ y0_4) && decide (y0_4 < 2)) then (bif (decide (0 ≤ y0_4) && decide (y0_4 < 2)) then (some (.more ((i64.wrap (y0_4 + (1 : Int))), (spl r0_2 ((y0_4).toNat * 180) (a0.extract ((y0_4).toNat * 180) (((y0_4).toNat * 180) + 180)).toList))))
    else (none))
   else (none))
  else (some (.done (y0_4, r0_2)))
def Ud9:=(Uaf (codeOf Tryz.f29) [([4],[2])]).1
theorem Zrm (N:Nat) (a0:Array Value):∀ t:Int×Array Value,Uag PZ (mkΓ [(57,con Zbj)]) N (cAt (codeOf Tryz.f29) [1,1,0,1,0,0]) (pAt Ud9 [1,1,0,1,0]) [4] [2] (Zcr a0) (Zdz t)=mapS Zdz Zhm (Zbe PZ a0 t):=by
 rintro ⟨y0_4,r0_2⟩
 refine Eq.trans (b:=(bif decide (y0_4<(2:Int)) then (bif (decide (0≤y0_4)&&decide (y0_4<2)) then (bif (decide (0≤y0_4)&&decide (y0_4<2)) then (some (.more ([.a (.i .i64 (i64.wrap (y0_4+(1:Int))))],[.row (spl r0_2 ((y0_4).toNat*180) (a0.extract ((y0_4).toNat*180) (((y0_4).toNat*180)+180)).toList) 39])))
    else (none))
   else (none))
  else (some (.done ((.exit 0),([.a (.i .i64 (y0_4))],[.row r0_2 39])))))) (by kernel_rfl) ?_
 simp only [Zbe,Zaz,Zay,Za1,Za0,Zdz,Zhm]
def Zgd (P:Program) (N:Nat) (a0:Array Value) (z0_4:Int) (q0_2:Array Value):Option (SV×Eff×Bool):=some (.a (.g q0_2 39),.none,true)
def Ufr (N:Nat):=(Uan 0 (kSeq (veC PZ (mkΓ [(57,con Zbj)]) N (cAt (codeOf Tryz.f29) [1,1,1]) (pAt Ud9 [1,1,1]) (SV×Eff×Bool)) (finK PZ [] [.cell 2 39])))
theorem Zni (N:Nat) (a0:Array Value) (z0_4:Int) (q0_2:Array Value):(Ufr N) (.exit 0) (left (writes (cAt (codeOf Tryz.f29) [1,1,0,1,0,0])) [4] [2] (Zcr a0) ([.a (.i .i64 (z0_4))],[.row q0_2 39]))=Zgd PZ N a0 z0_4 q0_2:=by
 refine Eq.trans (b:=(some (.a (.g q0_2 39),.none,true))) (by kernel_rfl) ?_
 rfl
theorem Zrk (N:Nat) (a0:Array Value):Uah (Uaa (Uag PZ (mkΓ [(57,con Zbj)]) N (cAt (codeOf Tryz.f29) [1,1,0,1,0,0]) (pAt Ud9 [1,1,0,1,0]) [4] [2] (Zcr a0)) N ([.a (.i .i64 (0:Int))],[.row (zc PZ 39) 39])) (fun e s=>(Ufr N) e (left (writes (cAt (codeOf Tryz.f29) [1,1,0,1,0,0])) [4] [2] (Zcr a0) s))=Uak (Uaa (Zbe PZ a0) N ((0:Int),(zc PZ 39))) (fun x=>Zgd PZ N a0 x.1 x.2):=by
 refine Zbd Zdz Zhm _ _ (Zrm N a0) N ((0:Int),(zc PZ 39)) _ _ ?_
 intro x;exact Zni N a0 x.1 x.2
theorem Zqh (N:Nat) (a0:Array Value):ansV PZ (mkΓ [(57,con Zbj)]) N Tryz.f29 [([4],[2])] [.g a0 26] []=(Uak (Uaa (Zbe PZ a0) N ((0:Int),(zc PZ 39))) (fun x=>Zgd PZ N a0 x.1 x.2)):=by
 refine Eq.trans (b:=(Uah (Uaa (Uag PZ (mkΓ [(57,con Zbj)]) N (cAt (codeOf Tryz.f29) [1,1,0,1,0,0]) (pAt Ud9 [1,1,0,1,0]) [4] [2] (Zcr a0)) N ([.a (.i .i64 (0:Int))],[.row (zc PZ 39) 39])) (fun e s=>(Ufr N) e (left (writes (cAt (codeOf Tryz.f29) [1,1,0,1,0,0])) [4] [2] (Zcr a0) s)))) (by kernel_rfl) ?_
 simp only [Zrk N a0]
theorem Zp1 (a0:Array Value) (h_a0:WT PZ 26 a0) (hg:(true)=true):ansV PZ (mkΓ [(57,con Zbj)]) 1000 Tryz.f29 [([4],[2])] [.g a0 26] []=some (.a (.g a0 39),.none,true):=by
 have hs:a0.size=(zc PZ 39).size:=by rw [h_a0.layLen];kernel_rfl
 have hz:a0.size=360:=by rw [h_a0.layLen];kernel_rfl
 have hL:∀ k,k<2→(lay PZ 26)[k*180]? = some 4:=by
  intro k hk
  have h:(List.range 2).all (fun k=>(lay PZ 26)[k*180]? == some 4)=true:=by kernel_rfl
  exact eq_of_beq (List.all_eq_true.1 h k (List.mem_range.2 hk))
 have h:=Zcc (g:=Zbe PZ a0) (fun k=>((k:Int),upto a0 (zc PZ 39) (k*180))) (m:=2) (x:=(((2:Nat):Int),upto a0 (zc PZ 39) (2*180))) (N:=1000) (fun k hk=>by
  have h1:decide ((k:Int)<2)=true:=Q3 (by omega)
  have h0:decide (0≤(k:Int))=true:=Q3 (by omega)
  have h3:i64.wrap ((k:Int)+1)=((k+1:Nat):Int):=by rw [IntWalk.i64_in _ (by omega)];omega
  have h4:((k:Int)).toNat=k:=Q9 k
  have h5:spl (upto a0 (zc PZ 39) (k*180)) (k*180) (a0.extract (k*180) (k*180+180)).toList=upto a0 (zc PZ 39) ((k+1)*180):=by
   rw [Nat.add_mul];exact Yc4 hs (by omega) rfl
  simp only [Zbe,h1,h0,Bool.and_self,h4,Q1,h3,h5]) (by
  have h1:decide (((2:Nat):Int)<2)=false:=by decide
  simp only [Zbe,h1,Q2]) (by omega)
 simp only [Nat.zero_mul,Zpu hs,Zt0 hs hz] at h
 refine (Zqh 1000 a0).trans ?_
 have h':Uaa (Zbe PZ a0) 1000 ((0:Int),(zc PZ 39))=some (((2:Nat):Int),a0):=h
 rw [h']
 rfl
def Zg4:Con:=fun args h=>match args,h with
 | [.g a0 26],[]=>some (.a (.g a0 39),.none,true)
 | _,_=>none
theorem Zoz:EntX PZ 29:=Zag (fn:=Tryz.f29) (by kernel_rfl) (by kernel_rfl) (by kernel_rfl)
theorem Zrt:Uab mn PZ 29 Zg4:=(Zaf (N:=1000) (by kernel_rfl) (mkΓ_consX (Zac Zu4) Zqr mkΓ_nilX) (fn:=Tryz.f29) (by kernel_rfl) (by kernel_rfl) [([4],[2])]).of (by
 intro ρ h w args vals r e hA hH hr
 unfold Zg4 at hr
 split at hr
 ·rename_i a0
  obtain ⟨rfl,rfl,hg2⟩:=BQi hr
  exact Zp1 a0 (hA.wt 0 rfl) hg2
 ·cases hr)
def Ybh:Cons:=(mkΓ [(29,con Zg4)])
theorem Yfv (N:Nat) (a0:Array Value):ansV PZ Ybh N Tryz.f9 [] [.g a0 28] []=(some (.a (.g (spl ((((zc PZ 41).setIfInBounds 0 (.int .i8 (num a0 0))).setIfInBounds 1 (.int .i8 (num a0 1))).setIfInBounds 2 (.int .u64 (num a0 2))) 3 (a0.extract 3 (3+360)).toList) 41),.none,true)):=by kernel_rfl
theorem Ydv (a0:Array Value) (h_a0:WT PZ 28 a0) (hg:(true)=true):ansV PZ Ybh 1000 Tryz.f9 [] [.g a0 28] []=some (.a (.g a0 41),.none,true):=by
 have hs:a0.size=(zc PZ 41).size:=by rw [h_a0.layLen];kernel_rfl
 have hz:a0.size=363:=by rw [h_a0.layLen];kernel_rfl
 have e0:(upto a0 (zc PZ 41) 0).setIfInBounds 0 (.int .i8 (num a0 0))=upto a0 (zc PZ 41) 1:=Zqv hs (h_a0.int (k:=.i8) (by kernel_rfl)).1
 rw [Zpu hs] at e0
 have e1:(upto a0 (zc PZ 41) 1).setIfInBounds 1 (.int .i8 (num a0 1))=upto a0 (zc PZ 41) 2:=Zqv hs (h_a0.int (k:=.i8) (by kernel_rfl)).1
 have e2:(upto a0 (zc PZ 41) 2).setIfInBounds 2 (.int .u64 (num a0 2))=upto a0 (zc PZ 41) 3:=Zqv hs (h_a0.int (k:=.u64) (by kernel_rfl)).1
 have e3:spl (upto a0 (zc PZ 41) 3) 3 (a0.extract 3 (3+360)).toList=upto a0 (zc PZ 41) 363:=Yc4 hs (by omega) rfl
 refine (Yfv 1000 a0).trans ?_
 rw [e0,e1,e2,e3,Zt0 hs hz]
def Zo4:Con:=fun args h=>match args,h with
 | [.g a0 28],[]=>some (.a (.g a0 41),.none,true)
 | _,_=>none
theorem Yb8:EntX PZ 9:=Zag (fn:=Tryz.f9) (by kernel_rfl) (by kernel_rfl) (by kernel_rfl)
theorem Yh1:Uab mn PZ 9 Zo4:=(Zaf (N:=1000) (by kernel_rfl) (mkΓ_consX (Zac Zrt) Zoz mkΓ_nilX) (fn:=Tryz.f9) (by kernel_rfl) (by kernel_rfl) []).of (by
 intro ρ h w args vals r e hA hH hr
 unfold Zo4 at hr
 split at hr
 ·rename_i a0
  obtain ⟨rfl,rfl,hg2⟩:=BQi hr
  exact Ydv a0 (hA.wt 0 rfl) hg2
 ·cases hr)
theorem wrap12:∀ k,k<14→i64.wrap ((12:Int)^k*12)=12^(k+1):=by decide
def Zfi (a0:Int):St:=(⟨.a (.i .i64 (a0)) :: .a (.u) :: .a (.i .i64 (0:Int)) :: .a (.i .i64 (1:Int)) :: .a (.i .i64 (0:Int))::us 8 ([]),[],[]⟩:St)
def Zg8:Int×Int→LS
 | (y0_3,y0_4)=>([.a (.i .i64 (y0_3)),.a (.i .i64 (y0_4))],[])
def Zl9:Int×Int→Exit×LS
 | t=>((.exit 0),Zg8 t)
def Zds (P:Program) (a0:Int):Int×Int→Option (Stp (Int×Int) (Int×Int))
 | (y0_3,y0_4)=>bif decide (y0_4<a0) then (some (.more ((i64.wrap (y0_3*(12:Int))),(i64.wrap (y0_4+(1:Int))))))
  else (some (.done (y0_3,y0_4)))
def Uec:=(Uaf (codeOf Tryz.f28) [([3,4],[])]).1
theorem Ybz (N:Nat) (a0:Int):∀ t:Int×Int,Uag PZ (mkΓ []) N (cAt (codeOf Tryz.f28) [1,1,0,1,0,0]) (pAt Uec [1,1,0,1,0]) [3,4] [] (Zfi a0) (Zg8 t)=mapS Zg8 Zl9 (Zds PZ a0 t):=by
 rintro ⟨y0_3,y0_4⟩
 refine Eq.trans (b:=(bif decide (y0_4<a0) then (some (.more ([.a (.i .i64 (i64.wrap (y0_3*(12:Int)))),.a (.i .i64 (i64.wrap (y0_4+(1:Int))))],[])))
  else (some (.done ((.exit 0),([.a (.i .i64 (y0_3)),.a (.i .i64 (y0_4))],[])))))) (by kernel_rfl) ?_
 simp only [Zds,Zaz,Zay,Za1,Za0,Zg8,Zl9]
def Zkl (P:Program) (N:Nat) (a0:Int) (z0_3:Int) (z0_4:Int):Option (SV×Eff×Bool):=some (.a (.i .i64 (z0_3)),.none,true)
def Ufj (N:Nat):=(Uan 0 (kSeq (veC PZ (mkΓ []) N (cAt (codeOf Tryz.f28) [1,1,1]) (pAt Uec [1,1,1]) (SV×Eff×Bool)) (finK PZ [] [.tmp 2])))
theorem Zsn (N:Nat) (a0:Int) (z0_3:Int) (z0_4:Int):(Ufj N) (.exit 0) (left (writes (cAt (codeOf Tryz.f28) [1,1,0,1,0,0])) [3,4] [] (Zfi a0) ([.a (.i .i64 (z0_3)),.a (.i .i64 (z0_4))],[]))=Zkl PZ N a0 z0_3 z0_4:=by
 refine Eq.trans (b:=(some (.a (.i .i64 (z0_3)),.none,true))) (by kernel_rfl) ?_
 rfl
theorem Yb0 (N:Nat) (a0:Int):Uah (Uaa (Uag PZ (mkΓ []) N (cAt (codeOf Tryz.f28) [1,1,0,1,0,0]) (pAt Uec [1,1,0,1,0]) [3,4] [] (Zfi a0)) N ([.a (.i .i64 (1:Int)),.a (.i .i64 (0:Int))],[])) (fun e s=>(Ufj N) e (left (writes (cAt (codeOf Tryz.f28) [1,1,0,1,0,0])) [3,4] [] (Zfi a0) s))=Uak (Uaa (Zds PZ a0) N ((1:Int),(0:Int))) (fun x=>Zkl PZ N a0 x.1 x.2):=by
 refine Zbd Zg8 Zl9 _ _ (Ybz N a0) N ((1:Int),(0:Int)) _ _ ?_
 intro x;exact Zsn N a0 x.1 x.2
theorem Zzp (N:Nat) (a0:Int):ansV PZ (mkΓ []) N Tryz.f28 [([3,4],[])] [.i .i64 (a0)] []=(Uak (Uaa (Zds PZ a0) N ((1:Int),(0:Int))) (fun x=>Zkl PZ N a0 x.1 x.2)):=by
 refine Eq.trans (b:=(Uah (Uaa (Uag PZ (mkΓ []) N (cAt (codeOf Tryz.f28) [1,1,0,1,0,0]) (pAt Uec [1,1,0,1,0]) [3,4] [] (Zfi a0)) N ([.a (.i .i64 (1:Int)),.a (.i .i64 (0:Int))],[])) (fun e s=>(Ufj N) e (left (writes (cAt (codeOf Tryz.f28) [1,1,0,1,0,0])) [3,4] [] (Zfi a0) s)))) (by kernel_rfl) ?_
 simp only [Yb0 N a0]
theorem Zyj (a0:Int) (h_a0:i64.min≤a0∧a0≤i64.max) (hg:((decide (0≤a0)&&decide (a0≤14)))=true):ansV PZ (mkΓ []) 1000 Tryz.f28 [([3,4],[])] [.i .i64 (a0)] []=some (.a (.i .i64 (12^a0.toNat)),.none,true):=by
 simp only [Q7,decide_eq_true_eq] at hg
 obtain ⟨h0,h14⟩:=hg
 obtain ⟨m,rfl⟩:=Int.eq_ofNat_of_zero_le h0
 refine (Zzp 1000 _).trans ?_
 have h:=Zcc (g:=Zds PZ (m:Int)) (fun k=>((12:Int)^k,(k:Int))) (m:=m) (x:=((12:Int)^m,(m:Int))) (N:=1000) (fun k hk=>by
  have h1:decide ((k:Int)<(m:Int))=true:=Q3 (by omega)
  have h2:i64.wrap ((k:Int)+1)=((k+1:Nat):Int):=by rw [IntWalk.i64_in _ (by omega)];omega
  simp only [Zds,h1,Q1,wrap12 k (by omega),h2]) (by
  have h1:decide ((m:Int)<(m:Int))=false:=Q4 (by omega)
  simp only [Zds,h1,Q2]) (by omega)
 have h':Uaa (Zds PZ (m:Int)) 1000 ((1:Int),(0:Int))=some ((12:Int)^m,(m:Int)):=h
 rw [h']
 rfl
def Zll:Con:=fun args h=>match args,h with
 | [.i .i64 a0],[]=>some (.a (.i .i64 (12^a0.toNat)),.none,(decide (0≤a0)&&decide (a0≤14)))
 | _,_=>none
theorem Zv6:EntX PZ 28:=Zag (fn:=Tryz.f28) (by kernel_rfl) (by kernel_rfl) (by kernel_rfl)
theorem Yck:Uab mn PZ 28 Zll:=(Zaf (N:=1000) (by kernel_rfl) mkΓ_nilX (fn:=Tryz.f28) (by kernel_rfl) (by kernel_rfl) [([3,4],[])]).of (by
 intro ρ h w args vals r e hA hH hr
 unfold Zll at hr
 split at hr
 ·rename_i a0
  obtain ⟨rfl,rfl,hg2⟩:=BQi hr
  exact Zyj a0 (hA.rng 0 rfl) hg2
 ·cases hr)
def Zek (a0:Int):St:=(⟨.a (.i .i64 (a0)) :: .a (.u) :: .a (.i .i64 (0:Int)) :: .a (.i .i64 (1:Int)) :: .a (.i .i64 (a0)) :: .a (.i .i64 (0:Int))::us 5 ([]),[],[]⟩:St)
def Zfw:Int×Int→LS
 | (y0_3,y0_5)=>([.a (.i .i64 (y0_3)),.a (.i .i64 (y0_5))],[])
def Zkw:Int×Int→Exit×LS
 | t=>((.exit 0),Zfw t)
def Zcn (P:Program) (a0:Int):Int×Int→Option (Stp (Int×Int) (Int×Int))
 | (y0_3,y0_5)=>bif decide (y0_5<a0) then (some (.more ((i64.wrap (y0_3*(12:Int))),(i64.wrap (y0_5+(1:Int))))))
  else (some (.done (y0_3,y0_5)))
def Ued:=(Uaf (codeOf Tryz.f93) [([3,5],[])]).1
theorem Zx7 (N:Nat) (a0:Int):∀ t:Int×Int,Uag PZ (mkΓ []) N (cAt (codeOf Tryz.f93) [1,1,0,1,0,0]) (pAt Ued [1,1,0,1,0]) [3,5] [] (Zek a0) (Zfw t)=mapS Zfw Zkw (Zcn PZ a0 t):=by
 rintro ⟨y0_3,y0_5⟩
 refine Eq.trans (b:=(bif decide (y0_5<a0) then (some (.more ([.a (.i .i64 (i64.wrap (y0_3*(12:Int)))),.a (.i .i64 (i64.wrap (y0_5+(1:Int))))],[])))
  else (some (.done ((.exit 0),([.a (.i .i64 (y0_3)),.a (.i .i64 (y0_5))],[])))))) (by kernel_rfl) ?_
 simp only [Zcn,Zaz,Zay,Za1,Za0,Zfw,Zkw]
def Zit (P:Program) (N:Nat) (a0:Int) (z0_3:Int) (z0_5:Int):Option (SV×Eff×Bool):=some (.a (.i .i64 (z0_3)),.none,true)
def Uf5 (N:Nat):=(Uan 0 (kSeq (veC PZ (mkΓ []) N (cAt (codeOf Tryz.f93) [1,1,1]) (pAt Ued [1,1,1]) (SV×Eff×Bool)) (finK PZ [] [.tmp 2])))
theorem Zqb (N:Nat) (a0:Int) (z0_3:Int) (z0_5:Int):(Uf5 N) (.exit 0) (left (writes (cAt (codeOf Tryz.f93) [1,1,0,1,0,0])) [3,5] [] (Zek a0) ([.a (.i .i64 (z0_3)),.a (.i .i64 (z0_5))],[]))=Zit PZ N a0 z0_3 z0_5:=by
 refine Eq.trans (b:=(some (.a (.i .i64 (z0_3)),.none,true))) (by kernel_rfl) ?_
 rfl
theorem Zzb (N:Nat) (a0:Int):Uah (Uaa (Uag PZ (mkΓ []) N (cAt (codeOf Tryz.f93) [1,1,0,1,0,0]) (pAt Ued [1,1,0,1,0]) [3,5] [] (Zek a0)) N ([.a (.i .i64 (1:Int)),.a (.i .i64 (0:Int))],[])) (fun e s=>(Uf5 N) e (left (writes (cAt (codeOf Tryz.f93) [1,1,0,1,0,0])) [3,5] [] (Zek a0) s))=Uak (Uaa (Zcn PZ a0) N ((1:Int),(0:Int))) (fun x=>Zit PZ N a0 x.1 x.2):=by
 refine Zbd Zfw Zkw _ _ (Zx7 N a0) N ((1:Int),(0:Int)) _ _ ?_
 intro x;exact Zqb N a0 x.1 x.2
theorem Zvu (N:Nat) (a0:Int):ansV PZ (mkΓ []) N Tryz.f93 [([3,5],[])] [.i .i64 (a0)] []=(Uak (Uaa (Zcn PZ a0) N ((1:Int),(0:Int))) (fun x=>Zit PZ N a0 x.1 x.2)):=by
 refine Eq.trans (b:=(Uah (Uaa (Uag PZ (mkΓ []) N (cAt (codeOf Tryz.f93) [1,1,0,1,0,0]) (pAt Ued [1,1,0,1,0]) [3,5] [] (Zek a0)) N ([.a (.i .i64 (1:Int)),.a (.i .i64 (0:Int))],[])) (fun e s=>(Uf5 N) e (left (writes (cAt (codeOf Tryz.f93) [1,1,0,1,0,0])) [3,5] [] (Zek a0) s)))) (by kernel_rfl) ?_
 simp only [Zzb N a0]
theorem Zuy (a0:Int) (h_a0:i64.min≤a0∧a0≤i64.max) (hg:((decide (0≤a0)&&decide (a0≤14)))=true):ansV PZ (mkΓ []) 1000 Tryz.f93 [([3,5],[])] [.i .i64 (a0)] []=some (.a (.i .i64 (12^a0.toNat)),.none,true):=by
 simp only [Q7,decide_eq_true_eq] at hg
 obtain ⟨h0,h14⟩:=hg
 obtain ⟨m,rfl⟩:=Int.eq_ofNat_of_zero_le h0
 refine (Zvu 1000 _).trans ?_
 have h:=Zcc (g:=Zcn PZ (m:Int)) (fun k=>((12:Int)^k,(k:Int))) (m:=m) (x:=((12:Int)^m,(m:Int))) (N:=1000) (fun k hk=>by
  have h1:decide ((k:Int)<(m:Int))=true:=Q3 (by omega)
  have h2:i64.wrap ((k:Int)+1)=((k+1:Nat):Int):=by rw [IntWalk.i64_in _ (by omega)];omega
  simp only [Zcn,h1,Q1,wrap12 k (by omega),h2]) (by
  have h1:decide ((m:Int)<(m:Int))=false:=Q4 (by omega)
  simp only [Zcn,h1,Q2]) (by omega)
 have h':Uaa (Zcn PZ (m:Int)) 1000 ((1:Int),(0:Int))=some ((12:Int)^m,(m:Int)):=h
 rw [h']
 rfl
def Zjp:Con:=fun args h=>match args,h with
 | [.i .i64 a0],[]=>some (.a (.i .i64 (12^a0.toNat)),.none,(decide (0≤a0)&&decide (a0≤14)))
 | _,_=>none
theorem Ztb:EntX PZ 93:=Zag (fn:=Tryz.f93) (by kernel_rfl) (by kernel_rfl) (by kernel_rfl)
theorem Zyk:Uab mn PZ 93 Zjp:=(Zaf (N:=1000) (by kernel_rfl) mkΓ_nilX (fn:=Tryz.f93) (by kernel_rfl) (by kernel_rfl) [([3,5],[])]).of (by
 intro ρ h w args vals r e hA hH hr
 unfold Zjp at hr
 split at hr
 ·rename_i a0
  obtain ⟨rfl,rfl,hg2⟩:=BQi hr
  exact Zuy a0 (hA.rng 0 rfl) hg2
 ·cases hr)
theorem Zoc {x a b:Int} (h:Zaa x a b=true):a≤x∧x≤b:=by
 unfold Zaa at h
 cases h0:decide (x ≥ a) with
 | false=>rw [h0] at h;exact nomatch h
 | true=>rw [h0] at h;exact ⟨of_decide_eq_true h0,of_decide_eq_true h⟩
end
end Go.Proofs.YtohnggmlmglhmaaGreatDoor
