/- The bits of all cells, in company. -/
import Derived.Test.YtdhckffhnkeogaaDoorProg
import Derived.Test.YtdhckffhnkeogaaDoorCxEach
set_option linter.unusedVariables false
set_option linter.unusedSimpArgs false
namespace Go.Proofs.YtdhckffhnkeogaaDoor
open Tryd (f32 f66)
open Go.ChangeShapes Go.WideShapes Go.ChangeAt Go.RowKit Ve Vc
open Tryd (prog)
open IntKind (i64)
set_option maxRecDepth 100000
noncomputable section
variable {mn:Md}
theorem Yeu (S:Array Value) (c:Int):Zal S c=Zaz c S:=by
 unfold Zal Zaz Zab
 by_cases h0:0≤c
 ·have e1:∀ x y:Int,0≤x→0≤y→Zd9 S #[.int .i64 x,.int .i64 y]=(bif decide (x<i64.wrap (num S 0)) then decide (y<i64.wrap (num S 1)) else false):=fun x y hx hy=>by
   show (bif decide (x ≥ 0) then (bif decide (x<i64.wrap (num S 0)) then (bif decide (y ≥ 0) then decide (y<i64.wrap (num S 1)) else false) else false) else false)=_
   rw [Q3 (show x ≥ 0 from hx),Q3 (show y ≥ 0 from hy)]
   cases decide (x<i64.wrap (num S 0))<;>rfl
  by_cases h1:c≤35
  ·have hx:0≤c.tmod 6:=Int.tmod_nonneg 6 h0
   have hy:0≤i64.wrap (c.tdiv 6):=by
    have:c.tdiv 6=c / 6:=Int.tdiv_eq_ediv_of_nonneg h0
    rw [this,IntWalk.i64_in _ (by omega)];omega
   rw [e1 _ _ hx hy,Q3 (show c ≥ 0 from h0),Q3 (show c<36 by omega),Q3 h1]
   rfl
  ·rw [Q4 (show ¬ c<36 by omega),Q4 h1];cases decide (c ≥ 0)<;>rfl
 ·rw [Q4 (show ¬ c ≥ 0 from h0)];rfl
theorem is_range {S:Array Value} {c:Int} (h:Zaz c S=true):0≤c∧c≤35:=by
 unfold Zaz Zab at h
 cases h0:decide (c ≥ 0) with
 | false=>rw [h0] at h;exact nomatch h
 | true=>
  cases h1:decide (c≤35) with
  | false=>rw [h0,h1] at h;exact nomatch h
  | true=>exact ⟨of_decide_eq_true h0,of_decide_eq_true h1⟩
theorem u64_c {c:Int} (hc:0≤c∧c≤35):IntKind.u64.wrap c=c:=by rw [IntKind.wrap_u64];omega
theorem wt_land {T:TypeId} (hL:lay prog T=0::0::7::List.replicate 360 4) {S:Array Value} (h:WT prog T S):0≤num S 2∧num S 2≤18446744073709551615:=(h.int (o:=2) (k:=.u64) (by rw [hL];rfl)).2
theorem Yds:lay prog 42=0::0::7::List.replicate 360 4:=by kernel_rfl
theorem land_of {S:Array Value} (h:WT prog 42 S):0≤num S 2∧num S 2≤18446744073709551615:=wt_land Yds h
theorem Ye3 {S:Array Value} (h:WT prog 42 S) {k:Nat} (hk:k<36):Zaz (k:Int) S=inC (num S 0) (num S 1) k:=by
 obtain ⟨s0,a0,b0⟩:=h.int (o:=0) (k:=.i8) (by kernel_rfl)
 obtain ⟨s1,a1,b1⟩:=h.int (o:=1) (k:=.i8) (by kernel_rfl)
 have e1:IntKind.i8.min = -128:=rfl
 have e2:IntKind.i8.max=127:=rfl
 unfold Zaz Zab inC
 rw [Q3 (show (k:Int) ≥ 0 by omega),Q3 (show (k:Int)≤35 by omega),IntWalk.i64_in (num S 0) (by omega),IntWalk.i64_in (num S 1) (by omega)]
 have h1:((k:Int)).tmod 6=((k % 6:Nat):Int):=by rw [Int.tmod_eq_emod_of_nonneg (by omega)];omega
 have h2:((k:Int)).tdiv 6=((k / 6:Nat):Int):=by rw [Int.tdiv_eq_ediv_of_nonneg (by omega)];omega
 rw [h1,h2,IntWalk.i64_in _ (by omega)]
 simp only [Q1,Q2]
 cases decide (((k % 6:Nat):Int)<num S 0)<;>rfl
theorem Zzk (k:Nat):Zc8 (k:Int)=oneI k:=by unfold Zc8 oneI;rw [Q9]
theorem u64w {k:Nat} (hk:k<36):IntKind.u64.wrap (k:Int)=(k:Int):=u64_c (by omega)
def Zd6 (a0:Array Value):St:=(⟨.a (.w 0) :: .a (.u) :: .a (.i .u64 (0:Int)) :: .a (.i .u64 (0:Int)) :: .a (.i .i64 (0:Int))::us 13 ([]),[.row a0 42],[]⟩:St)
def Zfd:Int×Int→LS
 | (y0_3,y0_4)=>([.a (.i .u64 (y0_3)),.a (.i .i64 (y0_4))],[])
def Zij:Int×Int→Exit×LS
 | t=>((.exit 0),Zfd t)
def Zcy (P : Program) (a0 : Array Value) : Int × Int → Option (Stp (Int × Int) (Int × Int))
 | (y0_3, y0_4) => bif decide (y0_4 < (36 : Int)) then (bif (Zaz y0_4 a0) then (bif decide (0 ≤ (IntKind.u64.wrap y0_4)) then (some (.more ((IntKind.u64.wrap (BitVec.ofInt IntKind.u64.bits y0_3 ||| BitVec.ofInt IntKind.u64.bits (IntKind.u64.wrap ((1 : Int) * 2 ^ (min ((IntKind.u64.wrap y0_4)).toNat IntKind.u64.bits)))).toNat), (i64.wrap (y0_4 + (1 : Int))))))
    else (none))
   else (some (.more (y0_3, (i64.wrap (y0_4 + (1 : Int)))))))
  else (some (.done (y0_3, y0_4)))
noncomputable abbrev cKCxB32:=codeOf f32
def Uc9:=(Uaf cKCxB32 [([3,4],[])]).1
theorem Zs9 (N:Nat) (a0:Array Value):∀ t:Int×Int,Uam prog (mkΓ [(56,con Zc5)]) N (cAt cKCxB32 [1,1,0,1,0,0]) (pAt Uc9 [1,1,0,1,0]) [3,4] [] (Zd6 a0) (Zfd t)=mapS Zfd Zij (Zcy prog a0 t):=by
 rintro ⟨y0_3,y0_4⟩
 refine Eq.trans (b:=(bif decide (y0_4<(36:Int)) then (bif (Zaz y0_4 a0) then (bif decide (0≤(IntKind.u64.wrap y0_4)) then (some (.more ([.a (.i .u64 (IntKind.u64.wrap (BitVec.ofInt IntKind.u64.bits y0_3 ||| BitVec.ofInt IntKind.u64.bits (IntKind.u64.wrap ((1:Int)*2^(min ((IntKind.u64.wrap y0_4)).toNat IntKind.u64.bits)))).toNat)),.a (.i .i64 (i64.wrap (y0_4+(1:Int))))],[])))
    else (none))
   else (some (.more ([.a (.i .u64 (y0_3)),.a (.i .i64 (i64.wrap (y0_4+(1:Int))))],[]))))
  else (some (.done ((.exit 0),([.a (.i .u64 (y0_3)),.a (.i .i64 (y0_4))],[])))))) (by kernel_rfl) ?_
 simp only [Zcy,Zbp,Zbo,Zbm,Zbn,Zfd,Zij]
def Zhx (P:Program) (N:Nat) (a0:Array Value) (z0_3:Int) (z0_4:Int):Option (SV×Eff×Bool):=some (.a (.i .u64 (z0_3)),.none,true)
def Uen (N:Nat) (a0:Array Value):=(Uaz 0 (kSeq (veC prog (mkΓ [(56,con Zc5)]) N (cAt cKCxB32 [1,1,1]) (pAt Uc9 [1,1,1]) (SV×Eff×Bool)) (finK prog [.row a0 42] [.tmp 2])))
theorem Zng (N:Nat) (a0:Array Value) (z0_3:Int) (z0_4:Int):(Uen N a0) (.exit 0) (left (writes (cAt cKCxB32 [1,1,0,1,0,0])) [3,4] [] (Zd6 a0) ([.a (.i .u64 (z0_3)),.a (.i .i64 (z0_4))],[]))=Zhx prog N a0 z0_3 z0_4:=by
 refine Eq.trans (b:=(some (.a (.i .u64 (z0_3)),.none,true))) (by kernel_rfl) ?_
 rfl
theorem Ztb (N:Nat) (a0:Array Value):Uak (Uaa (Uam prog (mkΓ [(56,con Zc5)]) N (cAt cKCxB32 [1,1,0,1,0,0]) (pAt Uc9 [1,1,0,1,0]) [3,4] [] (Zd6 a0)) N ([.a (.i .u64 (0:Int)),.a (.i .i64 (0:Int))],[])) (fun e s=>(Uen N a0) e (left (writes (cAt cKCxB32 [1,1,0,1,0,0])) [3,4] [] (Zd6 a0) s))=Uan (Uaa (Zcy prog a0) N ((0:Int),(0:Int))) (fun x=>Zhx prog N a0 x.1 x.2):=by
 refine Zby Zfd Zij _ _ (Zs9 N a0) N ((0:Int),(0:Int)) _ _ ?_
 intro x;exact Zng N a0 x.1 x.2
theorem Zrr (N:Nat) (a0:Array Value):ansV prog (mkΓ [(56,con Zc5)]) N f32 [([3,4],[])] [.w 0] [.row a0 42]=(Uan (Uaa (Zcy prog a0) N ((0:Int),(0:Int))) (fun x=>Zhx prog N a0 x.1 x.2)):=by
 refine Eq.trans (b:=(Uak (Uaa (Uam prog (mkΓ [(56,con Zc5)]) N (cAt cKCxB32 [1,1,0,1,0,0]) (pAt Uc9 [1,1,0,1,0]) [3,4] [] (Zd6 a0)) N ([.a (.i .u64 (0:Int)),.a (.i .i64 (0:Int))],[])) (fun e s=>(Uen N a0) e (left (writes (cAt cKCxB32 [1,1,0,1,0,0])) [3,4] [] (Zd6 a0) s)))) (by kernel_rfl) ?_
 simp only [Ztb N a0]
theorem Zq5 (a0:Array Value) (h_a0:WT prog 42 a0) (hg:(true)=true):ansV prog (mkΓ [(56,con Zc5)]) 1000 f32 [([3,4],[])] [.w 0] [.row a0 42]=some (.a (.i .u64 (Uay (num a0 0) (num a0 1) 36)),.none,true):=by
 refine (Zrr 1000 a0).trans ?_
 have h:=Yc2 (g:=Zcy prog a0) (fun s k=>(s,(k:Int))) (fun b k=>if inC (num a0 0) (num a0 1) k then orI b (oneI k) else b) (m:=36) (t:=(0:Int)) (x:=(Uay (num a0 0) (num a0 1) 36,36)) (N:=1000) (fun k s hk _=>by
  have h1:decide ((k:Int)<36)=true:=Q3 (by omega)
  have h0:decide (0≤(k:Int))=true:=Q3 (by omega)
  have h3:i64.wrap ((k:Int)+1)=((k+1:Nat):Int):=by rw [IntWalk.i64_in _ (by omega)];omega
  simp only [Zcy,h1,Q1,Ye3 h_a0 hk,u64w hk,h0,h3,Q9]
  cases inC (num a0 0) (num a0 1) k<;>rfl) (by
  have h1:decide (((36:Nat):Int)<36)=false:=by decide
  simp only [Zcy,h1,Q2]
  rfl) (by omega)
 have h':Uaa (Zcy prog a0) 1000 ((0:Int),(0:Int))=some (Uay (num a0 0) (num a0 1) 36,(36:Int)):=h
 rw [h']
 rfl
def Zf7:Con:=fun args h=>match args,h with
 | [.w 0],[.row a0 42]=>some (.a (.i .u64 (Uay (num a0 0) (num a0 1) 36)),.none,true)
 | _,_=>none
theorem Zjk:EntX prog 32:=Zap (fn:=f32)
theorem Zmb:Uab mn prog 32 Zf7:=(ansY (N:=1000) (mkΓ_consX (Zam Zrc) Zl9 mkΓ_nilX) f32 [([3,4],[])]).of (by
 intro ρ h w args vals r e hA hH hr
 unfold Zf7 at hr
 split at hr
 ·rename_i a0
  obtain ⟨rfl,rfl,hg2⟩:=BQi hr
  exact Zq5 a0 (hH.wt 0 rfl) hg2
 ·cases hr)
def Zew:Cons:=(mkΓx [(52,con Zgo)] [(84,Ziq)] [(96,Zea)])
def Zcx (a0:Array Value):St:=(⟨.a (.g a0 42) :: .a (.w 0) :: .a (.i .u64 (0:Int)) :: .a (.w 2) :: .a (.u) :: .a (.g a0 42) :: .a (.c 96 [6,8])::us 6 ([]),[.row a0 42,.no,.row #[.int .u64 (0:Int)] 23,.no,.no,.no,.row #[.int .i64 (num a0 1)] 2,.no,.row #[.int .i64 (num a0 0)] 2,.no,.no],[]⟩:St)
def Zgu:Int→BS
 | r0_2=>([.row #[.int .u64 (r0_2)] 23]:BS)
def Zim:Empty→Exit×BS:=fun x=>nomatch x
def Zd4 (P:Program) (a0:Array Value) (x0:Int):Int→Option (Stp (Int) Empty)
 | r0_2=>bif decide (0≤x0) then (some (.more (IntKind.u64.wrap (BitVec.ofInt IntKind.u64.bits r0_2 ||| BitVec.ofInt IntKind.u64.bits (Zc8 x0)).toNat)))
  else (none)
noncomputable abbrev cKCxB66:=codeOf f66
def Udn:=(Uaf cKCxB66 [([],[2])]).1
theorem Zs6 (N:Nat) (a0:Array Value) (x0:Int):∀ t:Int,stepI prog Zew N (cAt cKCxB66 [1,1,0,1,0,0]) (pAt Udn [1,1,0,1,0]) 11 [2] [7] [(4,7)] (Zcx a0) [.i .i64 (x0)] (Zgu t)=mapS Zgu Zim (Zd4 prog a0 x0 t):=by
 rintro r0_2
 refine Eq.trans (b:=(bif decide (0≤x0) then (some (.more ([.row #[.int .u64 (IntKind.u64.wrap (BitVec.ofInt IntKind.u64.bits r0_2 ||| BitVec.ofInt IntKind.u64.bits (Zc8 x0)).toNat)] 23]:BS)))
  else (none))) (by kernel_rfl) ?_
 simp only [Zd4,Zbp,Zbo,Zbm,Zbn,Zgu,Zim]
def Zhh (P:Program) (N:Nat) (a0:Array Value) (q0_2:Int):Option (SV×Eff×Bool):=some (.a (.i .u64 (q0_2)),.none,true)
def Uco (N:Nat):=(Uaz 0 (kSeq (veC prog Zew N (cAt cKCxB66 [1,1,1]) (pAt Udn [1,1,1]) (SV×Eff×Bool)) (finK prog [] [.tmp 2])))
theorem Znv (N:Nat) (a0:Array Value) (q0_2:Int):(Uco N) .normal (Ub4 [2] (Zcx a0) ([.row #[.int .u64 (q0_2)] 23]:BS))=Zhh prog N a0 q0_2:=by
 refine Eq.trans (b:=(some (.a (.i .u64 (q0_2)),.none,true))) (by kernel_rfl) ?_
 rfl
theorem Ztd (N:Nat) (a0:Array Value):Ufd (Ua7 (fun (x0:Int) (hb:BS)=>stepI prog Zew N (cAt cKCxB66 [1,1,0,1,0,0]) (pAt Udn [1,1,0,1,0]) 11 [2] [7] [(4,7)] (Zcx a0) [.i .i64 (x0)] hb) (Uaq (num a0 0) (num a0 1) 36) ([.row #[.int .u64 (0:Int)] 23]:BS)) (fun hb=>(Uco N) .normal (Ub4 [2] (Zcx a0) hb)) (fun e hb=>(Uco N) e (Ub4 [2] (Zcx a0) hb))=nodeI (Ua7 (Zd4 prog a0) (Uaq (num a0 0) (num a0 1) 36) (0:Int)) (fun x=>Zhh prog N a0 x) (fun x:Empty=>nomatch x):=by
 refine Yfe Zgu Zim _ _ (fun y t=>Zs6 N a0 y t) _ (0:Int) _ _ _ _ ?_ ?_
 ·intro x;exact Znv N a0 x
 ·intro x;exact nomatch x
theorem Zr6 (N:Nat) (a0:Array Value):ansV prog Zew N f66 [([],[2])] [.g a0 42] []=(bif (decide (0≤(num a0 0))&&decide ((num a0 0)≤6)&&(decide (0≤(num a0 1))&&decide ((num a0 1)≤6))) then (nodeI (Ua7 (Zd4 prog a0) (Uaq (num a0 0) (num a0 1) 36) (0:Int)) (fun x=>Zhh prog N a0 x) (fun x:Empty=>nomatch x))
  else (none)):=by
 refine Eq.trans (b:=(bif (decide (0≤(num a0 0))&&decide ((num a0 0)≤6)&&(decide (0≤(num a0 1))&&decide ((num a0 1)≤6))) then (Ufd (Ua7 (fun (x0:Int) (hb:BS)=>stepI prog Zew N (cAt cKCxB66 [1,1,0,1,0,0]) (pAt Udn [1,1,0,1,0]) 11 [2] [7] [(4,7)] (Zcx a0) [.i .i64 (x0)] hb) (Uaq (num a0 0) (num a0 1) 36) ([.row #[.int .u64 (0:Int)] 23]:BS)) (fun hb=>(Uco N) .normal (Ub4 [2] (Zcx a0) hb)) (fun e hb=>(Uco N) e (Ub4 [2] (Zcx a0) hb)))
  else (none))) (by kernel_rfl) ?_
 simp only [Ztd N a0]
theorem Zrh (a0:Array Value) (h_a0:WT prog 42 a0) (hg:((decide (0≤num a0 0)&&decide (num a0 0≤6)&&(decide (0≤num a0 1)&&decide (num a0 1≤6))))=true):ansV prog Zew 1000 f66 [([],[2])] [.g a0 42] []=some (.a (.i .u64 (Uay (num a0 0) (num a0 1) 36)),.none,true):=by
 refine (Zr6 1000 a0).trans ?_
 have h:=Yc9 (X:=Empty) (g:=Zd4 prog a0) (fun b k=>orI b (oneI k)) (wd:=num a0 0) (hi:=num a0 1) (fun s k hk _=>by
  have h0:decide (0≤(k:Int))=true:=Q3 (by omega)
  simp only [Zd4,h0,Q1,Zzk]
  rfl) (0:Int)
 simp only [hg,Q1,h]
 rfl
def Zh8:Con:=fun args h=>match args,h with
 | [.g a0 42],[]=>some (.a (.i .u64 (Uay (num a0 0) (num a0 1) 36)),.none,(decide (0≤num a0 0)&&decide (num a0 0≤6)&&(decide (0≤num a0 1)&&decide (num a0 1≤6))))
 | _,_=>none
theorem Zpv:EntX prog 66:=Zap (fn:=f66)
theorem Ztm:Uab mn prog 66 Zh8:=(ansY (N:=1000) (mkΓx_cX (Zam Zq9) Zmc (mkΓx_nX Zrm Zpt (mkΓx_iX Zph Zm9 mkΓx_nilX))) f66 [([],[2])]).of (by
 intro ρ h w args vals r e hA hH hr
 unfold Zh8 at hr
 split at hr
 ·rename_i a0
  obtain ⟨rfl,rfl,hg2⟩:=BQi hr
  exact Zrh a0 (hA.wt 0 rfl) hg2
 ·cases hr)
theorem Zwo {S:Array Value} {k:Nat} (hk:k<36):Zdb S (k:Int)=bitI (num S 2) k:=by
 have h:=bit_test (c:=num S 2) (j:=k) (by omega)
 rw [← h,← Zzk]
 rfl
theorem Yd7 {S:Array Value} (hS:WT prog 42 S) {k:Nat} (hk:k<36):Zcn (k:Int) S=bitI (num S 2) k:=by
 have h:=bit_shr (c:=num S 2) (land_of hS) (k:=k) (by omega)
 rw [← h]
 unfold Zcn
 rw [u64w hk,Q9]
theorem land_dry {S:Array Value} (hS:WT prog 42 S) {k:Nat} (hk:k<36):Zdb S (k:Int)=Zcn (k:Int) S:=by rw [Zwo hk,Yd7 hS hk]
end
end Go.Proofs.YtdhckffhnkeogaaDoor
