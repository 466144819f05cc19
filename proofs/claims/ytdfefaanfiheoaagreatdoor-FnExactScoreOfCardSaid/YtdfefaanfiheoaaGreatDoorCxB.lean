/- The bits of all cells, in company. -/
import Derived.Test.YtdfefaanfiheoaaGreatDoorProg
import Derived.Test.YtdfefaanfiheoaaGreatDoorCxEachWater
namespace Go.Proofs.YtdfefaanfiheoaaGreatDoor
open Go.ChangeShapes Go.WideShapes Go.ChangeAt Go.RowKit Ve Vc
open Tryz renaming prog → PZ
open IntKind (i64)
set_option linter.unusedVariables false
set_option linter.unusedSimpArgs false
set_option maxRecDepth 100000
noncomputable section
variable {mn:Md}
theorem Zqa (S:Array Value) (c:Int):Zam S c=Zab c S:=by
 unfold Zam Zab Zaa
 by_cases h0:0≤c
 ·have e1:∀ x y:Int,0≤x→0≤y→Zap S #[.int .i64 x,.int .i64 y]=(bif decide (x<i64.wrap (num S 0)) then decide (y<i64.wrap (num S 1)) else false):=fun x y hx hy=>by
   show (bif decide (x ≥ 0) then (bif decide (x<i64.wrap (num S 0)) then (bif decide (y ≥ 0) then decide (y<i64.wrap (num S 1)) else false) else false) else false)=_
   rw [Q3 (show x ≥ 0 from hx),Q3 (show y ≥ 0 from hy)]
   cases decide (x<i64.wrap (num S 0))<;>rfl
  by_cases h1:c≤35
  ·have hx:0≤c.tmod 6:=Int.tmod_nonneg 6 h0
   have hy:0≤i64.wrap (c.tdiv 6):=by
    have:c.tdiv 6=c / 6:=Int.tdiv_eq_ediv_of_nonneg h0
    rw [this,IntWalk.i64_in _ (by omega)];omega
   rw [e1 _ _ hx hy,Q3 (show c ≥ 0 from h0),Q3 (show c<36 by omega),Q3 h1]
   rfl
  ·rw [Q4 (show ¬ c<36 by omega),Q4 h1];cases decide (c ≥ 0)<;>rfl
 ·rw [Q4 (show ¬ c ≥ 0 from h0)];rfl
theorem Zhl {S:Array Value} {c:Int} (h:Zab c S=true):0≤c∧c≤35:=by
 unfold Zab Zaa at h
 cases h0:decide (c ≥ 0) with
 | false=>rw [h0] at h;exact nomatch h
 | true=>
  cases h1:decide (c≤35) with
  | false=>rw [h0,h1] at h;exact nomatch h
  | true=>exact ⟨of_decide_eq_true h0,of_decide_eq_true h1⟩
theorem u64_c {c:Int} (hc:0≤c∧c≤35):IntKind.u64.wrap c=c:=by rw [IntKind.wrap_u64];omega
theorem wt_land {T:TypeId} (hL:lay PZ T=0::0::7::List.replicate 360 4) {S:Array Value} (h:WT PZ T S):0≤num S 2∧num S 2≤18446744073709551615:=(h.int (o:=2) (k:=.u64) (by rw [hL];rfl)).2
theorem Yj3:lay PZ 37=0::0::7::List.replicate 360 4:=by kernel_rfl
theorem Yo5 {S:Array Value} (h:WT PZ 37 S):0≤num S 2∧num S 2≤18446744073709551615:=wt_land Yj3 h
theorem Yjt {S:Array Value} (h:WT PZ 37 S) {k:Nat} (hk:k<36):Zab (k:Int) S=inC (num S 0) (num S 1) k:=by
 obtain ⟨s0,a0,b0⟩:=h.int (o:=0) (k:=.i8) (by kernel_rfl)
 obtain ⟨s1,a1,b1⟩:=h.int (o:=1) (k:=.i8) (by kernel_rfl)
 have e1:IntKind.i8.min = -128:=rfl
 have e2:IntKind.i8.max=127:=rfl
 unfold Zab Zaa inC
 rw [Q3 (show (k:Int) ≥ 0 by omega),Q3 (show (k:Int)≤35 by omega),IntWalk.i64_in (num S 0) (by omega),IntWalk.i64_in (num S 1) (by omega)]
 have h1:((k:Int)).tmod 6=((k % 6:Nat):Int):=by rw [Int.tmod_eq_emod_of_nonneg (by omega)];omega
 have h2:((k:Int)).tdiv 6=((k / 6:Nat):Int):=by rw [Int.tdiv_eq_ediv_of_nonneg (by omega)];omega
 rw [h1,h2,IntWalk.i64_in _ (by omega)]
 simp only [Q1,Q2]
 cases decide (((k % 6:Nat):Int)<num S 0)<;>rfl
theorem Yi9 (k:Nat):Zdy (k:Int)=oneI k:=by unfold Zdy oneI;rw [Q9]
theorem u64w {k:Nat} (hk:k<36):IntKind.u64.wrap (k:Int)=(k:Int):=u64_c (by omega)
def Zen (a0:Array Value):St:=(⟨.a (.w 0) :: .a (.u) :: .a (.i .u64 (0:Int)) :: .a (.i .u64 (0:Int)) :: .a (.i .i64 (0:Int))::us 13 ([]),[.row a0 37],[]⟩:St)
def Zgg:Int×Int→LS
 | (y0_3,y0_4)=>([.a (.i .u64 (y0_3)),.a (.i .i64 (y0_4))],[])
def Zln:Int×Int→Exit×LS
 | t=>((.exit 0),Zgg t)
def Zcy (P : Program) (a0 : Array Value) : Int × Int → Option (Stp (Int × Int) (Int × Int))
 | (y0_3, y0_4) => bif decide (y0_4 < (36 : Int)) then (bif (Zab y0_4 a0) then (bif decide (0 ≤ (IntKind.u64.wrap y0_4)) then (some (.more ((IntKind.u64.wrap (BitVec.ofInt IntKind.u64.bits y0_3 ||| BitVec.ofInt IntKind.u64.bits (IntKind.u64.wrap ((1 : Int) * 2 ^ (min ((IntKind.u64.wrap y0_4)).toNat IntKind.u64.bits)))).toNat), (i64.wrap (y0_4 + (1 : Int))))))
    else (none))
   else (some (.more (y0_3, (i64.wrap (y0_4 + (1 : Int)))))))
  else (some (.done (y0_3, y0_4)))
def Ufm:=(Uaa (codeOf Tryz.f69) [([3,4],[])]).1
theorem Ya9 (N:Nat) (a0:Array Value):∀ t:Int×Int,Uag PZ (mkΓ [(72,con Zbo)]) N (cAt (codeOf Tryz.f69) [1,1,0,1,0,0]) (pAt Ufm [1,1,0,1,0]) [3,4] [] (Zen a0) (Zgg t)=mapS Zgg Zln (Zcy PZ a0 t):=by
 rintro ⟨y0_3,y0_4⟩
 refine Eq.trans (b:=(bif decide (y0_4<(36:Int)) then (bif (Zab y0_4 a0) then (bif decide (0≤(IntKind.u64.wrap y0_4)) then (some (.more ([.a (.i .u64 (IntKind.u64.wrap (BitVec.ofInt IntKind.u64.bits y0_3 ||| BitVec.ofInt IntKind.u64.bits (IntKind.u64.wrap ((1:Int)*2^(min ((IntKind.u64.wrap y0_4)).toNat IntKind.u64.bits)))).toNat)),.a (.i .i64 (i64.wrap (y0_4+(1:Int))))],[])))
    else (none))
   else (some (.more ([.a (.i .u64 (y0_3)),.a (.i .i64 (i64.wrap (y0_4+(1:Int))))],[]))))
  else (some (.done ((.exit 0),([.a (.i .u64 (y0_3)),.a (.i .i64 (y0_4))],[])))))) (by kernel_rfl) ?_
 simp only [Zcy,Zas,Zat,Zar,Zaq,Zgg,Zln]
def Zji (P:Program) (N:Nat) (a0:Array Value) (z0_3:Int) (z0_4:Int):Option (SV×Eff×Bool):=some (.a (.i .u64 (z0_3)),.none,true)
def Uf9 (N:Nat) (a0:Array Value):=(Uad 0 (kSeq (veC PZ (mkΓ [(72,con Zbo)]) N (cAt (codeOf Tryz.f69) [1,1,1]) (pAt Ufm [1,1,1]) (SV×Eff×Bool)) (finK PZ [.row a0 37] [.tmp 2])))
theorem Zrh (N:Nat) (a0:Array Value) (z0_3:Int) (z0_4:Int):(Uf9 N a0) (.exit 0) (left (writes (cAt (codeOf Tryz.f69) [1,1,0,1,0,0])) [3,4] [] (Zen a0) ([.a (.i .u64 (z0_3)),.a (.i .i64 (z0_4))],[]))=Zji PZ N a0 z0_3 z0_4:=by
 refine Eq.trans (b:=(some (.a (.i .u64 (z0_3)),.none,true))) (by kernel_rfl) ?_
 rfl
theorem Ybc (N:Nat) (a0:Array Value):Uah (Uab (Uag PZ (mkΓ [(72,con Zbo)]) N (cAt (codeOf Tryz.f69) [1,1,0,1,0,0]) (pAt Ufm [1,1,0,1,0]) [3,4] [] (Zen a0)) N ([.a (.i .u64 (0:Int)),.a (.i .i64 (0:Int))],[])) (fun e s=>(Uf9 N a0) e (left (writes (cAt (codeOf Tryz.f69) [1,1,0,1,0,0])) [3,4] [] (Zen a0) s))=Uai (Uab (Zcy PZ a0) N ((0:Int),(0:Int))) (fun x=>Zji PZ N a0 x.1 x.2):=by
 refine Zav Zgg Zln _ _ (Ya9 N a0) N ((0:Int),(0:Int)) _ _ ?_
 intro x;exact Zrh N a0 x.1 x.2
theorem Zy8 (N:Nat) (a0:Array Value):ansV PZ (mkΓ [(72,con Zbo)]) N Tryz.f69 [([3,4],[])] [.w 0] [.row a0 37]=(Uai (Uab (Zcy PZ a0) N ((0:Int),(0:Int))) (fun x=>Zji PZ N a0 x.1 x.2)):=by
 refine Eq.trans (b:=(Uah (Uab (Uag PZ (mkΓ [(72,con Zbo)]) N (cAt (codeOf Tryz.f69) [1,1,0,1,0,0]) (pAt Ufm [1,1,0,1,0]) [3,4] [] (Zen a0)) N ([.a (.i .u64 (0:Int)),.a (.i .i64 (0:Int))],[])) (fun e s=>(Uf9 N a0) e (left (writes (cAt (codeOf Tryz.f69) [1,1,0,1,0,0])) [3,4] [] (Zen a0) s)))) (by kernel_rfl) ?_
 simp only [Ybc N a0]
theorem Zuu (a0:Array Value) (h_a0:WT PZ 37 a0) (hg:(true)=true):ansV PZ (mkΓ [(72,con Zbo)]) 1000 Tryz.f69 [([3,4],[])] [.w 0] [.row a0 37]=some (.a (.i .u64 (Ua0 (num a0 0) (num a0 1) 36)),.none,true):=by
 refine (Zy8 1000 a0).trans ?_
 have h:=Zhu (g:=Zcy PZ a0) (fun s k=>(s,(k:Int))) (fun b k=>if inC (num a0 0) (num a0 1) k then orI b (oneI k) else b) (m:=36) (t:=(0:Int)) (x:=(Ua0 (num a0 0) (num a0 1) 36,36)) (N:=1000) (fun k s hk _=>by
  have h1:decide ((k:Int)<36)=true:=Q3 (by omega)
  have h0:decide (0≤(k:Int))=true:=Q3 (by omega)
  have h3:i64.wrap ((k:Int)+1)=((k+1:Nat):Int):=by rw [IntWalk.i64_in _ (by omega)];omega
  simp only [Zcy,h1,Q1,Yjt h_a0 hk,u64w hk,h0,h3,Q9]
  cases inC (num a0 0) (num a0 1) k<;>rfl) (by
  have h1:decide (((36:Nat):Int)<36)=false:=by decide
  simp only [Zcy,h1,Q2]
  rfl) (by omega)
 have h':Uab (Zcy PZ a0) 1000 ((0:Int),(0:Int))=some (Ua0 (num a0 0) (num a0 1) 36,(36:Int)):=h
 rw [h']
 rfl
def Zj7:Con:=fun args h=>match args,h with
 | [.w 0],[.row a0 37]=>some (.a (.i .u64 (Ua0 (num a0 0) (num a0 1) 36)),.none,true)
 | _,_=>none
theorem Zup:EntX PZ 69:=Zah (fn:=Tryz.f69) (by kernel_rfl) (by kernel_rfl) (by kernel_rfl)
theorem Yau:Uac mn PZ 69 Zj7:=(Zai (N:=1000) (by kernel_rfl) (mkΓ_consX (Zae Zjt) Zge mkΓ_nilX) (fn:=Tryz.f69) (by kernel_rfl) (by kernel_rfl) [([3,4],[])]).of (by
 intro ρ h w args vals r e hA hH hr
 unfold Zj7 at hr
 split at hr
 ·rename_i a0
  obtain ⟨rfl,rfl,hg2⟩:=BQi hr
  exact Zuu a0 (hH.wt 0 rfl) hg2
 ·cases hr)
def Zfr:Cons:=(mkΓx [(102,con Zif)] [(111,Zgh)] [(118,Ze3)])
def Zcu (a0:Array Value):St:=(⟨.a (.g a0 37) :: .a (.w 0) :: .a (.i .u64 (0:Int)) :: .a (.w 2) :: .a (.u) :: .a (.g a0 37) :: .a (.c 118 [6,8])::us 6 ([]),[.row a0 37,.no,.row #[.int .u64 (0:Int)] 23,.no,.no,.no,.row #[.int .i64 (num a0 1)] 2,.no,.row #[.int .i64 (num a0 0)] 2,.no,.no],[]⟩:St)
def Zio:Int→BS
 | r0_2=>([.row #[.int .u64 (r0_2)] 23]:BS)
def Zlj:Empty→Exit×BS:=fun x=>nomatch x
def Zeq (P:Program) (a0:Array Value) (x0:Int):Int→Option (Stp (Int) Empty)
 | r0_2=>bif decide (0≤x0) then (some (.more (IntKind.u64.wrap (BitVec.ofInt IntKind.u64.bits r0_2 ||| BitVec.ofInt IntKind.u64.bits (Zdy x0)).toNat)))
  else (none)
def Ufh:=(Uaa (codeOf Tryz.f98) [([],[2])]).1
theorem Ybj (N:Nat) (a0:Array Value) (x0:Int):∀ t:Int,Ud6 PZ Zfr N (cAt (codeOf Tryz.f98) [1,1,0,1,0,0]) (pAt Ufh [1,1,0,1,0]) 11 [2] [7] [(4,7)] (Zcu a0) [.i .i64 (x0)] (Zio t)=mapS Zio Zlj (Zeq PZ a0 x0 t):=by
 rintro r0_2
 refine Eq.trans (b:=(bif decide (0≤x0) then (some (.more ([.row #[.int .u64 (IntKind.u64.wrap (BitVec.ofInt IntKind.u64.bits r0_2 ||| BitVec.ofInt IntKind.u64.bits (Zdy x0)).toNat)] 23]:BS)))
  else (none))) (by kernel_rfl) ?_
 simp only [Zeq,Zas,Zat,Zar,Zaq,Zio,Zlj]
def Zjs (P:Program) (N:Nat) (a0:Array Value) (q0_2:Int):Option (SV×Eff×Bool):=some (.a (.i .u64 (q0_2)),.none,true)
def Uek (N:Nat):=(Uad 0 (kSeq (veC PZ Zfr N (cAt (codeOf Tryz.f98) [1,1,1]) (pAt Ufh [1,1,1]) (SV×Eff×Bool)) (finK PZ [] [.tmp 2])))
theorem Zqu (N:Nat) (a0:Array Value) (q0_2:Int):(Uek N) .normal (Ube [2] (Zcu a0) ([.row #[.int .u64 (q0_2)] 23]:BS))=Zjs PZ N a0 q0_2:=by
 refine Eq.trans (b:=(some (.a (.i .u64 (q0_2)),.none,true))) (by kernel_rfl) ?_
 rfl
theorem Ya3 (N:Nat) (a0:Array Value):Udd (Ua1 (fun (x0:Int) (hb:BS)=>Ud6 PZ Zfr N (cAt (codeOf Tryz.f98) [1,1,0,1,0,0]) (pAt Ufh [1,1,0,1,0]) 11 [2] [7] [(4,7)] (Zcu a0) [.i .i64 (x0)] hb) (Ual (num a0 0) (num a0 1) 36) ([.row #[.int .u64 (0:Int)] 23]:BS)) (fun hb=>(Uek N) .normal (Ube [2] (Zcu a0) hb)) (fun e hb=>(Uek N) e (Ube [2] (Zcu a0) hb))=Ue6 (Ua1 (Zeq PZ a0) (Ual (num a0 0) (num a0 1) 36) (0:Int)) (fun x=>Zjs PZ N a0 x) (fun x:Empty=>nomatch x):=by
 refine Ydf Zio Zlj _ _ (fun y t=>Ybj N a0 y t) _ (0:Int) _ _ _ _ ?_ ?_
 ·intro x;exact Zqu N a0 x
 ·intro x;exact nomatch x
theorem Zyn (N:Nat) (a0:Array Value):ansV PZ Zfr N Tryz.f98 [([],[2])] [.g a0 37] []=(bif (decide (0≤(num a0 0))&&decide ((num a0 0)≤6)&&(decide (0≤(num a0 1))&&decide ((num a0 1)≤6))) then (Ue6 (Ua1 (Zeq PZ a0) (Ual (num a0 0) (num a0 1) 36) (0:Int)) (fun x=>Zjs PZ N a0 x) (fun x:Empty=>nomatch x))
  else (none)):=by
 refine Eq.trans (b:=(bif (decide (0≤(num a0 0))&&decide ((num a0 0)≤6)&&(decide (0≤(num a0 1))&&decide ((num a0 1)≤6))) then (Udd (Ua1 (fun (x0:Int) (hb:BS)=>Ud6 PZ Zfr N (cAt (codeOf Tryz.f98) [1,1,0,1,0,0]) (pAt Ufh [1,1,0,1,0]) 11 [2] [7] [(4,7)] (Zcu a0) [.i .i64 (x0)] hb) (Ual (num a0 0) (num a0 1) 36) ([.row #[.int .u64 (0:Int)] 23]:BS)) (fun hb=>(Uek N) .normal (Ube [2] (Zcu a0) hb)) (fun e hb=>(Uek N) e (Ube [2] (Zcu a0) hb)))
  else (none))) (by kernel_rfl) ?_
 simp only [Ya3 N a0]
theorem Zxp (a0:Array Value) (h_a0:WT PZ 37 a0) (hg:((decide (0≤num a0 0)&&decide (num a0 0≤6)&&(decide (0≤num a0 1)&&decide (num a0 1≤6))))=true):ansV PZ Zfr 1000 Tryz.f98 [([],[2])] [.g a0 37] []=some (.a (.i .u64 (Ua0 (num a0 0) (num a0 1) 36)),.none,true):=by
 refine (Zyn 1000 a0).trans ?_
 have h:=Ynv (X:=Empty) (g:=Zeq PZ a0) (fun b k=>orI b (oneI k)) (wd:=num a0 0) (hi:=num a0 1) (fun s k hk _=>by
  have h0:decide (0≤(k:Int))=true:=Q3 (by omega)
  simp only [Zeq,h0,Q1,Yi9]
  rfl) (0:Int)
 simp only [hg,Q1,h]
 rfl
def Zkl:Con:=fun args h=>match args,h with
 | [.g a0 37],[]=>some (.a (.i .u64 (Ua0 (num a0 0) (num a0 1) 36)),.none,(decide (0≤num a0 0)&&decide (num a0 0≤6)&&(decide (0≤num a0 1)&&decide (num a0 1≤6))))
 | _,_=>none
theorem Zur:EntX PZ 98:=Zah (fn:=Tryz.f98) (by kernel_rfl) (by kernel_rfl) (by kernel_rfl)
theorem Ya0:Uac mn PZ 98 Zkl:=(Zai (N:=1000) (by kernel_rfl) (mkΓx_cX (Zae Zwr) Zpl (mkΓx_nX Zkg Zir (mkΓx_iX Zuj Zg6 mkΓx_nilX))) (fn:=Tryz.f98) (by kernel_rfl) (by kernel_rfl) [([],[2])]).of (by
 intro ρ h w args vals r e hA hH hr
 unfold Zkl at hr
 split at hr
 ·rename_i a0
  obtain ⟨rfl,rfl,hg2⟩:=BQi hr
  exact Zxp a0 (hA.wt 0 rfl) hg2
 ·cases hr)
theorem Zr6 {S:Array Value} {k:Nat} (hk:k<36):Zac S (k:Int)=bitI (num S 2) k:=by
 have h:=bit_test (c:=num S 2) (j:=k) (by omega)
 rw [← h,← Yi9]
 rfl
theorem Ypt {S:Array Value} (hS:WT PZ 37 S) {k:Nat} (hk:k<36):Zag (k:Int) S=bitI (num S 2) k:=by
 have h:=bit_shr (c:=num S 2) (Yo5 hS) (k:=k) (by omega)
 rw [← h]
 unfold Zag
 rw [u64w hk,Q9]
theorem Ymp {S:Array Value} (hS:WT PZ 37 S) {k:Nat} (hk:k<36):Zac S (k:Int)=Zag (k:Int) S:=by rw [Zr6 hk,Ypt hS hk]
end
end Go.Proofs.YtdfefaanfiheoaaGreatDoor
