/- What a bottle does, hour by hour. -/
import Derived.Test.YtnhilgpdgicgfaaProg
import Derived.Test.YtnhilgpdgicgfaaCxF
namespace Go.Proofs.Ytnhilgpdgicgfaa
open Go.ChangeShapes Go.WideShapes Go.ChangeAt Go.RowKit Ve Vc
open IntKind (i64)
set_option linter.unusedVariables false
set_option linter.unusedSimpArgs false
set_option maxRecDepth 100000
noncomputable section
variable {mn:Md}
noncomputable def impl_bottleCode_G:Cons:=(mkΓ [(66,con impl_spotCode_con),(67,con impl_hasHours_con)])
theorem impl_bottleCode_ans (N:Nat) (a0:Array Value) (a1 a2 a3:Int):ansV Try.prog impl_bottleCode_G N Try.f36 [] [.g a0 37,.i .i64 (a1),.i .i64 (a2),.i .i64 (a3)] []=(bif ((impl_spotCode_v0 a0 a2 a1)==(0:Int)) then (bif (!((impl_hasHours_v0 a3))) then (some (.a (.i .i64 (2:Int)),.none,true))
   else (some (.a (.i .i64 (impl_spotCode_v0 a0 a2 a1)),.none,true)))
  else (some (.a (.i .i64 (impl_spotCode_v0 a0 a2 a1)),.none,true))):=by kernel_rfl
noncomputable def impl_bottleCode_v0 (a0:Array Value) (a1 a2 a3:Int):Int:=(bif ((impl_spotCode_v0 a0 a2 a1)==(0:Int)) then (bif (!((impl_hasHours_v0 a3))) then (2:Int) else (impl_spotCode_v0 a0 a2 a1)) else (impl_spotCode_v0 a0 a2 a1))
theorem impl_bottleCode_main (a0:Array Value) (a1 a2 a3:Int) (h_a0:WT Try.prog 37 a0) (h_a1:i64.min≤a1∧a1≤i64.max) (h_a2:i64.min≤a2∧a2≤i64.max) (h_a3:i64.min≤a3∧a3≤i64.max) (hg:(true)=true):ansV Try.prog impl_bottleCode_G 1000 Try.f36 [] [.g a0 37,.i .i64 (a1),.i .i64 (a2),.i .i64 (a3)] []=some (.a (.i .i64 (impl_bottleCode_v0 a0 a1 a2 a3)),.none,true):=by
 refine (impl_bottleCode_ans 1000 a0 a1 a2 a3).trans ?_
 unfold impl_bottleCode_v0
 revert hg
 generalize (((impl_spotCode_v0 a0 a2 a1)==(0:Int)))=b2
 intro hg
 cases b2
 ·skip
  first | (simp only [cond_true,cond_false,Bool.and_true,Bool.true_and,Bool.and_false,Bool.false_and];done) | rfl | exact (nomatch (hg:false=true))
 ·skip
  revert hg
  generalize ((!((impl_hasHours_v0 a3))))=b4
  intro hg
  cases b4
  ·skip
   first | (simp only [cond_true,cond_false,Bool.and_true,Bool.true_and,Bool.and_false,Bool.false_and];done) | rfl | exact (nomatch (hg:false=true))
  ·skip
   first | (simp only [cond_true,cond_false,Bool.and_true,Bool.true_and,Bool.and_false,Bool.false_and];done) | rfl | exact (nomatch (hg:false=true))
noncomputable def impl_bottleCode_con:Con:=fun args h=>match args,h with
 | [.g a0 37,.i .i64 a1,.i .i64 a2,.i .i64 a3],[]=>some (.a (.i .i64 (impl_bottleCode_v0 a0 a1 a2 a3)),.none,true)
 | _,_=>none
theorem impl_bottleCode_enter:EntX Try.prog 36:=entX_ok (fn:=Try.f36) (by kernel_rfl) (by kernel_rfl) (by kernel_rfl)
theorem impl_bottleCode_ok:ConOkX mn Try.prog 36 impl_bottleCode_con:=(ansX_ok (N:=1000) (by kernel_rfl) (mkΓ_consX (con_okX impl_spotCode_ok) impl_spotCode_enter (mkΓ_consX (con_okX impl_hasHours_ok) impl_hasHours_enter mkΓ_nilX)) (fn:=Try.f36) (by kernel_rfl) (by kernel_rfl) []).of (by
 intro ρ h w args vals r e hA hH hr
 unfold impl_bottleCode_con at hr
 split at hr
 ·rename_i a0 a1 a2 a3
  obtain ⟨rfl,hg⟩:=Prod.mk.inj (Option.some.inj hr)
  obtain ⟨rfl,hg2⟩:=Prod.mk.inj hg
  exact impl_bottleCode_main a0 a1 a2 a3 (hA.wt 0 rfl) (hA.rng 1 rfl) (hA.rng 2 rfl) (hA.rng 3 rfl) hg2
 ·cases hr)
theorem impl_hasBottles_ans (N:Nat) (a0 a1:Int):ansV Try.prog (mkΓ []) N Try.f40 [] [.i .i64 (a0),.i .i64 (a1)] []=(bif decide (a0 ≥ (1:Int)) then (some (.a (.b (decide (a0≤a1))),.none,true))
  else (some (.a (.b (false)),.none,true))):=by kernel_rfl
noncomputable def impl_hasBottles_v0 (a0 a1:Int):Bool:=(bif decide (a0 ≥ (1:Int)) then decide (a0≤a1) else false)
theorem impl_hasBottles_main (a0 a1:Int) (h_a0:i64.min≤a0∧a0≤i64.max) (h_a1:i64.min≤a1∧a1≤i64.max) (hg:(true)=true):ansV Try.prog (mkΓ []) 1000 Try.f40 [] [.i .i64 (a0),.i .i64 (a1)] []=some (.a (.b ((impl_hasBottles_v0 a0 a1))),.none,true):=by
 refine (impl_hasBottles_ans 1000 a0 a1).trans ?_
 unfold impl_hasBottles_v0
 revert hg
 generalize (decide (a0 ≥ (1:Int)))=b2
 intro hg
 cases b2
 ·skip
  first | (simp only [cond_true,cond_false,Bool.and_true,Bool.true_and,Bool.and_false,Bool.false_and];done) | rfl | exact (nomatch (hg:false=true))
 ·skip
  first | (simp only [cond_true,cond_false,Bool.and_true,Bool.true_and,Bool.and_false,Bool.false_and];done) | rfl | exact (nomatch (hg:false=true))
noncomputable def impl_hasBottles_con:Con:=fun args h=>match args,h with
 | [.i .i64 a0,.i .i64 a1],[]=>some (.a (.b ((impl_hasBottles_v0 a0 a1))),.none,true)
 | _,_=>none
theorem impl_hasBottles_enter:EntX Try.prog 40:=entX_ok (fn:=Try.f40) (by kernel_rfl) (by kernel_rfl) (by kernel_rfl)
theorem impl_hasBottles_ok:ConOkX mn Try.prog 40 impl_hasBottles_con:=(ansX_ok (N:=1000) (by kernel_rfl) mkΓ_nilX (fn:=Try.f40) (by kernel_rfl) (by kernel_rfl) []).of (by
 intro ρ h w args vals r e hA hH hr
 unfold impl_hasBottles_con at hr
 split at hr
 ·rename_i a0 a1
  obtain ⟨rfl,hg⟩:=Prod.mk.inj (Option.some.inj hr)
  obtain ⟨rfl,hg2⟩:=Prod.mk.inj hg
  exact impl_hasBottles_main a0 a1 (hA.rng 0 rfl) (hA.rng 1 rfl) hg2
 ·cases hr)
noncomputable def spec_l02Begun_G:Cons:=(mkΓ [(39,con spec_l00In_con),(61,con spec_l01Asked_con),(62,con spec_l01Tide_con)])
theorem spec_l02Begun_ans (N:Nat) (a1 a2 a3:Int) (a0:Array Value):ansV Try.prog spec_l02Begun_G N Try.f33 [] [.w 0,.i .i64 (a1),.i .i64 (a2),.i .i64 (a3)] [.row a0 37]=(bif ((spec_l01Asked_v0 a1 a0)==(0:Int)) then (bif (!((spec_l00In_v0 a2 (0:Int) (1:Int)))) then (some (.a (.i .i64 (2:Int)),.none,true))
   else (bif (!((spec_l00In_v0 a3 (0:Int) (14:Int)))) then (some (.a (.i .i64 (2:Int)),.none,true))
    else (some (.a (.i .i64 (spec_l01Asked_v0 a1 a0)),.none,true))))
  else (some (.a (.i .i64 (spec_l01Asked_v0 a1 a0)),.none,true))):=by kernel_rfl
noncomputable def spec_l02Begun_v0 (a1 a2 a3:Int) (a0:Array Value):Int:=(bif ((spec_l01Asked_v0 a1 a0)==(0:Int)) then (bif (!((spec_l00In_v0 a2 (0:Int) (1:Int)))) then (2:Int) else (bif (!((spec_l00In_v0 a3 (0:Int) (14:Int)))) then (2:Int) else (spec_l01Asked_v0 a1 a0))) else (spec_l01Asked_v0 a1 a0))
theorem spec_l02Begun_main (a1 a2 a3:Int) (a0:Array Value) (h_a1:i64.min≤a1∧a1≤i64.max) (h_a2:i64.min≤a2∧a2≤i64.max) (h_a3:i64.min≤a3∧a3≤i64.max) (h_a0:WT Try.prog 37 a0) (hg:(true)=true):ansV Try.prog spec_l02Begun_G 1000 Try.f33 [] [.w 0,.i .i64 (a1),.i .i64 (a2),.i .i64 (a3)] [.row a0 37]=some (.a (.i .i64 (spec_l02Begun_v0 a1 a2 a3 a0)),.none,true):=by
 refine (spec_l02Begun_ans 1000 a1 a2 a3 a0).trans ?_
 unfold spec_l02Begun_v0
 revert hg
 generalize (((spec_l01Asked_v0 a1 a0)==(0:Int)))=b2
 intro hg
 cases b2
 ·skip
  first | (simp only [cond_true,cond_false,Bool.and_true,Bool.true_and,Bool.and_false,Bool.false_and];done) | rfl | exact (nomatch (hg:false=true))
 ·skip
  revert hg
  generalize ((!((spec_l00In_v0 a2 (0:Int) (1:Int)))))=b4
  intro hg
  cases b4
  ·skip
   revert hg
   generalize ((!((spec_l00In_v0 a3 (0:Int) (14:Int)))))=b6
   intro hg
   cases b6
   ·skip
    first | (simp only [cond_true,cond_false,Bool.and_true,Bool.true_and,Bool.and_false,Bool.false_and];done) | rfl | exact (nomatch (hg:false=true))
   ·skip
    first | (simp only [cond_true,cond_false,Bool.and_true,Bool.true_and,Bool.and_false,Bool.false_and];done) | rfl | exact (nomatch (hg:false=true))
  ·skip
   first | (simp only [cond_true,cond_false,Bool.and_true,Bool.true_and,Bool.and_false,Bool.false_and];done) | rfl | exact (nomatch (hg:false=true))
noncomputable def spec_l02Begun_con:Con:=fun args h=>match args,h with
 | [.w 0,.i .i64 a1,.i .i64 a2,.i .i64 a3],[.row a0 37]=>some (.a (.i .i64 (spec_l02Begun_v0 a1 a2 a3 a0)),.none,true)
 | _,_=>none
theorem spec_l02Begun_enter:EntX Try.prog 33:=entX_ok (fn:=Try.f33) (by kernel_rfl) (by kernel_rfl) (by kernel_rfl)
theorem spec_l02Begun_ok:ConOkX mn Try.prog 33 spec_l02Begun_con:=(ansX_ok (N:=1000) (by kernel_rfl) (mkΓ_consX (con_okX spec_l00In_ok) spec_l00In_enter (mkΓ_consX (con_okX spec_l01Asked_ok) spec_l01Asked_enter (mkΓ_consX (con_okX spec_l01Tide_ok) spec_l01Tide_enter mkΓ_nilX))) (fn:=Try.f33) (by kernel_rfl) (by kernel_rfl) []).of (by
 intro ρ h w args vals r e hA hH hr
 unfold spec_l02Begun_con at hr
 split at hr
 ·rename_i a1 a2 a3 a0
  obtain ⟨rfl,hg⟩:=Prod.mk.inj (Option.some.inj hr)
  obtain ⟨rfl,hg2⟩:=Prod.mk.inj hg
  exact spec_l02Begun_main a1 a2 a3 a0 (hA.rng 1 rfl) (hA.rng 2 rfl) (hA.rng 3 rfl) (hH.wt 0 rfl) hg2
 ·cases hr)
noncomputable def impl_drawing_rc:Con:=conNC (inlV Try.prog (mkΓ []) 0 Try.f38 [])
theorem impl_drawing_enter:EntX Try.prog 38:=entX_ok (fn:=Try.f38) (by kernel_rfl) (by kernel_rfl) (by kernel_rfl)
theorem inC_of {w h:Int} {k:Nat} (h1:((k % 6:Nat):Int)<w) (h2:((k / 6:Nat):Int)<h):inC w h k=true:=by
 unfold inC;rw [decide_eq_true h1,decide_eq_true h2];rfl
theorem gw_in {S:Array Value} (h0:1≤num S 0∧num S 0≤6∧1≤num S 1∧num S 1≤6) {k:Nat} (hk:k<36) (hi:inC (num S 0) (num S 1) k=true) (w:Nat) (hw:w<5) (hn:gw S k w ≠ -1):inC (num S 0) (num S 1) (gw S k w).toNat=true:=by
 obtain ⟨hx,hy⟩:=inC_lt hi
 obtain ⟨a1,a2,a3,a4⟩:=h0
 match w,hw with
 | 0,_=>exact hi
 | 1,_=>
  simp only [gw] at hn⊢
  by_cases c:6≤k
  ·simp only [c,decide_true,cond_true]
   rw [show ((k:Int) - 6).toNat=k - 6 by omega]
   exact inC_of (by omega) (by omega)
  ·simp [c] at hn
 | 2,_=>
  simp only [gw] at hn⊢
  by_cases c:((k % 6:Nat):Int)+1<num S 0
  ·simp only [decide_eq_true c,cond_true]
   rw [show ((k:Int)+1).toNat=k+1 by omega]
   exact inC_of (by omega) (by omega)
  ·simp only [decide_eq_false c,cond_false] at hn;exact absurd rfl hn
 | 3,_=>
  simp only [gw] at hn⊢
  by_cases c:((k / 6:Nat):Int)+1<num S 1
  ·simp only [decide_eq_true c,cond_true]
   rw [show ((k:Int)+6).toNat=k+6 by omega]
   exact inC_of (by omega) (by omega)
  ·simp only [decide_eq_false c,cond_false] at hn;exact absurd rfl hn
 | 4,_=>
  simp only [gw] at hn⊢
  by_cases c:1≤k % 6
  ·simp only [decide_eq_true c,cond_true]
   rw [show ((k:Int) - 1).toNat=k - 1 by omega]
   exact inC_of (by omega) (by omega)
  ·simp only [decide_eq_false c,cond_false] at hn;exact absurd rfl hn
noncomputable def nxS (s:Int):Int:=IntKind.u32.wrap (IntKind.u32.wrap ((1664525:Int)*s)+(1013904223:Int))
noncomputable def nbS (s:Int):Int:=(s.tdiv (65536:Int)).tmod (12:Int)
theorem nx_range (s:Int):0≤nxS s∧nxS s<4294967296:=by
 unfold nxS
 generalize IntKind.u32.wrap ((1664525:Int)*s)=q
 rw [IntKind.wrap_u32];omega
theorem nb_eq {s:Int} (h:0≤s∧s<4294967296):nbS s=s / 65536 % 12:=by
 unfold nbS
 rw [Int.tdiv_eq_ediv_of_nonneg h.1,Int.tmod_eq_emod_of_nonneg (by omega)]
theorem nb_range {s:Int} (h:0≤s∧s<4294967296):0≤nbS s∧nbS s<12:=by rw [nb_eq h];omega
theorem nb_impl {s:Int} (h:0≤s∧s<4294967296):i64.wrap ((IntKind.u32.wrap (s.tdiv (65536:Int))).tmod (12:Int))=nbS s:=by
 rw [nb_eq h,Int.tdiv_eq_ediv_of_nonneg h.1,IntWalk.u32_in _ (by omega),Int.tmod_eq_emod_of_nonneg (by omega),IntWalk.i64_in _ (by omega)]
theorem nb_spec {s:Int} (h:0≤s∧s<4294967296):(i64.wrap (IntKind.u32.wrap (s.tdiv (65536:Int)))).tmod (12:Int)=nbS s:=by
 rw [nb_eq h,Int.tdiv_eq_ediv_of_nonneg h.1,IntWalk.u32_in _ (by omega),IntWalk.i64_in _ (by omega),Int.tmod_eq_emod_of_nonneg (by omega)]
noncomputable def wF (A:Array Value) (n:Int):Nat:=((List.range 5).find? fun k=>decide (sumW A (k+1) > n)).getD 0
theorem wF_is {A:Array Value} {n:Int} (h:sumW A 5=12) (hn:n<12):(List.range 5).find? (fun k=>decide (sumW A (k+1) > n))=some (wF A n)∧wF A n<5:=by
 unfold wF
 cases e:(List.range 5).find? (fun k=>decide (sumW A (k+1) > n)) with
 | none=>
  have:=List.find?_range_eq_none.1 e 4 (by omega)
  rw [h] at this
  simp at this
  omega
 | some j=>exact ⟨rfl,List.mem_range.1 (List.find?_range_eq_some.1 e).2.1⟩
noncomputable def stB (S:Array Value) (t:Nat) (x:Int×Int):Int×Int:=bif (x.1==(-1:Int)) then x else bif bitI (num S 2) x.1.toNat then x else (gw S x.1.toNat (wF (chR S t x.1.toNat) (nbS (nxS x.2))),nxS x.2)
noncomputable def tdB (b:Int) (k:Nat):Nat:=((b+(k:Int)).tmod (2:Int)).toNat
noncomputable def rnB (S:Array Value) (b:Int) (x:Int×Int):Nat→Int×Int
 | 0=>x
 | k+1=>stB S (tdB b k) (rnB S b x k)
noncomputable def inB (S:Array Value) (c:Int):Prop:=c = -1∨∃ k:Nat,c=(k:Int)∧k<36∧inC (num S 0) (num S 1) k=true
theorem fit_sum {S:Array Value} (hS:okS S=true) {t k:Nat} (ht:t<2) (hk:k<36) (hi:inC (num S 0) (num S 1) k=true) (hl:bitI (num S 2) k=false):sumW (chR S t k) 5=12:=by
 have hf:=okS_fit hS ht hk
 unfold fitS at hf
 rw [hi,hl] at hf
 exact eq_of_beq hf
theorem stB_in {S:Array Value} (hS:okS S=true) {t:Nat} (ht:t<2) {x:Int×Int} (h:inB S x.1) (hx:0≤x.2∧x.2<4294967296):inB S (stB S t x).1∧0≤(stB S t x).2∧(stB S t x).2<4294967296:=by
 unfold stB
 rcases h with h | ⟨k,h,hk,hi⟩
 ·rw [h];exact ⟨.inl h,hx⟩
 ·have h1:(x.1==(-1:Int))=false:=by rw [h];exact beq_eq_false_iff_ne.2 (by omega)
  rw [h1,cond_false,h,Int.toNat_natCast]
  cases hb:bitI (num S 2) k with
  | true=>rw [cond_true];exact ⟨.inr ⟨k,h,hk,hi⟩,hx⟩
  | false=>
   rw [cond_false]
   have hn:=nx_range x.2
   have hw:=(wF_is (n:=nbS (nxS x.2)) (fit_sum hS ht hk hi hb) (nb_range hn).2).2
   refine ⟨?_,hn⟩
   have hd:=okS_dims hS
   by_cases hg:gw S k (wF (chR S t k) (nbS (nxS x.2))) = -1
   ·exact .inl hg
   ·have hr:=gw_range hd hk hi _ hw hg
    exact .inr ⟨_,(Int.toNat_of_nonneg hr.1).symm,by have:=hr.2;omega,gw_in hd hk hi _ hw hg⟩
theorem td_two {b:Int} (hb:0≤b∧b≤1) {k:Nat} (hk:k≤1000):tdB b k<2∧(i64.wrap (b+(k:Int))).tmod (2:Int)=((tdB b k:Nat):Int):=by
 unfold tdB
 rw [IntWalk.i64_in _ (by omega),Int.tmod_eq_emod_of_nonneg (by omega)]
 omega
theorem rnB_in {S:Array Value} (hS:okS S=true) {b:Int} (hb:0≤b∧b≤1) {x:Int×Int} (h:inB S x.1) (hx:0≤x.2∧x.2<4294967296):∀ k,k≤1000→inB S (rnB S b x k).1∧0≤(rnB S b x k).2∧(rnB S b x k).2<4294967296
 | 0,_=>⟨h,hx⟩
 | k+1,hk=>by
  have h1:=rnB_in hS hb h hx k (by omega)
  exact stB_in hS (td_two hb (by omega)).1 h1.1 h1.2
noncomputable def ptB (S:Array Value) (b:Int) (x:Int×Int) (m j:Nat):Array Value:=⟨(List.range m).map fun i=>Value.int .i64 (if i≤j then (rnB S b x i).1 else 0)⟩
noncomputable def arB (S:Array Value) (b:Int) (x:Int×Int) (j:Nat):Array Value:=⟨(List.range (j+1)).map fun i=>Value.int .i64 (rnB S b x i).1⟩
section
variable {S:Array Value} {b:Int} {x:Int×Int}
theorem ptB_size (m j:Nat):(ptB S b x m j).size=m:=by simp [ptB]
theorem ptB_num {m j i:Nat} (hi:i≤j) (hm:i<m):num (ptB S b x m j) (i*1)=(rnB S b x i).1:=by
 unfold num ptB
 simp [hm,hi]
theorem ptB_zero {m:Nat} (hm:0<m):(madeCells (zc Try.prog 2) (m*1)).setIfInBounds ((0:Int).toNat*1) (.int .i64 x.1)=ptB S b x m 0:=by
 have hz:zc Try.prog 2=#[.int .i64 0]:=by kernel_rfl
 refine arr_ext fun i=> ?_
 rw [Array.getElem?_setIfInBounds,hz,size_madeCells]
 unfold ptB
 simp only [List.getElem?_toArray,List.getElem?_map]
 by_cases hi:i<m
 ·by_cases h0:i=0
  ·subst h0;simp [hm,rnB]
  ·rw [if_neg (by omega),made_get (by decide) (by omega)]
   simp [hi,h0,Nat.mod_one]
 ·rw [if_neg (by omega),Array.getElem?_eq_none (by rw [size_madeCells];omega)]
  simp [hi]
theorem ptB_next {m j:Nat} (hm:j+1<m) {v:Int} (hv:v=(rnB S b x (j+1)).1):(ptB S b x m j).setIfInBounds ((((j+1:Nat):Int)).toNat*1) (.int .i64 v)=ptB S b x m (j+1):=by
 refine arr_ext fun i=> ?_
 rw [Array.getElem?_setIfInBounds,ptB_size,Int.toNat_natCast,Nat.mul_one]
 by_cases h0:j+1=i
 ·subst h0
  rw [if_pos rfl,if_pos hm]
  unfold ptB
  simp [hm,hv]
 ·rw [if_neg h0]
  unfold ptB
  simp only [List.getElem?_toArray,List.getElem?_map]
  by_cases hi:i<m
  ·simp only [List.getElem?_range hi,Option.map_some]
   by_cases h2:i≤j
   ·rw [if_pos h2,if_pos (by omega)]
   ·rw [if_neg h2,if_neg (by omega)]
  ·simp [hi]
theorem ptB_all (j:Nat):ptB S b x (j+1) j=arB S b x j:=by
 unfold ptB arB
 congr 1
 refine List.map_congr_left fun i hi=> ?_
 rw [if_pos (by have:=List.mem_range.1 hi;omega)]
theorem arB_next {j:Nat} {v:Int} (hv:v=(rnB S b x (j+1)).1):arB S b x j++(#[.int .i64 v]:Array Value)=arB S b x (j+1):=by
 unfold arB
 rw [List.range_succ (n:=j+1),List.map_append,hv]
 simp
end
theorem chR_num {S:Array Value} (hS:WT Try.prog 37 S) {t k:Nat} (ht:t<2) (hk:k<36) {w:Nat} (hw:w<5):0≤num (chR S t k) (w*1)∧num (chR S t k) (w*1)≤255:=by
 unfold chR
 rw [num_sub (by omega),show 3+t*180+k*5+w*1=3+(t*180+k*5+w) by omega]
 exact (sea_u8 hS (by omega)).2
theorem sumW_one {S:Array Value} (hS:WT Try.prog 37 S) {t k:Nat} (ht:t<2) (hk:k<36):i64.wrap (num (chR S t k) 0)=sumW (chR S t k) 1:=by
 have:=chR_num hS ht hk (w:=0) (by omega)
 simp only [sumW]
 rw [Nat.zero_mul] at this⊢
 rw [w64 (by omega),w64 (by omega),Int.zero_add]
end
end Go.Proofs.Ytnhilgpdgicgfaa
