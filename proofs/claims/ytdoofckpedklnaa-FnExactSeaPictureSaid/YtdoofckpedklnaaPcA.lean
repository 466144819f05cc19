/- The cells beside others. -/
import Derived.Test.YtdoofckpedklnaaProg
import Derived.Test.YtdoofckpedklnaaCxF
namespace Go.Proofs.Ytdoofckpedklnaa
open Go.ChangeShapes Go.WideShapes Go.ChangeAt Go.RowKit Ve Vc
open IntKind (i64)
set_option linter.unusedVariables false
set_option linter.unusedSimpArgs false
set_option maxRecDepth 100000
noncomputable section
variable {mn:Md}
theorem impl_waterBits_ans (N:Nat) (a0:Array Value):ansV Try.prog (mkΓ [(31,con impl_cellBits_con)]) N Try.f16 [] [.g a0 36] []=(bif (decide (0≤num a0 0)&&decide (num a0 0≤6)&&(decide (0≤num a0 1)&&decide (num a0 1≤6))) then (some (.a (.i .u64 (IntKind.u64.wrap (BitVec.ofInt IntKind.u64.bits (gridI (num a0 0) (num a0 1) 36) &&& ~~~(BitVec.ofInt IntKind.u64.bits (num a0 2))).toNat)),.none,true))
  else (none)):=by kernel_rfl
noncomputable def impl_waterBits_v0 (a0:Array Value):Int:=(IntKind.u64.wrap (BitVec.ofInt IntKind.u64.bits (gridI (num a0 0) (num a0 1) 36) &&& ~~~(BitVec.ofInt IntKind.u64.bits (num a0 2))).toNat)
noncomputable def impl_waterBits_gd (a0:Array Value):Bool:=(decide (0≤num a0 0)&&decide (num a0 0≤6)&&(decide (0≤num a0 1)&&decide (num a0 1≤6)))
theorem impl_waterBits_main (a0:Array Value) (h_a0:WT Try.prog 36 a0) (hg:((impl_waterBits_gd a0))=true):ansV Try.prog (mkΓ [(31,con impl_cellBits_con)]) 1000 Try.f16 [] [.g a0 36] []=some (.a (.i .u64 (impl_waterBits_v0 a0)),.none,true):=by
 refine (impl_waterBits_ans 1000 a0).trans ?_
 unfold impl_waterBits_gd at hg
 unfold impl_waterBits_v0
 revert hg
 generalize ((decide (0≤num a0 0)&&decide (num a0 0≤6)&&(decide (0≤num a0 1)&&decide (num a0 1≤6))))=b2
 intro hg
 cases b2
 ·skip
  first | exact (nomatch (hg:false=true)) | (simp only [cond_true,cond_false,Bool.and_true,Bool.true_and,Bool.and_false,Bool.false_and];done) | rfl
 ·skip
  first | (simp only [cond_true,cond_false,Bool.and_true,Bool.true_and,Bool.and_false,Bool.false_and];done) | rfl | exact (nomatch (hg:false=true))
noncomputable def impl_waterBits_con:Con:=fun args h=>match args,h with
 | [.g a0 36],[]=>some (.a (.i .u64 (impl_waterBits_v0 a0)),.none,(impl_waterBits_gd a0))
 | _,_=>none
theorem impl_waterBits_enter:EntX Try.prog 16:=entX_ok (fn:=Try.f16) (by kernel_rfl) (by kernel_rfl) (by kernel_rfl)
theorem impl_waterBits_ok:ConOkX mn Try.prog 16 impl_waterBits_con:=(ansX_ok (N:=1000) (by kernel_rfl) (mkΓ_consX (con_okX impl_cellBits_ok) impl_cellBits_enter mkΓ_nilX) (fn:=Try.f16) (by kernel_rfl) (by kernel_rfl) []).of (by
 intro ρ h w args vals r e hA hH hr
 unfold impl_waterBits_con at hr
 split at hr
 ·rename_i a0
  obtain ⟨rfl,hg⟩:=Prod.mk.inj (Option.some.inj hr)
  obtain ⟨rfl,hg2⟩:=Prod.mk.inj hg
  exact impl_waterBits_main a0 (hA.wt 0 rfl) hg2
 ·cases hr)
noncomputable def impl_cellSign_G:Cons:=(mkΓ [(29,con impl_bitOf_con),(34,con impl_isLand_con)])
theorem impl_cellSign_ans (N:Nat) (a0:Array Value) (a1 a2:Int):ansV Try.prog impl_cellSign_G N Try.f19 [] [.g a0 36,.i .i64 (a1),.i .u64 (a2)] []=(bif decide (0≤a1) then (bif (impl_isLand_v0 a0 a1) then (some (.a (.s ((⟨#[35]⟩:ByteArray))),.none,true))
   else (bif decide (0≤a1) then (bif ((IntKind.u64.wrap (BitVec.ofInt IntKind.u64.bits a2 &&& BitVec.ofInt IntKind.u64.bits (impl_bitOf_v0 a1)).toNat) != (0:Int)) then (some (.a (.s ((⟨#[44]⟩:ByteArray))),.none,true))
     else (some (.a (.s ((⟨#[46]⟩:ByteArray))),.none,true)))
    else (none)))
  else (none)):=by kernel_rfl
noncomputable def impl_cellSign_v0 (a0:Array Value) (a1 a2:Int):ByteArray:=(bif (impl_isLand_v0 a0 a1) then (⟨#[35]⟩:ByteArray) else (bif ((IntKind.u64.wrap (BitVec.ofInt IntKind.u64.bits a2 &&& BitVec.ofInt IntKind.u64.bits (impl_bitOf_v0 a1)).toNat) != (0:Int)) then (⟨#[44]⟩:ByteArray) else (⟨#[46]⟩:ByteArray)))
noncomputable def impl_cellSign_gd (a0:Array Value) (a1 a2:Int):Bool:=(bif decide (0≤a1) then (bif (impl_isLand_v0 a0 a1) then true else decide (0≤a1)) else false)
theorem impl_cellSign_main (a0:Array Value) (a1 a2:Int) (h_a0:WT Try.prog 36 a0) (h_a1:i64.min≤a1∧a1≤i64.max) (h_a2:IntKind.u64.min≤a2∧a2≤IntKind.u64.max) (hg:((impl_cellSign_gd a0 a1 a2))=true):ansV Try.prog impl_cellSign_G 1000 Try.f19 [] [.g a0 36,.i .i64 (a1),.i .u64 (a2)] []=some (.a (.s ((impl_cellSign_v0 a0 a1 a2))),.none,true):=by
 refine (impl_cellSign_ans 1000 a0 a1 a2).trans ?_
 unfold impl_cellSign_gd at hg
 unfold impl_cellSign_v0
 revert hg
 generalize (decide (0≤a1))=b2
 intro hg
 cases b2
 ·skip
  first | exact (nomatch (hg:false=true)) | (simp only [cond_true,cond_false,Bool.and_true,Bool.true_and,Bool.and_false,Bool.false_and];done) | rfl
 ·skip
  revert hg
  generalize ((impl_isLand_v0 a0 a1))=b4
  intro hg
  cases b4
  ·skip
   revert hg
   generalize (((IntKind.u64.wrap (BitVec.ofInt IntKind.u64.bits a2 &&& BitVec.ofInt IntKind.u64.bits (impl_bitOf_v0 a1)).toNat) != (0:Int)))=b6
   intro hg
   cases b6
   ·skip
    first | (simp only [cond_true,cond_false,Bool.and_true,Bool.true_and,Bool.and_false,Bool.false_and];done) | rfl | exact (nomatch (hg:false=true))
   ·skip
    first | (simp only [cond_true,cond_false,Bool.and_true,Bool.true_and,Bool.and_false,Bool.false_and];done) | rfl | exact (nomatch (hg:false=true))
  ·skip
   first | (simp only [cond_true,cond_false,Bool.and_true,Bool.true_and,Bool.and_false,Bool.false_and];done) | rfl | exact (nomatch (hg:false=true))
noncomputable def impl_cellSign_con:Con:=fun args h=>match args,h with
 | [.g a0 36,.i .i64 a1,.i .u64 a2],[]=>some (.a (.s ((impl_cellSign_v0 a0 a1 a2))),.none,(impl_cellSign_gd a0 a1 a2))
 | _,_=>none
theorem impl_cellSign_enter:EntX Try.prog 19:=entX_ok (fn:=Try.f19) (by kernel_rfl) (by kernel_rfl) (by kernel_rfl)
theorem impl_cellSign_ok:ConOkX mn Try.prog 19 impl_cellSign_con:=(ansX_ok (N:=1000) (by kernel_rfl) (mkΓ_consX (con_okX impl_bitOf_ok) impl_bitOf_enter (mkΓ_consX (con_okX impl_isLand_ok) impl_isLand_enter mkΓ_nilX)) (fn:=Try.f19) (by kernel_rfl) (by kernel_rfl) []).of (by
 intro ρ h w args vals r e hA hH hr
 unfold impl_cellSign_con at hr
 split at hr
 ·rename_i a0 a1 a2
  obtain ⟨rfl,hg⟩:=Prod.mk.inj (Option.some.inj hr)
  obtain ⟨rfl,hg2⟩:=Prod.mk.inj hg
  exact impl_cellSign_main a0 a1 a2 (hA.wt 0 rfl) (hA.rng 1 rfl) (hA.rng 2 rfl) hg2
 ·cases hr)
theorem or_idem (b x:Int):orI (orI b x) x=orI b x:=bit_ext (wrap_in .u64 _) (wrap_in .u64 _) fun k _=>by
 rw [bit_or,bit_or];cases bitI b k<;>cases bitI x k<;>rfl
theorem any_succ (p:Nat→Bool) (j:Nat):(List.range (j+1)).any p=((List.range j).any p || p j):=by
 rw [List.range_succ,List.any_append];simp
theorem okD_dims {S:Array Value} (h:okD S=true):1≤num S 0∧num S 0≤6∧1≤num S 1∧num S 1≤6:=by
 unfold okD at h
 simp only [Bool.and_eq_true,decide_eq_true_eq] at h
 exact ⟨h.1.1,h.1.2,h.2.1,h.2.2⟩
theorem okS_D {S:Array Value} (h:okS S=true):okD S=true:=by
 unfold okS at h
 rw [Bool.and_eq_true] at h
 exact h.1
theorem test_bit {a X:Int} (h:0≤X∧X<36):((IntKind.u64.wrap (BitVec.ofInt IntKind.u64.bits a &&& BitVec.ofInt IntKind.u64.bits (impl_bitOf_v0 X)).toNat) != (0:Int))=bitI a X.toNat:=by
 obtain ⟨m,rfl⟩:=Int.eq_ofNat_of_zero_le h.1
 rw [bitOf_one,Int.toNat_natCast];exact bit_test (by omega)
theorem gw_ne {S:Array Value} (h0:1≤num S 0∧num S 0≤6∧1≤num S 1∧num S 1≤6) {k:Nat} (hk:k<36) (hi:inC (num S 0) (num S 1) k=true) (w:Nat) (hw:w<5):(gw S k w != (-1:Int))=decide (0≤gw S k w)∧(decide (0≤gw S k w)=true→0≤gw S k w∧gw S k w<36):=by
 by_cases hn:gw S k w = -1
 ·rw [hn];exact ⟨rfl,fun h=>absurd h (by decide)⟩
 ·have hr:=gw_range h0 hk hi w hw hn
  exact ⟨by rw [bne_iff_ne.2 hn,decide_eq_true hr.1],fun _=>hr⟩
noncomputable def nbB (S:Array Value) (k:Nat) (o:Int) (j:Nat):Bool:=decide (0≤gw S k (j+1))&&bitI o (gw S k (j+1)).toNat
noncomputable def hbB (S:Array Value) (k:Nat) (o:Int):Bool:=(List.range 4).any (nbB S k o)
noncomputable def beF (S:Array Value) (a o:Int) (b:Int) (k:Nat):Int:=if inC (num S 0) (num S 1) k then (bif (bitI a k&&hbB S k o) then orI b (oneI k) else b) else b
noncomputable def beI (S:Array Value) (a o:Int) (n:Nat):Int:=folds (beF S a o) 0 n
theorem any_find (n:Nat) (p:Nat→Bool):(List.range n).any p=((List.range n).find? p).isSome:=by
 rw [Bool.eq_iff_iff,List.any_eq_true,List.find?_isSome]
noncomputable def impl_hasBeside_G:Cons:=(mkΓ [(29,con impl_bitOf_con),(37,con impl_leadsTo_con)])
noncomputable def impl_hasBeside_t0 (a0:Array Value) (a1 a2:Int):St:=(⟨.a (.g a0 36) :: .a (.i .i64 (a1)) :: .a (.i .u64 (a2)) :: .a (.w 0) :: .a (.u) :: .a (.u) :: .a (.b (false)) :: .a (.i .i64 (1:Int))::us 18 ([]),[.row a0 36,.no],[]⟩:St)
noncomputable def impl_hasBeside_e0:Bool×Int→LS
 | (y0_6,y0_7)=>([.a (.b (y0_6)),.a (.i .i64 (y0_7))],[])
noncomputable def impl_hasBeside_x0:(Stp (Bool×Int) (Bool×Int))→Exit×LS
 | .more t=>(.ret,impl_hasBeside_e0 t)
 | .done t=>((.exit 0),impl_hasBeside_e0 t)
noncomputable def impl_hasBeside_g0 (P : Program) (a0 : Array Value) (a1 a2 : Int) : Bool × Int → Option (Stp (Bool × Int) (Stp (Bool × Int) (Bool × Int)))
 | (y0_6, y0_7) => bif decide (y0_7 ≤ (4 : Int)) then (bif (decide (0 ≤ y0_7) && decide (y0_7 < 5)) then (bif ((leadI a0 a1 y0_7.toNat) != (-1 : Int)) then (bif decide (0 ≤ (leadI a0 a1 y0_7.toNat)) then (bif ((IntKind.u64.wrap (BitVec.ofInt IntKind.u64.bits a2 &&& BitVec.ofInt IntKind.u64.bits (impl_bitOf_v0 (leadI a0 a1 y0_7.toNat))).toNat) != (0 : Int)) then (some (.done (.more (true, y0_7))))
      else (some (.more (y0_6, (i64.wrap (y0_7 + (1 : Int)))))))
     else (none))
    else (some (.more (y0_6, (i64.wrap (y0_7 + (1 : Int)))))))
   else (none))
  else (some (.done (.done (y0_6, y0_7))))
theorem impl_hasBeside_s0 (N:Nat) (a0:Array Value) (a1 a2:Int):∀ t:Bool×Int,stepV Try.prog impl_hasBeside_G N (cAt (codeOf Try.f30) [1,0,1,0,0]) (pAt (mkPlan (codeOf Try.f30) [([6,7],[])]).1 [1,0,1,0]) [6,7] [] (impl_hasBeside_t0 a0 a1 a2) (impl_hasBeside_e0 t)=mapS impl_hasBeside_e0 impl_hasBeside_x0 (impl_hasBeside_g0 Try.prog a0 a1 a2 t):=by
 rintro ⟨y0_6,y0_7⟩
 refine Eq.trans (b:=(bif decide (y0_7≤(4:Int)) then (bif (decide (0≤y0_7)&&decide (y0_7<5)) then (bif ((leadI a0 a1 y0_7.toNat) != (-1:Int)) then (bif decide (0≤(leadI a0 a1 y0_7.toNat)) then (bif ((IntKind.u64.wrap (BitVec.ofInt IntKind.u64.bits a2 &&& BitVec.ofInt IntKind.u64.bits (impl_bitOf_v0 (leadI a0 a1 y0_7.toNat))).toNat) != (0:Int)) then (some (.done (.ret,([.a (.b (true)),.a (.i .i64 (y0_7))],[]))))
      else (some (.more ([.a (.b (y0_6)),.a (.i .i64 (i64.wrap (y0_7+(1:Int))))],[]))))
     else (none))
    else (some (.more ([.a (.b (y0_6)),.a (.i .i64 (i64.wrap (y0_7+(1:Int))))],[]))))
   else (none))
  else (some (.done ((.exit 0),([.a (.b (y0_6)),.a (.i .i64 (y0_7))],[])))))) (by kernel_rfl) ?_
 simp only [impl_hasBeside_g0,mapS_cond,mapS_more,mapS_done,mapS_none,impl_hasBeside_e0,impl_hasBeside_x0]
noncomputable def impl_hasBeside_k0_0 (P:Program) (N:Nat) (a0:Array Value) (a1 a2:Int) (z0_6:Bool) (z0_7:Int):Option (SV×Eff×Bool):=some (.a (.b (z0_6)),.none,true)
theorem impl_hasBeside_k0_0_eq (N:Nat) (a0:Array Value) (a1 a2:Int) (z0_6:Bool) (z0_7:Int):(kBlock 0 (kSeq (veC Try.prog impl_hasBeside_G N (cAt (codeOf Try.f30) [1,1]) (pAt (mkPlan (codeOf Try.f30) [([6,7],[])]).1 [1,1]) (SV×Eff×Bool)) (finK Try.prog [] [.tmp 6]))) .ret (left (writes (cAt (codeOf Try.f30) [1,0,1,0,0])) [6,7] [] (impl_hasBeside_t0 a0 a1 a2) ([.a (.b (z0_6)),.a (.i .i64 (z0_7))],[]))=impl_hasBeside_k0_0 Try.prog N a0 a1 a2 z0_6 z0_7:=by
 refine Eq.trans (b:=(some (.a (.b (z0_6)),.none,true))) (by kernel_rfl) ?_
 rfl
noncomputable def impl_hasBeside_k0_1 (P:Program) (N:Nat) (a0:Array Value) (a1 a2:Int) (z0_6:Bool) (z0_7:Int):Option (SV×Eff×Bool):=some (.a (.b (false)),.none,true)
theorem impl_hasBeside_k0_1_eq (N:Nat) (a0:Array Value) (a1 a2:Int) (z0_6:Bool) (z0_7:Int):(kBlock 0 (kSeq (veC Try.prog impl_hasBeside_G N (cAt (codeOf Try.f30) [1,1]) (pAt (mkPlan (codeOf Try.f30) [([6,7],[])]).1 [1,1]) (SV×Eff×Bool)) (finK Try.prog [] [.tmp 6]))) (.exit 0) (left (writes (cAt (codeOf Try.f30) [1,0,1,0,0])) [6,7] [] (impl_hasBeside_t0 a0 a1 a2) ([.a (.b (z0_6)),.a (.i .i64 (z0_7))],[]))=impl_hasBeside_k0_1 Try.prog N a0 a1 a2 z0_6 z0_7:=by
 refine Eq.trans (b:=(some (.a (.b (false)),.none,true))) (by kernel_rfl) ?_
 rfl
theorem impl_hasBeside_n0 (N:Nat) (a0:Array Value) (a1 a2:Int):bindX (iterO (stepV Try.prog impl_hasBeside_G N (cAt (codeOf Try.f30) [1,0,1,0,0]) (pAt (mkPlan (codeOf Try.f30) [([6,7],[])]).1 [1,0,1,0]) [6,7] [] (impl_hasBeside_t0 a0 a1 a2)) N ([.a (.b (false)),.a (.i .i64 (1:Int))],[])) (fun e s=>(kBlock 0 (kSeq (veC Try.prog impl_hasBeside_G N (cAt (codeOf Try.f30) [1,1]) (pAt (mkPlan (codeOf Try.f30) [([6,7],[])]).1 [1,1]) (SV×Eff×Bool)) (finK Try.prog [] [.tmp 6]))) e (left (writes (cAt (codeOf Try.f30) [1,0,1,0,0])) [6,7] [] (impl_hasBeside_t0 a0 a1 a2) s))=nodeX (iterO (impl_hasBeside_g0 Try.prog a0 a1 a2) N (false,(1:Int))) (st2 (fun x=>impl_hasBeside_k0_0 Try.prog N a0 a1 a2 x.1 x.2) (fun x=>impl_hasBeside_k0_1 Try.prog N a0 a1 a2 x.1 x.2)):=by
 refine loop_node impl_hasBeside_e0 impl_hasBeside_x0 _ _ (impl_hasBeside_s0 N a0 a1 a2) N (false,(1:Int)) _ _ ?_
 intro x
 cases x with
 | more x=>exact impl_hasBeside_k0_0_eq N a0 a1 a2 x.1 x.2
 | done x=>exact impl_hasBeside_k0_1_eq N a0 a1 a2 x.1 x.2
theorem impl_hasBeside_ans (N:Nat) (a0:Array Value) (a1 a2:Int):ansV Try.prog impl_hasBeside_G N Try.f30 [([6,7],[])] [.g a0 36,.i .i64 (a1),.i .u64 (a2)] []=(nodeX (iterO (impl_hasBeside_g0 Try.prog a0 a1 a2) N (false,(1:Int))) (st2 (fun x=>impl_hasBeside_k0_0 Try.prog N a0 a1 a2 x.1 x.2) (fun x=>impl_hasBeside_k0_1 Try.prog N a0 a1 a2 x.1 x.2))):=by
 refine Eq.trans (b:=(bindX (iterO (stepV Try.prog impl_hasBeside_G N (cAt (codeOf Try.f30) [1,0,1,0,0]) (pAt (mkPlan (codeOf Try.f30) [([6,7],[])]).1 [1,0,1,0]) [6,7] [] (impl_hasBeside_t0 a0 a1 a2)) N ([.a (.b (false)),.a (.i .i64 (1:Int))],[])) (fun e s=>(kBlock 0 (kSeq (veC Try.prog impl_hasBeside_G N (cAt (codeOf Try.f30) [1,1]) (pAt (mkPlan (codeOf Try.f30) [([6,7],[])]).1 [1,1]) (SV×Eff×Bool)) (finK Try.prog [] [.tmp 6]))) e (left (writes (cAt (codeOf Try.f30) [1,0,1,0,0])) [6,7] [] (impl_hasBeside_t0 a0 a1 a2) s)))) (by kernel_rfl) ?_
 simp only [impl_hasBeside_n0 N a0 a1 a2]
theorem impl_hasBeside_main (a0:Array Value) (a1 a2:Int) (h_a0:WT Try.prog 36 a0) (h_a1:i64.min≤a1∧a1≤i64.max) (h_a2:IntKind.u64.min≤a2∧a2≤IntKind.u64.max) (hg:((okD a0&&(decide (0≤a1)&&decide (a1<36)&&inC (num a0 0) (num a0 1) a1.toNat)))=true):ansV Try.prog impl_hasBeside_G 1000 Try.f30 [([6,7],[])] [.g a0 36,.i .i64 (a1),.i .u64 (a2)] []=some (.a (.b ((hbB a0 a1.toNat a2))),.none,true):=by
 simp only [Bool.and_eq_true,decide_eq_true_eq] at hg
 obtain ⟨hD,⟨k0,k1⟩,hi⟩:=hg
 obtain ⟨k,rfl⟩:=Int.eq_ofNat_of_zero_le k0
 rw [Int.toNat_natCast] at hi
 have hk:k<36:=by omega
 have h0:=okD_dims hD
 refine (impl_hasBeside_ans 1000 a0 (k:Int) a2).trans ?_
 have h:=iter_find (g:=impl_hasBeside_g0 Try.prog a0 (k:Int) a2) (fun j=>(false,((j+1:Nat):Int))) (nbB a0 k a2) 4 (N:=1000) (by omega) (xd:=.done (false,((5:Nat):Int))) (fun j=>.more (true,((j+1:Nat):Int))) (fun j hj hp=>by
  have e1:decide (((j+1:Nat):Int)≤(4:Int))=true:=decide_eq_true (by omega)
  have e2:(decide (0≤((j+1:Nat):Int))&&decide (((j+1:Nat):Int)<5))=true:=by rw [decide_eq_true (by omega),decide_eq_true (by omega)];rfl
  have e3:=lead_gw h0 hk hi (j+1) (by omega)
  obtain ⟨e4,e6⟩:=gw_ne h0 hk hi (j+1) (by omega)
  have e5:i64.wrap (((j+1:Nat):Int)+1)=((j+1+1:Nat):Int):=by rw [IntWalk.i64_in _ (by omega)];omega
  unfold nbB at hp
  simp only [impl_hasBeside_g0,e1,e2,Int.toNat_natCast,e3,e4,e5,cond_true]
  cases hz:decide (0≤gw a0 k (j+1)) with
  | false=>rfl
  | true=>
   rw [hz,Bool.true_and] at hp
   simp only [cond_true,test_bit (e6 hz),hp,cond_false]) (fun j hj hp=>by
  have e1:decide (((j+1:Nat):Int)≤(4:Int))=true:=decide_eq_true (by omega)
  have e2:(decide (0≤((j+1:Nat):Int))&&decide (((j+1:Nat):Int)<5))=true:=by rw [decide_eq_true (by omega),decide_eq_true (by omega)];rfl
  have e3:=lead_gw h0 hk hi (j+1) (by omega)
  obtain ⟨e4,e6⟩:=gw_ne h0 hk hi (j+1) (by omega)
  have e5:i64.wrap (((j+1:Nat):Int)+1)=((j+1+1:Nat):Int):=by rw [IntWalk.i64_in _ (by omega)];omega
  unfold nbB at hp
  simp only [impl_hasBeside_g0,e1,e2,Int.toNat_natCast,e3,e4,e5,cond_true]
  cases hz:decide (0≤gw a0 k (j+1)) with
  | false=>rw [hz] at hp;cases hp
  | true=>
   rw [hz,Bool.true_and] at hp
   simp only [cond_true,test_bit (e6 hz),hp,cond_true]) (by
  have e1:decide (((4+1:Nat):Int)≤(4:Int))=false:=by decide
  simp only [impl_hasBeside_g0,e1,cond_false])
 have h':iterO (impl_hasBeside_g0 Try.prog a0 (k:Int) a2) 1000 (false,(1:Int))=_:=h
 rw [h',Int.toNat_natCast]
 unfold hbB
 rw [any_find]
 cases (List.range 4).find? (nbB a0 k a2)<;>rfl
noncomputable def impl_hasBeside_con:Con:=fun args h=>match args,h with
 | [.g a0 36,.i .i64 a1,.i .u64 a2],[]=>some (.a (.b ((hbB a0 a1.toNat a2))),.none,(okD a0&&(decide (0≤a1)&&decide (a1<36)&&inC (num a0 0) (num a0 1) a1.toNat)))
 | _,_=>none
theorem impl_hasBeside_enter:EntX Try.prog 30:=entX_ok (fn:=Try.f30) (by kernel_rfl) (by kernel_rfl) (by kernel_rfl)
theorem impl_hasBeside_ok:ConOkX mn Try.prog 30 impl_hasBeside_con:=(ansX_ok (N:=1000) (by kernel_rfl) (mkΓ_consX (con_okX impl_bitOf_ok) impl_bitOf_enter (mkΓ_consX (con_okX impl_leadsTo_ok) impl_leadsTo_enter mkΓ_nilX)) (fn:=Try.f30) (by kernel_rfl) (by kernel_rfl) [([6,7],[])]).of (by
 intro ρ h w args vals r e hA hH hr
 unfold impl_hasBeside_con at hr
 split at hr
 ·rename_i a0 a1 a2
  obtain ⟨rfl,hg⟩:=Prod.mk.inj (Option.some.inj hr)
  obtain ⟨rfl,hg2⟩:=Prod.mk.inj hg
  exact impl_hasBeside_main a0 a1 a2 (hA.wt 0 rfl) (hA.rng 1 rfl) (hA.rng 2 rfl) hg2
 ·cases hr)
noncomputable def impl_besideAny_G:Cons:=(mkΓx [(29,con impl_bitOf_con),(30,con impl_hasBeside_con)] [(17,impl_eachCell_nc)] [(32,impl_eachCell_1_ic)])
noncomputable def impl_besideAny_t0 (a0:Array Value) (a1 a2:Int):St:=(⟨.a (.g a0 36) :: .a (.i .u64 (a1)) :: .a (.i .u64 (a2)) :: .a (.w 0) :: .a (.w 1) :: .a (.w 2) :: .a (.i .u64 (0:Int)) :: .a (.w 4) :: .a (.u) :: .a (.g a0 36) :: .a (.c 32 [8,10])::us 17 ([]),[.row a0 36,.row #[.int .u64 (a1)] 23,.row #[.int .u64 (a2)] 23,.no,.row #[.int .u64 (0:Int)] 23,.no,.no,.no,.row #[.int .i64 (num a0 1)] 2,.no,.row #[.int .i64 (num a0 0)] 2,.no,.no],[]⟩:St)
noncomputable def impl_besideAny_e0:Int→BS
 | r0_4=>([.row #[.int .u64 (r0_4)] 23]:BS)
noncomputable def impl_besideAny_x0:Empty→Exit×BS:=fun x=>nomatch x
noncomputable def impl_besideAny_g0 (P : Program) (a0 : Array Value) (a1 a2 : Int) (x0 : Int) : Int → Option (Stp (Int) Empty)
  | r0_4 => bif decide (0 ≤ x0) then (bif ((IntKind.u64.wrap (BitVec.ofInt IntKind.u64.bits a1 &&& BitVec.ofInt IntKind.u64.bits (impl_bitOf_v0 x0)).toNat) != (0 : Int)) then (bif (okD a0 && (decide (0 ≤ x0) && decide (x0 < 36) && inC (num a0 0) (num a0 1) x0.toNat)) then (bif (hbB a0 x0.toNat a2) then (bif decide (0 ≤ x0) then (some (.more (IntKind.u64.wrap (BitVec.ofInt IntKind.u64.bits r0_4 ||| BitVec.ofInt IntKind.u64.bits (impl_bitOf_v0 x0)).toNat)))
            else (none))
          else (some (.more r0_4)))
        else (none))
      else (some (.more r0_4)))
    else (none)
theorem impl_besideAny_s0 (N:Nat) (a0:Array Value) (a1 a2:Int) (x0:Int):∀ t:Int,stepI Try.prog impl_besideAny_G N (cAt (codeOf Try.f15) [1,1,0,1,0,0]) (pAt (mkPlan (codeOf Try.f15) [([],[4])]).1 [1,1,0,1,0]) 13 [4] [11] [(8,11)] (impl_besideAny_t0 a0 a1 a2) [.i .i64 (x0)] (impl_besideAny_e0 t)=mapS impl_besideAny_e0 impl_besideAny_x0 (impl_besideAny_g0 Try.prog a0 a1 a2 x0 t):=by
 rintro r0_4
 refine Eq.trans (b:=(bif decide (0≤x0) then (bif ((IntKind.u64.wrap (BitVec.ofInt IntKind.u64.bits a1 &&& BitVec.ofInt IntKind.u64.bits (impl_bitOf_v0 x0)).toNat) != (0:Int)) then (bif (okD a0&&(decide (0≤x0)&&decide (x0<36)&&inC (num a0 0) (num a0 1) x0.toNat)) then (bif (hbB a0 x0.toNat a2) then (bif decide (0≤x0) then (some (.more ([.row #[.int .u64 (IntKind.u64.wrap (BitVec.ofInt IntKind.u64.bits r0_4 ||| BitVec.ofInt IntKind.u64.bits (impl_bitOf_v0 x0)).toNat)] 23]:BS)))
      else (none))
     else (some (.more ([.row #[.int .u64 (r0_4)] 23]:BS))))
    else (none))
   else (some (.more ([.row #[.int .u64 (r0_4)] 23]:BS))))
  else (none))) (by kernel_rfl) ?_
 simp only [impl_besideAny_g0,mapS_cond,mapS_more,mapS_done,mapS_none,impl_besideAny_e0,impl_besideAny_x0]
noncomputable def impl_besideAny_k0_n (P:Program) (N:Nat) (a0:Array Value) (a1 a2:Int) (q0_4:Int):Option (SV×Eff×Bool):=some (.a (.i .u64 (q0_4)),.none,true)
theorem impl_besideAny_k0_n_eq (N:Nat) (a0:Array Value) (a1 a2:Int) (q0_4:Int):(kBlock 0 (kSeq (veC Try.prog impl_besideAny_G N (cAt (codeOf Try.f15) [1,1,1]) (pAt (mkPlan (codeOf Try.f15) [([],[4])]).1 [1,1,1]) (SV×Eff×Bool)) (finK Try.prog [] [.tmp 6]))) .normal (leftI [4] (impl_besideAny_t0 a0 a1 a2) ([.row #[.int .u64 (q0_4)] 23]:BS))=impl_besideAny_k0_n Try.prog N a0 a1 a2 q0_4:=by
 refine Eq.trans (b:=(some (.a (.i .u64 (q0_4)),.none,true))) (by kernel_rfl) ?_
 rfl
theorem impl_besideAny_n0 (N:Nat) (a0:Array Value) (a1 a2:Int):bindI (foldI (fun (x0:Int) (hb:BS)=>stepI Try.prog impl_besideAny_G N (cAt (codeOf Try.f15) [1,1,0,1,0,0]) (pAt (mkPlan (codeOf Try.f15) [([],[4])]).1 [1,1,0,1,0]) 13 [4] [11] [(8,11)] (impl_besideAny_t0 a0 a1 a2) [.i .i64 (x0)] hb) (cellsL (num a0 0) (num a0 1) 36) ([.row #[.int .u64 (0:Int)] 23]:BS)) (fun hb=>(kBlock 0 (kSeq (veC Try.prog impl_besideAny_G N (cAt (codeOf Try.f15) [1,1,1]) (pAt (mkPlan (codeOf Try.f15) [([],[4])]).1 [1,1,1]) (SV×Eff×Bool)) (finK Try.prog [] [.tmp 6]))) .normal (leftI [4] (impl_besideAny_t0 a0 a1 a2) hb)) (fun e hb=>(kBlock 0 (kSeq (veC Try.prog impl_besideAny_G N (cAt (codeOf Try.f15) [1,1,1]) (pAt (mkPlan (codeOf Try.f15) [([],[4])]).1 [1,1,1]) (SV×Eff×Bool)) (finK Try.prog [] [.tmp 6]))) e (leftI [4] (impl_besideAny_t0 a0 a1 a2) hb))=nodeI (foldI (impl_besideAny_g0 Try.prog a0 a1 a2) (cellsL (num a0 0) (num a0 1) 36) (0:Int)) (fun x=>impl_besideAny_k0_n Try.prog N a0 a1 a2 x) (fun x:Empty=>nomatch x):=by
 refine iter_node impl_besideAny_e0 impl_besideAny_x0 _ _ (fun y t=>impl_besideAny_s0 N a0 a1 a2 y t) _ (0:Int) _ _ _ _ ?_ ?_
 ·intro x;exact impl_besideAny_k0_n_eq N a0 a1 a2 x
 ·intro x;exact nomatch x
theorem impl_besideAny_ans (N:Nat) (a0:Array Value) (a1 a2:Int):ansV Try.prog impl_besideAny_G N Try.f15 [([],[4])] [.g a0 36,.i .u64 (a1),.i .u64 (a2)] []=(bif (decide (0≤(num a0 0))&&decide ((num a0 0)≤6)&&(decide (0≤(num a0 1))&&decide ((num a0 1)≤6))) then (nodeI (foldI (impl_besideAny_g0 Try.prog a0 a1 a2) (cellsL (num a0 0) (num a0 1) 36) (0:Int)) (fun x=>impl_besideAny_k0_n Try.prog N a0 a1 a2 x) (fun x:Empty=>nomatch x))
  else (none)):=by
 refine Eq.trans (b:=(bif (decide (0≤(num a0 0))&&decide ((num a0 0)≤6)&&(decide (0≤(num a0 1))&&decide ((num a0 1)≤6))) then (bindI (foldI (fun (x0:Int) (hb:BS)=>stepI Try.prog impl_besideAny_G N (cAt (codeOf Try.f15) [1,1,0,1,0,0]) (pAt (mkPlan (codeOf Try.f15) [([],[4])]).1 [1,1,0,1,0]) 13 [4] [11] [(8,11)] (impl_besideAny_t0 a0 a1 a2) [.i .i64 (x0)] hb) (cellsL (num a0 0) (num a0 1) 36) ([.row #[.int .u64 (0:Int)] 23]:BS)) (fun hb=>(kBlock 0 (kSeq (veC Try.prog impl_besideAny_G N (cAt (codeOf Try.f15) [1,1,1]) (pAt (mkPlan (codeOf Try.f15) [([],[4])]).1 [1,1,1]) (SV×Eff×Bool)) (finK Try.prog [] [.tmp 6]))) .normal (leftI [4] (impl_besideAny_t0 a0 a1 a2) hb)) (fun e hb=>(kBlock 0 (kSeq (veC Try.prog impl_besideAny_G N (cAt (codeOf Try.f15) [1,1,1]) (pAt (mkPlan (codeOf Try.f15) [([],[4])]).1 [1,1,1]) (SV×Eff×Bool)) (finK Try.prog [] [.tmp 6]))) e (leftI [4] (impl_besideAny_t0 a0 a1 a2) hb)))
  else (none))) (by kernel_rfl) ?_
 simp only [impl_besideAny_n0 N a0 a1 a2]
theorem impl_besideAny_main (a0:Array Value) (a1 a2:Int) (h_a0:WT Try.prog 36 a0) (h_a1:IntKind.u64.min≤a1∧a1≤IntKind.u64.max) (h_a2:IntKind.u64.min≤a2∧a2≤IntKind.u64.max) (hg:((okS a0))=true):ansV Try.prog impl_besideAny_G 1000 Try.f15 [([],[4])] [.g a0 36,.i .u64 (a1),.i .u64 (a2)] []=some (.a (.i .u64 (beI a0 a1 a2 36)),.none,true):=by
 have hD:=okS_D hg
 refine (impl_besideAny_ans 1000 a0 a1 a2).trans ?_
 have h:=foldI_grid (X:=Empty) (g:=impl_besideAny_g0 Try.prog a0 a1 a2) (fun b k=>bif (bitI a1 k&&hbB a0 k a2) then orI b (oneI k) else b) (wd:=num a0 0) (hi:=num a0 1) (fun s k hk hi=>by
  have e0:decide (0≤(k:Int))=true:=decide_eq_true (by omega)
  have e1:decide ((k:Int)<36)=true:=decide_eq_true (by omega)
  have e2:=test_bit (a:=a1) (X:=(k:Int)) (by omega)
  rw [Int.toNat_natCast] at e2
  simp only [impl_besideAny_g0,e0,e1,e2,hD,hi,Int.toNat_natCast,Bool.and_self,cond_true]
  cases bitI a1 k with
  | false=>rfl
  | true=>
   cases hbB a0 k a2 with
   | false=>rfl
   | true=>simp only [cond_true,bitOf_one];rfl) (0:Int)
 rw [okS_iter hg,cond_true,h]
 rfl
noncomputable def impl_besideAny_con:Con:=fun args h=>match args,h with
 | [.g a0 36,.i .u64 a1,.i .u64 a2],[]=>some (.a (.i .u64 (beI a0 a1 a2 36)),.none,(okS a0))
 | _,_=>none
theorem impl_besideAny_enter:EntX Try.prog 15:=entX_ok (fn:=Try.f15) (by kernel_rfl) (by kernel_rfl) (by kernel_rfl)
theorem impl_besideAny_ok:ConOkX mn Try.prog 15 impl_besideAny_con:=(ansX_ok (N:=1000) (by kernel_rfl) (mkΓx_cX (con_okX impl_bitOf_ok) impl_bitOf_enter (mkΓx_cX (con_okX impl_hasBeside_ok) impl_hasBeside_enter (mkΓx_nX impl_eachCell_nok impl_eachCell_enter (mkΓx_iX impl_eachCell_1_iok impl_eachCell_1_enter mkΓx_nilX)))) (fn:=Try.f15) (by kernel_rfl) (by kernel_rfl) [([],[4])]).of (by
 intro ρ h w args vals r e hA hH hr
 unfold impl_besideAny_con at hr
 split at hr
 ·rename_i a0 a1 a2
  obtain ⟨rfl,hg⟩:=Prod.mk.inj (Option.some.inj hr)
  obtain ⟨rfl,hg2⟩:=Prod.mk.inj hg
  exact impl_besideAny_main a0 a1 a2 (hA.wt 0 rfl) (hA.rng 1 rfl) (hA.rng 2 rfl) hg2
 ·cases hr)
theorem water_bit {S:Array Value} (hS:WT Try.prog 36 S) {k:Nat} (hk:k<36):bitI (impl_waterBits_v0 S) k=(inC (num S 0) (num S 1) k && !(bitI (num S 2) k)):=by
 show bitI (andNotI (gridI (num S 0) (num S 1) 36) (num S 2)) k=_
 rw [bit_andNot _ _ (by omega),bit_grid _ _ 36 (by omega),decide_eq_true hk,Bool.true_and]
theorem dry_at {S:Array Value} (hS:WT Try.prog 36 S) {X:Int} (h:0≤X∧X<36):spec_l01Dry_v0 X S=bitI (num S 2) X.toNat:=by
 obtain ⟨m,rfl⟩:=Int.eq_ofNat_of_zero_le h.1
 rw [Int.toNat_natCast];exact dry_bit hS (by omega)
noncomputable def spec_l01Beside_G:Cons:=(mkΓ [(12,con spec_l01Dry_con),(25,con spec_l01Is_con),(26,con spec_l01Goes_con)])
noncomputable def spec_l01Beside_t1 (a1:Bool) (a0:Array Value) (y0_5:Int) (y0_6:Int):St:=(⟨.a (.w 0) :: .a (.b (a1)) :: .a (.u) :: .a (.u) :: .a (.i .u64 (0:Int)) :: .a (.i .u64 (y0_5)) :: .a (.i .i64 (y0_6)) :: .a (.i .i64 (1:Int)) :: .a (.x) :: .a (.i .i64 (y0_6)) :: .a (.b (decide (y0_6<(36:Int)))) :: .a (.x) :: .a (.x) :: .a (.w 0) :: .a (.i .i64 (y0_6)) :: .a (.b ((spec_l01Is_v0 y0_6 a0))) :: .a (.b ((!((spec_l01Is_v0 y0_6 a0))))) :: .a (.b (false)) :: .a (.w 0) :: .a (.i .i64 (y0_6)) :: .a (.b ((spec_l01Dry_v0 y0_6 a0))) :: .a (.b (a1)) :: .a (.b ((((spec_l01Dry_v0 y0_6 a0)) != (a1)))) :: .a (.b ((((spec_l01Dry_v0 y0_6 a0)) != (a1))))::xs 22 (.a (.u)::[]),[.row a0 36],[]⟩:St)
noncomputable def spec_l01Beside_e1:Int×Int→LS
 | (y1_5,y1_7)=>([.a (.i .u64 (y1_5)),.a (.i .i64 (y1_7))],[])
noncomputable def spec_l01Beside_x1:Int×Int→Exit×LS
 | t=>((.exit 2),spec_l01Beside_e1 t)
noncomputable def spec_l01Beside_g1 (P : Program) (a1 : Bool) (a0 : Array Value) (y0_5 : Int) (y0_6 : Int) : Int × Int → Option (Stp (Int × Int) (Int × Int))
 | (y1_5, y1_7) => bif decide (y1_7 ≤ (4 : Int)) then (bif decide ((spec_l01Goes_v0 y0_6 y1_7 a0) ≥ (0 : Int)) then (bif decide (0 ≤ (IntKind.u64.wrap (spec_l01Goes_v0 y0_6 y1_7 a0))) then (bif (((spec_l01Dry_v0 (spec_l01Goes_v0 y0_6 y1_7 a0) a0)) != (a1)) then (bif decide (0 ≤ (IntKind.u64.wrap y0_6)) then (some (.more ((IntKind.u64.wrap (BitVec.ofInt IntKind.u64.bits y1_5 ||| BitVec.ofInt IntKind.u64.bits (IntKind.u64.wrap ((1 : Int) * 2 ^ (min ((IntKind.u64.wrap y0_6)).toNat IntKind.u64.bits)))).toNat), (i64.wrap (y1_7 + (1 : Int))))))
      else (none))
     else (some (.more (y1_5, (i64.wrap (y1_7 + (1 : Int)))))))
    else (none))
   else (some (.more (y1_5, (i64.wrap (y1_7 + (1 : Int)))))))
  else (some (.done (y1_5, y1_7)))
theorem spec_l01Beside_s1 (N:Nat) (a1:Bool) (a0:Array Value) (y0_5:Int) (y0_6:Int):∀ t:Int×Int,stepV Try.prog spec_l01Beside_G N (cAt (codeOf Try.f11) [1,1,0,1,0,0,1,0,0,1,1,0,0]) (pAt (mkPlan (codeOf Try.f11) [([5,6],[]),([5,7],[])]).1 [1,1,0,1,0,1,0,1,1,0]) [5,7] [] (spec_l01Beside_t1 a1 a0 y0_5 y0_6) (spec_l01Beside_e1 t)=mapS spec_l01Beside_e1 spec_l01Beside_x1 (spec_l01Beside_g1 Try.prog a1 a0 y0_5 y0_6 t):=by
 rintro ⟨y1_5,y1_7⟩
 refine Eq.trans (b:=(bif decide (y1_7≤(4:Int)) then (bif decide ((spec_l01Goes_v0 y0_6 y1_7 a0) ≥ (0:Int)) then (bif decide (0≤(IntKind.u64.wrap (spec_l01Goes_v0 y0_6 y1_7 a0))) then (bif (((spec_l01Dry_v0 (spec_l01Goes_v0 y0_6 y1_7 a0) a0)) != (a1)) then (bif decide (0≤(IntKind.u64.wrap y0_6)) then (some (.more ([.a (.i .u64 (IntKind.u64.wrap (BitVec.ofInt IntKind.u64.bits y1_5 ||| BitVec.ofInt IntKind.u64.bits (IntKind.u64.wrap ((1:Int)*2^(min ((IntKind.u64.wrap y0_6)).toNat IntKind.u64.bits)))).toNat)),.a (.i .i64 (i64.wrap (y1_7+(1:Int))))],[])))
      else (none))
     else (some (.more ([.a (.i .u64 (y1_5)),.a (.i .i64 (i64.wrap (y1_7+(1:Int))))],[]))))
    else (none))
   else (some (.more ([.a (.i .u64 (y1_5)),.a (.i .i64 (i64.wrap (y1_7+(1:Int))))],[]))))
  else (some (.done ((.exit 2),([.a (.i .u64 (y1_5)),.a (.i .i64 (y1_7))],[])))))) (by kernel_rfl) ?_
 simp only [spec_l01Beside_g1,mapS_cond,mapS_more,mapS_done,mapS_none,spec_l01Beside_e1,spec_l01Beside_x1]
noncomputable def spec_l01Beside_t0 (a1:Bool) (a0:Array Value):St:=(⟨.a (.w 0) :: .a (.b (a1)) :: .a (.u) :: .a (.u) :: .a (.i .u64 (0:Int)) :: .a (.i .u64 (0:Int)) :: .a (.i .i64 (0:Int))::us 40 ([]),[.row a0 36],[]⟩:St)
noncomputable def spec_l01Beside_e0:Int×Int→LS
 | (y0_5,y0_6)=>([.a (.i .u64 (y0_5)),.a (.i .i64 (y0_6))],[])
noncomputable def spec_l01Beside_x0:Int×Int→Exit×LS
 | t=>((.exit 0),spec_l01Beside_e0 t)
noncomputable def spec_l01Beside_k1_0 (P:Program) (N:Nat) (a1:Bool) (a0:Array Value) (y0_5:Int) (y0_6:Int) (z1_5:Int) (z1_7:Int):Option (Stp (Int×Int) (Int×Int)):=some (.more (z1_5,(i64.wrap (y0_6+(1:Int)))))
theorem spec_l01Beside_k1_0_eq (N:Nat) (a1:Bool) (a0:Array Value) (y0_5:Int) (y0_6:Int) (z1_5:Int) (z1_7:Int):(kBlock 2 (kBlock 1 (kSeq (veC Try.prog spec_l01Beside_G N (cAt (codeOf Try.f11) [1,1,0,1,0,0,1,1]) (pAt (mkPlan (codeOf Try.f11) [([5,6],[]),([5,7],[])]).1 [1,1,0,1,0,1,1]) (Stp LS (Exit×LS))) (kBody 1 [5,6] [])))) (.exit 2) (left (writes (cAt (codeOf Try.f11) [1,1,0,1,0,0,1,0,0,1,1,0,0])) [5,7] [] (spec_l01Beside_t1 a1 a0 y0_5 y0_6) ([.a (.i .u64 (z1_5)),.a (.i .i64 (z1_7))],[]))=mapS spec_l01Beside_e0 spec_l01Beside_x0 (spec_l01Beside_k1_0 Try.prog N a1 a0 y0_5 y0_6 z1_5 z1_7):=by
 refine Eq.trans (b:=(some (.more ([.a (.i .u64 (z1_5)),.a (.i .i64 (i64.wrap (y0_6+(1:Int))))],[])))) (by kernel_rfl) ?_
 simp only [spec_l01Beside_k1_0,mapS_cond,mapS_more,mapS_done,mapS_none,spec_l01Beside_e0,spec_l01Beside_x0]
theorem spec_l01Beside_n1 (N:Nat) (a1:Bool) (a0:Array Value) (y0_5:Int) (y0_6:Int):bindX (iterO (stepV Try.prog spec_l01Beside_G N (cAt (codeOf Try.f11) [1,1,0,1,0,0,1,0,0,1,1,0,0]) (pAt (mkPlan (codeOf Try.f11) [([5,6],[]),([5,7],[])]).1 [1,1,0,1,0,1,0,1,1,0]) [5,7] [] (spec_l01Beside_t1 a1 a0 y0_5 y0_6)) N ([.a (.i .u64 (y0_5)),.a (.i .i64 (1:Int))],[])) (fun e s=>(kBlock 2 (kBlock 1 (kSeq (veC Try.prog spec_l01Beside_G N (cAt (codeOf Try.f11) [1,1,0,1,0,0,1,1]) (pAt (mkPlan (codeOf Try.f11) [([5,6],[]),([5,7],[])]).1 [1,1,0,1,0,1,1]) (Stp LS (Exit×LS))) (kBody 1 [5,6] [])))) e (left (writes (cAt (codeOf Try.f11) [1,1,0,1,0,0,1,0,0,1,1,0,0])) [5,7] [] (spec_l01Beside_t1 a1 a0 y0_5 y0_6) s))=mapS spec_l01Beside_e0 spec_l01Beside_x0 (nodeX (iterO (spec_l01Beside_g1 Try.prog a1 a0 y0_5 y0_6) N (y0_5,(1:Int))) (fun x=>spec_l01Beside_k1_0 Try.prog N a1 a0 y0_5 y0_6 x.1 x.2)):=by
 rw [mapS_nodeX spec_l01Beside_e0 spec_l01Beside_x0]
 first
 | (have h:=loop_node (α:=Stp LS (Exit×LS)) spec_l01Beside_e1 spec_l01Beside_x1 _ _ (spec_l01Beside_s1 N a1 a0 y0_5 y0_6) N (y0_5,(1:Int));refine h _ _ ?_)
 | (have h:=loop_node (α:=Stp BS (Exit×BS)) spec_l01Beside_e1 spec_l01Beside_x1 _ _ (spec_l01Beside_s1 N a1 a0 y0_5 y0_6) N (y0_5,(1:Int));refine h _ _ ?_)
 | (have h:=loop_node (α:=Stp LS ((Exit×LS) ⊕ (SV×Eff×Bool))) spec_l01Beside_e1 spec_l01Beside_x1 _ _ (spec_l01Beside_s1 N a1 a0 y0_5 y0_6) N (y0_5,(1:Int));refine h _ _ ?_)
 intro x;exact spec_l01Beside_k1_0_eq N a1 a0 y0_5 y0_6 x.1 x.2
noncomputable def spec_l01Beside_g0 (P : Program) (N : Nat) (a1 : Bool) (a0 : Array Value) : Int × Int → Option (Stp (Int × Int) (Int × Int))
 | (y0_5, y0_6) => bif decide (y0_6 < (36 : Int)) then (bif (!((spec_l01Is_v0 y0_6 a0))) then (some (.more (y0_5, (i64.wrap (y0_6 + (1 : Int))))))
   else (bif decide (0 ≤ (IntKind.u64.wrap y0_6)) then (bif (((spec_l01Dry_v0 y0_6 a0)) != (a1)) then (some (.more (y0_5, (i64.wrap (y0_6 + (1 : Int))))))
     else (nodeX (iterO (spec_l01Beside_g1 P a1 a0 y0_5 y0_6) N (y0_5, (1 : Int))) (fun x => spec_l01Beside_k1_0 P N a1 a0 y0_5 y0_6 x.1 x.2)))
    else (none)))
  else (some (.done (y0_5, y0_6)))
theorem spec_l01Beside_s0 (N:Nat) (a1:Bool) (a0:Array Value):∀ t:Int×Int,stepV Try.prog spec_l01Beside_G N (cAt (codeOf Try.f11) [1,1,0,1,0,0]) (pAt (mkPlan (codeOf Try.f11) [([5,6],[]),([5,7],[])]).1 [1,1,0,1,0]) [5,6] [] (spec_l01Beside_t0 a1 a0) (spec_l01Beside_e0 t)=mapS spec_l01Beside_e0 spec_l01Beside_x0 (spec_l01Beside_g0 Try.prog N a1 a0 t):=by
 rintro ⟨y0_5,y0_6⟩
 refine Eq.trans (b:=(bif decide (y0_6<(36:Int)) then (bif (!((spec_l01Is_v0 y0_6 a0))) then (some (.more ([.a (.i .u64 (y0_5)),.a (.i .i64 (i64.wrap (y0_6+(1:Int))))],[])))
   else (bif decide (0≤(IntKind.u64.wrap y0_6)) then (bif (((spec_l01Dry_v0 y0_6 a0)) != (a1)) then (some (.more ([.a (.i .u64 (y0_5)),.a (.i .i64 (i64.wrap (y0_6+(1:Int))))],[])))
     else (bindX (iterO (stepV Try.prog spec_l01Beside_G N (cAt (codeOf Try.f11) [1,1,0,1,0,0,1,0,0,1,1,0,0]) (pAt (mkPlan (codeOf Try.f11) [([5,6],[]),([5,7],[])]).1 [1,1,0,1,0,1,0,1,1,0]) [5,7] [] (spec_l01Beside_t1 a1 a0 y0_5 y0_6)) N ([.a (.i .u64 (y0_5)),.a (.i .i64 (1:Int))],[])) (fun e s=>(kBlock 2 (kBlock 1 (kSeq (veC Try.prog spec_l01Beside_G N (cAt (codeOf Try.f11) [1,1,0,1,0,0,1,1]) (pAt (mkPlan (codeOf Try.f11) [([5,6],[]),([5,7],[])]).1 [1,1,0,1,0,1,1]) (Stp LS (Exit×LS))) (kBody 1 [5,6] [])))) e (left (writes (cAt (codeOf Try.f11) [1,1,0,1,0,0,1,0,0,1,1,0,0])) [5,7] [] (spec_l01Beside_t1 a1 a0 y0_5 y0_6) s))))
    else (none)))
  else (some (.done ((.exit 0),([.a (.i .u64 (y0_5)),.a (.i .i64 (y0_6))],[])))))) (by kernel_rfl) ?_
 simp only [spec_l01Beside_n1 N a1 a0 y0_5 y0_6,spec_l01Beside_g0,mapS_cond,mapS_more,mapS_done,mapS_none,spec_l01Beside_e0,spec_l01Beside_x0]
noncomputable def spec_l01Beside_k0_0 (P:Program) (N:Nat) (a1:Bool) (a0:Array Value) (z0_5:Int) (z0_6:Int):Option (SV×Eff×Bool):=some (.a (.i .u64 (z0_5)),.none,true)
theorem spec_l01Beside_k0_0_eq (N:Nat) (a1:Bool) (a0:Array Value) (z0_5:Int) (z0_6:Int):(kBlock 0 (kSeq (veC Try.prog spec_l01Beside_G N (cAt (codeOf Try.f11) [1,1,1]) (pAt (mkPlan (codeOf Try.f11) [([5,6],[]),([5,7],[])]).1 [1,1,1]) (SV×Eff×Bool)) (finK Try.prog [.row a0 36] [.tmp 4]))) (.exit 0) (left (writes (cAt (codeOf Try.f11) [1,1,0,1,0,0])) [5,6] [] (spec_l01Beside_t0 a1 a0) ([.a (.i .u64 (z0_5)),.a (.i .i64 (z0_6))],[]))=spec_l01Beside_k0_0 Try.prog N a1 a0 z0_5 z0_6:=by
 refine Eq.trans (b:=(some (.a (.i .u64 (z0_5)),.none,true))) (by kernel_rfl) ?_
 rfl
theorem spec_l01Beside_n0 (N:Nat) (a1:Bool) (a0:Array Value):bindX (iterO (stepV Try.prog spec_l01Beside_G N (cAt (codeOf Try.f11) [1,1,0,1,0,0]) (pAt (mkPlan (codeOf Try.f11) [([5,6],[]),([5,7],[])]).1 [1,1,0,1,0]) [5,6] [] (spec_l01Beside_t0 a1 a0)) N ([.a (.i .u64 (0:Int)),.a (.i .i64 (0:Int))],[])) (fun e s=>(kBlock 0 (kSeq (veC Try.prog spec_l01Beside_G N (cAt (codeOf Try.f11) [1,1,1]) (pAt (mkPlan (codeOf Try.f11) [([5,6],[]),([5,7],[])]).1 [1,1,1]) (SV×Eff×Bool)) (finK Try.prog [.row a0 36] [.tmp 4]))) e (left (writes (cAt (codeOf Try.f11) [1,1,0,1,0,0])) [5,6] [] (spec_l01Beside_t0 a1 a0) s))=nodeX (iterO (spec_l01Beside_g0 Try.prog N a1 a0) N ((0:Int),(0:Int))) (fun x=>spec_l01Beside_k0_0 Try.prog N a1 a0 x.1 x.2):=by
 refine loop_node spec_l01Beside_e0 spec_l01Beside_x0 _ _ (spec_l01Beside_s0 N a1 a0) N ((0:Int),(0:Int)) _ _ ?_
 intro x;exact spec_l01Beside_k0_0_eq N a1 a0 x.1 x.2
theorem spec_l01Beside_ans (N:Nat) (a1:Bool) (a0:Array Value):ansV Try.prog spec_l01Beside_G N Try.f11 [([5,6],[]),([5,7],[])] [.w 0,.b (a1)] [.row a0 36]=(nodeX (iterO (spec_l01Beside_g0 Try.prog N a1 a0) N ((0:Int),(0:Int))) (fun x=>spec_l01Beside_k0_0 Try.prog N a1 a0 x.1 x.2)):=by
 refine Eq.trans (b:=(bindX (iterO (stepV Try.prog spec_l01Beside_G N (cAt (codeOf Try.f11) [1,1,0,1,0,0]) (pAt (mkPlan (codeOf Try.f11) [([5,6],[]),([5,7],[])]).1 [1,1,0,1,0]) [5,6] [] (spec_l01Beside_t0 a1 a0)) N ([.a (.i .u64 (0:Int)),.a (.i .i64 (0:Int))],[])) (fun e s=>(kBlock 0 (kSeq (veC Try.prog spec_l01Beside_G N (cAt (codeOf Try.f11) [1,1,1]) (pAt (mkPlan (codeOf Try.f11) [([5,6],[]),([5,7],[])]).1 [1,1,1]) (SV×Eff×Bool)) (finK Try.prog [.row a0 36] [.tmp 4]))) e (left (writes (cAt (codeOf Try.f11) [1,1,0,1,0,0])) [5,6] [] (spec_l01Beside_t0 a1 a0) s)))) (by kernel_rfl) ?_
 simp only [spec_l01Beside_n0 N a1 a0]
theorem spec_l01Beside_main (a1:Bool) (a0:Array Value) (h_a0:WT Try.prog 36 a0) (hg:((okS a0 && !a1))=true):ansV Try.prog spec_l01Beside_G 1000 Try.f11 [([5,6],[]),([5,7],[])] [.w 0,.b (a1)] [.row a0 36]=some (.a (.i .u64 (beI a0 (impl_waterBits_v0 a0) (num a0 2) 36)),.none,true):=by
 simp only [Bool.and_eq_true,Bool.not_eq_true'] at hg
 obtain ⟨hO,rfl⟩:=hg
 have h0:=okD_dims (okS_D hO)
 have inner:∀ (b:Int) (k:Nat),k<36→inC (num a0 0) (num a0 1) k=true→iterO (spec_l01Beside_g1 Try.prog false a0 b (k:Int)) 1000 (b,(1:Int))=some ((bif hbB a0 k (num a0 2) then orI b (oneI k) else b),((5:Nat):Int)):=fun b k hk hi=>
  iter_all (g:=spec_l01Beside_g1 Try.prog false a0 b (k:Int)) (fun j=>((bif (List.range j).any (nbB a0 k (num a0 2)) then orI b (oneI k) else b),((j+1:Nat):Int))) (m:=4) (fun j hj=>by
   have e1:decide (((j+1:Nat):Int)≤(4:Int))=true:=decide_eq_true (by omega)
   have e3:=goes_nice h0 hk hi (j+1) (by omega)
   obtain ⟨e4,e6⟩:=gw_ne h0 hk hi (j+1) (by omega)
   have e5:i64.wrap (((j+1:Nat):Int)+1)=((j+1+1:Nat):Int):=by rw [IntWalk.i64_in _ (by omega)];omega
   have e7:∀ z:Int,decide (0≤IntKind.u64.wrap z)=true:=fun z=>decide_eq_true (wrap_in .u64 _).1
   have e8:nbB a0 k (num a0 2) j=(decide (0≤gw a0 k (j+1))&&bitI (num a0 2) (gw a0 k (j+1)).toNat):=rfl
   simp only [spec_l01Beside_g1,e1,e3,e7,e5,ge_iff_le,cond_true,any_succ]
   rw [e8]
   cases hz:decide (0≤gw a0 k (j+1)) with
   | false=>simp only [cond_false,Bool.false_and,Bool.or_false]
   | true=>
    rw [dry_at h_a0 (e6 hz)]
    cases hb:bitI (num a0 2) (gw a0 k (j+1)).toNat with
    | false=>
     simp only [cond_true,Bool.true_and,Bool.or_false]
     rfl
    | true=>
     have e9:IntKind.u64.wrap ((1:Int)*2^(min ((IntKind.u64.wrap (k:Int))).toNat IntKind.u64.bits))=oneI k:=by rw [u64w hk,Int.toNat_natCast];rfl
     simp only [cond_true,Bool.true_and,Bool.or_true,e9]
     show some (Stp.more (orI (bif (List.range j).any (nbB a0 k (num a0 2)) then orI b (oneI k) else b) (oneI k),((j+1+1:Nat):Int)))=_
     cases (List.range j).any (nbB a0 k (num a0 2)) with
     | false=>rfl
     | true=>rw [cond_true,or_idem]) (by
   have e1:decide (((4+1:Nat):Int)≤(4:Int))=false:=by decide
   simp only [spec_l01Beside_g1,e1,cond_false]
   rfl) (by omega)
 refine (spec_l01Beside_ans 1000 false a0).trans ?_
 have h:=iter_folds (g:=spec_l01Beside_g0 Try.prog 1000 false a0) (fun b k=>(b,(k:Int))) (beF a0 (impl_waterBits_v0 a0) (num a0 2)) (m:=36) (t:=(0:Int)) (x:=(beI a0 (impl_waterBits_v0 a0) (num a0 2) 36,((36:Nat):Int))) (N:=1000) (fun k s hk _=>by
  have e1:decide ((k:Int)<36)=true:=decide_eq_true (by omega)
  have e5:i64.wrap ((k:Int)+1)=((k+1:Nat):Int):=by rw [IntWalk.i64_in _ (by omega)];omega
  have e7:∀ z:Int,decide (0≤IntKind.u64.wrap z)=true:=fun z=>decide_eq_true (wrap_in .u64 _).1
  simp only [spec_l01Beside_g0,e1,e5,e7,is_inC h_a0 hk,dry_bit h_a0 hk,cond_true]
  unfold beF
  rw [water_bit h_a0 hk]
  cases hi:inC (num a0 0) (num a0 1) k with
  | false=>rfl
  | true=>
   rw [if_pos rfl]
   cases hb:bitI (num a0 2) k with
   | true=>rfl
   | false=>
    have h1:=inner s k hk hi
    have h2:(false != false)=false:=rfl
    simp only [Bool.not_true,cond_false,h2,h1,nodeX,spec_l01Beside_k1_0,e5,Bool.not_false,Bool.true_and]) (by
  have e1:decide (((36:Nat):Int)<36)=false:=by decide
  simp only [spec_l01Beside_g0,e1,cond_false]
  rfl) (by omega)
 have h':iterO (spec_l01Beside_g0 Try.prog 1000 false a0) 1000 ((0:Int),(0:Int))=_:=h
 rw [h']
 rfl
noncomputable def spec_l01Beside_con:Con:=fun args h=>match args,h with
 | [.w 0,.b a1],[.row a0 36]=>some (.a (.i .u64 (beI a0 (impl_waterBits_v0 a0) (num a0 2) 36)),.none,(okS a0 && !a1))
 | _,_=>none
theorem spec_l01Beside_enter:EntX Try.prog 11:=entX_ok (fn:=Try.f11) (by kernel_rfl) (by kernel_rfl) (by kernel_rfl)
theorem spec_l01Beside_ok:ConOkX mn Try.prog 11 spec_l01Beside_con:=(ansX_ok (N:=1000) (by kernel_rfl) (mkΓ_consX (con_okX spec_l01Dry_ok) spec_l01Dry_enter (mkΓ_consX (con_okX spec_l01Is_ok) spec_l01Is_enter (mkΓ_consX (con_okX spec_l01Goes_ok) spec_l01Goes_enter mkΓ_nilX))) (fn:=Try.f11) (by kernel_rfl) (by kernel_rfl) [([5,6],[]),([5,7],[])]).of (by
 intro ρ h w args vals r e hA hH hr
 unfold spec_l01Beside_con at hr
 split at hr
 ·rename_i a1 a0
  obtain ⟨rfl,hg⟩:=Prod.mk.inj (Option.some.inj hr)
  obtain ⟨rfl,hg2⟩:=Prod.mk.inj hg
  exact spec_l01Beside_main a1 a0 (hH.wt 0 rfl) hg2
 ·cases hr)
end
end Go.Proofs.Ytdoofckpedklnaa
