/- Finds that can be. -/
import Derived.Test.YtphmhgdedoeaeaaDoorProg
import Derived.Test.YtphmhgdedoeaeaaDoorCyR
namespace Go.Proofs.YtphmhgdedoeaeaaDoor
open Go.ChangeShapes Go.WideShapes Go.ChangeAt Go.RowKit Ve Vc
open Tryd (prog)
open IntKind (i64)
set_option linter.unusedVariables false
set_option linter.unusedSimpArgs false
set_option maxRecDepth 100000
noncomputable section
variable {F:Vc.Fd}
theorem ext_num {C:Array Value} {b m o:Nat} (ho:o<m):num (C.extract b (b+m)) o=num C (b+o):=by
 have e2:(C.extract b (b+m))[o]? = C[b+o]? := by
  simp only [Array.getElem?_extract]
  by_cases h:b+o<C.size
  ·rw [if_pos (by omega)]
  ·rw [if_neg (by omega),Array.getElem?_eq_none (by omega)]
 unfold num;rw [e2]
theorem sl_int {P:Program} {e:TypeId} {n m:Nat} {C:Array Value} (h:∀ k,k<n→WT P e (C.extract (k*m) (k*m+m))) {k o:Nat} {kd:IntKind} (hk:k<n) (ho:o<m) (hq:(lay P e)[o]? = some (kN kd)) :
  C[k*m+o]? = some (.int kd (num C (k*m+o)))∧kd.min≤num C (k*m+o)∧num C (k*m+o)≤kd.max:=by
 have hw:=(h k hk).int hq
 rw [ext_num ho] at hw
 refine ⟨?_,hw.2⟩
 have:=hw.1
 rw [Array.getElem?_extract] at this
 split at this
 ·exact this
 ·cases this
theorem laws_toFind_ans (N:Nat) (a0:Array Value):ansV prog (mkΓ []) N Tryd.f23 [] [.g a0 47] []=(some (.a (.g #[.int .i8 (num a0 0),.int .i8 (num a0 1)] 50),.none,true)):=by kernel_rfl
theorem laws_toFind_main (a0:Array Value) (h_a0:WT prog 47 a0) (hg:(true)=true):ansV prog (mkΓ []) 1000 Tryd.f23 [] [.g a0 47] []=some (.a (.g a0 50),.none,true):=by
 have hz:a0.size=2:=by rw [h_a0.layLen];kernel_rfl
 have e0:=(h_a0.int (o:=0) (k:=.i8) (by kernel_rfl)).1
 have e1:=(h_a0.int (o:=1) (k:=.i8) (by kernel_rfl)).1
 have he:(#[.int .i8 (num a0 0),.int .i8 (num a0 1)]:Array Value)=a0:=arr_ext fun i=>by
  match i with
  | 0=>exact e0.symm
  | 1=>exact e1.symm
  | i+2=>rw [Array.getElem?_eq_none (by simp),Array.getElem?_eq_none (by omega)]
 refine (laws_toFind_ans 1000 a0).trans ?_
 rw [he]
noncomputable def laws_toFind_con:Con:=fun args h=>match args,h with
 | [.g a0 47],[]=>some (.a (.g a0 50),.none,true)
 | _,_=>none
theorem laws_toFind_enter:EntX prog 23:=entX_ok (fn:=Tryd.f23) (by kernel_rfl) (by kernel_rfl) (by kernel_rfl)
theorem laws_toFind_ok:ConOkX (md F) prog 23 laws_toFind_con:=(ansX_ok (N:=1000) (by kernel_rfl) mkΓ_nilX (fn:=Tryd.f23) (by kernel_rfl) (by kernel_rfl) []).of (by
 intro ρ h w args vals r e hA hH hr
 unfold laws_toFind_con at hr
 split at hr
 ·rename_i a0
  obtain ⟨rfl,hg⟩:=Prod.mk.inj (Option.some.inj hr)
  obtain ⟨rfl,hg2⟩:=Prod.mk.inj hg
  exact laws_toFind_main a0 (hA.wt 0 rfl) hg2
 ·cases hr)
noncomputable def laws_toFindS_t0 (b_a0:Option (Option Addr)) (n_a0:Nat) (a0:Array Value):St:=(⟨.a (.l 0) :: .a (.u) :: .a (.v (.slice none 0 0)) :: .a (.l 3) :: .a (.i .i64 (0:Int)) :: .a (.l 0) :: .a (.i .i64 (n_a0:Int)) :: .a (.l 3)::us 15 ([]),[.sl (.came b_a0) n_a0 a0 47,.no,.no,.sl .own ((n_a0:Int).toNat) (madeCells (zc prog 50) ((n_a0:Int).toNat*2)) 50,.no],[]⟩:St)
noncomputable def laws_toFindS_e0 (n_a0:Nat):Int×Array Value→LS
 | (y0_4,r0_3)=>([.a (.i .i64 (y0_4))],[.sl .own ((n_a0:Int).toNat) r0_3 50])
noncomputable def laws_toFindS_x0 (n_a0:Nat):Int×Array Value→Exit×LS
 | t=>((.exit 0),(laws_toFindS_e0 n_a0) t)
noncomputable def laws_toFindS_g0 (P : Program) (b_a0 : Option (Option Addr)) (n_a0 : Nat) (a0 : Array Value) : Int × Array Value → Option (Stp (Int × Array Value) (Int × Array Value))
 | (y0_4, r0_3) => bif decide (y0_4 < (n_a0 : Int)) then (bif (decide (0 ≤ y0_4) && decide (y0_4 < (n_a0 : Int))) then (bif (decide (0 ≤ y0_4) && decide (y0_4 < (((n_a0 : Int).toNat) : Int))) then (some (.more ((i64.wrap (y0_4 + (1 : Int))), (spl r0_3 ((y0_4).toNat * 2) (a0.extract ((y0_4).toNat * 2) (((y0_4).toNat * 2) + 2)).toList))))
    else (none))
   else (none))
  else (some (.done (y0_4, r0_3)))
theorem laws_toFindS_s0 (N:Nat) (b_a0:Option (Option Addr)) (n_a0:Nat) (a0:Array Value):∀ t:Int×Array Value,stepV prog (mkΓ [(23,con laws_toFind_con)]) N (cAt (codeOf Tryd.f29) [1,1,0,1,0,0]) (pAt (mkPlan (codeOf Tryd.f29) [([4],[3])]).1 [1,1,0,1,0]) [4] [3] (laws_toFindS_t0 b_a0 n_a0 a0) ((laws_toFindS_e0 n_a0) t)=mapS (laws_toFindS_e0 n_a0) (laws_toFindS_x0 n_a0) (laws_toFindS_g0 prog b_a0 n_a0 a0 t):=by
 rintro ⟨y0_4,r0_3⟩
 refine Eq.trans (b:=(bif decide (y0_4<(n_a0:Int)) then (bif (decide (0≤y0_4)&&decide (y0_4<(n_a0:Int))) then (bif (decide (0≤y0_4)&&decide (y0_4<(((n_a0:Int).toNat):Int))) then (some (.more ([.a (.i .i64 (i64.wrap (y0_4+(1:Int))))],[.sl .own ((n_a0:Int).toNat) (spl r0_3 ((y0_4).toNat*2) (a0.extract ((y0_4).toNat*2) (((y0_4).toNat*2)+2)).toList) 50])))
    else (none))
   else (none))
  else (some (.done ((.exit 0),([.a (.i .i64 (y0_4))],[.sl .own ((n_a0:Int).toNat) r0_3 50])))))) (by kernel_rfl) ?_
 simp only [laws_toFindS_g0,mapS_cond,mapS_more,mapS_done,mapS_none,laws_toFindS_e0,laws_toFindS_x0]
noncomputable def laws_toFindS_k0_0 (P:Program) (N:Nat) (b_a0:Option (Option Addr)) (n_a0:Nat) (a0:Array Value) (z0_4:Int) (q0_3:Array Value):Option (SV×Eff×Bool):=some (.a .x,.newS none ((n_a0:Int).toNat) q0_3 50,true)
theorem laws_toFindS_k0_0_eq (N:Nat) (b_a0:Option (Option Addr)) (n_a0:Nat) (a0:Array Value) (z0_4:Int) (q0_3:Array Value):(kBlock 0 (kSeq (veC prog (mkΓ [(23,con laws_toFind_con)]) N (cAt (codeOf Tryd.f29) [1,1,1]) (pAt (mkPlan (codeOf Tryd.f29) [([4],[3])]).1 [1,1,1]) (SV×Eff×Bool)) (finK prog [.sl (.came b_a0) n_a0 a0 47] [.tmp 2]))) (.exit 0) (left (writes (cAt (codeOf Tryd.f29) [1,1,0,1,0,0])) [4] [3] (laws_toFindS_t0 b_a0 n_a0 a0) ([.a (.i .i64 (z0_4))],[.sl .own ((n_a0:Int).toNat) q0_3 50]))=laws_toFindS_k0_0 prog N b_a0 n_a0 a0 z0_4 q0_3:=by
 refine Eq.trans (b:=(some (.a .x,.newS none ((n_a0:Int).toNat) q0_3 50,true))) (by kernel_rfl) ?_
 rfl
theorem laws_toFindS_n0 (N:Nat) (b_a0:Option (Option Addr)) (n_a0:Nat) (a0:Array Value):bindX (iterO (stepV prog (mkΓ [(23,con laws_toFind_con)]) N (cAt (codeOf Tryd.f29) [1,1,0,1,0,0]) (pAt (mkPlan (codeOf Tryd.f29) [([4],[3])]).1 [1,1,0,1,0]) [4] [3] (laws_toFindS_t0 b_a0 n_a0 a0)) N ([.a (.i .i64 (0:Int))],[.sl .own ((n_a0:Int).toNat) (madeCells (zc prog 50) ((n_a0:Int).toNat*2)) 50])) (fun e s=>(kBlock 0 (kSeq (veC prog (mkΓ [(23,con laws_toFind_con)]) N (cAt (codeOf Tryd.f29) [1,1,1]) (pAt (mkPlan (codeOf Tryd.f29) [([4],[3])]).1 [1,1,1]) (SV×Eff×Bool)) (finK prog [.sl (.came b_a0) n_a0 a0 47] [.tmp 2]))) e (left (writes (cAt (codeOf Tryd.f29) [1,1,0,1,0,0])) [4] [3] (laws_toFindS_t0 b_a0 n_a0 a0) s))=nodeX (iterO (laws_toFindS_g0 prog b_a0 n_a0 a0) N ((0:Int),(madeCells (zc prog 50) ((n_a0:Int).toNat*2)))) (fun x=>laws_toFindS_k0_0 prog N b_a0 n_a0 a0 x.1 x.2):=by
 refine loop_node (laws_toFindS_e0 n_a0) (laws_toFindS_x0 n_a0) _ _ (laws_toFindS_s0 N b_a0 n_a0 a0) N ((0:Int),(madeCells (zc prog 50) ((n_a0:Int).toNat*2))) _ _ ?_
 intro x;exact laws_toFindS_k0_0_eq N b_a0 n_a0 a0 x.1 x.2
theorem laws_toFindS_ans (N:Nat) (b_a0:Option (Option Addr)) (n_a0:Nat) (a0:Array Value):ansV prog (mkΓ [(23,con laws_toFind_con)]) N Tryd.f29 [([4],[3])] [.l 0] [.sl (.came b_a0) n_a0 a0 47]=(bif (decide (0≤(n_a0:Int))&&((n_a0:Int)==(n_a0:Int)&&decide ((bytesOf prog 50:Int)*(n_a0:Int)≤281474976710656))) then (nodeX (iterO (laws_toFindS_g0 prog b_a0 n_a0 a0) N ((0:Int),(madeCells (zc prog 50) ((n_a0:Int).toNat*2)))) (fun x=>laws_toFindS_k0_0 prog N b_a0 n_a0 a0 x.1 x.2))
  else (none)):=by
 refine Eq.trans (b:=(bif (decide (0≤(n_a0:Int))&&((n_a0:Int)==(n_a0:Int)&&decide ((bytesOf prog 50:Int)*(n_a0:Int)≤281474976710656))) then (bindX (iterO (stepV prog (mkΓ [(23,con laws_toFind_con)]) N (cAt (codeOf Tryd.f29) [1,1,0,1,0,0]) (pAt (mkPlan (codeOf Tryd.f29) [([4],[3])]).1 [1,1,0,1,0]) [4] [3] (laws_toFindS_t0 b_a0 n_a0 a0)) N ([.a (.i .i64 (0:Int))],[.sl .own ((n_a0:Int).toNat) (madeCells (zc prog 50) ((n_a0:Int).toNat*2)) 50])) (fun e s=>(kBlock 0 (kSeq (veC prog (mkΓ [(23,con laws_toFind_con)]) N (cAt (codeOf Tryd.f29) [1,1,1]) (pAt (mkPlan (codeOf Tryd.f29) [([4],[3])]).1 [1,1,1]) (SV×Eff×Bool)) (finK prog [.sl (.came b_a0) n_a0 a0 47] [.tmp 2]))) e (left (writes (cAt (codeOf Tryd.f29) [1,1,0,1,0,0])) [4] [3] (laws_toFindS_t0 b_a0 n_a0 a0) s)))
  else (none))) (by kernel_rfl) ?_
 simp only [laws_toFindS_n0 N b_a0 n_a0 a0]
theorem laws_toFindS_main (b_a0:Option (Option Addr)) (n_a0:Nat) (a0:Array Value) (h_a0:a0.size=n_a0*(lay prog 47).length∧(∀ k,k<n_a0→WT prog 47 (a0.extract (k*(lay prog 47).length) (k*(lay prog 47).length+(lay prog 47).length)))∧n_a0≤9223372036854775807) (hg:(decide (n_a0≤1048576))=true):ansV prog (mkΓ [(23,con laws_toFind_con)]) 18446744073709551616 Tryd.f29 [([4],[3])] [.l 0] [.sl (.came b_a0) n_a0 a0 47]=some (.a .x,.newS none n_a0 a0 50,true):=by
 have hn:n_a0≤1048576:=of_decide_eq_true hg
 have hm:(lay prog 47).length=2:=by kernel_rfl
 have hb:bytesOf prog 50=2:=by kernel_rfl
 obtain ⟨s1,s2,s3⟩:=h_a0
 rw [hm] at s1 s2
 have hq:(lay prog 47)[0]? = some 0:=by kernel_rfl
 refine (laws_toFindS_ans 18446744073709551616 b_a0 n_a0 a0).trans ?_
 have hgd:(decide (0≤(n_a0:Int))&&((n_a0:Int)==(n_a0:Int)&&decide ((bytesOf prog 50:Int)*(n_a0:Int)≤281474976710656)))=true:=by
  rw [hb,decide_eq_true (show (0:Int)≤n_a0 by omega),beq_self_eq_true,decide_eq_true (show (((2:Nat):Int))*(n_a0:Int)≤281474976710656 by omega)];rfl
 rw [hgd,cond_true]
 have hs:a0.size=(madeCells (zc prog 50) ((n_a0:Int).toNat*2)).size:=by rw [size_madeCells,Int.toNat_natCast];exact s1
 generalize (madeCells (zc prog 50) ((n_a0:Int).toNat*2))=Z at hs⊢
 have h:=iter_all (g:=laws_toFindS_g0 prog b_a0 n_a0 a0) (fun k=>((k:Int),upto a0 Z (k*2))) (m:=n_a0) (x:=((n_a0:Int),upto a0 Z (n_a0*2))) (N:=18446744073709551616) (fun k hk=>by
  have h1:decide ((k:Int)<(n_a0:Int))=true:=decide_eq_true (by omega)
  have h0:decide (0≤(k:Int))=true:=decide_eq_true (by omega)
  have h3:i64.wrap ((k:Int)+1)=((k+1:Nat):Int):=by rw [IntWalk.i64_in _ (by omega)];omega
  have h5:spl (upto a0 Z (k*2)) (k*2) (a0.extract (k*2) (k*2+2)).toList=upto a0 Z ((k+1)*2):=by
   rw [Nat.add_mul];exact upto_spl hs (by have:(k+1)*2≤n_a0*2:=Nat.mul_le_mul_right _ hk;omega) rfl
  simp only [laws_toFindS_g0,h1,h0,Bool.and_self,Int.toNat_natCast,cond_true,h3,h5]) (by
  have h1:decide ((n_a0:Int)<(n_a0:Int))=false:=decide_eq_false (by omega)
  simp only [laws_toFindS_g0,h1,cond_false]) (by omega)
 rw [upto_all hs s1] at h
 simp only [Nat.zero_mul,upto_zero hs] at h
 have h':iterO (laws_toFindS_g0 prog b_a0 n_a0 a0) 18446744073709551616 ((0:Int),Z)=some ((n_a0:Int),a0):=h
 rw [h']
 show some (_,Eff.newS none ((n_a0:Int).toNat) a0 50,true)=_
 rw [Int.toNat_natCast]
noncomputable def laws_toFindS_con:Con:=fun args h=>match args,h with
 | [.l 0],[.sl (.came b_a0) n_a0 a0 47]=>some (.a .x,.newS none n_a0 a0 50,decide (n_a0≤1048576))
 | _,_=>none
theorem laws_toFindS_enter:EntX prog 29:=entX_ok (fn:=Tryd.f29) (by kernel_rfl) (by kernel_rfl) (by kernel_rfl)
theorem laws_toFindS_ok:ConOkX (md F) prog 29 laws_toFindS_con:=(ansX_ok (N:=18446744073709551616) (by kernel_rfl) (mkΓ_consX (con_okX laws_toFind_ok) laws_toFind_enter mkΓ_nilX) (fn:=Tryd.f29) (by kernel_rfl) (by kernel_rfl) [([4],[3])]).of (by
 intro ρ h w args vals r e hA hH hr
 unfold laws_toFindS_con at hr
 split at hr
 ·rename_i b_a0 n_a0 a0
  obtain ⟨rfl,hg⟩:=Prod.mk.inj (Option.some.inj hr)
  obtain ⟨rfl,hg2⟩:=Prod.mk.inj hg
  exact laws_toFindS_main b_a0 n_a0 a0 (hH.slw 0 rfl) hg2
 ·cases hr)
noncomputable def bcF (a1:Array Value) (k:Nat):Int:=i64.wrap (num a1 (k*2+0))
noncomputable def hcF (a1:Array Value) (k:Nat):Int:=i64.wrap (num a1 (k*2+1))
noncomputable def fndB (S a1:Array Value) (k:Nat):Bool:=spec_l01Is_v0 (bcF a1 k) S&&(spec_l01Dry_v0 (bcF a1 k) S&&spec_l00In_v0 (hcF a1 k) 1 14)
noncomputable def fndAll (S:Array Value) (n:Nat) (a1:Array Value):Bool:=(List.range n).all (fndB S a1)
theorem fndAll_iff (S:Array Value) (n:Nat) (a1:Array Value):fndAll S n a1=true ↔ ∀ k,k<n→fndB S a1 k=true:=by
 unfold fndAll
 rw [List.all_eq_true]
 exact ⟨fun h k hk=>h k (List.mem_range.2 hk),fun h k hk=>h k (List.mem_range.1 hk)⟩
theorem fnd_ext (a1:Array Value) (k:Nat):i64.wrap (num (a1.extract (k*2) (k*2+2)) 0)=bcF a1 k∧i64.wrap (num (a1.extract (k*2) (k*2+2)) 1)=hcF a1 k:=by
 rw [ext_num (by omega),ext_num (by omega)];exact ⟨rfl,rfl⟩
theorem hour_eqF (n:Int):impl_hasHour_v0 n=spec_l00In_v0 n 1 14:=rfl
noncomputable def spec_l03Finds_G:Cons:=(mkΓ [(49,con spec_l03Hour_con),(83,con spec_l01Is_con),(85,con spec_l01Dry_con)])
noncomputable def spec_l03Finds_t0 (a0:Array Value) (b_a1:Option (Option Addr)) (n_a1:Nat) (a1:Array Value):St:=(⟨.a (.w 0) :: .a (.l 1) :: .a (.u) :: .a (.u) :: .a (.b (false)) :: .a (.i .i64 (0:Int))::us 36 ([]),[.row a0 36,.sl (.came b_a1) n_a1 a1 50],[]⟩:St)
noncomputable def spec_l03Finds_e0:Bool×Int→LS
 | (y0_4,y0_5)=>([.a (.b (y0_4)),.a (.i .i64 (y0_5))],[])
noncomputable def spec_l03Finds_x0:(Stp (Bool×Int) (Bool×Int))→Exit×LS
 | .more t=>(.ret,spec_l03Finds_e0 t)
 | .done t=>((.exit 0),spec_l03Finds_e0 t)
noncomputable def spec_l03Finds_g0 (P:Program) (a0:Array Value) (b_a1:Option (Option Addr)) (n_a1:Nat) (a1:Array Value):Bool×Int→Option (Stp (Bool×Int) (Stp (Bool×Int) (Bool×Int)))
  | (y0_4,y0_5)=>bif decide (y0_5<(n_a1:Int)) then (bif (decide (0≤y0_5)&&decide (y0_5<(n_a1:Int))) then (bif (!((spec_l01Is_v0 (i64.wrap (num a1 (((y0_5).toNat*2)+0))) a0))) then (some (.done (.more (false,y0_5))))
        else (bif decide (0≤(IntKind.u64.wrap (i64.wrap (num a1 (((y0_5).toNat*2)+0))))) then (bif (!((spec_l01Dry_v0 (i64.wrap (num a1 (((y0_5).toNat*2)+0))) a0))) then (some (.done (.more (false,y0_5))))
            else (bif (decide (0≤y0_5)&&decide (y0_5<(n_a1:Int))) then (bif (!((spec_l00In_v0 (i64.wrap (num a1 (((y0_5).toNat*2)+1))) (1:Int) (14:Int)))) then (some (.done (.more (false,y0_5))))
                else (some (.more (y0_4,(i64.wrap (y0_5+(1:Int)))))))
              else (none)))
          else (none)))
      else (none))
    else (some (.done (.done (y0_4,y0_5))))
theorem spec_l03Finds_s0 (N:Nat) (a0:Array Value) (b_a1:Option (Option Addr)) (n_a1:Nat) (a1:Array Value):∀ t:Bool×Int,stepV prog spec_l03Finds_G N (cAt (codeOf Tryd.f96) [1,0,1,0,0]) (pAt (mkPlan (codeOf Tryd.f96) [([4,5],[])]).1 [1,0,1,0]) [4,5] [] (spec_l03Finds_t0 a0 b_a1 n_a1 a1) (spec_l03Finds_e0 t)=mapS spec_l03Finds_e0 spec_l03Finds_x0 (spec_l03Finds_g0 prog a0 b_a1 n_a1 a1 t):=by
  rintro ⟨y0_4,y0_5⟩
  refine Eq.trans (b:=(bif decide (y0_5<(n_a1:Int)) then (bif (decide (0≤y0_5)&&decide (y0_5<(n_a1:Int))) then (bif (!((spec_l01Is_v0 (i64.wrap (num a1 (((y0_5).toNat*2)+0))) a0))) then (some (.done (.ret,([.a (.b (false)),.a (.i .i64 (y0_5))],[]))))
        else (bif decide (0≤(IntKind.u64.wrap (i64.wrap (num a1 (((y0_5).toNat*2)+0))))) then (bif (!((spec_l01Dry_v0 (i64.wrap (num a1 (((y0_5).toNat*2)+0))) a0))) then (some (.done (.ret,([.a (.b (false)),.a (.i .i64 (y0_5))],[]))))
            else (bif (decide (0≤y0_5)&&decide (y0_5<(n_a1:Int))) then (bif (!((spec_l00In_v0 (i64.wrap (num a1 (((y0_5).toNat*2)+1))) (1:Int) (14:Int)))) then (some (.done (.ret,([.a (.b (false)),.a (.i .i64 (y0_5))],[]))))
                else (some (.more ([.a (.b (y0_4)),.a (.i .i64 (i64.wrap (y0_5+(1:Int))))],[]))))
              else (none)))
          else (none)))
      else (none))
    else (some (.done ((.exit 0),([.a (.b (y0_4)),.a (.i .i64 (y0_5))],[])))))) (by kernel_rfl) ?_
  simp only [spec_l03Finds_g0,mapS_cond,mapS_more,mapS_done,mapS_none,spec_l03Finds_e0,spec_l03Finds_x0]
noncomputable def spec_l03Finds_k0_0 (P:Program) (N:Nat) (a0:Array Value) (b_a1:Option (Option Addr)) (n_a1:Nat) (a1:Array Value) (z0_4:Bool) (z0_5:Int):Option (SV×Eff×Bool):=some (.a (.b (z0_4)),.none,true)
theorem spec_l03Finds_k0_0_eq (N:Nat) (a0:Array Value) (b_a1:Option (Option Addr)) (n_a1:Nat) (a1:Array Value) (z0_4:Bool) (z0_5:Int):(kBlock 0 (kSeq (veC prog spec_l03Finds_G N (cAt (codeOf Tryd.f96) [1,1]) (pAt (mkPlan (codeOf Tryd.f96) [([4,5],[])]).1 [1,1]) (SV×Eff×Bool)) (finK prog [.row a0 36,.sl (.came b_a1) n_a1 a1 50] [.tmp 4]))) .ret (left (writes (cAt (codeOf Tryd.f96) [1,0,1,0,0])) [4,5] [] (spec_l03Finds_t0 a0 b_a1 n_a1 a1) ([.a (.b (z0_4)),.a (.i .i64 (z0_5))],[]))=spec_l03Finds_k0_0 prog N a0 b_a1 n_a1 a1 z0_4 z0_5:=by
 refine Eq.trans (b:=(some (.a (.b (z0_4)),.none,true))) (by kernel_rfl) ?_
 rfl
noncomputable def spec_l03Finds_k0_1 (P:Program) (N:Nat) (a0:Array Value) (b_a1:Option (Option Addr)) (n_a1:Nat) (a1:Array Value) (z0_4:Bool) (z0_5:Int):Option (SV×Eff×Bool):=some (.a (.b (decide ((n_a1:Int)≤(60:Int)))),.none,true)
theorem spec_l03Finds_k0_1_eq (N:Nat) (a0:Array Value) (b_a1:Option (Option Addr)) (n_a1:Nat) (a1:Array Value) (z0_4:Bool) (z0_5:Int):(kBlock 0 (kSeq (veC prog spec_l03Finds_G N (cAt (codeOf Tryd.f96) [1,1]) (pAt (mkPlan (codeOf Tryd.f96) [([4,5],[])]).1 [1,1]) (SV×Eff×Bool)) (finK prog [.row a0 36,.sl (.came b_a1) n_a1 a1 50] [.tmp 4]))) (.exit 0) (left (writes (cAt (codeOf Tryd.f96) [1,0,1,0,0])) [4,5] [] (spec_l03Finds_t0 a0 b_a1 n_a1 a1) ([.a (.b (z0_4)),.a (.i .i64 (z0_5))],[]))=spec_l03Finds_k0_1 prog N a0 b_a1 n_a1 a1 z0_4 z0_5:=by
 refine Eq.trans (b:=(some (.a (.b (decide ((n_a1:Int)≤(60:Int)))),.none,true))) (by kernel_rfl) ?_
 rfl
theorem spec_l03Finds_n0 (N:Nat) (a0:Array Value) (b_a1:Option (Option Addr)) (n_a1:Nat) (a1:Array Value):bindX (iterO (stepV prog spec_l03Finds_G N (cAt (codeOf Tryd.f96) [1,0,1,0,0]) (pAt (mkPlan (codeOf Tryd.f96) [([4,5],[])]).1 [1,0,1,0]) [4,5] [] (spec_l03Finds_t0 a0 b_a1 n_a1 a1)) N ([.a (.b (false)),.a (.i .i64 (0:Int))],[])) (fun e s=>(kBlock 0 (kSeq (veC prog spec_l03Finds_G N (cAt (codeOf Tryd.f96) [1,1]) (pAt (mkPlan (codeOf Tryd.f96) [([4,5],[])]).1 [1,1]) (SV×Eff×Bool)) (finK prog [.row a0 36,.sl (.came b_a1) n_a1 a1 50] [.tmp 4]))) e (left (writes (cAt (codeOf Tryd.f96) [1,0,1,0,0])) [4,5] [] (spec_l03Finds_t0 a0 b_a1 n_a1 a1) s))=nodeX (iterO (spec_l03Finds_g0 prog a0 b_a1 n_a1 a1) N (false,(0:Int))) (st2 (fun x=>spec_l03Finds_k0_0 prog N a0 b_a1 n_a1 a1 x.1 x.2) (fun x=>spec_l03Finds_k0_1 prog N a0 b_a1 n_a1 a1 x.1 x.2)):=by
 refine loop_node spec_l03Finds_e0 spec_l03Finds_x0 _ _ (spec_l03Finds_s0 N a0 b_a1 n_a1 a1) N (false,(0:Int)) _ _ ?_
 intro x
 cases x with
 | more x=>exact spec_l03Finds_k0_0_eq N a0 b_a1 n_a1 a1 x.1 x.2
 | done x=>exact spec_l03Finds_k0_1_eq N a0 b_a1 n_a1 a1 x.1 x.2
theorem spec_l03Finds_ans (N:Nat) (a0:Array Value) (b_a1:Option (Option Addr)) (n_a1:Nat) (a1:Array Value):ansV prog spec_l03Finds_G N Tryd.f96 [([4,5],[])] [.w 0,.l 1] [.row a0 36,.sl (.came b_a1) n_a1 a1 50]=(nodeX (iterO (spec_l03Finds_g0 prog a0 b_a1 n_a1 a1) N (false,(0:Int))) (st2 (fun x=>spec_l03Finds_k0_0 prog N a0 b_a1 n_a1 a1 x.1 x.2) (fun x=>spec_l03Finds_k0_1 prog N a0 b_a1 n_a1 a1 x.1 x.2))):=by
 refine Eq.trans (b:=(bindX (iterO (stepV prog spec_l03Finds_G N (cAt (codeOf Tryd.f96) [1,0,1,0,0]) (pAt (mkPlan (codeOf Tryd.f96) [([4,5],[])]).1 [1,0,1,0]) [4,5] [] (spec_l03Finds_t0 a0 b_a1 n_a1 a1)) N ([.a (.b (false)),.a (.i .i64 (0:Int))],[])) (fun e s=>(kBlock 0 (kSeq (veC prog spec_l03Finds_G N (cAt (codeOf Tryd.f96) [1,1]) (pAt (mkPlan (codeOf Tryd.f96) [([4,5],[])]).1 [1,1]) (SV×Eff×Bool)) (finK prog [.row a0 36,.sl (.came b_a1) n_a1 a1 50] [.tmp 4]))) e (left (writes (cAt (codeOf Tryd.f96) [1,0,1,0,0])) [4,5] [] (spec_l03Finds_t0 a0 b_a1 n_a1 a1) s)))) (by kernel_rfl) ?_
 simp only [spec_l03Finds_n0 N a0 b_a1 n_a1 a1]
theorem spec_l03Finds_main (a0:Array Value) (b_a1:Option (Option Addr)) (n_a1:Nat) (a1:Array Value) (h_a0:WT prog 36 a0) (h_a1:a1.size=n_a1*(lay prog 50).length∧(∀ k,k<n_a1→WT prog 50 (a1.extract (k*(lay prog 50).length) (k*(lay prog 50).length+(lay prog 50).length)))∧n_a1≤9223372036854775807) (hg:(true)=true):ansV prog spec_l03Finds_G 18446744073709551616 Tryd.f96 [([4,5],[])] [.w 0,.l 1] [.row a0 36,.sl (.came b_a1) n_a1 a1 50]=some (.a (.b ((fndAll a0 n_a1 a1&&decide ((n_a1:Int)≤60)))),.none,true):=by
 have hn:=h_a1.2.2
 refine (spec_l03Finds_ans 18446744073709551616 a0 b_a1 n_a1 a1).trans ?_
 refine (iter_first (g:=spec_l03Finds_g0 prog a0 b_a1 n_a1 a1) (fun k=>(false,(k:Int))) (fndB a0 a1) n_a1 (N:=18446744073709551616) (xd:=.done (false,(n_a1:Int))) (by omega) (fun k hk hp=>by
  have h1:decide ((k:Int)<(n_a1:Int))=true:=decide_eq_true (by omega)
  have h0:decide (0≤(k:Int))=true:=decide_eq_true (by omega)
  have h3:i64.wrap ((k:Int)+1)=((k+1:Nat):Int):=by rw [IntWalk.i64_in _ (by omega)];omega
  have h4:decide (0≤IntKind.u64.wrap (bcF a1 k))=true:=decide_eq_true (wrap_in .u64 _).1
  have hb:i64.wrap (num a1 (k*2+0))=bcF a1 k:=rfl
  have hc:i64.wrap (num a1 (k*2+1))=hcF a1 k:=rfl
  have hp':fndB a0 a1 k=true:=hp
  unfold fndB at hp'
  simp only [Bool.and_eq_true] at hp'
  simp only [spec_l03Finds_g0,h1,h0,h3,Bool.and_self,Int.toNat_natCast,cond_true,cond_false,hb,hc,h4,hp'.1,hp'.2.1,hp'.2.2,Bool.not_true]) (by
  have h1:decide ((n_a1:Int)<(n_a1:Int))=false:=decide_eq_false (by omega)
  simp only [spec_l03Finds_g0,h1,cond_false]) (fndAll a0 n_a1 a1) (fndAll_iff a0 n_a1 a1) (some (.a (.b (decide ((n_a1:Int)≤60))),.none,true)) (some (.a (.b false),.none,true)) rfl (fun k hk hp=>by
  refine ⟨.more (false,(k:Int)), ?_,rfl⟩
  have h1:decide ((k:Int)<(n_a1:Int))=true:=decide_eq_true (by omega)
  have h0:decide (0≤(k:Int))=true:=decide_eq_true (by omega)
  have h3:i64.wrap ((k:Int)+1)=((k+1:Nat):Int):=by rw [IntWalk.i64_in _ (by omega)];omega
  have h4:decide (0≤IntKind.u64.wrap (bcF a1 k))=true:=decide_eq_true (wrap_in .u64 _).1
  have hb:i64.wrap (num a1 (k*2+0))=bcF a1 k:=rfl
  have hc:i64.wrap (num a1 (k*2+1))=hcF a1 k:=rfl
  have hp':fndB a0 a1 k=false:=hp
  unfold fndB at hp'
  cases x1:spec_l01Is_v0 (bcF a1 k) a0
  ·simp only [spec_l03Finds_g0,h1,h0,h3,Bool.and_self,Int.toNat_natCast,cond_true,hb,x1,Bool.not_false]
  ·cases x2:spec_l01Dry_v0 (bcF a1 k) a0
   ·simp only [spec_l03Finds_g0,h1,h0,h3,Bool.and_self,Int.toNat_natCast,cond_true,cond_false,hb,h4,x1,x2,Bool.not_true,Bool.not_false]
   ·rw [x1,x2] at hp'
    simp only [Bool.true_and] at hp'
    simp only [spec_l03Finds_g0,h1,h0,h3,Bool.and_self,Int.toNat_natCast,cond_true,cond_false,hb,hc,h4,x1,x2,hp',Bool.not_true,Bool.not_false])).trans ?_
 cases fndAll a0 n_a1 a1<;>rfl
noncomputable def spec_l03Finds_con:Con:=fun args h=>match args,h with
 | [.w 0,.l 1],[.row a0 36,.sl (.came b_a1) n_a1 a1 50]=>some (.a (.b ((fndAll a0 n_a1 a1&&decide ((n_a1:Int)≤60)))),.none,true)
 | _,_=>none
theorem spec_l03Finds_enter:EntX prog 96:=entX_ok (fn:=Tryd.f96) (by kernel_rfl) (by kernel_rfl) (by kernel_rfl)
theorem spec_l03Finds_ok:ConOkX (md F) prog 96 spec_l03Finds_con:=(ansX_ok (N:=18446744073709551616) (by kernel_rfl) (mkΓ_consX (con_okX spec_l03Hour_ok) spec_l03Hour_enter (mkΓ_consX (con_okX spec_l01Is_ok) spec_l01Is_enter (mkΓ_consX (con_okX spec_l01Dry_ok) spec_l01Dry_enter mkΓ_nilX))) (fn:=Tryd.f96) (by kernel_rfl) (by kernel_rfl) [([4,5],[])]).of (by
 intro ρ h w args vals r e hA hH hr
 unfold spec_l03Finds_con at hr
 split at hr
 ·rename_i a0 b_a1 n_a1 a1
  obtain ⟨rfl,hg⟩:=Prod.mk.inj (Option.some.inj hr)
  obtain ⟨rfl,hg2⟩:=Prod.mk.inj hg
  exact spec_l03Finds_main a0 b_a1 n_a1 a1 (hH.wt 0 rfl) (hH.slw 1 rfl) hg2
 ·cases hr)
noncomputable def impl_ValidFinds_G:Cons:=(mkΓ [(53,con impl_hasHour_con),(87,con impl_ValidSea_con),(88,con impl_hasCell_con),(94,con impl_isWater_con)])
noncomputable def impl_ValidFinds_t0 (a0:Array Value) (b_a1:Option (Option Addr)) (n_a1:Nat) (a1:Array Value):St:=(⟨.a (.g a0 36) :: .a (.l 0) :: .a (.w 1) :: .a (.u) :: .a (.b (false))::us 3 (.a (.g a0 36) :: .a (.b ((okS a0))) :: .a (.b ((!((okS a0))))) :: .a (.b (false)) :: .a (.l 0) :: .a (.i .i64 (n_a1:Int)) :: .a (.b (decide ((n_a1:Int) > (60:Int)))) :: .a (.b (decide ((n_a1:Int) > (60:Int)))) :: .a (.l 0) :: .a (.i .i64 (n_a1:Int)) :: .a (.i .i64 (0:Int))::us 23 ([])),[.sl (.came b_a1) n_a1 a1 50,.row a0 36,.no],[]⟩:St)
noncomputable def impl_ValidFinds_e0:Bool×Int→LS
 | (y0_4,y0_18)=>([.a (.b (y0_4)),.a (.i .i64 (y0_18))],[])
noncomputable def impl_ValidFinds_x0:(Stp (Bool×Int) (Bool×Int))→Exit×LS
 | .more t=>(.ret,impl_ValidFinds_e0 t)
 | .done t=>((.exit 0),impl_ValidFinds_e0 t)
noncomputable def impl_ValidFinds_g0 (P:Program) (a0:Array Value) (b_a1:Option (Option Addr)) (n_a1:Nat) (a1:Array Value):Bool×Int→Option (Stp (Bool×Int) (Stp (Bool×Int) (Bool×Int)))
  | (y0_4,y0_18)=>bif decide (y0_18<(n_a1:Int)) then (bif (decide (0≤y0_18)&&decide (y0_18<(n_a1:Int))) then (bif (!((impl_hasCell_v0 a0 (i64.wrap (num (a1.extract ((y0_18).toNat*2) (((y0_18).toNat*2)+2)) 0))))) then (some (.done (.more (false,y0_18))))
        else (bif decide (0≤(i64.wrap (num (a1.extract ((y0_18).toNat*2) (((y0_18).toNat*2)+2)) 0))) then (bif (impl_isWater_v0 a0 (i64.wrap (num (a1.extract ((y0_18).toNat*2) (((y0_18).toNat*2)+2)) 0))) then (some (.done (.more (false,y0_18))))
            else (bif (!((impl_hasHour_v0 (i64.wrap (num (a1.extract ((y0_18).toNat*2) (((y0_18).toNat*2)+2)) 1))))) then (some (.done (.more (false,y0_18))))
              else (some (.more (y0_4,(i64.wrap (y0_18+(1:Int))))))))
          else (none)))
      else (none))
    else (some (.done (.done (y0_4,y0_18))))
theorem impl_ValidFinds_s0 (N:Nat) (a0:Array Value) (b_a1:Option (Option Addr)) (n_a1:Nat) (a1:Array Value):∀ t:Bool×Int,stepV prog impl_ValidFinds_G N (cAt (codeOf Tryd.f120) [1,1,0,1,0,0]) (pAt (mkPlan (codeOf Tryd.f120) [([4,18],[])]).1 [1,1,0,1,0]) [4,18] [] (impl_ValidFinds_t0 a0 b_a1 n_a1 a1) (impl_ValidFinds_e0 t)=mapS impl_ValidFinds_e0 impl_ValidFinds_x0 (impl_ValidFinds_g0 prog a0 b_a1 n_a1 a1 t):=by
  rintro ⟨y0_4,y0_18⟩
  refine Eq.trans (b:=(bif decide (y0_18<(n_a1:Int)) then (bif (decide (0≤y0_18)&&decide (y0_18<(n_a1:Int))) then (bif (!((impl_hasCell_v0 a0 (i64.wrap (num (a1.extract ((y0_18).toNat*2) (((y0_18).toNat*2)+2)) 0))))) then (some (.done (.ret,([.a (.b (false)),.a (.i .i64 (y0_18))],[]))))
        else (bif decide (0≤(i64.wrap (num (a1.extract ((y0_18).toNat*2) (((y0_18).toNat*2)+2)) 0))) then (bif (impl_isWater_v0 a0 (i64.wrap (num (a1.extract ((y0_18).toNat*2) (((y0_18).toNat*2)+2)) 0))) then (some (.done (.ret,([.a (.b (false)),.a (.i .i64 (y0_18))],[]))))
            else (bif (!((impl_hasHour_v0 (i64.wrap (num (a1.extract ((y0_18).toNat*2) (((y0_18).toNat*2)+2)) 1))))) then (some (.done (.ret,([.a (.b (false)),.a (.i .i64 (y0_18))],[]))))
              else (some (.more ([.a (.b (y0_4)),.a (.i .i64 (i64.wrap (y0_18+(1:Int))))],[])))))
          else (none)))
      else (none))
    else (some (.done ((.exit 0),([.a (.b (y0_4)),.a (.i .i64 (y0_18))],[])))))) (by kernel_rfl) ?_
  simp only [impl_ValidFinds_g0,mapS_cond,mapS_more,mapS_done,mapS_none,impl_ValidFinds_e0,impl_ValidFinds_x0]
noncomputable def impl_ValidFinds_k0_0 (P:Program) (N:Nat) (a0:Array Value) (b_a1:Option (Option Addr)) (n_a1:Nat) (a1:Array Value) (z0_4:Bool) (z0_18:Int):Option (SV×Eff×Bool):=some (.a (.b (z0_4)),.none,true)
theorem impl_ValidFinds_k0_0_eq (N:Nat) (a0:Array Value) (b_a1:Option (Option Addr)) (n_a1:Nat) (a1:Array Value) (z0_4:Bool) (z0_18:Int):(kBlock 0 (kSeq (veC prog impl_ValidFinds_G N (cAt (codeOf Tryd.f120) [1,1,1]) (pAt (mkPlan (codeOf Tryd.f120) [([4,18],[])]).1 [1,1,1]) (SV×Eff×Bool)) (finK prog [.sl (.came b_a1) n_a1 a1 50] [.tmp 4]))) .ret (left (writes (cAt (codeOf Tryd.f120) [1,1,0,1,0,0])) [4,18] [] (impl_ValidFinds_t0 a0 b_a1 n_a1 a1) ([.a (.b (z0_4)),.a (.i .i64 (z0_18))],[]))=impl_ValidFinds_k0_0 prog N a0 b_a1 n_a1 a1 z0_4 z0_18:=by
 refine Eq.trans (b:=(some (.a (.b (z0_4)),.none,true))) (by kernel_rfl) ?_
 rfl
noncomputable def impl_ValidFinds_k0_1 (P:Program) (N:Nat) (a0:Array Value) (b_a1:Option (Option Addr)) (n_a1:Nat) (a1:Array Value) (z0_4:Bool) (z0_18:Int):Option (SV×Eff×Bool):=some (.a (.b (true)),.none,true)
theorem impl_ValidFinds_k0_1_eq (N:Nat) (a0:Array Value) (b_a1:Option (Option Addr)) (n_a1:Nat) (a1:Array Value) (z0_4:Bool) (z0_18:Int):(kBlock 0 (kSeq (veC prog impl_ValidFinds_G N (cAt (codeOf Tryd.f120) [1,1,1]) (pAt (mkPlan (codeOf Tryd.f120) [([4,18],[])]).1 [1,1,1]) (SV×Eff×Bool)) (finK prog [.sl (.came b_a1) n_a1 a1 50] [.tmp 4]))) (.exit 0) (left (writes (cAt (codeOf Tryd.f120) [1,1,0,1,0,0])) [4,18] [] (impl_ValidFinds_t0 a0 b_a1 n_a1 a1) ([.a (.b (z0_4)),.a (.i .i64 (z0_18))],[]))=impl_ValidFinds_k0_1 prog N a0 b_a1 n_a1 a1 z0_4 z0_18:=by
 refine Eq.trans (b:=(some (.a (.b (true)),.none,true))) (by kernel_rfl) ?_
 rfl
theorem impl_ValidFinds_n0 (N:Nat) (a0:Array Value) (b_a1:Option (Option Addr)) (n_a1:Nat) (a1:Array Value):bindX (iterO (stepV prog impl_ValidFinds_G N (cAt (codeOf Tryd.f120) [1,1,0,1,0,0]) (pAt (mkPlan (codeOf Tryd.f120) [([4,18],[])]).1 [1,1,0,1,0]) [4,18] [] (impl_ValidFinds_t0 a0 b_a1 n_a1 a1)) N ([.a (.b (false)),.a (.i .i64 (0:Int))],[])) (fun e s=>(kBlock 0 (kSeq (veC prog impl_ValidFinds_G N (cAt (codeOf Tryd.f120) [1,1,1]) (pAt (mkPlan (codeOf Tryd.f120) [([4,18],[])]).1 [1,1,1]) (SV×Eff×Bool)) (finK prog [.sl (.came b_a1) n_a1 a1 50] [.tmp 4]))) e (left (writes (cAt (codeOf Tryd.f120) [1,1,0,1,0,0])) [4,18] [] (impl_ValidFinds_t0 a0 b_a1 n_a1 a1) s))=nodeX (iterO (impl_ValidFinds_g0 prog a0 b_a1 n_a1 a1) N (false,(0:Int))) (st2 (fun x=>impl_ValidFinds_k0_0 prog N a0 b_a1 n_a1 a1 x.1 x.2) (fun x=>impl_ValidFinds_k0_1 prog N a0 b_a1 n_a1 a1 x.1 x.2)):=by
 refine loop_node impl_ValidFinds_e0 impl_ValidFinds_x0 _ _ (impl_ValidFinds_s0 N a0 b_a1 n_a1 a1) N (false,(0:Int)) _ _ ?_
 intro x
 cases x with
 | more x=>exact impl_ValidFinds_k0_0_eq N a0 b_a1 n_a1 a1 x.1 x.2
 | done x=>exact impl_ValidFinds_k0_1_eq N a0 b_a1 n_a1 a1 x.1 x.2
theorem impl_ValidFinds_ans (N:Nat) (a0:Array Value) (b_a1:Option (Option Addr)) (n_a1:Nat) (a1:Array Value):ansV prog impl_ValidFinds_G N Tryd.f120 [([4,18],[])] [.g a0 36,.l 0] [.sl (.came b_a1) n_a1 a1 50]=(bif (!((okS a0))) then (some (.a (.b (false)),.none,true))
  else (bif decide ((n_a1:Int) > (60:Int)) then (some (.a (.b (false)),.none,true))
   else (nodeX (iterO (impl_ValidFinds_g0 prog a0 b_a1 n_a1 a1) N (false,(0:Int))) (st2 (fun x=>impl_ValidFinds_k0_0 prog N a0 b_a1 n_a1 a1 x.1 x.2) (fun x=>impl_ValidFinds_k0_1 prog N a0 b_a1 n_a1 a1 x.1 x.2))))):=by
 refine Eq.trans (b:=(bif (!((okS a0))) then (some (.a (.b (false)),.none,true))
  else (bif decide ((n_a1:Int) > (60:Int)) then (some (.a (.b (false)),.none,true))
   else (bindX (iterO (stepV prog impl_ValidFinds_G N (cAt (codeOf Tryd.f120) [1,1,0,1,0,0]) (pAt (mkPlan (codeOf Tryd.f120) [([4,18],[])]).1 [1,1,0,1,0]) [4,18] [] (impl_ValidFinds_t0 a0 b_a1 n_a1 a1)) N ([.a (.b (false)),.a (.i .i64 (0:Int))],[])) (fun e s=>(kBlock 0 (kSeq (veC prog impl_ValidFinds_G N (cAt (codeOf Tryd.f120) [1,1,1]) (pAt (mkPlan (codeOf Tryd.f120) [([4,18],[])]).1 [1,1,1]) (SV×Eff×Bool)) (finK prog [.sl (.came b_a1) n_a1 a1 50] [.tmp 4]))) e (left (writes (cAt (codeOf Tryd.f120) [1,1,0,1,0,0])) [4,18] [] (impl_ValidFinds_t0 a0 b_a1 n_a1 a1) s)))))) (by kernel_rfl) ?_
 simp only [impl_ValidFinds_n0 N a0 b_a1 n_a1 a1]
theorem impl_ValidFinds_main (a0:Array Value) (b_a1:Option (Option Addr)) (n_a1:Nat) (a1:Array Value) (h_a0:WT prog 36 a0) (h_a1:a1.size=n_a1*(lay prog 50).length∧(∀ k,k<n_a1→WT prog 50 (a1.extract (k*(lay prog 50).length) (k*(lay prog 50).length+(lay prog 50).length)))∧n_a1≤9223372036854775807) (hg:(true)=true):ansV prog impl_ValidFinds_G 18446744073709551616 Tryd.f120 [([4,18],[])] [.g a0 36,.l 0] [.sl (.came b_a1) n_a1 a1 50]=some (.a (.b ((okS a0&&(fndAll a0 n_a1 a1&&decide ((n_a1:Int)≤60))))),.none,true):=by
  have hn:=h_a1.2.2
  have hS:=land_of h_a0
  refine (impl_ValidFinds_ans 18446744073709551616 a0 b_a1 n_a1 a1).trans ?_
  cases hok:okS a0
  · rfl
  by_cases hl:(n_a1:Int) > 60
  · rw [decide_eq_true hl,decide_eq_false (show ¬ (n_a1:Int)≤60 by omega),Bool.and_false]
    rfl
  rw [decide_eq_false hl,decide_eq_true (show (n_a1:Int)≤60 by omega),Bool.and_true]
  simp only [Bool.not_true,cond_false,Bool.true_and]
  refine (iter_first (g:=impl_ValidFinds_g0 prog a0 b_a1 n_a1 a1) (fun k=>(false,(k:Int))) (fndB a0 a1) n_a1 (N:=18446744073709551616) (xd:=.done (false,(n_a1:Int))) (by omega) (fun k hk hp=>by
    have h1:decide ((k:Int)<(n_a1:Int))=true:=decide_eq_true (by omega)
    have h0:decide (0≤(k:Int))=true:=decide_eq_true (by omega)
    have h3:i64.wrap ((k:Int)+1)=((k+1:Nat):Int):=by rw [IntWalk.i64_in _ (by omega)];omega
    have hx:=fnd_ext a1 k
    have hp':fndB a0 a1 k=true:=hp
    unfold fndB at hp'
    simp only [Bool.and_eq_true] at hp'
    have hr:=is_range hp'.1
    have h4:decide (0≤bcF a1 k)=true:=decide_eq_true hr.1
    have hw:impl_isWater_v0 a0 (bcF a1 k)=false:=by
      unfold impl_isWater_v0
      rw [land_all h_a0 hr,hp'.2.1];rfl
    simp only [impl_ValidFinds_g0,h1,h0,h3,Bool.and_self,Int.toNat_natCast,cond_true,cond_false,hx.1,hx.2,cell_is,hour_eqF,h4,hw,hp'.1,hp'.2.2,Bool.not_true]) (by
    have h1:decide ((n_a1:Int)<(n_a1:Int))=false:=decide_eq_false (by omega)
    simp only [impl_ValidFinds_g0,h1,cond_false]) (fndAll a0 n_a1 a1) (fndAll_iff a0 n_a1 a1) (some (.a (.b true),.none,true)) (some (.a (.b false),.none,true)) rfl (fun k hk hp=>by
    refine ⟨.more (false,(k:Int)), ?_,rfl⟩
    have h1:decide ((k:Int)<(n_a1:Int))=true:=decide_eq_true (by omega)
    have h0:decide (0≤(k:Int))=true:=decide_eq_true (by omega)
    have h3:i64.wrap ((k:Int)+1)=((k+1:Nat):Int):=by rw [IntWalk.i64_in _ (by omega)];omega
    have hx:=fnd_ext a1 k
    have hp':fndB a0 a1 k=false:=hp
    unfold fndB at hp'
    cases x1:spec_l01Is_v0 (bcF a1 k) a0
    · simp only [impl_ValidFinds_g0,h1,h0,h3,Bool.and_self,Int.toNat_natCast,cond_true,hx.1,cell_is,x1,Bool.not_false]
    · have hr:=is_range x1
      have h4:decide (0≤bcF a1 k)=true:=decide_eq_true hr.1
      cases x2:spec_l01Dry_v0 (bcF a1 k) a0
      · have hw:impl_isWater_v0 a0 (bcF a1 k)=true:=by
          unfold impl_isWater_v0
          rw [land_all h_a0 hr,x2];rfl
        simp only [impl_ValidFinds_g0,h1,h0,h3,Bool.and_self,Int.toNat_natCast,cond_true,cond_false,hx.1,cell_is,h4,x1,hw,Bool.not_true]
      · have hw:impl_isWater_v0 a0 (bcF a1 k)=false:=by
          unfold impl_isWater_v0
          rw [land_all h_a0 hr,x2];rfl
        rw [x1,x2] at hp'
        simp only [Bool.true_and] at hp'
        simp only [impl_ValidFinds_g0,h1,h0,h3,Bool.and_self,Int.toNat_natCast,cond_true,cond_false,hx.1,hx.2,cell_is,hour_eqF,h4,x1,hw,hp',Bool.not_true,Bool.not_false])).trans ?_
  cases fndAll a0 n_a1 a1<;>rfl
noncomputable def impl_ValidFinds_con:Con:=fun args h=>match args,h with
 | [.g a0 36,.l 0],[.sl (.came b_a1) n_a1 a1 50]=>some (.a (.b ((okS a0&&(fndAll a0 n_a1 a1&&decide ((n_a1:Int)≤60))))),.none,true)
 | _,_=>none
theorem impl_ValidFinds_enter:EntX prog 120:=entX_ok (fn:=Tryd.f120) (by kernel_rfl) (by kernel_rfl) (by kernel_rfl)
theorem impl_ValidFinds_ok:ConOkX (md F) prog 120 impl_ValidFinds_con:=(ansX_ok (N:=18446744073709551616) (by kernel_rfl) (mkΓ_consX (con_okX impl_hasHour_ok) impl_hasHour_enter (mkΓ_consX (con_okX impl_ValidSea_ok) impl_ValidSea_enter (mkΓ_consX (con_okX impl_hasCell_ok) impl_hasCell_enter (mkΓ_consX (con_okX impl_isWater_ok) impl_isWater_enter mkΓ_nilX)))) (fn:=Tryd.f120) (by kernel_rfl) (by kernel_rfl) [([4,18],[])]).of (by
 intro ρ h w args vals r e hA hH hr
 unfold impl_ValidFinds_con at hr
 split at hr
 ·rename_i a0 b_a1 n_a1 a1
  obtain ⟨rfl,hg⟩:=Prod.mk.inj (Option.some.inj hr)
  obtain ⟨rfl,hg2⟩:=Prod.mk.inj hg
  exact impl_ValidFinds_main a0 b_a1 n_a1 a1 (hA.wt 0 rfl) (hH.slw 0 rfl) hg2
 ·cases hr)
noncomputable def vf (S:Array Value) (n:Nat) (a:Array Value):Bool:=(okS S&&(fndAll S n a&&decide ((n:Int)≤60)))
theorem vf_of {S a:Array Value} {n:Nat} (h:vf S n a=true):okS S=true∧n≤60∧∀ k,k<n→fndB S a k=true:=by
 unfold vf at h
 simp only [Bool.and_eq_true,decide_eq_true_eq] at h
 exact ⟨h.1,by omega,(fndAll_iff S n a).1 h.2.1⟩
theorem fnd_of {S a:Array Value} {k:Nat} (h:fndB S a k=true):spec_l01Is_v0 (bcF a k) S=true∧spec_l01Dry_v0 (bcF a k) S=true∧spec_l00In_v0 (hcF a k) 1 14=true:=by
 unfold fndB at h
 simp only [Bool.and_eq_true] at h
 exact h
theorem find_nums {C:Array Value} (h:WT prog 50 C):C.size=2∧i64.wrap (num C 0)=num C 0∧i64.wrap (num C 1)=num C 1∧bcF C 0=num C 0∧hcF C 0=num C 1:=by
 have h0:=(h.int (o:=0) (k:=.i8) (by kernel_rfl)).2
 have h1:=(h.int (o:=1) (k:=.i8) (by kernel_rfl)).2
 have m8:IntKind.i8.min = -128∧IntKind.i8.max=127:=⟨rfl,rfl⟩
 rw [m8.1,m8.2] at h0 h1
 have e0:i64.wrap (num C 0)=num C 0:=w64 (by omega)
 have e1:i64.wrap (num C 1)=num C 1:=w64 (by omega)
 exact ⟨by rw [h.layLen];kernel_rfl,e0,e1,e0,e1⟩
noncomputable def canB (P:Program) (S:Array Value) (c b:Int) (be h:Int):Bool:=decide (num (subV (byV P S c b h.toNat) (byV P S c b (h.toNat - 1)) 12) be.toNat > (0:Int))
theorem impl_findsError_ans (N:Nat) (a0:Array Value) (g_e0 g_e1 g_e2 g_e3 g_e4:Addr) (b_a1:Option (Option Addr)) (n_a1:Nat) (a1:Array Value):ansV prog (mkΓ [(120,con impl_ValidFinds_con)]) N Tryd.f97 [] [.g a0 36,.l 5] [.gl 0 184 g_e0 101973,.gl 1 184 g_e1 93330,.gl 3 184 g_e2 112315,.gl 2 184 g_e3 124718,.gl 4 184 g_e4 94254,.sl (.came b_a1) n_a1 a1 50]=(bif (!((okS a0&&(fndAll a0 n_a1 a1&&decide ((n_a1:Int)≤60))))) then (some (.a (.e 0),.none,true))
  else (some (.a (.v (.nilIface)),.none,true))):=by kernel_rfl
theorem impl_findsError_main0 (a0:Array Value) (g_e0 g_e1 g_e2 g_e3 g_e4:Addr) (b_a1:Option (Option Addr)) (n_a1:Nat) (a1:Array Value) (h_a0:WT prog 36 a0) (h_a1:a1.size=n_a1*(lay prog 50).length∧(∀ k,k<n_a1→WT prog 50 (a1.extract (k*(lay prog 50).length) (k*(lay prog 50).length+(lay prog 50).length)))∧n_a1≤9223372036854775807) (hc0:(vf a0 n_a1 a1)=false) (hg:(true)=true):ansV prog (mkΓ [(120,con impl_ValidFinds_con)]) 1000 Tryd.f97 [] [.g a0 36,.l 5] [.gl 0 184 g_e0 101973,.gl 1 184 g_e1 93330,.gl 3 184 g_e2 112315,.gl 2 184 g_e3 124718,.gl 4 184 g_e4 94254,.sl (.came b_a1) n_a1 a1 50]=some (.a (.e 0),.none,true):=by
 refine (impl_findsError_ans 1000 a0 g_e0 g_e1 g_e2 g_e3 g_e4 b_a1 n_a1 a1).trans ?_
 unfold vf at hc0
 simp only [hc0,Bool.not_false,cond_true]
theorem impl_findsError_main1 (a0:Array Value) (g_e0 g_e1 g_e2 g_e3 g_e4:Addr) (b_a1:Option (Option Addr)) (n_a1:Nat) (a1:Array Value) (h_a0:WT prog 36 a0) (h_a1:a1.size=n_a1*(lay prog 50).length∧(∀ k,k<n_a1→WT prog 50 (a1.extract (k*(lay prog 50).length) (k*(lay prog 50).length+(lay prog 50).length)))∧n_a1≤9223372036854775807) (hc0:(vf a0 n_a1 a1)=true) (hg:(true)=true):ansV prog (mkΓ [(120,con impl_ValidFinds_con)]) 1000 Tryd.f97 [] [.g a0 36,.l 5] [.gl 0 184 g_e0 101973,.gl 1 184 g_e1 93330,.gl 3 184 g_e2 112315,.gl 2 184 g_e3 124718,.gl 4 184 g_e4 94254,.sl (.came b_a1) n_a1 a1 50]=some (.a (.v (.nilIface)),.none,true):=by
 refine (impl_findsError_ans 1000 a0 g_e0 g_e1 g_e2 g_e3 g_e4 b_a1 n_a1 a1).trans ?_
 unfold vf at hc0
 simp only [hc0,Bool.not_true,cond_false]
noncomputable def impl_findsError_scon:SCon:=fun args h=>match args,h with
 | [.g a0 36,.l 5],[.gl 0 184 g_e0 101973,.gl 1 184 g_e1 93330,.gl 3 184 g_e2 112315,.gl 2 184 g_e3 124718,.gl 4 184 g_e4 94254,.sl (.came b_a1) n_a1 a1 50]=>.two (vf a0 n_a1 a1) (.one (some (.a (.v (.nilIface)),.none,true))) (.one (some (.a (.e 0),.none,true)))
 | _,_=>.one none
theorem impl_findsError_enter:EntX prog 97:=entX_ok (fn:=Tryd.f97) (by kernel_rfl) (by kernel_rfl) (by kernel_rfl)
theorem impl_findsError_sok:ConOkX (md F) prog 97 (fun args h=>wayRes (impl_findsError_scon args h)):=by
 intro ρ h w args vals r e hn hr hA hH
 dsimp only at hr
 unfold impl_findsError_scon at hr
 split at hr
 ·rename_i a0 g_e0 g_e1 g_e2 g_e3 g_e4 b_a1 n_a1 a1
  simp only [wayRes] at hr
  cases hc0:(vf a0 n_a1 a1)
  ·rw [hc0] at hr
   simp only [wayRes,cond_true,cond_false] at hr
   obtain ⟨rfl,hg⟩:=Prod.mk.inj (Option.some.inj hr)
   obtain ⟨rfl,hg2⟩:=Prod.mk.inj hg
   exact ((ansX_ok (N:=1000) (by kernel_rfl) (mkΓ_consX (con_okX impl_ValidFinds_ok) impl_ValidFinds_enter mkΓ_nilX) (fn:=Tryd.f97) (by kernel_rfl) (by kernel_rfl) [])) ρ _ w _ vals _ _ hn ((impl_findsError_main0 a0 g_e0 g_e1 g_e2 g_e3 g_e4 b_a1 n_a1 a1 (hA.wt 0 rfl) (hH.slw 5 rfl) hc0 hg2)) hA hH
  ·rw [hc0] at hr
   simp only [wayRes,cond_true,cond_false] at hr
   obtain ⟨rfl,hg⟩:=Prod.mk.inj (Option.some.inj hr)
   obtain ⟨rfl,hg2⟩:=Prod.mk.inj hg
   exact ((ansX_ok (N:=1000) (by kernel_rfl) (mkΓ_consX (con_okX impl_ValidFinds_ok) impl_ValidFinds_enter mkΓ_nilX) (fn:=Tryd.f97) (by kernel_rfl) (by kernel_rfl) [])) ρ _ w _ vals _ _ hn ((impl_findsError_main1 a0 g_e0 g_e1 g_e2 g_e3 g_e4 b_a1 n_a1 a1 (hA.wt 0 rfl) (hH.slw 5 rfl) hc0 hg2)) hA hH
 ·simp only [wayRes] at hr
  cases hr
noncomputable def spec_l03Listed_G:Cons:=(mkΓ [(48,con spec_l03From_con),(82,con spec_l01Ok_con),(96,con spec_l03Finds_con)])
theorem spec_l03Listed_ans (N:Nat) (a1 a2:Int) (a0:Array Value) (b_a3:Option (Option Addr)) (n_a3:Nat) (a3:Array Value):ansV prog spec_l03Listed_G N Tryd.f63 [] [.w 0,.i .i64 (a1),.i .i64 (a2),.l 1] [.row a0 36,.sl (.came b_a3) n_a3 a3 50]=(bif (!((okS a0))) then (some (.a (.i .i64 (1:Int)),.none,true))
  else (bif (!((fndAll a0 n_a3 a3&&decide ((n_a3:Int)≤60)))) then (some (.a (.i .i64 (1:Int)),.none,true))
   else (bif (spec_l03From_gd a1 a2 true a0) then (some (.a (.i .i64 (spec_l03From_v0 a1 a2 true a0)),.none,true))
    else (none)))):=by kernel_rfl
theorem spec_l03Listed_main (a1 a2:Int) (a0:Array Value) (b_a3:Option (Option Addr)) (n_a3:Nat) (a3:Array Value) (h_a1:i64.min≤a1∧a1≤i64.max) (h_a2:i64.min≤a2∧a2≤i64.max) (h_a0:WT prog 36 a0) (h_a3:a3.size=n_a3*(lay prog 50).length∧(∀ k,k<n_a3→WT prog 50 (a3.extract (k*(lay prog 50).length) (k*(lay prog 50).length+(lay prog 50).length)))∧n_a3≤9223372036854775807) (hg:(true)=true):ansV prog spec_l03Listed_G 1000 Tryd.f63 [] [.w 0,.i .i64 (a1),.i .i64 (a2),.l 1] [.row a0 36,.sl (.came b_a3) n_a3 a3 50]=some (.a (.i .i64 (bif vf a0 n_a3 a3 then spec_l03From_v0 a1 a2 true a0 else 1)),.none,true):=by
 refine (spec_l03Listed_ans 1000 a1 a2 a0 b_a3 n_a3 a3).trans ?_
 rw [from_gd]
 unfold vf
 cases okS a0 with
 | false=>rfl
 | true=>cases (fndAll a0 n_a3 a3&&decide ((n_a3:Int)≤60))<;>rfl
noncomputable def spec_l03Listed_con:Con:=fun args h=>match args,h with
 | [.w 0,.i .i64 a1,.i .i64 a2,.l 1],[.row a0 36,.sl (.came b_a3) n_a3 a3 50]=>some (.a (.i .i64 (bif vf a0 n_a3 a3 then spec_l03From_v0 a1 a2 true a0 else 1)),.none,true)
 | _,_=>none
theorem spec_l03Listed_enter:EntX prog 63:=entX_ok (fn:=Tryd.f63) (by kernel_rfl) (by kernel_rfl) (by kernel_rfl)
theorem spec_l03Listed_ok:ConOkX (md F) prog 63 spec_l03Listed_con:=(ansX_ok (N:=1000) (by kernel_rfl) (mkΓ_consX (con_okX spec_l03From_ok) spec_l03From_enter (mkΓ_consX (con_okX spec_l01Ok_ok) spec_l01Ok_enter (mkΓ_consX (con_okX spec_l03Finds_ok) spec_l03Finds_enter mkΓ_nilX))) (fn:=Tryd.f63) (by kernel_rfl) (by kernel_rfl) []).of (by
 intro ρ h w args vals r e hA hH hr
 unfold spec_l03Listed_con at hr
 split at hr
 ·rename_i a1 a2 a0 b_a3 n_a3 a3
  obtain ⟨rfl,hg⟩:=Prod.mk.inj (Option.some.inj hr)
  obtain ⟨rfl,hg2⟩:=Prod.mk.inj hg
  exact spec_l03Listed_main a1 a2 a0 b_a3 n_a3 a3 (hA.rng 1 rfl) (hA.rng 2 rfl) (hH.wt 0 rfl) (hH.slw 1 rfl) hg2
 ·cases hr)
theorem spec_l03Can_ans (N:Nat) (a1 a2:Int) (a3 a0:Array Value):ansV prog (mkΓ [(50,con spec_l03In_con)]) N Tryd.f64 [] [.w 0,.i .i64 (a1),.i .i64 (a2),.g a3 50] [.row a0 36]=(bif (okS a0&&((spec_l01Is_v0 a1 a0&&spec_l00In_v0 a2 0 1)&&spec_l00In_v0 (i64.wrap (num a3 1)) 1 14)) then (bif (decide (0≤(num a3 0))&&decide ((num a3 0)<36)) then (some (.a (.b (decide ((num (subV (byV prog a0 a1 a2 (i64.wrap (num a3 1)).toNat) (byV prog a0 a1 a2 ((i64.wrap (num a3 1)).toNat - 1)) 12) ((num a3 0).toNat*1)) > (0:Int)))),.none,true))
   else (none))
  else (none)):=by kernel_rfl
theorem spec_l03Can_main (a1 a2:Int) (a3 a0:Array Value) (h_a1:i64.min≤a1∧a1≤i64.max) (h_a2:i64.min≤a2∧a2≤i64.max) (h_a3:WT prog 50 a3) (h_a0:WT prog 36 a0) (hg:(((okS a0&&(spec_l01Is_v0 a1 a0&&spec_l00In_v0 a2 0 1))&&(spec_l00In_v0 (num a3 1) 1 14&&(decide (0≤num a3 0)&&decide (num a3 0<36)))))=true):ansV prog (mkΓ [(50,con spec_l03In_con)]) 1000 Tryd.f64 [] [.w 0,.i .i64 (a1),.i .i64 (a2),.g a3 50] [.row a0 36]=some (.a (.b ((canB prog a0 a1 a2 (num a3 0) (num a3 1)))),.none,true):=by
 obtain ⟨z,e0,e1,_,_⟩:=find_nums h_a3
 rw [Bool.and_eq_true,Bool.and_eq_true,Bool.and_eq_true,Bool.and_eq_true] at hg
 obtain ⟨⟨q0,q1,q2⟩,q3,q4⟩:=hg
 refine (spec_l03Can_ans 1000 a1 a2 a3 a0).trans ?_
 unfold canB
 simp only [e1,q0,q1,q2,q3,q4,Bool.and_self,cond_true,Nat.mul_one]
noncomputable def spec_l03Can_con:Con:=fun args h=>match args,h with
 | [.w 0,.i .i64 a1,.i .i64 a2,.g a3 50],[.row a0 36]=>some (.a (.b ((canB prog a0 a1 a2 (num a3 0) (num a3 1)))),.none,((okS a0&&(spec_l01Is_v0 a1 a0&&spec_l00In_v0 a2 0 1))&&(spec_l00In_v0 (num a3 1) 1 14&&(decide (0≤num a3 0)&&decide (num a3 0<36)))))
 | _,_=>none
theorem spec_l03Can_enter:EntX prog 64:=entX_ok (fn:=Tryd.f64) (by kernel_rfl) (by kernel_rfl) (by kernel_rfl)
theorem spec_l03Can_ok:ConOkX (md F) prog 64 spec_l03Can_con:=(ansX_ok (N:=1000) (by kernel_rfl) (mkΓ_consX (con_okX spec_l03In_ok) spec_l03In_enter mkΓ_nilX) (fn:=Tryd.f64) (by kernel_rfl) (by kernel_rfl) []).of (by
 intro ρ h w args vals r e hA hH hr
 unfold spec_l03Can_con at hr
 split at hr
 ·rename_i a1 a2 a3 a0
  obtain ⟨rfl,hg⟩:=Prod.mk.inj (Option.some.inj hr)
  obtain ⟨rfl,hg2⟩:=Prod.mk.inj hg
  exact spec_l03Can_main a1 a2 a3 a0 (hA.rng 1 rfl) (hA.rng 2 rfl) (hA.wt 3 rfl) (hH.wt 0 rfl) hg2
 ·cases hr)
theorem impl_record_parts_ans (N:Nat) (a1:Array Value) (b_a0:Option (Option Addr)) (n_a0:Nat) (a0:Array Value):ansV prog (mkΓ [(56,con impl_record_since_con)]) N Tryd.f98 [] [.l 0,.g a1 50] [.sl (.came b_a0) n_a0 a0 29]=(bif ((decide (0≤(i64.wrap ((i64.wrap (num a1 1)) - (1:Int))))&&decide ((i64.wrap ((i64.wrap (num a1 1)) - (1:Int)))≤(i64.wrap (num a1 1))))&&(decide ((i64.wrap (num a1 1))≤(i64.wrap ((i64.wrap (num a1 1)) - (1:Int)))+14)&&decide ((i64.wrap (num a1 1))<(n_a0:Int)))) then (bif (decide (0≤(num a1 0))&&decide ((num a1 0)<36)) then (some (.a (.i .i64 (num (subV (a0.extract ((i64.wrap (num a1 1)).toNat*36) ((i64.wrap (num a1 1)).toNat*36+36)) (a0.extract ((i64.wrap ((i64.wrap (num a1 1)) - (1:Int))).toNat*36) ((i64.wrap ((i64.wrap (num a1 1)) - (1:Int))).toNat*36+36)) (12^((i64.wrap (num a1 1)) - (i64.wrap ((i64.wrap (num a1 1)) - (1:Int)))).toNat)) ((num a1 0).toNat*1))),.none,true))
   else (none))
  else (none)):=by kernel_rfl
theorem impl_record_parts_main (a1:Array Value) (b_a0:Option (Option Addr)) (n_a0:Nat) (a0:Array Value) (h_a1:WT prog 50 a1) (h_a0:a0.size=n_a0*(lay prog 29).length∧(∀ k,k<n_a0→WT prog 29 (a0.extract (k*(lay prog 29).length) (k*(lay prog 29).length+(lay prog 29).length)))∧n_a0≤9223372036854775807) (hg:((spec_l00In_v0 (num a1 1) 1 14&&(decide (num a1 1<(n_a0:Int))&&(decide (0≤num a1 0)&&decide (num a1 0<36)))))=true):ansV prog (mkΓ [(56,con impl_record_since_con)]) 1000 Tryd.f98 [] [.l 0,.g a1 50] [.sl (.came b_a0) n_a0 a0 29]=some (.a (.i .i64 (num (subV (a0.extract ((num a1 1).toNat*36) ((num a1 1).toNat*36+36)) (a0.extract (((num a1 1).toNat - 1)*36) (((num a1 1).toNat - 1)*36+36)) 12) (num a1 0).toNat)),.none,true):=by
 obtain ⟨z,e0,e1,_,_⟩:=find_nums h_a1
 rw [Bool.and_eq_true,Bool.and_eq_true] at hg
 obtain ⟨q3,q4,q5⟩:=hg
 have r3:=in_range q3
 have e2:i64.wrap (num a1 1 - 1)=num a1 1 - 1:=w64 (by omega)
 have e3:(num a1 1 - (num a1 1 - 1)).toNat=1:=by omega
 have e4:(num a1 1 - 1).toNat=(num a1 1).toNat - 1:=by omega
 have e5:(12:Int)^1=12:=by decide
 have g1:decide (0≤num a1 1 - 1)=true:=decide_eq_true (by omega)
 have g2:decide (num a1 1 - 1≤num a1 1)=true:=decide_eq_true (by omega)
 have g3:decide (num a1 1≤num a1 1 - 1+14)=true:=decide_eq_true (by omega)
 refine (impl_record_parts_ans 1000 a1 b_a0 n_a0 a0).trans ?_
 simp only [e1,e2,e3,e4,e5,g1,g2,g3,q4,q5,Bool.and_self,cond_true,Nat.mul_one]
noncomputable def impl_record_parts_con:Con:=fun args h=>match args,h with
 | [.l 0,.g a1 50],[.sl (.came b_a0) n_a0 a0 29]=>some (.a (.i .i64 (num (subV (a0.extract ((num a1 1).toNat*36) ((num a1 1).toNat*36+36)) (a0.extract (((num a1 1).toNat - 1)*36) (((num a1 1).toNat - 1)*36+36)) 12) (num a1 0).toNat)),.none,(spec_l00In_v0 (num a1 1) 1 14&&(decide (num a1 1<(n_a0:Int))&&(decide (0≤num a1 0)&&decide (num a1 0<36)))))
 | _,_=>none
theorem impl_record_parts_enter:EntX prog 98:=entX_ok (fn:=Tryd.f98) (by kernel_rfl) (by kernel_rfl) (by kernel_rfl)
theorem impl_record_parts_ok:ConOkX (md F) prog 98 impl_record_parts_con:=(ansX_ok (N:=1000) (by kernel_rfl) (mkΓ_consX (con_okX impl_record_since_ok) impl_record_since_enter mkΓ_nilX) (fn:=Tryd.f98) (by kernel_rfl) (by kernel_rfl) []).of (by
 intro ρ h w args vals r e hA hH hr
 unfold impl_record_parts_con at hr
 split at hr
 ·rename_i a1 b_a0 n_a0 a0
  obtain ⟨rfl,hg⟩:=Prod.mk.inj (Option.some.inj hr)
  obtain ⟨rfl,hg2⟩:=Prod.mk.inj hg
  exact impl_record_parts_main a1 b_a0 n_a0 a0 (hA.wt 1 rfl) (hH.slw 0 rfl) hg2
 ·cases hr)
theorem impl_record_has_ans (N:Nat) (a1:Array Value) (b_a0:Option (Option Addr)) (n_a0:Nat) (a0:Array Value):ansV prog (mkΓ [(98,con impl_record_parts_con)]) N Tryd.f66 [] [.l 0,.g a1 50] [.sl (.came b_a0) n_a0 a0 29]=(bif (spec_l00In_v0 (num a1 1) 1 14&&(decide (num a1 1<(n_a0:Int))&&(decide (0≤num a1 0)&&decide (num a1 0<36)))) then (some (.a (.b (decide ((num (subV (a0.extract ((num a1 1).toNat*36) ((num a1 1).toNat*36+36)) (a0.extract (((num a1 1).toNat - 1)*36) (((num a1 1).toNat - 1)*36+36)) 12) (num a1 0).toNat) > (0:Int)))),.none,true))
  else (none)):=by kernel_rfl
noncomputable def impl_record_has_v0 (a1:Array Value) (b_a0:Option (Option Addr)) (n_a0:Nat) (a0:Array Value):Bool:=decide ((num (subV (a0.extract ((num a1 1).toNat*36) ((num a1 1).toNat*36+36)) (a0.extract (((num a1 1).toNat - 1)*36) (((num a1 1).toNat - 1)*36+36)) 12) (num a1 0).toNat) > (0:Int))
noncomputable def impl_record_has_gd (a1:Array Value) (b_a0:Option (Option Addr)) (n_a0:Nat) (a0:Array Value):Bool:=(spec_l00In_v0 (num a1 1) 1 14&&(decide (num a1 1<(n_a0:Int))&&(decide (0≤num a1 0)&&decide (num a1 0<36))))
theorem impl_record_has_main (a1:Array Value) (b_a0:Option (Option Addr)) (n_a0:Nat) (a0:Array Value) (h_a1:WT prog 50 a1) (h_a0:a0.size=n_a0*(lay prog 29).length∧(∀ k,k<n_a0→WT prog 29 (a0.extract (k*(lay prog 29).length) (k*(lay prog 29).length+(lay prog 29).length)))∧n_a0≤9223372036854775807) (hg:((impl_record_has_gd a1 b_a0 n_a0 a0))=true):ansV prog (mkΓ [(98,con impl_record_parts_con)]) 1000 Tryd.f66 [] [.l 0,.g a1 50] [.sl (.came b_a0) n_a0 a0 29]=some (.a (.b ((impl_record_has_v0 a1 b_a0 n_a0 a0))),.none,true):=by
 refine (impl_record_has_ans 1000 a1 b_a0 n_a0 a0).trans ?_
 unfold impl_record_has_gd at hg
 unfold impl_record_has_v0
 revert hg
 generalize ((spec_l00In_v0 (num a1 1) 1 14&&(decide (num a1 1<(n_a0:Int))&&(decide (0≤num a1 0)&&decide (num a1 0<36)))))=b2
 intro hg
 cases b2
 ·skip
  first | exact (nomatch (hg:false=true)) | (simp only [cond_true,cond_false,Bool.and_true,Bool.true_and,Bool.and_false,Bool.false_and];done) | rfl
 ·skip
  first | (simp only [cond_true,cond_false,Bool.and_true,Bool.true_and,Bool.and_false,Bool.false_and];done) | rfl | exact (nomatch (hg:false=true))
noncomputable def impl_record_has_con:Con:=fun args h=>match args,h with
 | [.l 0,.g a1 50],[.sl (.came b_a0) n_a0 a0 29]=>some (.a (.b ((impl_record_has_v0 a1 b_a0 n_a0 a0))),.none,(impl_record_has_gd a1 b_a0 n_a0 a0))
 | _,_=>none
theorem impl_record_has_enter:EntX prog 66:=entX_ok (fn:=Tryd.f66) (by kernel_rfl) (by kernel_rfl) (by kernel_rfl)
theorem impl_record_has_ok:ConOkX (md F) prog 66 impl_record_has_con:=(ansX_ok (N:=1000) (by kernel_rfl) (mkΓ_consX (con_okX impl_record_parts_ok) impl_record_parts_enter mkΓ_nilX) (fn:=Tryd.f66) (by kernel_rfl) (by kernel_rfl) []).of (by
 intro ρ h w args vals r e hA hH hr
 unfold impl_record_has_con at hr
 split at hr
 ·rename_i a1 b_a0 n_a0 a0
  obtain ⟨rfl,hg⟩:=Prod.mk.inj (Option.some.inj hr)
  obtain ⟨rfl,hg2⟩:=Prod.mk.inj hg
  exact impl_record_has_main a1 b_a0 n_a0 a0 (hA.wt 1 rfl) (hH.slw 0 rfl) hg2
 ·cases hr)
end
end Go.Proofs.YtphmhgdedoeaeaaDoor
