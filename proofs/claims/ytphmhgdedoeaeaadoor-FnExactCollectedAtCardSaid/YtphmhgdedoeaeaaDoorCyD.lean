/- A share of finds: both sides. -/
import Derived.Test.YtphmhgdedoeaeaaDoorProg
import Derived.Test.YtphmhgdedoeaeaaDoorCyR
import Derived.Test.YtphmhgdedoeaeaaDoorCyC
namespace Go.Proofs.YtphmhgdedoeaeaaDoor
open Go.ChangeShapes Go.WideShapes Go.ChangeAt Go.RowKit Ve Vc
open Tryd (prog)
open IntKind (i64)
set_option linter.unusedVariables false
set_option linter.unusedSimpArgs false
set_option maxRecDepth 100000
noncomputable section
variable {F:Vc.Fd}
noncomputable def spec_l03Part_G:Cons:=(mkΓ [(57,con spec_l03By_con),(79,con spec_l02Parts_con),(93,con spec_l02Share_con)])
theorem spec_l03Part_ans (N:Nat) (a1 a2 a3 a4 a5:Int) (a0:Array Value):ansV prog spec_l03Part_G N Tryd.f59 [] [.w 0,.i .i64 (a1),.i .i64 (a2),.i .i64 (a3),.i .i64 (a4),.i .i64 (a5)] [.row a0 36]=(bif (okS a0&&((spec_l01Is_v0 a1 a0&&spec_l00In_v0 a2 0 1)&&spec_l00In_v0 a5 0 14)) then (bif (okS a0&&((spec_l01Is_v0 a1 a0&&spec_l00In_v0 a2 0 1)&&spec_l00In_v0 (i64.wrap (a4 - (1:Int))) 0 14)) then (bif (decide (0≤a3)&&decide (a3<36)) then (bif (decide (0≤a3)&&decide (a3<36)) then (bif (decide (0≤(i64.wrap ((i64.wrap (a5 - a4))+(1:Int))))&&decide ((i64.wrap ((i64.wrap (a5 - a4))+(1:Int)))≤14)) then (bif (decide (0≤a5)&&decide (a5≤14)) then (bif (spec_l02Share_gd (i64.wrap ((num (byV prog a0 a1 a2 a5.toNat) ((a3).toNat*1)) - (i64.wrap ((num (byV prog a0 a1 a2 (i64.wrap (a4 - (1:Int))).toNat) ((a3).toNat*1))*((12:Int)^(i64.wrap ((i64.wrap (a5 - a4))+(1:Int))).toNat))))) ((12:Int)^a5.toNat)) then (some (.a (.g #[.int .i64 (i64.wrap (((i64.wrap ((num (byV prog a0 a1 a2 a5.toNat) ((a3).toNat*1)) - (i64.wrap ((num (byV prog a0 a1 a2 (i64.wrap (a4 - (1:Int))).toNat) ((a3).toNat*1))*((12:Int)^(i64.wrap ((i64.wrap (a5 - a4))+(1:Int))).toNat)))))).tdiv (gcdW (i64.wrap ((num (byV prog a0 a1 a2 a5.toNat) ((a3).toNat*1)) - (i64.wrap ((num (byV prog a0 a1 a2 (i64.wrap (a4 - (1:Int))).toNat) ((a3).toNat*1))*((12:Int)^(i64.wrap ((i64.wrap (a5 - a4))+(1:Int))).toNat))))) ((12:Int)^a5.toNat)))),.int .i64 (i64.wrap ((((12:Int)^a5.toNat)).tdiv (gcdW (i64.wrap ((num (byV prog a0 a1 a2 a5.toNat) ((a3).toNat*1)) - (i64.wrap ((num (byV prog a0 a1 a2 (i64.wrap (a4 - (1:Int))).toNat) ((a3).toNat*1))*((12:Int)^(i64.wrap ((i64.wrap (a5 - a4))+(1:Int))).toNat))))) ((12:Int)^a5.toNat))))] 41),.none,true))
        else (none))
       else (none))
      else (none))
     else (none))
    else (none))
   else (none))
  else (none)):=by kernel_rfl
theorem spec_l03Part_main (a1 a2 a3 a4 a5:Int) (a0:Array Value) (h_a1:i64.min≤a1∧a1≤i64.max) (h_a2:i64.min≤a2∧a2≤i64.max) (h_a3:i64.min≤a3∧a3≤i64.max) (h_a4:i64.min≤a4∧a4≤i64.max) (h_a5:i64.min≤a5∧a5≤i64.max) (h_a0:WT prog 36 a0) (hg:(((okS a0&&(spec_l01Is_v0 a1 a0&&spec_l00In_v0 a2 0 1))&&((decide (0≤a3)&&decide (a3≤35))&&(decide (1≤a4)&&(decide (a4≤a5)&&decide (a5≤14))))))=true):ansV prog spec_l03Part_G 1000 Tryd.f59 [] [.w 0,.i .i64 (a1),.i .i64 (a2),.i .i64 (a3),.i .i64 (a4),.i .i64 (a5)] [.row a0 36]=some (.a (.g (shareW (partI prog a0 a1 a2 a3.toNat (a4.toNat - 1) (a5.toNat - (a4.toNat - 1))) (12^a5.toNat)) 41),.none,true):=by
 simp only [Bool.and_eq_true,decide_eq_true_eq] at hg
 obtain ⟨⟨q0,q1,q2⟩,⟨q3,q4⟩,q5,q6,q7⟩:=hg
 obtain ⟨k,rfl⟩:=Int.eq_ofNat_of_zero_le q3
 obtain ⟨b,rfl⟩:∃ b:Nat,a4=((b+1:Nat):Int):=⟨a4.toNat - 1,by omega⟩
 obtain ⟨d,rfl⟩:∃ d:Nat,a5=((b+d:Nat):Int):=⟨a5.toNat - b,by omega⟩
 have e1:i64.wrap (((b+1:Nat):Int) - 1)=(b:Int):=by rw [w64 (by omega)];omega
 have e2:i64.wrap (i64.wrap (((b+d:Nat):Int) - ((b+1:Nat):Int))+1)=(d:Int):=by
  rw [w64 (n:=((b+d:Nat):Int) - ((b+1:Nat):Int)) (by omega),w64 (by omega)];omega
 obtain ⟨p0,p1,p2⟩:=part_in h_a0 q0 q1 q2 (k:=k) (before:=b) (d:=d) (by omega) (by omega)
 have sh:=share_eq p0 (pow12_pos (b+d))
 refine (spec_l03Part_ans 1000 a1 a2 (k:Int) ((b+1:Nat):Int) ((b+d:Nat):Int) a0).trans ?_
 rw [e1,e2]
 simp only [q0,q1,q2,in_of (x:=((b+d:Nat):Int)) (a:=0) (b:=14) (by omega),in_of (x:=(b:Int)) (a:=0) (b:=14) (by omega),dec2 (show 0≤(k:Int) by omega) (show (k:Int)<36 by omega),Bool.and_self,cond_true,Int.toNat_natCast,Nat.mul_one]
 rw [decide_eq_true (show 0≤(d:Int) by omega),decide_eq_true (show (d:Int)≤14 by omega),decide_eq_true (show 0≤((b+d:Nat):Int) by omega),decide_eq_true (show ((b+d:Nat):Int)≤14 by omega),p2,sh.2.2]
 rw [show b+1 - 1=b by omega,show b+d - b=d by omega]
 rfl
noncomputable def spec_l03Part_con:Con:=fun args h=>match args,h with
 | [.w 0,.i .i64 a1,.i .i64 a2,.i .i64 a3,.i .i64 a4,.i .i64 a5],[.row a0 36]=>some (.a (.g (shareW (partI prog a0 a1 a2 a3.toNat (a4.toNat - 1) (a5.toNat - (a4.toNat - 1))) (12^a5.toNat)) 41),.none,((okS a0&&(spec_l01Is_v0 a1 a0&&spec_l00In_v0 a2 0 1))&&((decide (0≤a3)&&decide (a3≤35))&&(decide (1≤a4)&&(decide (a4≤a5)&&decide (a5≤14))))))
 | _,_=>none
theorem spec_l03Part_enter:EntX prog 59:=entX_ok (fn:=Tryd.f59) (by kernel_rfl) (by kernel_rfl) (by kernel_rfl)
theorem spec_l03Part_ok:ConOkX (md F) prog 59 spec_l03Part_con:=(ansX_ok (N:=1000) (by kernel_rfl) (mkΓ_consX (con_okX spec_l03By_ok) spec_l03By_enter (mkΓ_consX (con_okX spec_l02Parts_ok) spec_l02Parts_enter (mkΓ_consX (con_okX spec_l02Share_ok) spec_l02Share_enter mkΓ_nilX))) (fn:=Tryd.f59) (by kernel_rfl) (by kernel_rfl) []).of (by
 intro ρ h w args vals r e hA hH hr
 unfold spec_l03Part_con at hr
 split at hr
 ·rename_i a1 a2 a3 a4 a5 a0
  obtain ⟨rfl,hg⟩:=Prod.mk.inj (Option.some.inj hr)
  obtain ⟨rfl,hg2⟩:=Prod.mk.inj hg
  exact spec_l03Part_main a1 a2 a3 a4 a5 a0 (hA.rng 1 rfl) (hA.rng 2 rfl) (hA.rng 3 rfl) (hA.rng 4 rfl) (hA.rng 5 rfl) (hH.wt 0 rfl) hg2
 ·cases hr)
noncomputable def impl_record_shareSince_G:Cons:=(mkΓ [(56,con impl_record_since_con),(61,con impl_shareOf_con),(81,con impl_partsAfter_con)])
theorem impl_record_shareSince_ans (N:Nat) (a1 a2 a3:Int) (b_a0:Option (Option Addr)) (n_a0:Nat) (a0:Array Value):ansV prog impl_record_shareSince_G N Tryd.f62 [] [.l 0,.i .i64 (a1),.i .i64 (a2),.i .i64 (a3)] [.sl (.came b_a0) n_a0 a0 29]=(bif ((decide (0≤a1)&&decide (a1≤a2))&&(decide (a2≤a1+14)&&decide (a2<(n_a0:Int)))) then (bif (decide (0≤a3)&&decide (a3<36)) then (bif (decide (0≤a2)&&decide (a2≤14)) then (bif (impl_shareOf_gd (num (subV (a0.extract (a2.toNat*36) (a2.toNat*36+36)) (a0.extract (a1.toNat*36) (a1.toNat*36+36)) (12^(a2 - a1).toNat)) ((a3).toNat*1)) ((12:Int)^a2.toNat)) then (some (.a (.g (impl_shareOf_v0 (num (subV (a0.extract (a2.toNat*36) (a2.toNat*36+36)) (a0.extract (a1.toNat*36) (a1.toNat*36+36)) (12^(a2 - a1).toNat)) ((a3).toNat*1)) ((12:Int)^a2.toNat)) 41),.none,true))
     else (none))
    else (none))
   else (none))
  else (none)):=by kernel_rfl
theorem impl_record_shareSince_main (a1 a2 a3:Int) (b_a0:Option (Option Addr)) (n_a0:Nat) (a0:Array Value) (h_a1:i64.min≤a1∧a1≤i64.max) (h_a2:i64.min≤a2∧a2≤i64.max) (h_a3:i64.min≤a3∧a3≤i64.max) (h_a0:a0.size=n_a0*(lay prog 29).length∧(∀ k,k<n_a0→WT prog 29 (a0.extract (k*(lay prog 29).length) (k*(lay prog 29).length+(lay prog 29).length)))∧n_a0≤9223372036854775807) (hg:(((((decide (0≤a1)&&decide (a1≤a2))&&(decide (a2≤14)&&decide (a2<(n_a0:Int))))&&(decide (0≤a3)&&decide (a3<36)))&&impl_shareOf_gd (num (subV (a0.extract (a2.toNat*36) (a2.toNat*36+36)) (a0.extract (a1.toNat*36) (a1.toNat*36+36)) (12^(a2 - a1).toNat)) a3.toNat) (12^a2.toNat)))=true):ansV prog impl_record_shareSince_G 1000 Tryd.f62 [] [.l 0,.i .i64 (a1),.i .i64 (a2),.i .i64 (a3)] [.sl (.came b_a0) n_a0 a0 29]=some (.a (.g (impl_shareOf_v0 (num (subV (a0.extract (a2.toNat*36) (a2.toNat*36+36)) (a0.extract (a1.toNat*36) (a1.toNat*36+36)) (12^(a2 - a1).toNat)) a3.toNat) (12^a2.toNat)) 41),.none,true):=by
 rw [Bool.and_eq_true] at hg
 obtain ⟨hg,hs⟩:=hg
 simp only [Bool.and_eq_true,decide_eq_true_eq] at hg
 obtain ⟨⟨⟨q0,q1⟩,q2,q3⟩,q4,q5⟩:=hg
 refine (impl_record_shareSince_ans 1000 a1 a2 a3 b_a0 n_a0 a0).trans ?_
 rw [decide_eq_true q0,decide_eq_true q1,decide_eq_true (show a2≤a1+14 by omega),decide_eq_true q3,decide_eq_true (show 0≤a2 by omega),decide_eq_true q2,dec2 q4 q5]
 simp only [Bool.and_self,cond_true,Nat.mul_one,hs]
noncomputable def impl_record_shareSince_con:Con:=fun args h=>match args,h with
 | [.l 0,.i .i64 a1,.i .i64 a2,.i .i64 a3],[.sl (.came b_a0) n_a0 a0 29]=>some (.a (.g (impl_shareOf_v0 (num (subV (a0.extract (a2.toNat*36) (a2.toNat*36+36)) (a0.extract (a1.toNat*36) (a1.toNat*36+36)) (12^(a2 - a1).toNat)) a3.toNat) (12^a2.toNat)) 41),.none,((((decide (0≤a1)&&decide (a1≤a2))&&(decide (a2≤14)&&decide (a2<(n_a0:Int))))&&(decide (0≤a3)&&decide (a3<36)))&&impl_shareOf_gd (num (subV (a0.extract (a2.toNat*36) (a2.toNat*36+36)) (a0.extract (a1.toNat*36) (a1.toNat*36+36)) (12^(a2 - a1).toNat)) a3.toNat) (12^a2.toNat)))
 | _,_=>none
theorem impl_record_shareSince_enter:EntX prog 62:=entX_ok (fn:=Tryd.f62) (by kernel_rfl) (by kernel_rfl) (by kernel_rfl)
theorem impl_record_shareSince_ok:ConOkX (md F) prog 62 impl_record_shareSince_con:=(ansX_ok (N:=1000) (by kernel_rfl) (mkΓ_consX (con_okX impl_record_since_ok) impl_record_since_enter (mkΓ_consX (con_okX impl_shareOf_ok) impl_shareOf_enter (mkΓ_consX (con_okX impl_partsAfter_ok) impl_partsAfter_enter mkΓ_nilX))) (fn:=Tryd.f62) (by kernel_rfl) (by kernel_rfl) []).of (by
 intro ρ h w args vals r e hA hH hr
 unfold impl_record_shareSince_con at hr
 split at hr
 ·rename_i a1 a2 a3 b_a0 n_a0 a0
  obtain ⟨rfl,hg⟩:=Prod.mk.inj (Option.some.inj hr)
  obtain ⟨rfl,hg2⟩:=Prod.mk.inj hg
  exact impl_record_shareSince_main a1 a2 a3 b_a0 n_a0 a0 (hA.rng 1 rfl) (hA.rng 2 rfl) (hA.rng 3 rfl) (hH.slw 0 rfl) hg2
 ·cases hr)
noncomputable def spec_l03Beach_G:Cons:=(mkΓ [(48,con spec_l03From_con),(83,con spec_l01Is_con),(85,con spec_l01Dry_con)])
theorem spec_l03Beach_ans (N:Nat) (a1 a2 a3:Int) (a4:Bool) (a0:Array Value):ansV prog spec_l03Beach_G N Tryd.f58 [] [.w 0,.i .i64 (a1),.i .i64 (a2),.i .i64 (a3),.b (a4)] [.row a0 36]=(bif a4 then (bif (spec_l03From_gd a1 a2 (spec_l01Is_v0 a3 a0) a0) then (bif ((spec_l03From_v0 a1 a2 (spec_l01Is_v0 a3 a0) a0)==(0:Int)) then (bif decide (0≤(IntKind.u64.wrap a3)) then (bif (!((spec_l01Dry_v0 a3 a0))) then (some (.a (.i .i64 (4:Int)),.none,true))
            else (some (.a (.i .i64 (spec_l03From_v0 a1 a2 (spec_l01Is_v0 a3 a0) a0)),.none,true)))
          else (none))
        else (some (.a (.i .i64 (spec_l03From_v0 a1 a2 (spec_l01Is_v0 a3 a0) a0)),.none,true)))
      else (none))
    else (bif (spec_l03From_gd a1 a2 false a0) then (bif ((spec_l03From_v0 a1 a2 false a0)==(0:Int)) then (bif decide (0≤(IntKind.u64.wrap a3)) then (bif (!((spec_l01Dry_v0 a3 a0))) then (some (.a (.i .i64 (4:Int)),.none,true))
            else (some (.a (.i .i64 (spec_l03From_v0 a1 a2 false a0)),.none,true)))
          else (none))
        else (some (.a (.i .i64 (spec_l03From_v0 a1 a2 false a0)),.none,true)))
      else (none))):=by kernel_rfl
noncomputable def spec_l03Beach_v0 (a1 a2 a3:Int) (a4:Bool) (a0:Array Value):Int:=(bif a4 then (bif ((spec_l03From_v0 a1 a2 (spec_l01Is_v0 a3 a0) a0)==(0:Int)) then (bif (!((spec_l01Dry_v0 a3 a0))) then (4:Int) else (spec_l03From_v0 a1 a2 (spec_l01Is_v0 a3 a0) a0)) else (spec_l03From_v0 a1 a2 (spec_l01Is_v0 a3 a0) a0)) else (bif ((spec_l03From_v0 a1 a2 false a0)==(0:Int)) then (bif (!((spec_l01Dry_v0 a3 a0))) then (4:Int) else (spec_l03From_v0 a1 a2 false a0)) else (spec_l03From_v0 a1 a2 false a0)))
noncomputable def spec_l03Beach_gd (a1 a2 a3:Int) (a4:Bool) (a0:Array Value):Bool:=(bif a4 then (bif (spec_l03From_gd a1 a2 (spec_l01Is_v0 a3 a0) a0) then (bif ((spec_l03From_v0 a1 a2 (spec_l01Is_v0 a3 a0) a0)==(0:Int)) then decide (0≤(IntKind.u64.wrap a3)) else true) else false) else (bif (spec_l03From_gd a1 a2 false a0) then (bif ((spec_l03From_v0 a1 a2 false a0)==(0:Int)) then decide (0≤(IntKind.u64.wrap a3)) else true) else false))
theorem spec_l03Beach_main (a1 a2 a3:Int) (a4:Bool) (a0:Array Value) (h_a1:i64.min≤a1∧a1≤i64.max) (h_a2:i64.min≤a2∧a2≤i64.max) (h_a3:i64.min≤a3∧a3≤i64.max) (h_a0:WT prog 36 a0) (hg:((spec_l03Beach_gd a1 a2 a3 a4 a0))=true):ansV prog spec_l03Beach_G 1000 Tryd.f58 [] [.w 0,.i .i64 (a1),.i .i64 (a2),.i .i64 (a3),.b (a4)] [.row a0 36]=some (.a (.i .i64 (spec_l03Beach_v0 a1 a2 a3 a4 a0)),.none,true):=by
 refine (spec_l03Beach_ans 1000 a1 a2 a3 a4 a0).trans ?_
 unfold spec_l03Beach_gd at hg
 unfold spec_l03Beach_v0
 revert hg
 generalize (a4)=b2
 intro hg
 cases b2
 ·skip
  revert hg
  generalize ((spec_l03From_gd a1 a2 false a0))=b4
  intro hg
  cases b4
  ·skip
   first | exact (nomatch (hg:false=true)) | (simp only [cond_true,cond_false,Bool.and_true,Bool.true_and,Bool.and_false,Bool.false_and];done) | rfl
  ·skip
   revert hg
   generalize (((spec_l03From_v0 a1 a2 false a0)==(0:Int)))=b6
   intro hg
   cases b6
   ·skip
    first | (simp only [cond_true,cond_false,Bool.and_true,Bool.true_and,Bool.and_false,Bool.false_and];done) | rfl | exact (nomatch (hg:false=true))
   ·skip
    revert hg
    generalize (decide (0≤(IntKind.u64.wrap a3)))=b8
    intro hg
    cases b8
    ·skip
     first | exact (nomatch (hg:false=true)) | (simp only [cond_true,cond_false,Bool.and_true,Bool.true_and,Bool.and_false,Bool.false_and];done) | rfl
    ·skip
     revert hg
     generalize ((!((spec_l01Dry_v0 a3 a0))))=b10
     intro hg
     cases b10
     ·skip
      first | (simp only [cond_true,cond_false,Bool.and_true,Bool.true_and,Bool.and_false,Bool.false_and];done) | rfl | exact (nomatch (hg:false=true))
     ·skip
      first | (simp only [cond_true,cond_false,Bool.and_true,Bool.true_and,Bool.and_false,Bool.false_and];done) | rfl | exact (nomatch (hg:false=true))
 ·skip
  revert hg
  generalize ((spec_l03From_gd a1 a2 (spec_l01Is_v0 a3 a0) a0))=b4
  intro hg
  cases b4
  ·skip
   first | exact (nomatch (hg:false=true)) | (simp only [cond_true,cond_false,Bool.and_true,Bool.true_and,Bool.and_false,Bool.false_and];done) | rfl
  ·skip
   revert hg
   generalize (((spec_l03From_v0 a1 a2 (spec_l01Is_v0 a3 a0) a0)==(0:Int)))=b6
   intro hg
   cases b6
   ·skip
    first | (simp only [cond_true,cond_false,Bool.and_true,Bool.true_and,Bool.and_false,Bool.false_and];done) | rfl | exact (nomatch (hg:false=true))
   ·skip
    revert hg
    generalize (decide (0≤(IntKind.u64.wrap a3)))=b8
    intro hg
    cases b8
    ·skip
     first | exact (nomatch (hg:false=true)) | (simp only [cond_true,cond_false,Bool.and_true,Bool.true_and,Bool.and_false,Bool.false_and];done) | rfl
    ·skip
     revert hg
     generalize ((!((spec_l01Dry_v0 a3 a0))))=b10
     intro hg
     cases b10
     ·skip
      first | (simp only [cond_true,cond_false,Bool.and_true,Bool.true_and,Bool.and_false,Bool.false_and];done) | rfl | exact (nomatch (hg:false=true))
     ·skip
      first | (simp only [cond_true,cond_false,Bool.and_true,Bool.true_and,Bool.and_false,Bool.false_and];done) | rfl | exact (nomatch (hg:false=true))
noncomputable def spec_l03Beach_con:Con:=fun args h=>match args,h with
 | [.w 0,.i .i64 a1,.i .i64 a2,.i .i64 a3,.b a4],[.row a0 36]=>some (.a (.i .i64 (spec_l03Beach_v0 a1 a2 a3 a4 a0)),.none,(spec_l03Beach_gd a1 a2 a3 a4 a0))
 | _,_=>none
theorem spec_l03Beach_enter:EntX prog 58:=entX_ok (fn:=Tryd.f58) (by kernel_rfl) (by kernel_rfl) (by kernel_rfl)
theorem spec_l03Beach_ok:ConOkX (md F) prog 58 spec_l03Beach_con:=(ansX_ok (N:=1000) (by kernel_rfl) (mkΓ_consX (con_okX spec_l03From_ok) spec_l03From_enter (mkΓ_consX (con_okX spec_l01Is_ok) spec_l01Is_enter (mkΓ_consX (con_okX spec_l01Dry_ok) spec_l01Dry_enter mkΓ_nilX))) (fn:=Tryd.f58) (by kernel_rfl) (by kernel_rfl) []).of (by
 intro ρ h w args vals r e hA hH hr
 unfold spec_l03Beach_con at hr
 split at hr
 ·rename_i a1 a2 a3 a4 a0
  obtain ⟨rfl,hg⟩:=Prod.mk.inj (Option.some.inj hr)
  obtain ⟨rfl,hg2⟩:=Prod.mk.inj hg
  exact spec_l03Beach_main a1 a2 a3 a4 a0 (hA.rng 1 rfl) (hA.rng 2 rfl) (hA.rng 3 rfl) (hH.wt 0 rfl) hg2
 ·cases hr)
theorem beach_gd (c b be:Int) (f:Bool) (S:Array Value):spec_l03Beach_gd c b be f S=true:=by
 unfold spec_l03Beach_gd
 rw [from_gd,from_gd,dry_free]
 cases f<;>simp
noncomputable def bl (S:Array Value) (c b be:Int) (f:Bool):Bool:=rl S c b (f&&spec_l01Is_v0 be S)
theorem bl_of {S:Array Value} {c b be:Int} {f:Bool} (h:bl S c b be f=true):spec_l01Is_v0 c S=true∧spec_l00In_v0 b 0 1=true∧f=true∧spec_l01Is_v0 be S=true:=by
 obtain ⟨h1,h2,h3⟩:=rl_of h
 rw [Bool.and_eq_true] at h3
 exact ⟨h1,h2,h3.1,h3.2⟩
theorem beach_eq (c b be:Int) (f:Bool) (S:Array Value):spec_l03Beach_v0 c b be f S=bif okS S then (bif bl S c b be f then (bif spec_l01Dry_v0 c S then 4 else bif spec_l01Dry_v0 be S then 0 else 4) else 2) else 1:=by
 unfold spec_l03Beach_v0 bl
 rw [from_eq,from_eq]
 cases f with
 | false=>
  rw [Bool.false_and]
  have hr:rl S c b false=false:=by unfold rl;simp
  rw [hr]
  cases okS S<;>rfl
 | true=>
  rw [Bool.true_and]
  cases okS S<;>cases rl S c b (spec_l01Is_v0 be S)<;>cases spec_l01Dry_v0 c S<;>cases spec_l01Dry_v0 be S<;>rfl
theorem water_dry {S:Array Value} (hS:WT prog 36 S) {c:Int} (hc:0≤c∧c≤35):impl_isWater_v0 S c = !(spec_l01Dry_v0 c S):=by
 unfold impl_isWater_v0;rw [land_all hS hc]
noncomputable def w0impl_beachError_G:Cons:=(mkΓ [(52,conG impl_releaseError_con0),(88,con impl_hasCell_con),(94,con impl_isWater_con)])
theorem w0impl_beachError_ans (N:Nat) (a0:Array Value) (a1 a2 a3:Int) (a4:Bool) (g_e0 g_e1 g_e2 g_e3 g_e4:Addr):ansV prog w0impl_beachError_G N Tryd.f60 [] [.g a0 36,.i .i64 (a1),.i .i64 (a2),.i .i64 (a3),.b (a4)] [.gl 0 184 g_e0 101973,.gl 1 184 g_e1 93330,.gl 3 184 g_e2 112315,.gl 2 184 g_e3 124718,.gl 4 184 g_e4 94254]=(bif a4 then (bif (okS a0&&(rl a0 a1 a2 (impl_hasCell_v0 a0 a3)&&(spec_l01Dry_v0 a1 a0))) then (some (.a (.e 3),.none,true))
   else (none))
  else (bif (okS a0&&(rl a0 a1 a2 false&&(spec_l01Dry_v0 a1 a0))) then (some (.a (.e 3),.none,true))
   else (none))):=by kernel_rfl
noncomputable def w1impl_beachError_G:Cons:=(mkΓ [(52,conG impl_releaseError_con1),(88,con impl_hasCell_con),(94,con impl_isWater_con)])
theorem w1impl_beachError_ans (N:Nat) (a0:Array Value) (a1 a2 a3:Int) (a4:Bool) (g_e0 g_e1 g_e2 g_e3 g_e4:Addr):ansV prog w1impl_beachError_G N Tryd.f60 [] [.g a0 36,.i .i64 (a1),.i .i64 (a2),.i .i64 (a3),.b (a4)] [.gl 0 184 g_e0 101973,.gl 1 184 g_e1 93330,.gl 3 184 g_e2 112315,.gl 2 184 g_e3 124718,.gl 4 184 g_e4 94254]=(bif a4 then (bif (okS a0&&(rl a0 a1 a2 (impl_hasCell_v0 a0 a3)&&((!(spec_l01Dry_v0 a1 a0))))) then (bif decide (0≤a3) then (bif (impl_isWater_v0 a0 a3) then (some (.a (.e 3),.none,true))
          else (some (.a (.v (.nilIface)),.none,true)))
        else (none))
      else (none))
    else (bif (okS a0&&(rl a0 a1 a2 false&&((!(spec_l01Dry_v0 a1 a0))))) then (bif decide (0≤a3) then (bif (impl_isWater_v0 a0 a3) then (some (.a (.e 3),.none,true))
          else (some (.a (.v (.nilIface)),.none,true)))
        else (none))
      else (none))):=by kernel_rfl
noncomputable def w2impl_beachError_G:Cons:=(mkΓ [(52,conG impl_releaseError_con2),(88,con impl_hasCell_con),(94,con impl_isWater_con)])
theorem w2impl_beachError_ans (N:Nat) (a0:Array Value) (a1 a2 a3:Int) (a4:Bool) (g_e0 g_e1 g_e2 g_e3 g_e4:Addr):ansV prog w2impl_beachError_G N Tryd.f60 [] [.g a0 36,.i .i64 (a1),.i .i64 (a2),.i .i64 (a3),.b (a4)] [.gl 0 184 g_e0 101973,.gl 1 184 g_e1 93330,.gl 3 184 g_e2 112315,.gl 2 184 g_e3 124718,.gl 4 184 g_e4 94254]=(bif a4 then (bif (okS a0&&((!(rl a0 a1 a2 (impl_hasCell_v0 a0 a3))))) then (some (.a (.e 1),.none,true))
   else (none))
  else (bif (okS a0&&((!(rl a0 a1 a2 false)))) then (some (.a (.e 1),.none,true))
   else (none))):=by kernel_rfl
noncomputable def w3impl_beachError_G:Cons:=(mkΓ [(52,conG impl_releaseError_con3),(88,con impl_hasCell_con),(94,con impl_isWater_con)])
theorem w3impl_beachError_ans (N:Nat) (a0:Array Value) (a1 a2 a3:Int) (a4:Bool) (g_e0 g_e1 g_e2 g_e3 g_e4:Addr):ansV prog w3impl_beachError_G N Tryd.f60 [] [.g a0 36,.i .i64 (a1),.i .i64 (a2),.i .i64 (a3),.b (a4)] [.gl 0 184 g_e0 101973,.gl 1 184 g_e1 93330,.gl 3 184 g_e2 112315,.gl 2 184 g_e3 124718,.gl 4 184 g_e4 94254]=(bif a4 then (bif (!(okS a0)) then (some (.a (.e 0),.none,true))
   else (none))
  else (bif (!(okS a0)) then (some (.a (.e 0),.none,true))
   else (none))):=by kernel_rfl
theorem impl_beachError_main0 (a0:Array Value) (a1 a2 a3:Int) (a4:Bool) (g_e0 g_e1 g_e2 g_e3 g_e4:Addr) (h_a0:WT prog 36 a0) (h_a1:i64.min≤a1∧a1≤i64.max) (h_a2:i64.min≤a2∧a2≤i64.max) (h_a3:i64.min≤a3∧a3≤i64.max) (hc0:(okS a0)=false) (hg:(true)=true):ansV prog w3impl_beachError_G 1000 Tryd.f60 [] [.g a0 36,.i .i64 (a1),.i .i64 (a2),.i .i64 (a3),.b (a4)] [.gl 0 184 g_e0 101973,.gl 1 184 g_e1 93330,.gl 3 184 g_e2 112315,.gl 2 184 g_e3 124718,.gl 4 184 g_e4 94254]=some (.a (.e 0),.none,true):=by
 refine (w3impl_beachError_ans 1000 a0 a1 a2 a3 a4 g_e0 g_e1 g_e2 g_e3 g_e4).trans ?_
 cases a4<;>simp only [hc0,Bool.and_self,Bool.and_true,Bool.true_and,Bool.and_false,Bool.false_and,Bool.not_false,Bool.not_true,cond_true,cond_false]
theorem impl_beachError_main1 (a0:Array Value) (a1 a2 a3:Int) (a4:Bool) (g_e0 g_e1 g_e2 g_e3 g_e4:Addr) (h_a0:WT prog 36 a0) (h_a1:i64.min≤a1∧a1≤i64.max) (h_a2:i64.min≤a2∧a2≤i64.max) (h_a3:i64.min≤a3∧a3≤i64.max) (hc0:(okS a0)=true) (hc1:(bl a0 a1 a2 a3 a4)=false) (hg:(true)=true):ansV prog w2impl_beachError_G 1000 Tryd.f60 [] [.g a0 36,.i .i64 (a1),.i .i64 (a2),.i .i64 (a3),.b (a4)] [.gl 0 184 g_e0 101973,.gl 1 184 g_e1 93330,.gl 3 184 g_e2 112315,.gl 2 184 g_e3 124718,.gl 4 184 g_e4 94254]=some (.a (.e 1),.none,true):=by
 refine (w2impl_beachError_ans 1000 a0 a1 a2 a3 a4 g_e0 g_e1 g_e2 g_e3 g_e4).trans ?_
 have hr:rl a0 a1 a2 false=false:=by unfold rl;simp
 cases ha:a4 with
 | false=>simp only [hc0,hr,Bool.and_self,Bool.and_true,Bool.true_and,Bool.and_false,Bool.false_and,Bool.not_false,Bool.not_true,cond_true,cond_false]
 | true=>
  have hrl:rl a0 a1 a2 (spec_l01Is_v0 a3 a0)=false:=by unfold bl at hc1;rw [ha,Bool.true_and] at hc1;exact hc1
  simp only [cell_is,hc0,hrl,Bool.and_self,Bool.and_true,Bool.true_and,Bool.and_false,Bool.false_and,Bool.not_false,Bool.not_true,cond_true,cond_false]
theorem impl_beachError_main2 (a0:Array Value) (a1 a2 a3:Int) (a4:Bool) (g_e0 g_e1 g_e2 g_e3 g_e4:Addr) (h_a0:WT prog 36 a0) (h_a1:i64.min≤a1∧a1≤i64.max) (h_a2:i64.min≤a2∧a2≤i64.max) (h_a3:i64.min≤a3∧a3≤i64.max) (hc0:(okS a0)=true) (hc1:(bl a0 a1 a2 a3 a4)=true) (hc2:(spec_l01Dry_v0 a1 a0)=false) (hc3:(spec_l01Dry_v0 a3 a0)=false) (hg:(true)=true):ansV prog w1impl_beachError_G 1000 Tryd.f60 [] [.g a0 36,.i .i64 (a1),.i .i64 (a2),.i .i64 (a3),.b (a4)] [.gl 0 184 g_e0 101973,.gl 1 184 g_e1 93330,.gl 3 184 g_e2 112315,.gl 2 184 g_e3 124718,.gl 4 184 g_e4 94254]=some (.a (.e 3),.none,true):=by
 refine (w1impl_beachError_ans 1000 a0 a1 a2 a3 a4 g_e0 g_e1 g_e2 g_e3 g_e4).trans ?_
 obtain ⟨q1,q2,q3,q4⟩:=bl_of hc1
 have hr:=is_range q4
 subst q3
 have hrl:rl a0 a1 a2 (spec_l01Is_v0 a3 a0)=true:=by unfold bl at hc1;simpa using hc1
 simp only [cell_is,hrl,hc0,hc2,hc3,water_dry h_a0 hr,decide_eq_true hr.1,Bool.and_self,Bool.and_true,Bool.true_and,Bool.and_false,Bool.false_and,Bool.not_false,Bool.not_true,cond_true,cond_false]
theorem impl_beachError_main3 (a0:Array Value) (a1 a2 a3:Int) (a4:Bool) (g_e0 g_e1 g_e2 g_e3 g_e4:Addr) (h_a0:WT prog 36 a0) (h_a1:i64.min≤a1∧a1≤i64.max) (h_a2:i64.min≤a2∧a2≤i64.max) (h_a3:i64.min≤a3∧a3≤i64.max) (hc0:(okS a0)=true) (hc1:(bl a0 a1 a2 a3 a4)=true) (hc2:(spec_l01Dry_v0 a1 a0)=false) (hc3:(spec_l01Dry_v0 a3 a0)=true) (hg:(true)=true):ansV prog w1impl_beachError_G 1000 Tryd.f60 [] [.g a0 36,.i .i64 (a1),.i .i64 (a2),.i .i64 (a3),.b (a4)] [.gl 0 184 g_e0 101973,.gl 1 184 g_e1 93330,.gl 3 184 g_e2 112315,.gl 2 184 g_e3 124718,.gl 4 184 g_e4 94254]=some (.a (.v (.nilIface)),.none,true):=by
 refine (w1impl_beachError_ans 1000 a0 a1 a2 a3 a4 g_e0 g_e1 g_e2 g_e3 g_e4).trans ?_
 obtain ⟨q1,q2,q3,q4⟩:=bl_of hc1
 have hr:=is_range q4
 subst q3
 have hrl:rl a0 a1 a2 (spec_l01Is_v0 a3 a0)=true:=by unfold bl at hc1;simpa using hc1
 simp only [cell_is,hrl,hc0,hc2,hc3,water_dry h_a0 hr,decide_eq_true hr.1,Bool.and_self,Bool.and_true,Bool.true_and,Bool.and_false,Bool.false_and,Bool.not_false,Bool.not_true,cond_true,cond_false]
theorem impl_beachError_main4 (a0:Array Value) (a1 a2 a3:Int) (a4:Bool) (g_e0 g_e1 g_e2 g_e3 g_e4:Addr) (h_a0:WT prog 36 a0) (h_a1:i64.min≤a1∧a1≤i64.max) (h_a2:i64.min≤a2∧a2≤i64.max) (h_a3:i64.min≤a3∧a3≤i64.max) (hc0:(okS a0)=true) (hc1:(bl a0 a1 a2 a3 a4)=true) (hc2:(spec_l01Dry_v0 a1 a0)=true) (hg:(true)=true):ansV prog w0impl_beachError_G 1000 Tryd.f60 [] [.g a0 36,.i .i64 (a1),.i .i64 (a2),.i .i64 (a3),.b (a4)] [.gl 0 184 g_e0 101973,.gl 1 184 g_e1 93330,.gl 3 184 g_e2 112315,.gl 2 184 g_e3 124718,.gl 4 184 g_e4 94254]=some (.a (.e 3),.none,true):=by
 refine (w0impl_beachError_ans 1000 a0 a1 a2 a3 a4 g_e0 g_e1 g_e2 g_e3 g_e4).trans ?_
 obtain ⟨q1,q2,q3,q4⟩:=bl_of hc1
 have hr:=is_range q4
 subst q3
 have hrl:rl a0 a1 a2 (spec_l01Is_v0 a3 a0)=true:=by unfold bl at hc1;simpa using hc1
 simp only [cell_is,hrl,hc0,hc2,water_dry h_a0 hr,decide_eq_true hr.1,Bool.and_self,Bool.and_true,Bool.true_and,Bool.and_false,Bool.false_and,Bool.not_false,Bool.not_true,cond_true,cond_false]
noncomputable def impl_beachError_scon:SCon:=fun args h=>match args,h with
 | [.g a0 36,.i .i64 a1,.i .i64 a2,.i .i64 a3,.b a4],[.gl 0 184 g_e0 101973,.gl 1 184 g_e1 93330,.gl 3 184 g_e2 112315,.gl 2 184 g_e3 124718,.gl 4 184 g_e4 94254]=>.two (okS a0) (.two (bl a0 a1 a2 a3 a4) (.two (spec_l01Dry_v0 a1 a0) (.one (some (.a (.e 3),.none,true))) (.two (spec_l01Dry_v0 a3 a0) (.one (some (.a (.v (.nilIface)),.none,true))) (.one (some (.a (.e 3),.none,true))))) (.one (some (.a (.e 1),.none,true)))) (.one (some (.a (.e 0),.none,true)))
 | _,_=>.one none
theorem impl_beachError_enter:EntX prog 60:=entX_ok (fn:=Tryd.f60) (by kernel_rfl) (by kernel_rfl) (by kernel_rfl)
theorem impl_beachError_sok:ConOkX (md F) prog 60 (fun args h=>wayRes (impl_beachError_scon args h)):=by
 intro ρ h w args vals r e hn hr hA hH
 dsimp only at hr
 unfold impl_beachError_scon at hr
 split at hr
 ·rename_i a0 a1 a2 a3 a4 g_e0 g_e1 g_e2 g_e3 g_e4
  simp only [wayRes] at hr
  cases hc0:(okS a0)
  ·rw [hc0] at hr
   simp only [wayRes,cond_true,cond_false] at hr
   obtain ⟨rfl,hg⟩:=Prod.mk.inj (Option.some.inj hr)
   obtain ⟨rfl,hg2⟩:=Prod.mk.inj hg
   exact ((ansX_ok (N:=1000) (by kernel_rfl) (mkΓ_consX (conG_okX impl_releaseError_ok3) impl_releaseError_enter (mkΓ_consX (con_okX impl_hasCell_ok) impl_hasCell_enter (mkΓ_consX (con_okX impl_isWater_ok) impl_isWater_enter mkΓ_nilX))) (fn:=Tryd.f60) (by kernel_rfl) (by kernel_rfl) [])) ρ _ w _ vals _ _ hn ((impl_beachError_main0 a0 a1 a2 a3 a4 g_e0 g_e1 g_e2 g_e3 g_e4 (hA.wt 0 rfl) (hA.rng 1 rfl) (hA.rng 2 rfl) (hA.rng 3 rfl) hc0 hg2)) hA hH
  ·rw [hc0] at hr
   simp only [wayRes,cond_true,cond_false] at hr
   cases hc1:(bl a0 a1 a2 a3 a4)
   ·rw [hc1] at hr
    simp only [wayRes,cond_true,cond_false] at hr
    obtain ⟨rfl,hg⟩:=Prod.mk.inj (Option.some.inj hr)
    obtain ⟨rfl,hg2⟩:=Prod.mk.inj hg
    exact ((ansX_ok (N:=1000) (by kernel_rfl) (mkΓ_consX (conG_okX impl_releaseError_ok2) impl_releaseError_enter (mkΓ_consX (con_okX impl_hasCell_ok) impl_hasCell_enter (mkΓ_consX (con_okX impl_isWater_ok) impl_isWater_enter mkΓ_nilX))) (fn:=Tryd.f60) (by kernel_rfl) (by kernel_rfl) [])) ρ _ w _ vals _ _ hn ((impl_beachError_main1 a0 a1 a2 a3 a4 g_e0 g_e1 g_e2 g_e3 g_e4 (hA.wt 0 rfl) (hA.rng 1 rfl) (hA.rng 2 rfl) (hA.rng 3 rfl) hc0 hc1 hg2)) hA hH
   ·rw [hc1] at hr
    simp only [wayRes,cond_true,cond_false] at hr
    cases hc2:(spec_l01Dry_v0 a1 a0)
    ·rw [hc2] at hr
     simp only [wayRes,cond_true,cond_false] at hr
     cases hc3:(spec_l01Dry_v0 a3 a0)
     ·rw [hc3] at hr
      simp only [wayRes,cond_true,cond_false] at hr
      obtain ⟨rfl,hg⟩:=Prod.mk.inj (Option.some.inj hr)
      obtain ⟨rfl,hg2⟩:=Prod.mk.inj hg
      exact ((ansX_ok (N:=1000) (by kernel_rfl) (mkΓ_consX (conG_okX impl_releaseError_ok1) impl_releaseError_enter (mkΓ_consX (con_okX impl_hasCell_ok) impl_hasCell_enter (mkΓ_consX (con_okX impl_isWater_ok) impl_isWater_enter mkΓ_nilX))) (fn:=Tryd.f60) (by kernel_rfl) (by kernel_rfl) [])) ρ _ w _ vals _ _ hn ((impl_beachError_main2 a0 a1 a2 a3 a4 g_e0 g_e1 g_e2 g_e3 g_e4 (hA.wt 0 rfl) (hA.rng 1 rfl) (hA.rng 2 rfl) (hA.rng 3 rfl) hc0 hc1 hc2 hc3 hg2)) hA hH
     ·rw [hc3] at hr
      simp only [wayRes,cond_true,cond_false] at hr
      obtain ⟨rfl,hg⟩:=Prod.mk.inj (Option.some.inj hr)
      obtain ⟨rfl,hg2⟩:=Prod.mk.inj hg
      exact ((ansX_ok (N:=1000) (by kernel_rfl) (mkΓ_consX (conG_okX impl_releaseError_ok1) impl_releaseError_enter (mkΓ_consX (con_okX impl_hasCell_ok) impl_hasCell_enter (mkΓ_consX (con_okX impl_isWater_ok) impl_isWater_enter mkΓ_nilX))) (fn:=Tryd.f60) (by kernel_rfl) (by kernel_rfl) [])) ρ _ w _ vals _ _ hn ((impl_beachError_main3 a0 a1 a2 a3 a4 g_e0 g_e1 g_e2 g_e3 g_e4 (hA.wt 0 rfl) (hA.rng 1 rfl) (hA.rng 2 rfl) (hA.rng 3 rfl) hc0 hc1 hc2 hc3 hg2)) hA hH
    ·rw [hc2] at hr
     simp only [wayRes,cond_true,cond_false] at hr
     obtain ⟨rfl,hg⟩:=Prod.mk.inj (Option.some.inj hr)
     obtain ⟨rfl,hg2⟩:=Prod.mk.inj hg
     exact ((ansX_ok (N:=1000) (by kernel_rfl) (mkΓ_consX (conG_okX impl_releaseError_ok0) impl_releaseError_enter (mkΓ_consX (con_okX impl_hasCell_ok) impl_hasCell_enter (mkΓ_consX (con_okX impl_isWater_ok) impl_isWater_enter mkΓ_nilX))) (fn:=Tryd.f60) (by kernel_rfl) (by kernel_rfl) [])) ρ _ w _ vals _ _ hn ((impl_beachError_main4 a0 a1 a2 a3 a4 g_e0 g_e1 g_e2 g_e3 g_e4 (hA.wt 0 rfl) (hA.rng 1 rfl) (hA.rng 2 rfl) (hA.rng 3 rfl) hc0 hc1 hc2 hg2)) hA hH
 ·simp only [wayRes] at hr
  cases hr
noncomputable def impl_beachError_con0:Con:=fun args h=>match args,h with
 | [.g a0 36,.i .i64 a1,.i .i64 a2,.i .i64 a3,.b a4],[.gl 0 184 g_e0 101973,.gl 1 184 g_e1 93330,.gl 3 184 g_e2 112315,.gl 2 184 g_e3 124718,.gl 4 184 g_e4 94254]=>some (.a (.e 3),.none,(okS a0&&(bl a0 a1 a2 a3 a4&&(spec_l01Dry_v0 a1 a0))))
 | _,_=>none
theorem impl_beachError_ok0:ConOkX (md F) prog 60 impl_beachError_con0:=ConOkX.of impl_beachError_sok (by
 intro ρ h w args vals r e hA hH hr
 unfold impl_beachError_con0 at hr
 split at hr
 ·rename_i a0 a1 a2 a3 a4 g_e0 g_e1 g_e2 g_e3 g_e4
  obtain ⟨rfl,hg⟩:=Prod.mk.inj (Option.some.inj hr)
  obtain ⟨rfl,hg2⟩:=Prod.mk.inj hg
  simp only [Bool.and_eq_true,Bool.not_eq_true'] at hg2
  obtain ⟨q0,q1,q2⟩:=hg2
  show wayRes (impl_beachError_scon _ _)=_
  unfold impl_beachError_scon
  simp only [wayRes,q0,q1,q2,cond_true,cond_false]
 ·cases hr)
noncomputable def impl_beachError_con1:Con:=fun args h=>match args,h with
 | [.g a0 36,.i .i64 a1,.i .i64 a2,.i .i64 a3,.b a4],[.gl 0 184 g_e0 101973,.gl 1 184 g_e1 93330,.gl 3 184 g_e2 112315,.gl 2 184 g_e3 124718,.gl 4 184 g_e4 94254]=>some (.a (.v (.nilIface)),.none,(okS a0&&(bl a0 a1 a2 a3 a4&&((!(spec_l01Dry_v0 a1 a0))&&(spec_l01Dry_v0 a3 a0)))))
 | _,_=>none
theorem impl_beachError_ok1:ConOkX (md F) prog 60 impl_beachError_con1:=ConOkX.of impl_beachError_sok (by
 intro ρ h w args vals r e hA hH hr
 unfold impl_beachError_con1 at hr
 split at hr
 ·rename_i a0 a1 a2 a3 a4 g_e0 g_e1 g_e2 g_e3 g_e4
  obtain ⟨rfl,hg⟩:=Prod.mk.inj (Option.some.inj hr)
  obtain ⟨rfl,hg2⟩:=Prod.mk.inj hg
  simp only [Bool.and_eq_true,Bool.not_eq_true'] at hg2
  obtain ⟨q0,q1,q2,q3⟩:=hg2
  show wayRes (impl_beachError_scon _ _)=_
  unfold impl_beachError_scon
  simp only [wayRes,q0,q1,q2,q3,cond_true,cond_false]
 ·cases hr)
noncomputable def impl_beachError_con2:Con:=fun args h=>match args,h with
 | [.g a0 36,.i .i64 a1,.i .i64 a2,.i .i64 a3,.b a4],[.gl 0 184 g_e0 101973,.gl 1 184 g_e1 93330,.gl 3 184 g_e2 112315,.gl 2 184 g_e3 124718,.gl 4 184 g_e4 94254]=>some (.a (.e 3),.none,(okS a0&&(bl a0 a1 a2 a3 a4&&((!(spec_l01Dry_v0 a1 a0))&&((!(spec_l01Dry_v0 a3 a0)))))))
 | _,_=>none
theorem impl_beachError_ok2:ConOkX (md F) prog 60 impl_beachError_con2:=ConOkX.of impl_beachError_sok (by
 intro ρ h w args vals r e hA hH hr
 unfold impl_beachError_con2 at hr
 split at hr
 ·rename_i a0 a1 a2 a3 a4 g_e0 g_e1 g_e2 g_e3 g_e4
  obtain ⟨rfl,hg⟩:=Prod.mk.inj (Option.some.inj hr)
  obtain ⟨rfl,hg2⟩:=Prod.mk.inj hg
  simp only [Bool.and_eq_true,Bool.not_eq_true'] at hg2
  obtain ⟨q0,q1,q2,q3⟩:=hg2
  show wayRes (impl_beachError_scon _ _)=_
  unfold impl_beachError_scon
  simp only [wayRes,q0,q1,q2,q3,cond_true,cond_false]
 ·cases hr)
noncomputable def impl_beachError_con3:Con:=fun args h=>match args,h with
 | [.g a0 36,.i .i64 a1,.i .i64 a2,.i .i64 a3,.b a4],[.gl 0 184 g_e0 101973,.gl 1 184 g_e1 93330,.gl 3 184 g_e2 112315,.gl 2 184 g_e3 124718,.gl 4 184 g_e4 94254]=>some (.a (.e 1),.none,(okS a0&&((!(bl a0 a1 a2 a3 a4)))))
 | _,_=>none
theorem impl_beachError_ok3:ConOkX (md F) prog 60 impl_beachError_con3:=ConOkX.of impl_beachError_sok (by
 intro ρ h w args vals r e hA hH hr
 unfold impl_beachError_con3 at hr
 split at hr
 ·rename_i a0 a1 a2 a3 a4 g_e0 g_e1 g_e2 g_e3 g_e4
  obtain ⟨rfl,hg⟩:=Prod.mk.inj (Option.some.inj hr)
  obtain ⟨rfl,hg2⟩:=Prod.mk.inj hg
  simp only [Bool.and_eq_true,Bool.not_eq_true'] at hg2
  obtain ⟨q0,q1⟩:=hg2
  show wayRes (impl_beachError_scon _ _)=_
  unfold impl_beachError_scon
  simp only [wayRes,q0,q1,cond_true,cond_false]
 ·cases hr)
noncomputable def impl_beachError_con4:Con:=fun args h=>match args,h with
 | [.g a0 36,.i .i64 a1,.i .i64 a2,.i .i64 a3,.b a4],[.gl 0 184 g_e0 101973,.gl 1 184 g_e1 93330,.gl 3 184 g_e2 112315,.gl 2 184 g_e3 124718,.gl 4 184 g_e4 94254]=>some (.a (.e 0),.none,(!(okS a0)))
 | _,_=>none
theorem impl_beachError_ok4:ConOkX (md F) prog 60 impl_beachError_con4:=ConOkX.of impl_beachError_sok (by
 intro ρ h w args vals r e hA hH hr
 unfold impl_beachError_con4 at hr
 split at hr
 ·rename_i a0 a1 a2 a3 a4 g_e0 g_e1 g_e2 g_e3 g_e4
  obtain ⟨rfl,hg⟩:=Prod.mk.inj (Option.some.inj hr)
  obtain ⟨rfl,hg2⟩:=Prod.mk.inj hg
  simp only [Bool.and_eq_true,Bool.not_eq_true'] at hg2
  have q0:=hg2
  show wayRes (impl_beachError_scon _ _)=_
  unfold impl_beachError_scon
  simp only [wayRes,q0,cond_true,cond_false]
 ·cases hr)
theorem beach_zero {c b be:Int} {f:Bool} {S:Array Value} (h:(spec_l03Beach_v0 c b be f S != (0:Int))=false):okS S=true∧bl S c b be f=true∧spec_l01Dry_v0 c S=false∧spec_l01Dry_v0 be S=true:=by
 rw [beach_eq] at h
 cases h1:okS S<;>cases h2:bl S c b be f<;>cases h3:spec_l01Dry_v0 c S<;>cases h4:spec_l01Dry_v0 be S<;>first | exact ⟨rfl,rfl,rfl,rfl⟩ | (exfalso;rw [h1,h2,h3,h4] at h;revert h;decide)
end
end Go.Proofs.YtphmhgdedoeaeaaDoor
