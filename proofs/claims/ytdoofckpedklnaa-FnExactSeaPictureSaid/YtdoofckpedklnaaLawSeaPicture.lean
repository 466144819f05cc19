/- For every sea spec and program draw the same picture. -/
import Derived.Test.YtdoofckpedklnaaRows
import Derived.Test.YtdoofckpedklnaaChecked
import Derived.Test.YtdoofckpedklnaaPcB
import Derived.Test.YtdoofckpedklnaaPcC
import Derived.Test.YtdoofckpedklnaaLoX
namespace Go.Proofs.Ytdoofckpedklnaa
open Go.ChangeShapes Go.WideShapes Go.ChangeAt Go.RowKit Ve Vc
set_option linter.unusedVariables false
set_option linter.unusedSimpArgs false
set_option maxRecDepth 100000
noncomputable section
variable {mn:Md}
theorem pcN_le {S:Array Value}:pcN S≤6:=by
 unfold pcN
 cases hz:okS S with
 | false=>exact Nat.zero_le _
 | true=>
  have:=okS_dims hz
  rw [cond_true]
  omega
theorem pcA_size {S:Array Value}:(pcA S).size=pcN S:=by
 unfold pcN pcA
 cases okS S with
 | false=>rfl
 | true=>exact piR_size _ _ _
noncomputable def laws_FnExactSeaPicture_G:Cons:=(mkΓw [(8,conSW laws_markStringS_scon)] [(4,con spec_SeaPicture_con),(5,con laws_toSea_con),(6,con impl_SeaPicture_con),(7,con laws_eqStringS_con),(9,con laws_heldStringS_con)] [] [])
theorem laws_FnExactSeaPicture_ans (N:Nat) (a0:Array Value):ansV Try.prog laws_FnExactSeaPicture_G N Try.f3 [] [.g a0 28] []=(bif (!((decide (((pcN a0))=((pcN a0)))&&sameB (pcA a0) (pcA a0)))) then (some (.a (.b (false)),.none,true))
    else (bif ((pcC a0) != (pcC a0)) then (some (.a (.b (false)),.none,true))
      else (bif Nat.beq ((pcN a0)) 0 then (bif ((Nat.ble ((pcN a0)) 100000)&&((decide (0≤(1:Int))&&decide ((1:Int)≤1000000))&&sameB (pcA a0) (mkT (((pcN a0))*1) (1:Int)))) then (bif decide (((1:Int)+(((pcN a0)):Int))<(0:Int)) then (some (.a (.b (false)),.none,true))
            else (bif (((1:Int)+(((pcN a0)):Int)) != (1:Int)) then (some (.a (.b (false)),.none,true))
              else (bif (!((decide (((pcN a0))=((pcN a0)))&&sameB (pcA a0) (pcA a0)))) then (some (.a (.b (false)),.none,true))
                else (bif ((pcC a0) != (pcC a0)) then (some (.a (.b (false)),.none,true))
                  else (bif ((Nat.ble ((pcN a0)) 100000)&&((decide (0≤(1:Int))&&decide ((1:Int)≤1000000))&&sameB (pcA a0) (mkT (((pcN a0))*1) (1:Int)))) then (bif decide (((1:Int)+(((pcN a0)):Int))<(0:Int)) then (some (.a (.b (false)),.none,true))
                      else (bif (((1:Int)+(((pcN a0)):Int)) != (1:Int)) then (some (.a (.b (false)),.none,true))
                        else (some (.a (.b (true)),.none,true))))
                    else (none))))))
          else (none))
        else (bif ((Nat.ble ((pcN a0)) 100000)&&(decide (0≤(1:Int))&&decide ((1:Int)≤1000000))) then (bif ((Nat.ble ((pcN a0)) 100000)&&((decide (0≤(1:Int))&&decide ((1:Int)≤1000000))&&sameB (mkT (((pcN a0))*1) (1:Int)) (mkT (((pcN a0))*1) (1:Int)))) then (bif decide (((1:Int)+(((pcN a0)):Int))<(0:Int)) then (some (.a (.b (false)),.none,true))
              else (bif (((1:Int)+(((pcN a0)):Int)) != ((1:Int)+(((pcN a0)):Int))) then (some (.a (.b (false)),.none,true))
                else (bif (!((decide (((pcN a0))=((pcN a0)))&&sameB (pcA a0) (pcA a0)))) then (some (.a (.b (false)),.none,true))
                  else (bif ((pcC a0) != (pcC a0)) then (some (.a (.b (false)),.none,true))
                    else (bif ((Nat.ble ((pcN a0)) 100000)&&((decide (0≤(1:Int))&&decide ((1:Int)≤1000000))&&sameB (mkT (((pcN a0))*1) (1:Int)) (mkT (((pcN a0))*1) (1:Int)))) then (bif decide (((1:Int)+(((pcN a0)):Int))<(0:Int)) then (some (.a (.b (false)),.none,true))
                        else (bif (((1:Int)+(((pcN a0)):Int)) != ((1:Int)+(((pcN a0)):Int))) then (some (.a (.b (false)),.none,true))
                          else (some (.a (.b (true)),.none,true))))
                      else (none))))))
            else (none))
          else (none))))):=by kernel_rfl
noncomputable def laws_FnExactSeaPicture_v0 (a0:Array Value):Bool:=(bif (!((decide (((pcN a0))=((pcN a0)))&&sameB (pcA a0) (pcA a0)))) then false else (bif ((pcC a0) != (pcC a0)) then false else (bif Nat.beq ((pcN a0)) 0 then (bif decide (((1:Int)+(((pcN a0)):Int))<(0:Int)) then false else (bif (((1:Int)+(((pcN a0)):Int)) != (1:Int)) then false else (bif (!((decide (((pcN a0))=((pcN a0)))&&sameB (pcA a0) (pcA a0)))) then false else (bif ((pcC a0) != (pcC a0)) then false else (bif decide (((1:Int)+(((pcN a0)):Int))<(0:Int)) then false else (bif (((1:Int)+(((pcN a0)):Int)) != (1:Int)) then false else true)))))) else (bif decide (((1:Int)+(((pcN a0)):Int))<(0:Int)) then false else (bif (((1:Int)+(((pcN a0)):Int)) != ((1:Int)+(((pcN a0)):Int))) then false else (bif (!((decide (((pcN a0))=((pcN a0)))&&sameB (pcA a0) (pcA a0)))) then false else (bif ((pcC a0) != (pcC a0)) then false else (bif decide (((1:Int)+(((pcN a0)):Int))<(0:Int)) then false else (bif (((1:Int)+(((pcN a0)):Int)) != ((1:Int)+(((pcN a0)):Int))) then false else true)))))))))
noncomputable def laws_FnExactSeaPicture_gd (a0:Array Value):Bool:=(bif (!((decide (((pcN a0))=((pcN a0)))&&sameB (pcA a0) (pcA a0)))) then true else (bif ((pcC a0) != (pcC a0)) then true else (bif Nat.beq ((pcN a0)) 0 then (bif ((Nat.ble ((pcN a0)) 100000)&&((decide (0≤(1:Int))&&decide ((1:Int)≤1000000))&&sameB (pcA a0) (mkT (((pcN a0))*1) (1:Int)))) then (bif decide (((1:Int)+(((pcN a0)):Int))<(0:Int)) then true else (bif (((1:Int)+(((pcN a0)):Int)) != (1:Int)) then true else (bif (!((decide (((pcN a0))=((pcN a0)))&&sameB (pcA a0) (pcA a0)))) then true else (bif ((pcC a0) != (pcC a0)) then true else ((Nat.ble ((pcN a0)) 100000)&&((decide (0≤(1:Int))&&decide ((1:Int)≤1000000))&&sameB (pcA a0) (mkT (((pcN a0))*1) (1:Int)))))))) else false) else (bif ((Nat.ble ((pcN a0)) 100000)&&(decide (0≤(1:Int))&&decide ((1:Int)≤1000000))) then (bif ((Nat.ble ((pcN a0)) 100000)&&((decide (0≤(1:Int))&&decide ((1:Int)≤1000000))&&sameB (mkT (((pcN a0))*1) (1:Int)) (mkT (((pcN a0))*1) (1:Int)))) then (bif decide (((1:Int)+(((pcN a0)):Int))<(0:Int)) then true else (bif (((1:Int)+(((pcN a0)):Int)) != ((1:Int)+(((pcN a0)):Int))) then true else (bif (!((decide (((pcN a0))=((pcN a0)))&&sameB (pcA a0) (pcA a0)))) then true else (bif ((pcC a0) != (pcC a0)) then true else ((Nat.ble ((pcN a0)) 100000)&&((decide (0≤(1:Int))&&decide ((1:Int)≤1000000))&&sameB (mkT (((pcN a0))*1) (1:Int)) (mkT (((pcN a0))*1) (1:Int)))))))) else false) else false))))
theorem laws_FnExactSeaPicture_main (a0:Array Value) (h_a0:WT Try.prog 28 a0) (hg:((laws_FnExactSeaPicture_gd a0))=true):ansV Try.prog laws_FnExactSeaPicture_G 1000 Try.f3 [] [.g a0 28] []=some (.a (.b ((laws_FnExactSeaPicture_v0 a0))),.none,true):=by
 refine (laws_FnExactSeaPicture_ans 1000 a0).trans ?_
 unfold laws_FnExactSeaPicture_gd at hg
 unfold laws_FnExactSeaPicture_v0
 revert hg
 generalize ((!((decide (((pcN a0))=((pcN a0)))&&sameB (pcA a0) (pcA a0)))))=b2
 intro hg
 cases b2
 ·skip
  revert hg
  generalize (((pcC a0) != (pcC a0)))=b4
  intro hg
  cases b4
  ·skip
   revert hg
   generalize (Nat.beq ((pcN a0)) 0)=b6
   intro hg
   cases b6
   ·skip
    revert hg
    generalize (((Nat.ble ((pcN a0)) 100000)&&(decide (0≤(1:Int))&&decide ((1:Int)≤1000000))))=b8
    intro hg
    cases b8
    ·skip
     first | exact (nomatch (hg:false=true)) | (simp only [cond_true,cond_false,Bool.and_true,Bool.true_and,Bool.and_false,Bool.false_and];done) | rfl
    ·skip
     revert hg
     generalize (((Nat.ble ((pcN a0)) 100000)&&((decide (0≤(1:Int))&&decide ((1:Int)≤1000000))&&sameB (mkT (((pcN a0))*1) (1:Int)) (mkT (((pcN a0))*1) (1:Int)))))=b10
     intro hg
     cases b10
     ·skip
      first | exact (nomatch (hg:false=true)) | (simp only [cond_true,cond_false,Bool.and_true,Bool.true_and,Bool.and_false,Bool.false_and];done) | rfl
     ·skip
      revert hg
      generalize (decide (((1:Int)+(((pcN a0)):Int))<(0:Int)))=b12
      intro hg
      cases b12
      ·skip
       revert hg
       generalize ((((1:Int)+(((pcN a0)):Int)) != ((1:Int)+(((pcN a0)):Int))))=b14
       intro hg
       cases b14
       ·skip
        first | (simp only [cond_true,cond_false,Bool.and_true,Bool.true_and,Bool.and_false,Bool.false_and];done) | rfl | exact (nomatch (hg:false=true))
       ·skip
        first | (simp only [cond_true,cond_false,Bool.and_true,Bool.true_and,Bool.and_false,Bool.false_and];done) | rfl | exact (nomatch (hg:false=true))
      ·skip
       first | (simp only [cond_true,cond_false,Bool.and_true,Bool.true_and,Bool.and_false,Bool.false_and];done) | rfl | exact (nomatch (hg:false=true))
   ·skip
    revert hg
    generalize (((Nat.ble ((pcN a0)) 100000)&&((decide (0≤(1:Int))&&decide ((1:Int)≤1000000))&&sameB (pcA a0) (mkT (((pcN a0))*1) (1:Int)))))=b8
    intro hg
    cases b8
    ·skip
     first | exact (nomatch (hg:false=true)) | (simp only [cond_true,cond_false,Bool.and_true,Bool.true_and,Bool.and_false,Bool.false_and];done) | rfl
    ·skip
     revert hg
     generalize (decide (((1:Int)+(((pcN a0)):Int))<(0:Int)))=b10
     intro hg
     cases b10
     ·skip
      revert hg
      generalize ((((1:Int)+(((pcN a0)):Int)) != (1:Int)))=b12
      intro hg
      cases b12
      ·skip
       first | (simp only [cond_true,cond_false,Bool.and_true,Bool.true_and,Bool.and_false,Bool.false_and];done) | rfl | exact (nomatch (hg:false=true))
      ·skip
       first | (simp only [cond_true,cond_false,Bool.and_true,Bool.true_and,Bool.and_false,Bool.false_and];done) | rfl | exact (nomatch (hg:false=true))
     ·skip
      first | (simp only [cond_true,cond_false,Bool.and_true,Bool.true_and,Bool.and_false,Bool.false_and];done) | rfl | exact (nomatch (hg:false=true))
  ·skip
   first | (simp only [cond_true,cond_false,Bool.and_true,Bool.true_and,Bool.and_false,Bool.false_and];done) | rfl | exact (nomatch (hg:false=true))
 ·skip
  first | (simp only [cond_true,cond_false,Bool.and_true,Bool.true_and,Bool.and_false,Bool.false_and];done) | rfl | exact (nomatch (hg:false=true))
noncomputable def laws_FnExactSeaPicture_con:Con:=fun args h=>match args,h with
 | [.g a0 28],[]=>some (.a (.b ((laws_FnExactSeaPicture_v0 a0))),.none,(laws_FnExactSeaPicture_gd a0))
 | _,_=>none
theorem laws_FnExactSeaPicture_ok:ConOkX mn Try.prog 3 laws_FnExactSeaPicture_con:=(ansX_ok (N:=1000) (by kernel_rfl) (mkΓw_sX (conSW_okX laws_markStringS_sok) laws_markStringS_enter (mkΓw_cX (con_okX spec_SeaPicture_ok) spec_SeaPicture_enter (mkΓw_cX (con_okX laws_toSea_ok) laws_toSea_enter (mkΓw_cX (con_okX impl_SeaPicture_ok) impl_SeaPicture_enter (mkΓw_cX (con_okX laws_eqStringS_ok) laws_eqStringS_enter (mkΓw_cX (con_okX laws_heldStringS_ok) laws_heldStringS_enter mkΓx_nilX)))))) (fn:=Try.f3) (by kernel_rfl) (by kernel_rfl) []).of (by
 intro ρ h w args vals r e hA hH hr
 unfold laws_FnExactSeaPicture_con at hr
 split at hr
 ·rename_i a0
  obtain ⟨rfl,hg⟩:=Prod.mk.inj (Option.some.inj hr)
  obtain ⟨rfl,hg2⟩:=Prod.mk.inj hg
  exact laws_FnExactSeaPicture_main a0 (hA.wt 0 rfl) hg2
 ·cases hr)
theorem laws_FnExactSeaPicture_true (a0:Array Value) (h_a0:WT Try.prog 28 a0):((laws_FnExactSeaPicture_gd a0))=true∧((laws_FnExactSeaPicture_v0 a0))=true:=by
 have hN:=pcN_le (S:=a0)
 have hD:=pcA_size (S:=a0)
 unfold laws_FnExactSeaPicture_gd laws_FnExactSeaPicture_v0
 generalize pcN a0=n at hN hD⊢
 generalize pcA a0=D at hD⊢
 generalize pcC a0=c
 have b1:Nat.ble n 100000=true:=Nat.ble_eq_true_of_le (by omega)
 have c1:decide (((1:Int)+(n:Int))<(0:Int))=false:=decide_eq_false (by omega)
 have c2:decide (0≤(1:Int))=true:=rfl
 have c3:decide ((1:Int)≤1000000)=true:=rfl
 have c6:decide ((1:Int)<0)=false:=rfl
 cases hz:Nat.beq n 0
 case true=>
  obtain rfl:=Nat.eq_of_beq_eq_true hz
  obtain rfl:D=#[]:=Array.eq_empty_of_size_eq_zero (by rw [hD])
  have c4:((1:Int)+((0:Nat):Int) != (1:Int))=false:=rfl
  have c5:mkT (0*1) (1:Int)=(#[]:Array Value):=rfl
  simp only [c4,c5,b1,c1,c2,c3,c6,hz,decide_true,Bool.and_self,sameB_self,bne_self_eq_false,Bool.not_true,cond_false,cond_true,and_self]
 all_goals simp only [b1,c1,c2,c3,c6,hz,decide_true,Bool.and_self,sameB_self,bne_self_eq_false,Bool.not_true,cond_false,cond_true,and_self]
namespace lawFnExactSeaPicture
theorem lifted (os:Os) (started:os.Started) (H:Type) (enc:TypeId×Value→H) :
  ReturnsInHanded {} Try.checked os 3 .any (Rows.fnExactSeaPictureSpec.pre6 enc Try.prog Try.f3 Rows.fnExactSeaPictureRow.domain false) (Rows.fnExactSeaPictureSpec.post enc Try.prog Try.f3 false true false false):=by
 refine law_alone (C:=Try.checked) (tb:=4) (by kernel_rfl) (by kernel_rfl) Try.func3 (by kernel_rfl) Try.underlying4 (of_decide_eq_true (by kernel_rfl)) rfl ?_ os started H enc
  (ChangeSpec.witness6 (enc:=enc) (C:=Try.checked) false ⟨#[],#[.agg (zc Try.prog 28)],[]⟩ 8 (by kernel_rfl) (by kernel_rfl) (by kernel_rfl) (by kernel_rfl)) ?_
 ·intro H ds hds
  rw [show Try.f3.params.toList.length=1 by kernel_rfl] at hds
  match ds,hds with
  | [_],_=>rfl
 ·intro W base args ds ps hval hA
  rw [Try.params3] at hA hval
  obtain ⟨v0,d0,hargs,rfl,h0⟩:=trodAll_one hA
  obtain ⟨a0,e0,w0⟩:=open_data (t:=28) 8 (by kernel_rfl) (by kernel_rfl) (hval 0 28 v0 rfl (by rw [hargs];rfl)) h0
  obtain rfl:args=#[.agg a0]:=by rw [hargs,e0]
  obtain ⟨hg,hv⟩:=laws_FnExactSeaPicture_true a0 w0
  have hr:laws_FnExactSeaPicture_con [.g a0 28] []=some (.a (.b true),.none,true):=by
   show (some (SV.a (SA.b ((laws_FnExactSeaPicture_v0 a0))),Eff.none,(laws_FnExactSeaPicture_gd a0)):Option (SV×Eff×Bool))=_
   rw [hg,hv]
  exact endsL_con2 (by kernel_rfl) laws_FnExactSeaPicture_ok (hh:=[]) (by kernel_rfl) hr W (vals:=[.agg a0]) .nil (allCons2 ⟨rfl,w0⟩ (allNil2 _))
theorem over:Rows.fnExactSeaPictureRow.holds Try.pinned (OpenSpec.ofChange Rows.fnExactSeaPictureSpec):=
 OpenClaim.holds_of_wide 3 Try.f3 rfl rfl rfl rfl rfl rfl rfl ⟨rfl,rfl,rfl,rfl,rfl⟩ rfl rfl rfl rfl rfl (by kernel_rfl) Try.func3 (by kernel_rfl)
  (of_decide_eq_true (by kernel_rfl)) (by unfold Func.isWrapper;first | (rw [if_pos (by decide +kernel)];kernel_rfl) | (rw [if_neg (by decide +kernel)];exact ⟨rfl,rfl⟩))
  (fun os started H enc _=>lifted os started H enc)
theorem proved:Rows.FnExactSeaPictureSaid:=over
#print axioms proved
end lawFnExactSeaPicture
end
end Go.Proofs.Ytdoofckpedklnaa
