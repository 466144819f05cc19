/- For all pairs of seas, cells, tides, finds and numbers spec and program make the same repairs. -/
import Derived.Test.YtefjogahegolbaaGreatDoorRows
import Derived.Test.YtefjogahegolbaaGreatDoorChecked
import Derived.Test.YtefjogahegolbaaGreatDoorCuB
import Derived.Test.YtefjogahegolbaaGreatDoorVcG
import Derived.Test.YtefjogahegolbaaGreatDoorCards
import Derived.Test.YtefjogahegolbaaGreatDoorTie
set_option linter.unusedVariables false
set_option linter.unusedSimpArgs false
namespace Go.Proofs.YtefjogahegolbaaGreatDoor
open Go.ChangeShapes Go.WideShapes Go.ChangeAt Go.RowKit Ve Vc
open IntKind (i64)
set_option maxRecDepth 100000
noncomputable section
variable {F:Vc.Fd}
def vb:Cons:=(mkΓw [(16,conSW Zl6),(32,conSW Zlr)] [(9,con sJ),(11,con ub),(12,con qU),(15,con sI),(28,con sy),(29,conG sE),(30,con uq),(31,con sN),(33,con sR)] [] [])
def bU:Option (SV×Eff×Bool):=some (.a (.b false),.none,true)
def lI:Option (SV×Eff×Bool):=some (.a (.b true),.none,true)
def nk(n:Nat)(D:QA)(V:QA)(c:Int)(z:Int)(m:Nat)(A:QA):Option (SV×Eff×Bool):=bif (!(Uag V V)) then bU else bif (!((decide ((n)=(n))&&Uag D D))) then bU else bif (c != c) then bU else bif Nat.beq (n) 0 then bif ((Nat.ble (n) 2000000)&&((decide (0<=(1:Int))&&decide ((1:Int)<=1000000))&&Uag D (mk8 ((n)*2) (1:Int)))) then bif decide (((1:Int)+(((n)*2:Nat):Int))<(0:Int)) then bU else bif (((1:Int)+(((n)*2:Nat):Int)) != (1:Int)) then bU else bif decide (m<=1048576) then bif (!(Uag V V)) then bU else bif (!((decide ((n)=(n))&&Uag D D))) then bU else bif (c != c) then bU else bif ((Nat.ble (n) 2000000)&&((decide (0<=(1:Int))&&decide ((1:Int)<=1000000))&&Uag D (mk8 ((n)*2) (1:Int)))) then bif decide (((1:Int)+(((n)*2:Nat):Int))<(0:Int)) then bU else bif (((1:Int)+(((n)*2:Nat):Int)) != (1:Int)) then bU else lI else none else none else none else bif ((Nat.ble (n) 2000000)&&(decide (0<=(1:Int))&&decide ((1:Int)<=1000000))) then bif ((Nat.ble (n) 2000000)&&((decide (0<=(1:Int))&&decide ((1:Int)<=1000000))&&Uag (mk8 ((n)*2) (1:Int)) (mk8 ((n)*2) (1:Int)))) then bif decide (((1:Int)+(((n)*2:Nat):Int))<(0:Int)) then bU else bif (((1:Int)+(((n)*2:Nat):Int)) != ((1:Int)+(((n)*2:Nat):Int))) then bU else bif decide (m<=1048576) then bif (!(Uag V V)) then bU else bif (!((decide ((n)=(n))&&Uag D D))) then bU else bif (c != c) then bU else bif ((Nat.ble (n) 2000000)&&((decide (0<=(1:Int))&&decide ((1:Int)<=1000000))&&Uag (mk8 ((n)*2) (1:Int)) (mk8 ((n)*2) (1:Int)))) then bif decide (((1:Int)+(((n)*2:Nat):Int))<(0:Int)) then bU else bif (((1:Int)+(((n)*2:Nat):Int)) != ((1:Int)+(((n)*2:Nat):Int))) then bU else lI else none else none else none else none
def tr(n:Nat)(D:QA)(V:QA)(c:Int)(z:Int)(m:Nat)(A:QA):Option (SV×Eff×Bool):=bif decide (z<(0:Int)) then lI else bif decide (m<=1048576) then bif decide (m<=1048576) then bif (!(Uag V V)) then bU else bif (!((decide ((n)=(n))&&Uag D D))) then bU else bif (c != c) then bU else bif decide (m<=1048576) then bif (!((decide (m=m)&&Uag A A))) then bU else bif Nat.beq m 0 then nk n D V c z m A else bif ((Nat.ble m 2000000)&&(decide (0<=(1:Int))&&decide ((1:Int)<=1000000))) then bif decide (((1:Int)+((m*2:Nat):Int))<(0:Int)) then bU else nk n D V c z m A else none else none else none else none
theorem IV(N:Nat)(O U:QA)(V Z a5:Int)(g_e0 g_e1 g_e2 g_e3 g_e4:Addr)(J:QO)(A:Nat)(L:QA):ansV Tryz.prog vb N Tryz.f8 [] [.g O 28,.g U 28,.i .i64 V,.i .i64 Z,.l 5,.i .i64 a5] [.gl 0 185 g_e0 101973,.gl 1 185 g_e1 93330,.gl 3 185 g_e2 124718,.gl 2 185 g_e3 112315,.gl 4 185 g_e4 94254,.sl (.came J) A L 72]=tr (rpN Tryz.prog O U V Z L A a5) (rpL Tryz.prog O U V Z L A a5) (rpA Tryz.prog O U V Z L A a5) (Uax O U A L V Z (Zaa a5 (0:Int) (20:Int))) (Zj9 (1048576:Int) J A L) A L:=by kernel_rfl
theorem IW:Uad (md F) Tryz.prog 8 (ansV Tryz.prog vb 1000 Tryz.f8 []):=ansY (N:=1000) (mkΓw_sX (Yr8 Fh) Fg (mkΓw_sX (Yr8 Fy) Fx (mKw (Zae Fk) Fj (mKw (Zae Hj) Hi (mKw (Zae CD) CC (mKw (Zae Fb) Fa (mKw (Zae EL) EJ (mKw (Zlj ES) EQ (mKw (Zae HF) HE (mKw (Zae Fu) Ft (mKw (Zae FE) FD aS))))))))))) Tryz.f8 []
theorem kE(A C:QA)(c b:Int)(D:QA)(n:Nat)(m:Int):rpN Tryz.prog A C c b D n m<=20:=by
 unfold rpN;cases L:(Uax A C n D c b (Zaa m 0 20)==(0:Int)) with
 |false=>exact Nat.zero_le _
 |true=>
  have O:(Uax A C n D c b (Zaa m 0 20) != (0:Int))=false:=by unfold bne;rw[L];rfl
  obtain⟨_,_,_,_,_,_,J,_⟩:=rQ O;have U:=Zik J;have:=ki A C c b D n m.toNat;rw[Q1];omega
theorem gq(A C:QA)(c b:Int)(D:QA)(n:Nat)(m:Int)(h0:rpN Tryz.prog A C c b D n m=0):rpL Tryz.prog A C c b D n m=#[]:=by unfold rpN at h0;unfold rpL;cases J:(Uax A C n D c b (Zaa m 0 20)==(0:Int)) with|false=>rfl|true=>rw[J,Q1]at h0;rw[Q1,h0];rfl
theorem IX(U Z:QA)(J L O:Int)(b5 b7 b9 c7 c8:Addr)(c9:QO)(A:Nat)(a4:QA)(h_a0:WT Tryz.prog 28 U)(h_a1:WT Tryz.prog 28 Z)(h_a2:i64.min<=J/\J<=i64.max)(h_a3:i64.min<=L/\L<=i64.max)(h_a5:i64.min<=O/\O<=i64.max)(h_a4:A<=9223372036854775807):ansV Tryz.prog vb 1000 Tryz.f8 [] [.g U 28,.g Z 28,.i .i64 J,.i .i64 L,.l 5,.i .i64 O] [.gl 0 185 b5 101973,.gl 1 185 b7 93330,.gl 3 185 b9 124718,.gl 2 185 c7 112315,.gl 4 185 c8 94254,.sl (.came c9) A a4 72]=some (.a (.b true),.none,true):=by
 have hN:=kE U Z J L a4 A O;have hD:=gq U Z J L a4 A O;rw[IV 1000 U Z J L O b5 b7 b9 c7 c8 c9 A a4];generalize rpN Tryz.prog U Z J L a4 A O=n at hN hD|-
 generalize rpL Tryz.prog U Z J L a4 A O=D at hD|-
 generalize rpA Tryz.prog U Z J L a4 A O=V;generalize Uax U Z A a4 J L (Zaa O (0:Int) (20:Int))=c;unfold Zj9;rw[IntWalk.i64_in (1048576 - (A:Int)) (by omega)]
 by_cases h:A<=1048576
 ·have e1:decide ((1048576:Int) - (A:Int)<0)=false:=Q4 (by omega);have e3:decide (A<=1048576)=true:=Q3 h;have b1:Nat.ble n 2000000=true:=Nat.ble_eq_true_of_le (by omega);have b2:Nat.ble A 2000000=true:=Nat.ble_eq_true_of_le (by omega);have c1:decide (((1:Int)+((n*2:Nat):Int))<(0:Int))=false:=Q4 (by omega);have k1:decide (((1:Int)+((A*2:Nat):Int))<(0:Int))=false:=Q4 (by omega);have c2:decide (0<=(1:Int))=true:=rfl;have c3:decide ((1:Int)<=1000000)=true:=rfl;have c6:decide ((1:Int)<0)=false:=rfl;cases hy:Nat.beq A 0<;>cases hz:Nat.beq n 0
  case false.true|true.true=>
   obtain rfl:=Nat.eq_of_beq_eq_true hz;obtain rfl:D=#[]:=hD rfl;have c4:((1:Int)+((0*2:Nat):Int) != (1:Int))=false:=rfl;have c5:mk8 (0*2) (1:Int)=(#[]:QA):=rfl;simp only[tr,nk,bU,lI,c4,c5,b1,b2,e1,e3,c1,c2,c3,c6,k1,hy,hz,decide_true,Bool.and_self,fq,bne_self_eq_false,Bool.not_true,Q2,Q1,and_self]
  all_goals simp only[tr,nk,bU,lI,b1,b2,e1,e3,c1,c2,c3,c6,k1,hy,hz,decide_true,Bool.and_self,fq,bne_self_eq_false,Bool.not_true,Q2,Q1,and_self]
 ·have e1:decide ((1048576:Int) - (A:Int)<0)=true:=Q3 (by omega);have e2:decide ((-1:Int)<0)=true:=by decide
  simp only[tr,nk,bU,lI,e1,e2,Q1]
namespace lawFnExactRepairMap
theorem IY(Lk:Looks)(g:Bool){p:Pinned}{s:OpenSpec}{c:OpenClaim}(kinds:List LaidKind)(tests:Bool)(A:Bool×String)(lk:Bool)
  (U:c.holds p s) (V:c.wfByText s=true)
  (J:c.laidByTextAt Lk p kinds tests)
  (L:c.start=.entering) (O:c.noBlocks=false/\c.again=false) (Z:p.checked.prog.mainIs=some (A.1,A.2.toList)) (hn:(!A.1&&A.2.isEmpty && !lk)=false)
  (hl:∀f fn,p.checked.prog.funcNamed c.func=some f->p.checked.prog.funcs[f]?=some fn->lk=p.checked.prog.looks []/\∀(j:Nat) t,fn.params[j]?=some t->p.checked.prog.wantsStandIn t=false)
  (hg:g=c.goesBy p.checked.prog) :
  Claim7.holds p (.plain s) { stood:={ row:=c,standIns:=[],harness:=A,looks:=lk },kinds:=[],alts:=[],goes:=g,laidByText:=true,laidKinds:=kinds,laidTests:=tests,laidLooks:=Lk }:=by
 have h6:∀r:OpenClaim,Claim7.isSixth { stood:={ row:=r,standIns:=[],harness:=A,looks:=lk },kinds:=[] }=false:=λr=>by simpa [Claim7.isSixth] using hn
 exact⟨Claim7.tied_new_at Lk kinds tests (Claim7.new_of_sixth U A lk L O Z (h6 c) hl) V,(λD hD=>by cases hD),J,(λh=>by cases h),hg⟩
theorem own:ownKnob Tryz.prog.godebug=none:=by kernel_rfl
theorem star : "*" ++ "errors.errorString" = "*errors.errorString" := by decide
theorem Yqm (u : TypeId) (h : Tryz.prog.typeName? 3 u = some "*errors.errorString") : u = 185 :=
 typeName_ptr_named (nm := "errors.errorString") (by rw [star]; kernel_rfl) (by kernel_rfl) (by decide) u (by rw [star]; exact h)
theorem n_e0 : Tryz.prog.globalNamed "loop.example/g01300/impl.errInvalid" = some 0 := by kernel_rfl
theorem vc:(Tryz.prog.globals[0]?).map (·.type)=some 105:=by kernel_rfl
theorem n_e1 : Tryz.prog.globalNamed "loop.example/g01300/impl.errRange" = some 1 := by kernel_rfl
theorem vd:(Tryz.prog.globals[1]?).map (·.type)=some 105:=by kernel_rfl
theorem n_e2 : Tryz.prog.globalNamed "loop.example/g01300/impl.errState" = some 3 := by kernel_rfl
theorem ve:(Tryz.prog.globals[3]?).map (·.type)=some 105:=by kernel_rfl
theorem n_e3 : Tryz.prog.globalNamed "loop.example/g01300/impl.errLimit" = some 2 := by kernel_rfl
theorem vg:(Tryz.prog.globals[2]?).map (·.type)=some 105:=by kernel_rfl
theorem n_e4 : Tryz.prog.globalNamed "loop.example/g01300/impl.errNotFound" = some 4 := by kernel_rfl
theorem vh:(Tryz.prog.globals[4]?).map (·.type)=some 105:=by kernel_rfl
theorem dT{W:World}(h:laidMetH Tryz.prog Rows.fnExactRepairMapRow.laid W):∃A J L O U:Addr,BIs Tryz.prog bN [] W ⟨0,0⟩ (.gl 0 185 A 36452)/\BIs Tryz.prog bN [] W ⟨0,0⟩ (.gl 1 185 J 27809)/\BIs Tryz.prog bN [] W ⟨0,0⟩ (.gl 3 185 L 59197)/\BIs Tryz.prog bN [] W ⟨0,0⟩ (.gl 2 185 O 46794)/\BIs Tryz.prog bN [] W ⟨0,0⟩ (.gl 4 185 U 28733):=by have h0:laidMet Tryz.prog Rows.fnExactRepairMapRow.laid W:=h;have V:=laidMet.tail h0;have h2:=laidMet.tail V;have Z:=laidMet.tail h2;have h4:=laidMet.tail Z;obtain⟨A,k0⟩:=oo h0 n_e0 vc Tryz.underlying105 Yqm Tryz.underlying185 Tryz.underlying212 rfl rfl Tryz.underlying9 (by kernel_rfl) (by kernel_rfl);obtain⟨J,k1⟩:=oo V n_e1 vd Tryz.underlying105 Yqm Tryz.underlying185 Tryz.underlying212 rfl rfl Tryz.underlying9 (by kernel_rfl) (by kernel_rfl);obtain⟨L,k2⟩:=oo Z n_e2 ve Tryz.underlying105 Yqm Tryz.underlying185 Tryz.underlying212 rfl rfl Tryz.underlying9 (by kernel_rfl) (by kernel_rfl);obtain⟨O,k3⟩:=oo h2 n_e3 vg Tryz.underlying105 Yqm Tryz.underlying185 Tryz.underlying212 rfl rfl Tryz.underlying9 (by kernel_rfl) (by kernel_rfl);obtain⟨U,k4⟩:=oo h4 n_e4 vh Tryz.underlying105 Yqm Tryz.underlying185 Tryz.underlying212 rfl rfl Tryz.underlying9 (by kernel_rfl) (by kernel_rfl);exact⟨A,J,L,O,U,k0,k1,k2,k3,k4⟩
def low:Nat:=(World.holding Tryz.prog default ⟨#[],#[],[]⟩).heap.size
def Udh(os:Os):World:=
 let w0:=World.holding Tryz.prog os ⟨#[.cells #[.string ⟨(#[116,104,101,32,115,101,97,32,111,114,32,116,104,101,32,102,105,110,100,115,32,97,114,101,32,110,111,116,32,118,97,108,105,100]:Array UInt8)⟩] 212,.cells #[.string ⟨(#[97,32,110,117,109,98,101,114,32,105,115,32,111,117,116,32,111,102,32,105,116,115,32,114,97,110,103,101]:Array UInt8)⟩] 212,.cells #[.string ⟨(#[108,97,110,100,32,105,115,32,119,104,101,114,101,32,119,97,116,101,114,32,104,97,115,32,116,111,32,98,101,44,32,111,114,32,119,97,116,101,114,32,119,104,101,114,101,32,108,97,110,100,32,104,97,115,32,116,111,32,98,101]:Array UInt8)⟩] 212,.cells #[.string ⟨(#[116,104,101,114,101,32,119,111,117,108,100,32,98,101,32,116,111,111,32,109,97,110,121,32,102,105,110,100,115]:Array UInt8)⟩] 212,.cells #[.string ⟨(#[116,104,101,114,101,32,105,115,32,110,111,116,104,105,110,103,32,111,102,32,116,104,105,115,32,107,105,110,100]:Array UInt8)⟩] 212],#[],[]⟩
 { w0 with heap:=((((w0.heap.modify 0 fun
   |.cells _ t frozen=>.cells #[.iface 185 (.pointer (some ⟨low+0,0,none⟩))] t frozen
   |o=>o).modify 1 fun
   |.cells _ t frozen=>.cells #[.iface 185 (.pointer (some ⟨low+1,0,none⟩))] t frozen
   |o=>o).modify 3 fun
   |.cells _ t frozen=>.cells #[.iface 185 (.pointer (some ⟨low+2,0,none⟩))] t frozen
   |o=>o).modify 2 fun
   |.cells _ t frozen=>.cells #[.iface 185 (.pointer (some ⟨low+3,0,none⟩))] t frozen
   |o=>o).modify 4 fun
   |.cells _ t frozen=>.cells #[.iface 185 (.pointer (some ⟨low+4,0,none⟩))] t frozen
   |o=>o }
theorem laid_met(os:Os)(args:QA):laidMet Tryz.prog Rows.fnExactRepairMapRow.laid ((Udh os).forCall (λ_ _=>0) ⟨#[],args,[]⟩).memory:=
 laidMet_of_run' 8 (by kernel_rfl) (by kernel_rfl)
theorem nl(os:Os){H:Type}(enc:TypeId×Value->H):∃x,DataW.whole enc Tryz.prog ((Udh os).forCall (λ_ _=>0) ⟨#[],#[.agg (zc Tryz.prog 28),.agg (zc Tryz.prog 28),.int .i64 0,.int .i64 0,.slice none 0 0,.int .i64 0],[]⟩).memory Tryz.f8.params.toList Rows.fnExactRepairMapSpec.vars false (#[.agg (zc Tryz.prog 28),.agg (zc Tryz.prog 28),.int .i64 0,.int .i64 0,.slice none 0 0,.int .i64 0]:QA).toList 8=some x:=
 Option.isSome_iff_exists.1 (by kernel_rfl)
set_option maxRecDepth 100000 in
theorem kF(os:Os)(started:os.Started)(H:Type)(enc:TypeId×Value->H):
  ReturnsInLeavingWide {} Tryz.checked os 8 .any ((OpenSpec.ofChange Rows.fnExactRepairMapSpec).preRow enc Tryz.prog Tryz.f8 Rows.fnExactRepairMapRow.domain false Rows.fnExactRepairMapRow.laid) (Rows.fnExactRepairMapSpec.post enc Tryz.prog Tryz.f8 false true false false):=by
 obtain⟨x,hx⟩:=nl os enc;refine Ka (C:=Tryz.checked) (tb:=4) own (by kernel_rfl) Tryz.func8 (by kernel_rfl) Tryz.underlying4 (of_decide_eq_true (by kernel_rfl)) (by kernel_rfl) ?_ os started H enc
  (witness_row_at (enc:=enc) (C:=Tryz.checked) false (Udh os) #[.agg (zc Tryz.prog 28),.agg (zc Tryz.prog 28),.int .i64 0,.int .i64 0,.slice none 0 0,.int .i64 0] rfl (by kernel_rfl) (by kernel_rfl) (by kernel_rfl)
   (OpenSpec.preRow_of_cond 8 hx (by kernel_rfl) (λk hk=>by cases hk) (by kernel_rfl) (laid_met os _))) ?_
 ·intro H ds gs hds hgs;rw[show Tryz.f8.params.toList.length=6 by kernel_rfl]at hds;rw[show Rows.fnExactRepairMapSpec.vars.length=5 by kernel_rfl]at hgs
  match ds,hds,gs,hgs with|[_,_,_,_,_,_],_,[_,_,_,_,_],_=>rfl
 ·intro W base args ds ps hval hA hL;obtain⟨b0,b1,b2,b3,b4,k0,k1,k2,k3,k4⟩:=dT hL;rw[Tryz.params8]at hA hval;obtain⟨v0,vs0,d0,ds0,p0,q0,ha0,rfl,rfl,h0,r0⟩:=trodAll_cons hA;obtain⟨v1,vs1,d1,ds1,p1,q1,rfl,rfl,rfl,h1,r1⟩:=trodAll_cons r0;obtain⟨v2,vs2,d2,ds2,p2,q2,rfl,rfl,rfl,h2,r2⟩:=trodAll_cons r1;obtain⟨v3,vs3,d3,ds3,p3,q3,rfl,rfl,rfl,h3,r3⟩:=trodAll_cons r2;obtain⟨v4,vs4,d4,ds4,p4,q4,rfl,rfl,rfl,h4,r4⟩:=trodAll_cons r3;obtain⟨v5,vs5,d5,ds5,p5,q5,rfl,rfl,rfl,h5,r5⟩:=trodAll_cons r4;obtain⟨rfl,rfl,rfl⟩:=trodAll_nil r5;have hargs:args=#[v0,v1,v2,v3,v4,v5]:=by cases args;simp_all
  obtain⟨a0,e0,w0⟩:=AJ (t:=28) 8 (by kernel_rfl) (by kernel_rfl) (hval 0 28 v0 rfl (by rw[hargs];rfl)) h0;obtain⟨a1,e1,w1⟩:=AJ (t:=28) 8 (by kernel_rfl) (by kernel_rfl) (hval 1 28 v1 rfl (by rw[hargs];rfl)) h1;obtain⟨a2,e2,_,_,w2⟩:=open_int Tryz.underlying2 (hval 2 2 v2 rfl (by rw[hargs];rfl)) h2;obtain⟨a3,e3,_,_,w3⟩:=open_int Tryz.underlying2 (hval 3 2 v3 rfl (by rw[hargs];rfl)) h3;obtain⟨x_a4,n_a4,c_a4,a4,e4,w4⟩:=iE (P:=Tryz.prog) (t:=29) (e:=72) 8 Tryz.underlying29 (by kernel_rfl) (by kernel_rfl) (Nat.lt_of_lt_of_eq (by decide:0<2) (by kernel_rfl)) (okWide_slice Tryz.underlying29 (hval 4 29 v4 rfl (by rw[hargs];rfl))) h4;obtain⟨a5,e5,_,_,w5⟩:=open_int Tryz.underlying2 (hval 5 2 v5 rfl (by rw[hargs];rfl)) h5;obtain rfl:args=#[.agg a0,.agg a1,.int .i64 a2,.int .i64 a3,.slice x_a4 n_a4 c_a4,.int .i64 a5]:=by rw[hargs,e0,e1,e2,e3,e4,e5]
  have hr:=IX a0 a1 a2 a3 a5 b0 b1 b2 b3 b4 (some x_a4) n_a4 a4 w0 w1 (wfb w2) (wfb w3) (wfb w5) w4.2.2.1;exact Kb (by kernel_rfl) IW (hh:=[.gl 0 185 b0 36452,.gl 1 185 b1 27809,.gl 3 185 b2 59197,.gl 2 185 b3 46794,.gl 4 185 b4 28733,.sl (.came (some x_a4)) n_a4 a4 72]) (by kernel_rfl) hr W (vals:=[.agg a0,.agg a1,.int .i64 a2,.int .i64 a3,.slice x_a4 n_a4 c_a4,.int .i64 a5]) (.gl k0 (.gl k1 (.gl k2 (.gl k3 (.gl k4 (.cons w4 .nil)))))) (Ucc ⟨rfl,w0⟩ (Ucc ⟨rfl,w1⟩ (Ucc ⟨rfl,wfb w2⟩ (Ucc ⟨rfl,wfb w3⟩ (Ucc (is_came rfl) (Ucc ⟨rfl,wfb w5⟩ (allNil2 _)))))))
theorem said:Rows.FnExactRepairMapSaid:=
 OpenClaim.holds_of_wide_leaving 8 Tryz.f8 rfl rfl rfl rfl rfl rfl rfl ⟨rfl,rfl,rfl,rfl,rfl⟩ rfl rfl rfl rfl rfl (by kernel_rfl) Tryz.func8 (by kernel_rfl)
  (of_decide_eq_true (by kernel_rfl)) (by unfold Func.isWrapper;first | (rw[if_pos (by decide +kernel)];kernel_rfl) | (rw[if_neg (by decide +kernel)];exact⟨rfl,rfl⟩))
  (λos started H enc _=>by rw[OpenClaim.pre_eq_preRow];exact kF os started H enc)
theorem plain(f:FuncId)(fn:Func)(L:Tryz.pinned.checked.prog.funcNamed Rows.fnExactRepairMapRow.func=some f)(J:Tryz.pinned.checked.prog.funcs[f]?=some fn):
  Rows.fnExactRepairMapCard.stood.looks=Tryz.pinned.checked.prog.looks []/\∀(j:Nat) t,fn.params[j]?=some t->Tryz.pinned.checked.prog.wantsStandIn t=false:=by
 obtain rfl:f=8:=Q5 ((show Tryz.prog.funcNamed Rows.fnExactRepairMapRow.func=some 8 by kernel_rfl).symm.trans L) |>.symm
 obtain rfl:fn=Tryz.f8:=(Q5 (Tryz.func8.symm.trans J)).symm;refine⟨by kernel_rfl,λj t O=> ?_⟩;have A:∀t∈Tryz.f8.params.toList,Tryz.prog.wantsStandIn t=false:=of_decide_eq_true (by kernel_rfl);exact A t (by simpa using Array.mem_of_getElem? O)
theorem proved:Rows.FnExactRepairMapCardSaid:=
 IY .later true _ _ _ _ said (by kernel_rfl) fnExactRepairMap_row_tie rfl ⟨rfl,rfl⟩ (by kernel_rfl) rfl plain (by kernel_rfl)
#print axioms proved
end lawFnExactRepairMap
end
end Go.Proofs.YtefjogahegolbaaGreatDoor
