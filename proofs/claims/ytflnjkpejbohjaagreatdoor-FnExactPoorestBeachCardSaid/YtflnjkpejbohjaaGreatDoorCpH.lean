/- The poorest of some cells: both sides. -/
import Derived.Test.YtflnjkpejbohjaaGreatDoorProg
import Derived.Test.YtflnjkpejbohjaaGreatDoorCpF
import Derived.Test.YtflnjkpejbohjaaGreatDoorTzX
namespace Go.Proofs.YtflnjkpejbohjaaGreatDoor
open Go.ChangeShapes Go.WideShapes Go.ChangeAt Go.RowKit Ve Vc
open Tryz renaming prog → PZ
open IntKind (i64)
set_option linter.unusedVariables false
set_option linter.unusedSimpArgs false
set_option maxRecDepth 100000
noncomputable section
variable {F:Vc.Fd}
abbrev voyX (a0 a1:Array Value):Array Value:=((spl (spl (zc PZ 71) 0 (#[.int .i64 (i64.wrap (num a1 0)),.int .i64 (i64.wrap (num a1 1))]:Array Value).toList) 2 a0.toList).setIfInBounds 365 (.slice none 0 0))
abbrev endX (a0 a1:Array Value) (n:Nat) (A:Array Value):Array Value:=Uae PZ ((voyX a0 a1).extract 2 (2+363)) (IntKind.i8.wrap (num (voyX a0 a1) 0)) n A (num (voyX a0 a1) 1).toNat
theorem Zqc (a2:Int) (a0 a1:Array Value) (bQ:Option (Option Addr)) (nQ:Nat) (aQ:Array Value) (h_a2:IntKind.u64.min≤a2∧a2≤IntKind.u64.max) (h_a0:WT PZ 41 a0) (h_a1:WT PZ 45 a1) (h_a1x2:aQ.size=nQ*(lay PZ 95).length∧(∀ k,k<nQ→WT PZ 95 (aQ.extract (k*(lay PZ 95).length) (k*(lay PZ 95).length+(lay PZ 95).length)))∧nQ≤9223372036854775807) (hc0:((okS a0&&Uar a0 a1 nQ aQ))=false) (hg:(true)=true):ansV PZ Zgm 1000 Tryz.f18 [] [.w 0,.w 1,.i .u64 (a2)] [.row a0 41,.one (.r a1 45 [(2,2)]) 45,.sl (.came bQ) nQ aQ 95]=some (.a (.i .i64 (1:Int)),.none,true):=by
 refine (Ziy a2 a0 a1 bQ nQ aQ h_a2 h_a0 h_a1 h_a1x2 rfl).trans ?_
 rw [Yml]
 unfold askC
 simp only [hc0,  cond_true,cond_false]
theorem Zqm (a2:Int) (a0 a1:Array Value) (bQ:Option (Option Addr)) (nQ:Nat) (aQ:Array Value) (h_a2:IntKind.u64.min≤a2∧a2≤IntKind.u64.max) (h_a0:WT PZ 41 a0) (h_a1:WT PZ 45 a1) (h_a1x2:aQ.size=nQ*(lay PZ 95).length∧(∀ k,k<nQ→WT PZ 95 (aQ.extract (k*(lay PZ 95).length) (k*(lay PZ 95).length+(lay PZ 95).length)))∧nQ≤9223372036854775807) (hc0:((okS a0&&Uar a0 a1 nQ aQ))=true) (hc1:((Zag a0 a2))=false) (hg:(true)=true):ansV PZ Zgm 1000 Tryz.f18 [] [.w 0,.w 1,.i .u64 (a2)] [.row a0 41,.one (.r a1 45 [(2,2)]) 45,.sl (.came bQ) nQ aQ 95]=some (.a (.i .i64 (2:Int)),.none,true):=by
 refine (Ziy a2 a0 a1 bQ nQ aQ h_a2 h_a0 h_a1 h_a1x2 rfl).trans ?_
 rw [Yml]
 unfold askC
 simp only [hc0,hc1,cond_true,cond_false]
theorem Zp4 (a2:Int) (a0 a1:Array Value) (bQ:Option (Option Addr)) (nQ:Nat) (aQ:Array Value) (h_a2:IntKind.u64.min≤a2∧a2≤IntKind.u64.max) (h_a0:WT PZ 41 a0) (h_a1:WT PZ 45 a1) (h_a1x2:aQ.size=nQ*(lay PZ 95).length∧(∀ k,k<nQ→WT PZ 95 (aQ.extract (k*(lay PZ 95).length) (k*(lay PZ 95).length+(lay PZ 95).length)))∧nQ≤9223372036854775807) (hc0:((okS a0&&Uar a0 a1 nQ aQ))=true) (hc1:((Zag a0 a2))=true) (hg:(true)=true):ansV PZ Zgm 1000 Tryz.f18 [] [.w 0,.w 1,.i .u64 (a2)] [.row a0 41,.one (.r a1 45 [(2,2)]) 45,.sl (.came bQ) nQ aQ 95]=some (.a (.i .i64 (0:Int)),.none,true):=by
 refine (Ziy a2 a0 a1 bQ nQ aQ h_a2 h_a0 h_a1 h_a1x2 rfl).trans ?_
 rw [Yml]
 unfold askC
 simp only [hc0,hc1,cond_true,cond_false]
def Zhi:SCon:=fun args h=>match args,h with
 | [.w 0,.w 1,.i .u64 a2],[.row a0 41,.one (.r a1 45 [(2,2)]) 45,.sl (.came bQ) nQ aQ 95]=>.two ((okS a0&&Uar a0 a1 nQ aQ)) (.two ((Zag a0 a2)) (.one (some (.a (.i .i64 (0:Int)),.none,true))) (.one (some (.a (.i .i64 (2:Int)),.none,true)))) (.one (some (.a (.i .i64 (1:Int)),.none,true)))
 | _,_=>.one none
theorem Zqa:EntX PZ 18:=Zaf (fn:=Tryz.f18) (by kernel_rfl) (by kernel_rfl) (by kernel_rfl)
theorem Zta:Uad (md F) PZ 18 (fun args h=>Uao (Zhi args h)):=by
 intro ρ h w args vals r e hn hr hA hH
 dsimp only at hr
 unfold Zhi at hr
 split at hr
 ·rename_i a2 a0 a1 bQ nQ aQ
  simp only [Uao] at hr
  cases hc0:((okS a0&&Uar a0 a1 nQ aQ))
  ·rw [hc0] at hr
   simp only [Uao,cond_true,cond_false] at hr
   obtain ⟨rfl,hg⟩:=Prod.mk.inj (Option.some.inj hr)
   obtain ⟨rfl,hg2⟩:=Prod.mk.inj hg
   exact ((Zah (N:=1000) (by kernel_rfl) (mkΓ_consX (Zad Znz) Zkc (mkΓ_consX (Zad Znq) Zkj (mkΓ_consX (Zad Zh0) Zfx mkΓ_nilX))) (fn:=Tryz.f18) (by kernel_rfl) (by kernel_rfl) [])) ρ _ w _ vals _ _ hn ((Zqc a2 a0 a1 bQ nQ aQ (hA.rng 2 rfl) (hH.wt 0 rfl) (hH.wtr 1 rfl) (hH.slw 2 rfl) hc0 hg2)) hA hH
  ·rw [hc0] at hr
   simp only [Uao,cond_true,cond_false] at hr
   cases hc1:((Zag a0 a2))
   ·rw [hc1] at hr
    simp only [Uao,cond_true,cond_false] at hr
    obtain ⟨rfl,hg⟩:=Prod.mk.inj (Option.some.inj hr)
    obtain ⟨rfl,hg2⟩:=Prod.mk.inj hg
    exact ((Zah (N:=1000) (by kernel_rfl) (mkΓ_consX (Zad Znz) Zkc (mkΓ_consX (Zad Znq) Zkj (mkΓ_consX (Zad Zh0) Zfx mkΓ_nilX))) (fn:=Tryz.f18) (by kernel_rfl) (by kernel_rfl) [])) ρ _ w _ vals _ _ hn ((Zqm a2 a0 a1 bQ nQ aQ (hA.rng 2 rfl) (hH.wt 0 rfl) (hH.wtr 1 rfl) (hH.slw 2 rfl) hc0 hc1 hg2)) hA hH
   ·rw [hc1] at hr
    simp only [Uao,cond_true,cond_false] at hr
    obtain ⟨rfl,hg⟩:=Prod.mk.inj (Option.some.inj hr)
    obtain ⟨rfl,hg2⟩:=Prod.mk.inj hg
    exact ((Zah (N:=1000) (by kernel_rfl) (mkΓ_consX (Zad Znz) Zkc (mkΓ_consX (Zad Znq) Zkj (mkΓ_consX (Zad Zh0) Zfx mkΓ_nilX))) (fn:=Tryz.f18) (by kernel_rfl) (by kernel_rfl) [])) ρ _ w _ vals _ _ hn ((Zp4 a2 a0 a1 bQ nQ aQ (hA.rng 2 rfl) (hH.wt 0 rfl) (hH.wtr 1 rfl) (hH.slw 2 rfl) hc0 hc1 hg2)) hA hH
 ·simp only [Uao] at hr
  cases hr
def Uas (X:Array Value) (c:Int):Nat→Int
 | 0=> -1
 | k+1=>bif bitI c k then (bif decide (Uas X c k<0) then (k:Int) else bif decide (num X (3+k*1)<num X (3+(Uas X c k).toNat*1)) then (k:Int) else Uas X c k) else Uas X c k
theorem Yee (X:Array Value) (c:Int):∀ k:Nat,-1≤Uas X c k∧Uas X c k<(k:Int)
 | 0=>⟨Int.le_refl _,by rw [Uas];omega⟩
 | k+1=>by
  have ih:=Yee X c k
  rw [Uas]
  cases bitI c k with
  | false=>rw [cond_false];omega
  | true=>
   rw [cond_true]
   cases decide (Uas X c k<0) with
   | true=>rw [cond_true];omega
   | false=>
    rw [cond_false]
    cases decide (num X (3+k*1)<num X (3+(Uas X c k).toNat*1)) with
    | true=>rw [cond_true];omega
    | false=>rw [cond_false];omega
theorem Zzr {X:Array Value} {c:Int} {j:Nat} (hj:bitI c j=true):∀ k,j<k→0≤Uas X c k
 | 0,h=>by omega
 | k+1,h=>by
  have ih:=Zzr (X:=X) hj k
  rw [Uas]
  cases hb:bitI c k with
  | false=>
   rw [cond_false]
   have:j≠k:=fun e=>by subst e;rw [hj] at hb;cases hb
   exact ih (by omega)
  | true=>
   rw [cond_true]
   cases h1:decide (Uas X c k<0) with
   | true=>rw [cond_true];omega
   | false=>
    have h2:=of_decide_eq_false h1
    rw [cond_false]
    cases decide (num X (3+k*1)<num X (3+(Uas X c k).toNat*1)) with
    | true=>rw [cond_true];omega
    | false=>rw [cond_false];omega
theorem Yj9 {X:Array Value} {c:Int} {t k:Nat} (hb:bitI c t=true) (hl:∀ j,j<t→bitI c j=false) (h:Uas X c k<0) (hk:bitI c k=true):t=k:=by
 by_cases h1:t<k
 ·have:=Zzr (X:=X) hb k h1;omega
 ·by_cases h2:k<t
  ·rw [hl k h2] at hk;cases hk
  ·omega
def Udu (X:Array Value) (s x:Int):Int:=bif decide (num X (3+x.toNat*1)<num X (3+s.toNat*1)) then x else s
theorem Yfq {X:Array Value} {c:Int} {t:Nat} (hb:bitI c t=true) (hl:∀ j,j<t→bitI c j=false):∀ k:Nat,(List.range k).foldl (fun s j=>if bitI c j=true then Udu X s (j:Int) else s) (t:Int)=bif decide (Uas X c k<0) then (t:Int) else Uas X c k
 | 0=>rfl
 | k+1=>by
  rw [List.range_succ,List.foldl_append,Yfq hb hl k,List.foldl_cons,List.foldl_nil,Uas]
  cases hk:bitI c k with
  | false=>rw [if_neg (by simp),cond_false]
  | true=>
   rw [if_pos rfl,cond_true]
   cases h1:decide (Uas X c k<0) with
   | true=>
    obtain rfl:=Yj9 hb hl (of_decide_eq_true h1) hk
    rw [cond_true,cond_true,decide_eq_false (by omega),cond_false]
    unfold Udu
    cases decide (num X (3+(t:Int).toNat*1)<num X (3+(t:Int).toNat*1))<;>rfl
   | false=>
    have h2:=of_decide_eq_false h1
    rw [cond_false,cond_false]
    unfold Udu
    rw [Int.toNat_natCast]
    cases decide (num X (3+k*1)<num X (3+(Uas X c k).toNat*1)) with
    | true=>rw [cond_true,decide_eq_false (by omega),cond_false]
    | false=>rw [cond_false,h1,cond_false]
theorem Yhc {X:Array Value} {c:Int} (hh:∀ j,36≤j→bitI c j=false):∀ m,Uas X c (36+m)=Uas X c 36
 | 0=>rfl
 | m+1=>by
  show Uas X c ((36+m)+1)=_
  rw [Uas,hh (36+m) (by omega),cond_false]
  exact Yhc hh m
theorem Yjn {X:Type} {g:Int→Int→Option (Stp Int X)} (f:Int→Int→Int) (I:Int→Prop):∀ (l:List Int) (s:Int),I s→(∀ x ∈ l,∀ s,I s→g x s=some (.more (f s x))∧I (f s x))→Uaz g l s=some (.more (l.foldl f s))
 | [],s,_,_=>rfl
 | x::l,s,hs,h=>by
  obtain ⟨e,i⟩:=h x (List.mem_cons_self ..) s hs
  rw [Uaz,e]
  exact Yjn f I l (f s x) i fun y hy=>h y (List.mem_cons_of_mem _ hy)
theorem Yl9 {X:Array Value} {c:Int} (hU:U64 c) (h0:0<c) (hh:∀ j,36≤j→bitI c j=false) {g:Int→Int→Option (Stp Int Empty)} (hg:∀ x s:Int,0≤x→x<36→0≤s→s<36→g x s=some (.more (Udu X s x))):Uaz g (Ubi c.toNat) ((tzN c.toNat:Nat):Int)=some (.more (Uas X c 36))∧0≤Uas X c 36∧Uas X c 36<36:=by
 obtain ⟨k1,k2,k3⟩:=Zob (n:=c.toNat) (by omega) (by unfold U64 at hU;omega)
 have hb:bitI c (tzN c.toNat)=true:=by rw [Zif hU];exact k2
 have hl:∀ j,j<tzN c.toNat→bitI c j=false:=fun j hj=>by rw [Zif hU];exact k3 j hj
 have h36:tzN c.toNat<36:=by
  by_cases h:tzN c.toNat<36
  ·exact h
  ·rw [hh _ (by omega)] at hb;cases hb
 have hp:=Zzr (X:=X) hb 36 h36
 refine ⟨?_,hp,(Yee X c 36).2⟩
 rw [Yjn (Udu X) (fun s=>0≤s∧s<36) (Ubi c.toNat) _ ⟨by omega,by omega⟩ fun x hx s hs=> ?_]
 ·congr 2
  have e:(Ubi c.toNat).foldl (Udu X) ((tzN c.toNat:Nat):Int)=(List.range 64).foldl (fun s j=>if bitI c j=true then Udu X s (j:Int) else s) ((tzN c.toNat:Nat):Int):=by
   unfold Ubi
   rw [List.foldl_map,List.foldl_filter]
   congr 1
   funext s j
   rw [Zif hU]
  rw [e,Yfq hb hl,show (64:Nat)=36+28 from rfl,Yhc hh,decide_eq_false (by omega),cond_false]
 ·obtain ⟨k,hk,rfl,hbk⟩:=Yi2 hx
  have:k<36:=by
   by_cases h:k<36
   ·exact h
   ·have:=hh k (by omega);rw [Zif hU,hbk] at this;cases this
  refine ⟨hg _ _ (by omega) (by omega) hs.1 hs.2, ?_⟩
  unfold Udu
  cases decide (num X (3+((k:Nat):Int).toNat*1)<num X (3+s.toNat*1)) with
  | true=>rw [cond_true];omega
  | false=>rw [cond_false];exact hs
theorem Yfz {S:Array Value} {c:Int} (h:Zag S c=true):∀ j,36≤j→bitI c j=false:=fun j hj=>by
 by_cases h64:j<64
 ·cases hb:bitI c j with
  | false=>rfl
  | true=>
   have:=(Zz6 (a:=c) (b:=Uat (num S 0) (num S 1) 36)).1 h j h64 hb
   rw [Yeb _ _ 36 (by omega),decide_eq_false (by omega)] at this
   cases this
 ·exact bit_high (by omega) c
def poaC (S p:Array Value) (n:Nat) (A:Array Value) (c:Int):Int:=bif (okS S&&Uar S p n A) then (bif Zag S c then (bif (c==(0:Int)) then 4 else (bif ((n:Int)==(0:Int)) then 6 else 0)) else 2) else 1
def poaV (P:Program) (S p:Array Value) (n:Nat) (A:Array Value) (c:Int):Int:=bif (okS S&&Uar S p n A) then (bif Zag S c then (bif (c==(0:Int)) then 0 else (bif ((n:Int)==(0:Int)) then 0 else Uas (endV P S p n A) c 36)) else 0) else 0
def poaS (P:Program) (S p:Array Value) (n:Nat) (A:Array Value) (c:Int):Array Value:=bif (okS S&&Uar S p n A) then (bif Zag S c then (bif (c==(0:Int)) then #[.int .i64 (0:Int),.int .i64 (0:Int)] else (bif ((n:Int)==(0:Int)) then #[.int .i64 (0:Int),.int .i64 (0:Int)] else shareW (num (endV P S p n A) (3+(Uas (endV P S p n A) c 36).toNat*1)) (allV (endV P S p n A)))) else #[.int .i64 (0:Int),.int .i64 (0:Int)]) else #[.int .i64 (0:Int),.int .i64 (0:Int)]
def Za7:Cons:=(mkΓw [(25,conS Zhu)] [(26,conG Zm9),(27,con Zj8),(28,con Zgi),(30,con Zmk),(32,conG Zkd)] [(33,Zmt)] [(56,Zh6)])
def Zbs (a0 a1:Array Value) (a2:Int) (g_et:Addr) (g_tb:Addr) (bQ:Option (Option Addr)) (nQ:Nat) (aQ:Array Value):St:=(⟨.a (.g a0 41) :: .a (.r a1 45 [(2,2)]) :: .a (.i .u64 (a2)) :: .a (.w 3) :: .a (.w 4) :: .a (.u) :: .a (.i .i64 (0:Int)) :: .a (.w 6) :: .a (.i .i64 (0:Int)) :: .a (.w 15) :: .a (.v (.nilIface)) :: .a (.w 20) :: .a (.w 24) :: .a (.u) :: .t [.r (voyX a0 a1) 71 [(365,2)],.v (.nilIface)] :: .a (.g a0 41) :: .a (.r a1 45 [(2,2)]) :: .a (.i .u64 (a2)) :: .t [.r (voyX a0 a1) 71 [(365,2)],.v (.nilIface)] :: .a (.r (voyX a0 a1) 71 [(365,2)]) :: .a (.v (.nilIface)) :: .a (.v (.nilIface)) :: .a (.b (false))::us 3 (.a (.i .u64 (a2)) :: .a (.b ((a2==(0:Int)))) :: .a (.u) :: .a (.p 15 (365) 43) :: .a (.l 2) :: .a (.i .i64 (nQ:Int)) :: .a (.b (((nQ:Int)==(0:Int)))) :: .a (.u) :: .a (.r (voyX a0 a1) 71 [(365,2)]) :: .a (.g (endX a0 a1 nQ aQ) 60) :: .a (.i .u64 (a2)) :: .a (.i .i64 ((tzN (a2).toNat:Nat):Int)) :: .a (.i .u64 (a2)) :: .a (.c 56 [29])::us 19 ([])),[.gl 0 148 g_et 3000073,.gl 1 0 g_tb 1000000000,.sl (.came bQ) nQ aQ 95,.row a0 41,.one (.r a1 45 [(2,2)]) 45,.no,.row #[.int .i64 (0:Int),.int .i64 (0:Int)] 34,.no,.no,.no,.no,.no,.no,.no,.no,.one (.r (voyX a0 a1) 71 [(365,2)]) 71,.no,.no,.no,.no,.row (endX a0 a1 nQ aQ) 60,.no,.no,.no,.row #[.int .i64 ((tzN (a2).toNat:Nat):Int)] 2,.no,.no,.no,.no,.row #[.int .u64 (a2)] 23,.no,.no,.no,.no],[24,20,15]⟩:St)
def Zfe:Int→BS
 | r0_24=>([.row #[.int .i64 (r0_24)] 2]:BS)
def Zht:Empty→Exit×BS:=fun x=>nomatch x
def Zc1 (P:Program) (a0 a1:Array Value) (a2:Int) (g_et:Addr) (g_tb:Addr) (bQ:Option (Option Addr)) (nQ:Nat) (aQ:Array Value) (x0:Int):Int→Option (Stp (Int) Empty)
 | r0_24=>bif (decide (0≤x0)&&decide (x0<36)) then (bif (decide (0≤r0_24)&&decide (r0_24<36)) then (bif decide ((num (endX a0 a1 nQ aQ) (3+((x0).toNat*1)))<(num (endX a0 a1 nQ aQ) (3+((r0_24).toNat*1)))) then (some (.more x0))
    else (some (.more r0_24)))
   else (none))
  else (none)
theorem Zr0 (N:Nat) (a0 a1:Array Value) (a2:Int) (g_et:Addr) (g_tb:Addr) (bQ:Option (Option Addr)) (nQ:Nat) (aQ:Array Value) (x0:Int):∀ t:Int,Udw PZ Za7 N (cAt (codeOf Tryz.f14) [1,1,1,1,1,1,1,0,1,0,0]) (pAt (Uaa (codeOf Tryz.f14) [([],[24])]).1 [1,1,1,1,1,1,1,0,1,0]) 34 [24] [40] [(13,40)] (Zbs a0 a1 a2 g_et g_tb bQ nQ aQ) [.i .i64 (x0)] (Zfe t)=mapS Zfe Zht (Zc1 PZ a0 a1 a2 g_et g_tb bQ nQ aQ x0 t):=by
 rintro r0_24
 refine Eq.trans (b:=(bif (decide (0≤x0)&&decide (x0<36)) then (bif (decide (0≤r0_24)&&decide (r0_24<36)) then (bif decide ((num (endX a0 a1 nQ aQ) (3+((x0).toNat*1)))<(num (endX a0 a1 nQ aQ) (3+((r0_24).toNat*1)))) then (some (.more ([.row #[.int .i64 (x0)] 2]:BS)))
    else (some (.more ([.row #[.int .i64 (r0_24)] 2]:BS))))
   else (none))
  else (none))) (by kernel_rfl) ?_
 simp only [Zc1,Zax,Za0,Zay,Zaz,Zfe,Zht]
def Zdc (P:Program) (N:Nat) (a0 a1:Array Value) (a2:Int) (g_et:Addr) (g_tb:Addr) (bQ:Option (Option Addr)) (nQ:Nat) (aQ:Array Value) (q0_24:Int):Option (SV×Eff×Bool):=bif (decide (0≤q0_24)&&decide (q0_24<36)) then (bif (Zfs (endX a0 a1 nQ aQ)) then (bif (Zeq (num (endX a0 a1 nQ aQ) (3+((q0_24).toNat*1))) (Zcs (endX a0 a1 nQ aQ))) then (some (.t [.i .i64 (q0_24),.g (Zek (num (endX a0 a1 nQ aQ) (3+((q0_24).toNat*1))) (Zcs (endX a0 a1 nQ aQ))) 34,.i .i64 (0:Int)],.none,true))
    else (none))
   else (none))
  else (none)
theorem Zml (N:Nat) (a0 a1:Array Value) (a2:Int) (g_et:Addr) (g_tb:Addr) (bQ:Option (Option Addr)) (nQ:Nat) (aQ:Array Value) (q0_24:Int):(Uac 0 (kSeq (veC PZ Za7 N (cAt (codeOf Tryz.f14) [1,1,1,1,1,1,1,1]) (pAt (Uaa (codeOf Tryz.f14) [([],[24])]).1 [1,1,1,1,1,1,1,1]) (SV×Eff×Bool)) (finK PZ [.gl 0 148 g_et 3000073,.gl 1 0 g_tb 1000000000,.sl (.came bQ) nQ aQ 95] [.tmp 6,.cell 7 34,.tmp 8]))) .normal (Ubh [24] (Zbs a0 a1 a2 g_et g_tb bQ nQ aQ) ([.row #[.int .i64 (q0_24)] 2]:BS))=Zdc PZ N a0 a1 a2 g_et g_tb bQ nQ aQ q0_24:=by
 refine Eq.trans (b:=(bif (decide (0≤q0_24)&&decide (q0_24<36)) then (bif (Zfs (endX a0 a1 nQ aQ)) then (bif (Zeq (num (endX a0 a1 nQ aQ) (3+((q0_24).toNat*1))) (Zcs (endX a0 a1 nQ aQ))) then (some (.t [.i .i64 (q0_24),.g (Zek (num (endX a0 a1 nQ aQ) (3+((q0_24).toNat*1))) (Zcs (endX a0 a1 nQ aQ))) 34,.i .i64 (0:Int)],.none,true))
    else (none))
   else (none))
  else (none))) (by kernel_rfl) ?_
 rfl
theorem Zsd (N:Nat) (a0 a1:Array Value) (a2:Int) (g_et:Addr) (g_tb:Addr) (bQ:Option (Option Addr)) (nQ:Nat) (aQ:Array Value):Uc9 (Uaz (fun (x0:Int) (hb:BS)=>Udw PZ Za7 N (cAt (codeOf Tryz.f14) [1,1,1,1,1,1,1,0,1,0,0]) (pAt (Uaa (codeOf Tryz.f14) [([],[24])]).1 [1,1,1,1,1,1,1,0,1,0]) 34 [24] [40] [(13,40)] (Zbs a0 a1 a2 g_et g_tb bQ nQ aQ) [.i .i64 (x0)] hb) (Ubi (a2).toNat) ([.row #[.int .i64 ((tzN (a2).toNat:Nat):Int)] 2]:BS)) (fun hb=>(Uac 0 (kSeq (veC PZ Za7 N (cAt (codeOf Tryz.f14) [1,1,1,1,1,1,1,1]) (pAt (Uaa (codeOf Tryz.f14) [([],[24])]).1 [1,1,1,1,1,1,1,1]) (SV×Eff×Bool)) (finK PZ [.gl 0 148 g_et 3000073,.gl 1 0 g_tb 1000000000,.sl (.came bQ) nQ aQ 95] [.tmp 6,.cell 7 34,.tmp 8]))) .normal (Ubh [24] (Zbs a0 a1 a2 g_et g_tb bQ nQ aQ) hb)) (fun e hb=>(Uac 0 (kSeq (veC PZ Za7 N (cAt (codeOf Tryz.f14) [1,1,1,1,1,1,1,1]) (pAt (Uaa (codeOf Tryz.f14) [([],[24])]).1 [1,1,1,1,1,1,1,1]) (SV×Eff×Bool)) (finK PZ [.gl 0 148 g_et 3000073,.gl 1 0 g_tb 1000000000,.sl (.came bQ) nQ aQ 95] [.tmp 6,.cell 7 34,.tmp 8]))) e (Ubh [24] (Zbs a0 a1 a2 g_et g_tb bQ nQ aQ) hb))=Uem (Uaz (Zc1 PZ a0 a1 a2 g_et g_tb bQ nQ aQ) (Ubi (a2).toNat) ((tzN (a2).toNat:Nat):Int)) (fun x=>Zdc PZ N a0 a1 a2 g_et g_tb bQ nQ aQ x) (fun x:Empty=>nomatch x):=by
 refine Zz8 Zfe Zht _ _ (fun y t=>Zr0 N a0 a1 a2 g_et g_tb bQ nQ aQ y t) _ ((tzN (a2).toNat:Nat):Int) _ _ _ _ ?_ ?_
 ·intro x;exact Zml N a0 a1 a2 g_et g_tb bQ nQ aQ x
 ·intro x;exact nomatch x
theorem Zqo (N:Nat) (a0 a1:Array Value) (a2:Int) (g_et:Addr) (g_tb:Addr) (bQ:Option (Option Addr)) (nQ:Nat) (aQ:Array Value):ansV PZ Za7 N Tryz.f14 [([],[24])] [.g a0 41,.r a1 45 [(2,2)],.i .u64 (a2)] [.gl 0 148 g_et 3000073,.gl 1 0 g_tb 1000000000,.sl (.came bQ) nQ aQ 95]=(bif (okS a0&&Uar a0 a1 nQ aQ) then (bif (Zag a0 a2) then (bif (a2==(0:Int)) then (some (.t [.i .i64 (0:Int),.g #[.int .i64 (0:Int),.int .i64 (0:Int)] 34,.i .i64 (4:Int)],.none,true))
        else (bif ((nQ:Int)==(0:Int)) then (some (.t [.i .i64 (0:Int),.g #[.int .i64 (0:Int),.int .i64 (0:Int)] 34,.i .i64 (6:Int)],.none,true))
          else (bif (okS ((voyX a0 a1).extract 2 (2+363))&&spB ((voyX a0 a1).extract 2 (2+363)) (num (voyX a0 a1) 0) (num (voyX a0 a1) 1) nQ aQ) then (bif decide (0<a2) then (Uem (Uaz (Zc1 PZ a0 a1 a2 g_et g_tb bQ nQ aQ) (Ubi (a2).toNat) ((tzN (a2).toNat:Nat):Int)) (fun x=>Zdc PZ N a0 a1 a2 g_et g_tb bQ nQ aQ x) (fun x:Empty=>nomatch x))
              else (none))
            else (none))))
      else (some (.t [.i .i64 (0:Int),.g #[.int .i64 (0:Int),.int .i64 (0:Int)] 34,.i .i64 (2:Int)],.none,true)))
    else (some (.t [.i .i64 (0:Int),.g #[.int .i64 (0:Int),.int .i64 (0:Int)] 34,.i .i64 (1:Int)],.none,true))):=by
  refine Eq.trans (b:=(bif (okS a0&&Uar a0 a1 nQ aQ) then (bif (Zag a0 a2) then (bif (a2==(0:Int)) then (some (.t [.i .i64 (0:Int),.g #[.int .i64 (0:Int),.int .i64 (0:Int)] 34,.i .i64 (4:Int)],.none,true))
        else (bif ((nQ:Int)==(0:Int)) then (some (.t [.i .i64 (0:Int),.g #[.int .i64 (0:Int),.int .i64 (0:Int)] 34,.i .i64 (6:Int)],.none,true))
          else (bif (okS ((voyX a0 a1).extract 2 (2+363))&&spB ((voyX a0 a1).extract 2 (2+363)) (num (voyX a0 a1) 0) (num (voyX a0 a1) 1) nQ aQ) then (bif decide (0<a2) then (Uc9 (Uaz (fun (x0:Int) (hb:BS)=>Udw PZ Za7 N (cAt (codeOf Tryz.f14) [1,1,1,1,1,1,1,0,1,0,0]) (pAt (Uaa (codeOf Tryz.f14) [([],[24])]).1 [1,1,1,1,1,1,1,0,1,0]) 34 [24] [40] [(13,40)] (Zbs a0 a1 a2 g_et g_tb bQ nQ aQ) [.i .i64 (x0)] hb) (Ubi (a2).toNat) ([.row #[.int .i64 ((tzN (a2).toNat:Nat):Int)] 2]:BS)) (fun hb=>(Uac 0 (kSeq (veC PZ Za7 N (cAt (codeOf Tryz.f14) [1,1,1,1,1,1,1,1]) (pAt (Uaa (codeOf Tryz.f14) [([],[24])]).1 [1,1,1,1,1,1,1,1]) (SV×Eff×Bool)) (finK PZ [.gl 0 148 g_et 3000073,.gl 1 0 g_tb 1000000000,.sl (.came bQ) nQ aQ 95] [.tmp 6,.cell 7 34,.tmp 8]))) .normal (Ubh [24] (Zbs a0 a1 a2 g_et g_tb bQ nQ aQ) hb)) (fun e hb=>(Uac 0 (kSeq (veC PZ Za7 N (cAt (codeOf Tryz.f14) [1,1,1,1,1,1,1,1]) (pAt (Uaa (codeOf Tryz.f14) [([],[24])]).1 [1,1,1,1,1,1,1,1]) (SV×Eff×Bool)) (finK PZ [.gl 0 148 g_et 3000073,.gl 1 0 g_tb 1000000000,.sl (.came bQ) nQ aQ 95] [.tmp 6,.cell 7 34,.tmp 8]))) e (Ubh [24] (Zbs a0 a1 a2 g_et g_tb bQ nQ aQ) hb)))
              else (none))
            else (none))))
      else (some (.t [.i .i64 (0:Int),.g #[.int .i64 (0:Int),.int .i64 (0:Int)] 34,.i .i64 (2:Int)],.none,true)))
    else (some (.t [.i .i64 (0:Int),.g #[.int .i64 (0:Int),.int .i64 (0:Int)] 34,.i .i64 (1:Int)],.none,true)))) (by kernel_rfl) ?_
  simp only [Zsd N a0 a1 a2 g_et g_tb bQ nQ aQ]
theorem Zo1 (a0 a1:Array Value) (a2:Int) (g_et:Addr) (g_tb:Addr) (bQ:Option (Option Addr)) (nQ:Nat) (aQ:Array Value) (h_a0:WT PZ 41 a0) (h_a1:WT PZ 45 a1) (h_a2:IntKind.u64.min≤a2∧a2≤IntKind.u64.max) (h_a1x2:aQ.size=nQ*(lay PZ 95).length∧(∀ k,k<nQ→WT PZ 95 (aQ.extract (k*(lay PZ 95).length) (k*(lay PZ 95).length+(lay PZ 95).length)))∧nQ≤9223372036854775807) (hg:(true)=true):ansV PZ Za7 1000 Tryz.f14 [([],[24])] [.g a0 41,.r a1 45 [(2,2)],.i .u64 (a2)] [.gl 0 148 g_et 3000073,.gl 1 0 g_tb 1000000000,.sl (.came bQ) nQ aQ 95]=some (.t [.i .i64 (poaV PZ a0 a1 nQ aQ a2),.g (poaS PZ a0 a1 nQ aQ a2) 34,.i .i64 (poaC a0 a1 nQ aQ a2)],.none,true):=by
 unfold poaV poaS poaC
 refine (Zqo 1000 a0 a1 a2 g_et g_tb bQ nQ aQ).trans ?_
 obtain ⟨-,b0⟩:=h_a1.int (o:=0) (k:=.i8) (by kernel_rfl)
 obtain ⟨-,b1⟩:=h_a1.int (o:=1) (k:=.i8) (by kernel_rfl)
 have hAw:∀ k,k<nQ→WT PZ 95 (aQ.extract (k*3) (k*3+3)):=fun k hk=>by have:=h_a1x2.2.1 k hk;rw [Yje] at this;exact this
 cases hp:(okS a0&&Uar a0 a1 nQ aQ) with
 | false=>simp only [cond_true,cond_false,show ((0:Int)==(0:Int))=true from rfl,show ((1:Int)==(0:Int))=false from rfl,show ((2:Int)==(0:Int))=false from rfl,show ((0:Int) != (0:Int))=false from rfl,show ((1:Int) != (0:Int))=true from rfl,show ((2:Int) != (0:Int))=true from rfl]
 | true=>
  cases hc:(Zag a0 a2) with
  | false=>simp only [cond_true,cond_false,show ((0:Int)==(0:Int))=true from rfl,show ((1:Int)==(0:Int))=false from rfl,show ((2:Int)==(0:Int))=false from rfl,show ((0:Int) != (0:Int))=false from rfl,show ((1:Int) != (0:Int))=true from rfl,show ((2:Int) != (0:Int))=true from rfl]
  | true=>
   simp only [cond_true,cond_false,show ((0:Int)==(0:Int))=true from rfl,show ((1:Int)==(0:Int))=false from rfl,show ((2:Int)==(0:Int))=false from rfl,show ((0:Int) != (0:Int))=false from rfl,show ((1:Int) != (0:Int))=true from rfl,show ((2:Int) != (0:Int))=true from rfl]
   cases h0:(a2==(0:Int)) with
   | true=>simp only [cond_true]
   | false=>
    by_cases hn:nQ=0
    ·subst hn
     rw [show (((0:Nat):Int)==(0:Int))=true from rfl]
     simp only [cond_true,cond_false]
    ·rw [show ((nQ:Int)==(0:Int))=false from beq_eq_false_iff_ne.2 (by omega)]
     simp only [cond_false]
     obtain ⟨⟨T,hM,t0,t1⟩,ap,e1,e2,e3⟩:=Yg7 h_a0 b0 b1 hAw hp (by omega)
     have hU:U64 a2:=h_a2
     have hpos:0<a2:=by have h1:=beq_eq_false_iff_ne.1 h0;have h2:=hU.1;omega
     have hh:=Yfz hc
     obtain ⟨q1,q2⟩:=voy_end h_a0 b0 b1 hp
     rw [q1,cond_true,decide_eq_true hpos,cond_true]
     have q2:endX a0 a1 nQ aQ=(endV PZ a0 a1 nQ aQ):=q2
     obtain ⟨f1,f2,f3⟩:=Yl9 (X:=(endV PZ a0 a1 nQ aQ)) hU hpos hh (g:=Zc1 PZ a0 a1 a2 g_et g_tb bQ nQ aQ) (fun x s h1 h2 h3 h4=>by
      unfold Udu
      simp only [Zc1,q2,dec2 h1 h2,dec2 h3 h4,cond_true]
      cases decide (num (endV PZ a0 a1 nQ aQ) (3+x.toNat*1)<num (endV PZ a0 a1 nQ aQ) (3+s.toNat*1))<;>rfl)
     rw [f1]
     show Zdc PZ 1000 a0 a1 a2 g_et g_tb bQ nQ aQ (Uas (endV PZ a0 a1 nQ aQ) a2 36)=_
     unfold Zdc
     rw [q2,dec2 f2 f3]
     generalize (endV PZ a0 a1 nQ aQ)=X at hM ap e1 e2 e3 f2 f3⊢
     generalize Uas X a2 36=w at f2 f3⊢
     have sh:=Yj4 (p:=num X (3+w.toNat*1)) (by have:=hM.1 (w.toNat) (by omega);rw [Nat.mul_one];exact this) ap
     have ea:Zcs X=allV X:=rfl
     rw [ea,e1,sh.1,sh.2.1]
     simp only [cond_true]
     rfl
def Zgo:Con:=fun args h=>match args,h with
 | [.g a0 41,.r a1 45 [(2,2)],.i .u64 a2],[.gl 0 148 g_et 3000073,.gl 1 0 g_tb 1000000000,.sl (.came bQ) nQ aQ 95]=>some (.t [.i .i64 (poaV PZ a0 a1 nQ aQ a2),.g (poaS PZ a0 a1 nQ aQ a2) 34,.i .i64 (poaC a0 a1 nQ aQ a2)],.none,true)
 | _,_=>none
theorem Zoj:EntX PZ 14:=Zaf (fn:=Tryz.f14) (by kernel_rfl) (by kernel_rfl) (by kernel_rfl)
theorem Zse:Uad (md F) PZ 14 Zgo:=(Zah (N:=1000) (by kernel_rfl) (mkΓw_sX (Zuw Zsu) Zp2 (mkΓw_cX (Ye7 Zyz) Ztg (mkΓw_cX (Zad Ya9) Zt8 (mkΓw_cX (Zad Zpq) Zm1 (mkΓw_cX (Zad Yeq) Zyb (mkΓw_cX (Ye7 Yas) Zvf (mkΓw_nX Zzx Zwf (mkΓw_iX Zxs Zsq mkΓx_nilX)))))))) (fn:=Tryz.f14) (by kernel_rfl) (by kernel_rfl) [([],[24])]).of (by
 intro ρ h w args vals r e hA hH hr
 unfold Zgo at hr
 split at hr
 ·rename_i a0 a1 a2 g_et g_tb bQ nQ aQ
  obtain ⟨rfl,hg⟩:=Prod.mk.inj (Option.some.inj hr)
  obtain ⟨rfl,hg2⟩:=Prod.mk.inj hg
  exact Zo1 a0 a1 a2 g_et g_tb bQ nQ aQ (hA.wt 0 rfl) (hA.wtr 1 rfl) (hA.rng 2 rfl) (hH.slw 2 rfl) hg2
 ·cases hr)
def Zb2:Cons:=(mkΓw [(18,conS Zhi)] [(19,con Ziu),(20,con Zjm),(22,con Zlf)] [] [])
def Zc4 (a0 a1:Array Value) (a2:Int) (bQ:Option (Option Addr)) (nQ:Nat) (aQ:Array Value):St:=(⟨.a (.g a0 41) :: .a (.r a1 45 [(2,0)]) :: .a (.i .u64 (a2)) :: .a (.w 1) :: .a (.w 2) :: .a (.u) :: .a (.i .i64 (0:Int)) :: .a (.w 4) :: .a (.i .i64 (0:Int)) :: .a (.i .i64 (0:Int)) :: .a (.w 7) :: .a (.i .i64 (-1:Int)) :: .a (.i .i64 (0:Int)) :: .a (.i .u64 (a2)) :: .a (.i .i64 (0:Int)) :: .a (.i .i64 (0:Int)) :: .a (.b (true)) :: .a (.b (true)) :: .a (.i .u64 (a2)) :: .a (.b ((a2==(0:Int)))) :: .a (.b ((a2==(0:Int)))) :: .a (.i .i64 (0:Int)) :: .a (.b (true)) :: .a (.b (true)) :: .a (.p 2 (2) 43) :: .a (.l 0) :: .a (.i .i64 (nQ:Int)) :: .a (.b (((nQ:Int)==(0:Int)))) :: .a (.b (((nQ:Int)==(0:Int)))) :: .a (.i .i64 (0:Int)) :: .a (.b (false)) :: .a (.u) :: .a (.u) :: .a (.g (Uae PZ a0 (num a1 0) nQ aQ (num a1 1).toNat) 60)::us 33 ([]),[.sl (.came bQ) nQ aQ 95,.row a0 41,.one (.r a1 45 [(2,0)]) 45,.no,.row #[.int .i64 (0:Int),.int .i64 (0:Int)] 34,.no,.no,.row (Uae PZ a0 (num a1 0) nQ aQ (num a1 1).toNat) 60,.no],[7]⟩:St)
def Zd1:Int×Int→LS
 | (y0_11,y0_12)=>([.a (.i .i64 (y0_11)),.a (.i .i64 (y0_12))],[])
def Zhj:Int×Int→Exit×LS
 | t=>((.exit 0),Zd1 t)
def Zbu (P:Program) (a0 a1:Array Value) (a2:Int) (bQ:Option (Option Addr)) (nQ:Nat) (aQ:Array Value):Int×Int→Option (Stp (Int×Int) (Int×Int))
  | (y0_11,y0_12)=>bif decide (y0_12<(36:Int)) then (bif decide (0≤(IntKind.u64.wrap y0_12)) then (bif (((((a2).fdiv (2^(min ((IntKind.u64.wrap y0_12)).toNat IntKind.u64.bits)))).tmod (2:Int))==(1:Int)) then (bif decide (y0_11<(0:Int)) then (some (.more (y0_12,(i64.wrap (y0_12+(1:Int))))))
          else (bif (decide (0≤y0_12)&&decide (y0_12<36)) then (bif (decide (0≤y0_11)&&decide (y0_11<36)) then (bif decide ((num (Uae PZ a0 (num a1 0) nQ aQ (num a1 1).toNat) (3+((y0_12).toNat*1)))<(num (Uae PZ a0 (num a1 0) nQ aQ (num a1 1).toNat) (3+((y0_11).toNat*1)))) then (some (.more (y0_12,(i64.wrap (y0_12+(1:Int))))))
                else (some (.more (y0_11,(i64.wrap (y0_12+(1:Int)))))))
              else (none))
            else (none)))
        else (some (.more (y0_11,(i64.wrap (y0_12+(1:Int)))))))
      else (none))
    else (some (.done (y0_11,y0_12)))
theorem Zr1 (N:Nat) (a0 a1:Array Value) (a2:Int) (bQ:Option (Option Addr)) (nQ:Nat) (aQ:Array Value):∀ t:Int×Int,Uah PZ Zb2 N (cAt (codeOf Tryz.f13) [1,1,1,1,1,1,1,0,1,0,0]) (pAt (Uaa (codeOf Tryz.f13) [([11,12],[])]).1 [1,1,1,1,1,1,1,0,1,0]) [11,12] [] (Zc4 a0 a1 a2 bQ nQ aQ) (Zd1 t)=mapS Zd1 Zhj (Zbu PZ a0 a1 a2 bQ nQ aQ t):=by
  rintro ⟨y0_11,y0_12⟩
  refine Eq.trans (b:=(bif decide (y0_12<(36:Int)) then (bif decide (0≤(IntKind.u64.wrap y0_12)) then (bif (((((a2).fdiv (2^(min ((IntKind.u64.wrap y0_12)).toNat IntKind.u64.bits)))).tmod (2:Int))==(1:Int)) then (bif decide (y0_11<(0:Int)) then (some (.more ([.a (.i .i64 (y0_12)),.a (.i .i64 (i64.wrap (y0_12+(1:Int))))],[])))
          else (bif (decide (0≤y0_12)&&decide (y0_12<36)) then (bif (decide (0≤y0_11)&&decide (y0_11<36)) then (bif decide ((num (Uae PZ a0 (num a1 0) nQ aQ (num a1 1).toNat) (3+((y0_12).toNat*1)))<(num (Uae PZ a0 (num a1 0) nQ aQ (num a1 1).toNat) (3+((y0_11).toNat*1)))) then (some (.more ([.a (.i .i64 (y0_12)),.a (.i .i64 (i64.wrap (y0_12+(1:Int))))],[])))
                else (some (.more ([.a (.i .i64 (y0_11)),.a (.i .i64 (i64.wrap (y0_12+(1:Int))))],[]))))
              else (none))
            else (none)))
        else (some (.more ([.a (.i .i64 (y0_11)),.a (.i .i64 (i64.wrap (y0_12+(1:Int))))],[]))))
      else (none))
    else (some (.done ((.exit 0),([.a (.i .i64 (y0_11)),.a (.i .i64 (y0_12))],[])))))) (by kernel_rfl) ?_
  simp only [Zbu,Zax,Za0,Zay,Zaz,Zd1,Zhj]
def Zdf (P:Program) (N:Nat) (a0 a1:Array Value) (a2:Int) (bQ:Option (Option Addr)) (nQ:Nat) (aQ:Array Value) (z0_11:Int) (z0_12:Int):Option (SV×Eff×Bool):=bif (decide (0≤z0_11)&&decide (z0_11<36)) then (bif (Ze9 (Uae PZ a0 (num a1 0) nQ aQ (num a1 1).toNat)) then (bif (Zdy (num (Uae PZ a0 (num a1 0) nQ aQ (num a1 1).toNat) (3+((z0_11).toNat*1))) (Zbp (Uae PZ a0 (num a1 0) nQ aQ (num a1 1).toNat))) then (some (.t [.i .i64 (z0_11),.g #[.int .i64 (i64.wrap (((num (Uae PZ a0 (num a1 0) nQ aQ (num a1 1).toNat) (3+((z0_11).toNat*1)))).tdiv (gcdW (num (Uae PZ a0 (num a1 0) nQ aQ (num a1 1).toNat) (3+((z0_11).toNat*1))) (Zbp (Uae PZ a0 (num a1 0) nQ aQ (num a1 1).toNat))))),.int .i64 (i64.wrap (((Zbp (Uae PZ a0 (num a1 0) nQ aQ (num a1 1).toNat))).tdiv (gcdW (num (Uae PZ a0 (num a1 0) nQ aQ (num a1 1).toNat) (3+((z0_11).toNat*1))) (Zbp (Uae PZ a0 (num a1 0) nQ aQ (num a1 1).toNat)))))] 34,.i .i64 (0:Int)],.none,true))
    else (none))
   else (none))
  else (none)
theorem Zmj (N:Nat) (a0 a1:Array Value) (a2:Int) (bQ:Option (Option Addr)) (nQ:Nat) (aQ:Array Value) (z0_11:Int) (z0_12:Int):(Uac 0 (kSeq (veC PZ Zb2 N (cAt (codeOf Tryz.f13) [1,1,1,1,1,1,1,1]) (pAt (Uaa (codeOf Tryz.f13) [([11,12],[])]).1 [1,1,1,1,1,1,1,1]) (SV×Eff×Bool)) (finK PZ [.sl (.came bQ) nQ aQ 95] [.tmp 6,.cell 7 34,.tmp 8]))) (.exit 0) (left (writes (cAt (codeOf Tryz.f13) [1,1,1,1,1,1,1,0,1,0,0])) [11,12] [] (Zc4 a0 a1 a2 bQ nQ aQ) ([.a (.i .i64 (z0_11)),.a (.i .i64 (z0_12))],[]))=Zdf PZ N a0 a1 a2 bQ nQ aQ z0_11 z0_12:=by
 refine Eq.trans (b:=(bif (decide (0≤z0_11)&&decide (z0_11<36)) then (bif (Ze9 (Uae PZ a0 (num a1 0) nQ aQ (num a1 1).toNat)) then (bif (Zdy (num (Uae PZ a0 (num a1 0) nQ aQ (num a1 1).toNat) (3+((z0_11).toNat*1))) (Zbp (Uae PZ a0 (num a1 0) nQ aQ (num a1 1).toNat))) then (some (.t [.i .i64 (z0_11),.g #[.int .i64 (i64.wrap (((num (Uae PZ a0 (num a1 0) nQ aQ (num a1 1).toNat) (3+((z0_11).toNat*1)))).tdiv (gcdW (num (Uae PZ a0 (num a1 0) nQ aQ (num a1 1).toNat) (3+((z0_11).toNat*1))) (Zbp (Uae PZ a0 (num a1 0) nQ aQ (num a1 1).toNat))))),.int .i64 (i64.wrap (((Zbp (Uae PZ a0 (num a1 0) nQ aQ (num a1 1).toNat))).tdiv (gcdW (num (Uae PZ a0 (num a1 0) nQ aQ (num a1 1).toNat) (3+((z0_11).toNat*1))) (Zbp (Uae PZ a0 (num a1 0) nQ aQ (num a1 1).toNat)))))] 34,.i .i64 (0:Int)],.none,true))
    else (none))
   else (none))
  else (none))) (by kernel_rfl) ?_
 rfl
theorem Zrr (N:Nat) (a0 a1:Array Value) (a2:Int) (bQ:Option (Option Addr)) (nQ:Nat) (aQ:Array Value):Uaj (Uab (Uah PZ Zb2 N (cAt (codeOf Tryz.f13) [1,1,1,1,1,1,1,0,1,0,0]) (pAt (Uaa (codeOf Tryz.f13) [([11,12],[])]).1 [1,1,1,1,1,1,1,0,1,0]) [11,12] [] (Zc4 a0 a1 a2 bQ nQ aQ)) N ([.a (.i .i64 (-1:Int)),.a (.i .i64 (0:Int))],[])) (fun e s=>(Uac 0 (kSeq (veC PZ Zb2 N (cAt (codeOf Tryz.f13) [1,1,1,1,1,1,1,1]) (pAt (Uaa (codeOf Tryz.f13) [([11,12],[])]).1 [1,1,1,1,1,1,1,1]) (SV×Eff×Bool)) (finK PZ [.sl (.came bQ) nQ aQ 95] [.tmp 6,.cell 7 34,.tmp 8]))) e (left (writes (cAt (codeOf Tryz.f13) [1,1,1,1,1,1,1,0,1,0,0])) [11,12] [] (Zc4 a0 a1 a2 bQ nQ aQ) s))=Uak (Uab (Zbu PZ a0 a1 a2 bQ nQ aQ) N ((-1:Int),(0:Int))) (fun x=>Zdf PZ N a0 a1 a2 bQ nQ aQ x.1 x.2):=by
 refine Zbk Zd1 Zhj _ _ (Zr1 N a0 a1 a2 bQ nQ aQ) N ((-1:Int),(0:Int)) _ _ ?_
 intro x;exact Zmj N a0 a1 a2 bQ nQ aQ x.1 x.2
theorem Zp8 (N:Nat) (a0 a1:Array Value) (a2:Int) (bQ:Option (Option Addr)) (nQ:Nat) (aQ:Array Value):ansV PZ Zb2 N Tryz.f13 [([11,12],[])] [.g a0 41,.r a1 45 [(2,0)],.i .u64 (a2)] [.sl (.came bQ) nQ aQ 95]=(bif (okS a0&&Uar a0 a1 nQ aQ) then (bif (Zag a0 a2) then (bif (a2==(0:Int)) then (some (.t [.i .i64 (0:Int),.g #[.int .i64 (0:Int),.int .i64 (0:Int)] 34,.i .i64 (4:Int)],.none,true))
    else (bif ((nQ:Int)==(0:Int)) then (some (.t [.i .i64 (0:Int),.g #[.int .i64 (0:Int),.int .i64 (0:Int)] 34,.i .i64 (6:Int)],.none,true))
     else (bif (okS a0&&Uar a0 a1 nQ aQ) then (Uak (Uab (Zbu PZ a0 a1 a2 bQ nQ aQ) N ((-1:Int),(0:Int))) (fun x=>Zdf PZ N a0 a1 a2 bQ nQ aQ x.1 x.2))
      else (none))))
   else (some (.t [.i .i64 (0:Int),.g #[.int .i64 (0:Int),.int .i64 (0:Int)] 34,.i .i64 (2:Int)],.none,true)))
  else (some (.t [.i .i64 (0:Int),.g #[.int .i64 (0:Int),.int .i64 (0:Int)] 34,.i .i64 (1:Int)],.none,true))):=by
 refine Eq.trans (b:=(bif (okS a0&&Uar a0 a1 nQ aQ) then (bif (Zag a0 a2) then (bif (a2==(0:Int)) then (some (.t [.i .i64 (0:Int),.g #[.int .i64 (0:Int),.int .i64 (0:Int)] 34,.i .i64 (4:Int)],.none,true))
    else (bif ((nQ:Int)==(0:Int)) then (some (.t [.i .i64 (0:Int),.g #[.int .i64 (0:Int),.int .i64 (0:Int)] 34,.i .i64 (6:Int)],.none,true))
     else (bif (okS a0&&Uar a0 a1 nQ aQ) then (Uaj (Uab (Uah PZ Zb2 N (cAt (codeOf Tryz.f13) [1,1,1,1,1,1,1,0,1,0,0]) (pAt (Uaa (codeOf Tryz.f13) [([11,12],[])]).1 [1,1,1,1,1,1,1,0,1,0]) [11,12] [] (Zc4 a0 a1 a2 bQ nQ aQ)) N ([.a (.i .i64 (-1:Int)),.a (.i .i64 (0:Int))],[])) (fun e s=>(Uac 0 (kSeq (veC PZ Zb2 N (cAt (codeOf Tryz.f13) [1,1,1,1,1,1,1,1]) (pAt (Uaa (codeOf Tryz.f13) [([11,12],[])]).1 [1,1,1,1,1,1,1,1]) (SV×Eff×Bool)) (finK PZ [.sl (.came bQ) nQ aQ 95] [.tmp 6,.cell 7 34,.tmp 8]))) e (left (writes (cAt (codeOf Tryz.f13) [1,1,1,1,1,1,1,0,1,0,0])) [11,12] [] (Zc4 a0 a1 a2 bQ nQ aQ) s)))
      else (none))))
   else (some (.t [.i .i64 (0:Int),.g #[.int .i64 (0:Int),.int .i64 (0:Int)] 34,.i .i64 (2:Int)],.none,true)))
  else (some (.t [.i .i64 (0:Int),.g #[.int .i64 (0:Int),.int .i64 (0:Int)] 34,.i .i64 (1:Int)],.none,true)))) (by kernel_rfl) ?_
 simp only [Zrr N a0 a1 a2 bQ nQ aQ]
theorem Zo0 (a0 a1:Array Value) (a2:Int) (bQ:Option (Option Addr)) (nQ:Nat) (aQ:Array Value) (h_a0:WT PZ 41 a0) (h_a1:WT PZ 45 a1) (h_a2:IntKind.u64.min≤a2∧a2≤IntKind.u64.max) (h_a1x2:aQ.size=nQ*(lay PZ 95).length∧(∀ k,k<nQ→WT PZ 95 (aQ.extract (k*(lay PZ 95).length) (k*(lay PZ 95).length+(lay PZ 95).length)))∧nQ≤9223372036854775807) (hg:(true)=true):ansV PZ Zb2 1000 Tryz.f13 [([11,12],[])] [.g a0 41,.r a1 45 [(2,0)],.i .u64 (a2)] [.sl (.came bQ) nQ aQ 95]=some (.t [.i .i64 (poaV PZ a0 a1 nQ aQ a2),.g (poaS PZ a0 a1 nQ aQ a2) 34,.i .i64 (poaC a0 a1 nQ aQ a2)],.none,true):=by
 have eE:Uae PZ a0 (num a1 0) nQ aQ (num a1 1).toNat=(endV PZ a0 a1 nQ aQ):=rfl
 unfold poaV poaS poaC
 refine (Zp8 1000 a0 a1 a2 bQ nQ aQ).trans ?_
 obtain ⟨-,b0⟩:=h_a1.int (o:=0) (k:=.i8) (by kernel_rfl)
 obtain ⟨-,b1⟩:=h_a1.int (o:=1) (k:=.i8) (by kernel_rfl)
 have hAw:∀ k,k<nQ→WT PZ 95 (aQ.extract (k*3) (k*3+3)):=fun k hk=>by have:=h_a1x2.2.1 k hk;rw [Yje] at this;exact this
 cases hp:(okS a0&&Uar a0 a1 nQ aQ) with
 | false=>simp only [cond_true,cond_false,show ((0:Int)==(0:Int))=true from rfl,show ((1:Int)==(0:Int))=false from rfl,show ((2:Int)==(0:Int))=false from rfl,show ((0:Int) != (0:Int))=false from rfl,show ((1:Int) != (0:Int))=true from rfl,show ((2:Int) != (0:Int))=true from rfl]
 | true=>
  cases hc:(Zag a0 a2) with
  | false=>simp only [cond_true,cond_false,show ((0:Int)==(0:Int))=true from rfl,show ((1:Int)==(0:Int))=false from rfl,show ((2:Int)==(0:Int))=false from rfl,show ((0:Int) != (0:Int))=false from rfl,show ((1:Int) != (0:Int))=true from rfl,show ((2:Int) != (0:Int))=true from rfl]
  | true=>
   simp only [cond_true,cond_false,show ((0:Int)==(0:Int))=true from rfl,show ((1:Int)==(0:Int))=false from rfl,show ((2:Int)==(0:Int))=false from rfl,show ((0:Int) != (0:Int))=false from rfl,show ((1:Int) != (0:Int))=true from rfl,show ((2:Int) != (0:Int))=true from rfl]
   cases h0:(a2==(0:Int)) with
   | true=>simp only [cond_true]
   | false=>
    by_cases hn:nQ=0
    ·subst hn
     rw [show (((0:Nat):Int)==(0:Int))=true from rfl]
     simp only [cond_true,cond_false]
    ·rw [show ((nQ:Int)==(0:Int))=false from beq_eq_false_iff_ne.2 (by omega)]
     simp only [cond_false]
     obtain ⟨⟨T,hM,t0,t1⟩,ap,e1,e2,e3⟩:=Yg7 h_a0 b0 b1 hAw hp (by omega)
     have hU:U64 a2:=h_a2
     have hpos:0<a2:=by have h1:=beq_eq_false_iff_ne.1 h0;have h2:=hU.1;omega
     have hh:=Yfz hc
     have hrg:=Yee (endV PZ a0 a1 nQ aQ) a2
     have hlast:0≤Uas (endV PZ a0 a1 nQ aQ) a2 36:=by
      obtain ⟨k1,k2,k3⟩:=Zob (n:=a2.toNat) (by omega) (by unfold U64 at hU;omega)
      have hb:bitI a2 (tzN a2.toNat)=true:=by rw [Zif hU];exact k2
      refine Zzr hb 36 ?_
      by_cases h:tzN a2.toNat<36
      ·exact h
      ·rw [hh _ (by omega)] at hb;cases hb
     have hit:Uab (Zbu PZ a0 a1 a2 bQ nQ aQ) 1000 ((-1:Int),(0:Int))=some (Uas (endV PZ a0 a1 nQ aQ) a2 36,(36:Int)):=by
      exact Ze3 (g:=Zbu PZ a0 a1 a2 bQ nQ aQ) (fun k=>(Uas (endV PZ a0 a1 nQ aQ) a2 k,(k:Int))) (m:=36) (x:=(Uas (endV PZ a0 a1 nQ aQ) a2 36,(36:Int))) (N:=1000) (fun k hk=>by
       have h1:decide ((k:Int)<36)=true:=decide_eq_true (by omega)
       have h0':decide (0≤(k:Int))=true:=decide_eq_true (by omega)
       have h3:i64.wrap ((k:Int)+1)=((k+1:Nat):Int):=by rw [w64 (by omega)];omega
       have h6:decide (0≤IntKind.u64.wrap (k:Int))=true:=decide_eq_true (Zhm .u64 _).1
       have hb:((a2.fdiv (2^(min (IntKind.u64.wrap (k:Int)).toNat IntKind.u64.bits))).tmod (2:Int)==(1:Int))=bitI a2 k:=by rw [u64w hk,Int.toNat_natCast];exact Ymn hU (by omega)
       have hr:=hrg k
       have e7:Uas (endV PZ a0 a1 nQ aQ) a2 (k+1)=bif bitI a2 k then (bif decide (Uas (endV PZ a0 a1 nQ aQ) a2 k<0) then (k:Int) else bif decide (num (endV PZ a0 a1 nQ aQ) (3+k*1)<num (endV PZ a0 a1 nQ aQ) (3+(Uas (endV PZ a0 a1 nQ aQ) a2 k).toNat*1)) then (k:Int) else Uas (endV PZ a0 a1 nQ aQ) a2 k) else Uas (endV PZ a0 a1 nQ aQ) a2 k:=rfl
       rw [e7]
       simp only [Zbu,h1,h0',h6,cond_true]
       rw [hb,h3]
       generalize (endV PZ a0 a1 nQ aQ)=X at hr eE⊢
       generalize Uas X a2 k=w at hr⊢
       cases bitI a2 k with
       | false=>simp only [cond_false]
       | true=>
        simp only [cond_true]
        cases hw:decide (w<0) with
        | true=>simp only [cond_true]
        | false=>
         have hw:=of_decide_eq_false hw
         simp only [cond_false,eE,dec2 (show 0≤w by omega) (show w<36 by omega),dec2 (show 0≤(k:Int) by omega) (show (k:Int)<36 by omega),Int.toNat_natCast,cond_true,Bool.and_self]
         cases decide (num X (3+k*1)<num X (3+w.toNat*1))<;>rfl) (by
       have h1:decide (((36:Nat):Int)<36)=false:=by decide
       simp only [Zbu,h1,cond_false]
       rfl) (by omega)
     rw [hit]
     show Zdf PZ 1000 a0 a1 a2 bQ nQ aQ (Uas (endV PZ a0 a1 nQ aQ) a2 36) 36=_
     unfold Zdf
     have f3:=(hrg 36).2
     rw [eE,dec2 hlast (by omega)]
     clear hit hrg
     generalize (endV PZ a0 a1 nQ aQ)=X at hM ap e1 e2 e3 hlast f3⊢
     generalize Uas X a2 36=w at hlast f3⊢
     have sh:=Yj4 (p:=num X (3+w.toNat*1)) (by have:=hM.1 (w.toNat) (by omega);rw [Nat.mul_one];exact this) ap
     rw [e2,e3,sh.2.2]
     simp only [cond_true]
     rfl
def Zg2:Con:=fun args h=>match args,h with
 | [.g a0 41,.r a1 45 [(2,0)],.i .u64 a2],[.sl (.came bQ) nQ aQ 95]=>some (.t [.i .i64 (poaV PZ a0 a1 nQ aQ a2),.g (poaS PZ a0 a1 nQ aQ a2) 34,.i .i64 (poaC a0 a1 nQ aQ a2)],.none,true)
 | _,_=>none
theorem Zoc:EntX PZ 13:=Zaf (fn:=Tryz.f13) (by kernel_rfl) (by kernel_rfl) (by kernel_rfl)
theorem Zr3:Uad (md F) PZ 13 Zg2:=(Zah (N:=1000) (by kernel_rfl) (mkΓw_sX (Zuw Zta) Zqa (mkΓw_cX (Zad Zwo) Zry (mkΓw_cX (Zad Zyj) Zsy (mkΓw_cX (Zad Ycz) Zxk mkΓx_nilX)))) (fn:=Tryz.f13) (by kernel_rfl) (by kernel_rfl) [([11,12],[])]).of (by
 intro ρ h w args vals r e hA hH hr
 unfold Zg2 at hr
 split at hr
 ·rename_i a0 a1 a2 bQ nQ aQ
  obtain ⟨rfl,hg⟩:=Prod.mk.inj (Option.some.inj hr)
  obtain ⟨rfl,hg2⟩:=Prod.mk.inj hg
  exact Zo0 a0 a1 a2 bQ nQ aQ (hA.wt 0 rfl) (hA.wtr 1 rfl) (hA.rng 2 rfl) (hH.slw 0 rfl) hg2
 ·cases hr)
end
end Go.Proofs.YtflnjkpejbohjaaGreatDoor
