/- The likeliest path stays on cells. -/
import Derived.Test.YtnhilgpdgicgfaaProg
import Derived.Test.YtnhilgpdgicgfaaLpH
namespace Go.Proofs.Ytnhilgpdgicgfaa
open Go.ChangeShapes Go.WideShapes Go.ChangeAt Go.RowKit Ve Vc
set_option linter.unusedVariables false
set_option linter.unusedSimpArgs false
set_option maxRecDepth 100000
noncomputable section
variable {mn:Md}
theorem rowF_at(V:List (Int×Int)->Array Value->Int)(S L:Array Value)(t:Int){k:Nat}(hk:k<36):num (rowF Try.prog V S L t) (k*1)=if inC (num S 0) (num S 1) k then V (stL S t k) L else 0:=by
 have h:=folds_inv (f:=λr k=>if inC (num S 0) (num S 1) k then r.setIfInBounds (k*1) (.int .i64 (V (stL S t k) L)) else r) (t:=zc Try.prog 42) (n:=36)
  (fun m (r:Array Value)=>r.size=36∧∀ i,i<36→num r i=if i<m∧inC (num S 0) (num S 1) i then V (stL S t i) L else 0) ⟨zc_row,fun i hi=>by
   unfold num;rw[zc_at i hi];simp⟩ (λm s hm hs=>by
   refine⟨by split<;>simp[hs.1],λi hi=> ?_⟩
   by_cases hmi:m=i
   ·subst hmi;cases hc:inC (num S 0) (num S 1) m with|true=>simp only[if_true];rw[Nat.mul_one,num_set (by omega),if_pos ⟨by omega,trivial⟩]|false=>simp only[Bool.false_eq_true,if_false,and_false];rw[hs.2 m hi,if_neg (by omega)]
   ·have hsame:num (if inC (num S 0) (num S 1) m then s.setIfInBounds (m*1) (.int .i64 (V (stL S t m) L)) else s) i=num s i:=by
     split
     ·unfold num;rw[Array.getElem?_setIfInBounds,if_neg (by omega)]
     ·rfl
    show num (if inC (num S 0) (num S 1) m then s.setIfInBounds (m*1) (.int .i64 (V (stL S t m) L)) else s) i=_
    rw[hsame,hs.2 i hi]
    by_cases hi2:i<m
    ·simp[hi2,show i<m+1 by omega]
    ·simp[hi2,show ¬i<m+1 by omega]) 36 (Nat.le_refl _)
 unfold rowF;rw[Nat.mul_one,h.2 k hk];simp[hk]
theorem lk_ge(l:List (Int×Int))(L:Array Value):0<=(lkL l L).2:=by
 rcases lk_gen L l (0,0) with ⟨h,-⟩ | ⟨h,-⟩
 ·unfold lkL;rw[h];exact Int.le_refl _
 ·unfold lkL;exact Int.le_of_lt h
section
variable {S L:Array Value} {b c:Int} {h:Nat}
theorem ro_ge(hL:∀k,k<36->0<=num L (k*1)):∀(j k:Nat),k<36->0<=num (rowR Try.prog lkM S L b (h:Int) j) (k*1)
 |0,k,hk=>hL k hk
 |j+1,k,hk=>by
  rw[rowR,rowF_at lkM S _ _ hk];split
  ·exact lk_ge _ _
  ·exact Int.le_refl _
theorem td_eq{j k:Nat}(hj:h=j+1+k)(hh:h<=14):(IntKind.i64.wrap (b+IntKind.i64.wrap ((h:Int) - ((j+1:Nat):Int)))).tmod 2=tdP b k:=by unfold tdP;rw[w64 (n:=(h:Int) - ((j+1:Nat):Int)) (by omega),show (h:Int) - ((j+1:Nat):Int)=(k:Int) by omega]
theorem ps_inv(hS:WT Try.prog 37 S)(hok:okS S=true)(hL:∀k,k<36->0<=num L (k*1))(hLs:L.size=36)(hh:h<=14)(hc:spec_l01Is_v0 c S=true)(hpos:0<num (rowR Try.prog lkM S L b (h:Int) h) (c.toNat*1)):
  ∀k,k<=h->spec_l01Is_v0 (psI S (catR Try.prog lkM S L b (h:Int) (h+1)) b c h k) S=true/\0<num (rowR Try.prog lkM S L b (h:Int) (h - k)) ((psI S (catR Try.prog lkM S L b (h:Int) (h+1)) b c h k).toNat*1)
 |0,_=>⟨hc,hpos⟩
 | k+1,hk=>by
  obtain⟨h1,h2⟩:=ps_inv hS hok hL hLs hh hc hpos k (by omega);have h0:=okS_dims hok;have r:=is_range h1;rw[psI];generalize psI S (catR Try.prog lkM S L b (h:Int) (h+1)) b c h k=x at h1 h2 r|-
  obtain⟨q,rfl⟩:=Int.eq_ofNat_of_zero_le r.1;have hq:q<36:=by omega
  have hi:inC (num S 0) (num S 1) q=true:=by rw[<- is_inC hS hq];exact h1
  obtain⟨j,hj⟩:∃j,h - k=j+1:=⟨h - k - 1,by omega⟩;have hj2:h - k - 1=j:=by omega
  have hj3:h - (k+1)=j:=by omega
  rw[hj,rowR,Int.toNat_natCast,rowF_at lkM S _ _ hq,if_pos hi,td_eq (j:=j) (k:=k) (by omega) hh]at h2;rw[hj2,hj3,catR_at lkM S hLs b _ (h+1) (by omega),Int.toNat_natCast];generalize hR:rowR Try.prog lkM S L b (h:Int) j=R at h2|-
  have hge:∀m,m<36->0<=num R (m*1):=λm hm=>by rw[<- hR];exact ro_ge hL j m hm
  have h3:0<(lkL (stL S (tdP b k) q) R).2:=h2;rcases lk_gen R (stL S (tdP b k) q) (0,0) with ⟨h4,-⟩ | ⟨-,p,h4,h5⟩
  ·unfold lkL at h3;rw[h4]at h3;exact absurd h3 (by decide)
  ·have hm:=List.mem_of_find?_eq_some h4;have h6:lkL (stL S (tdP b k) q) R=(p.1,vlL R p):=h5;rw[h6]at h3|-
   dsimp only at h3|-
   have hrg:=stL_range h0 hq hi (tdP b k) p hm;obtain⟨m,hm1⟩:=Int.eq_ofNat_of_zero_le hrg.1;have hm36:m<36:=by omega
   refine⟨?_,?_⟩
   ·rw[stL_nx hS h0 hq hi]at hm;obtain⟨j',hj',rfl⟩:=List.mem_map.1 hm;unfold nxL nxU at hj';have:=(List.mem_filter.1 hj').2;unfold nxP at this;simp only[Bool.and_eq_true]at this;exact this.1
   ·have h7:=hge m hm36;rw[hm1,Int.toNat_natCast];rcases Int.lt_or_eq_of_le h7 with h8|h8
    ·exact h8
    ·exfalso;unfold vlL laterOf at h3;rw[hm1,Int.toNat_natCast,<- h8,Int.mul_zero]at h3;exact absurd h3 (by decide)
end
end
end Go.Proofs.Ytnhilgpdgicgfaa
