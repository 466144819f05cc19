/- The steps of the program are those that are asked for. -/
import Derived.Test.YtnhilgpdgicgfaaProg
import Derived.Test.YtnhilgpdgicgfaaLpE
namespace Go.Proofs.Ytnhilgpdgicgfaa
open Go.ChangeShapes Go.WideShapes Go.ChangeAt Go.RowKit Ve Vc
set_option linter.unusedVariables false
set_option linter.unusedSimpArgs false
set_option maxRecDepth 100000
noncomputable section
variable {mn:Md}
theorem dry_land{S:Array Value}(hS:WT Try.prog 37 S){k:Nat}(hk:k<36):spec_l01Dry_v0 (k:Int) S=impl_isLand_v0 S (k:Int):=(land_dry hS hk).symm
section
variable {S:Array Value} {k:Nat}
theorem gw1:gw S k 1=if 6<=k then (k:Int) - 6 else -1:=by unfold gw;by_cases c:6<=k<;>simp[c]
theorem gw2:gw S k 2=if ((k % 6:Nat):Int)+1<num S 0 then (k:Int)+1 else -1:=by
 unfold gw;by_cases c:((k % 6:Nat):Int)+1<num S 0
 ·rw[decide_eq_true c,if_pos c];rfl
 ·rw[decide_eq_false c,if_neg c];rfl
theorem gw3:gw S k 3=if ((k / 6:Nat):Int)+1<num S 1 then (k:Int)+6 else -1:=by
 unfold gw;by_cases c:((k / 6:Nat):Int)+1<num S 1
 ·rw[decide_eq_true c,if_pos c];rfl
 ·rw[decide_eq_false c,if_neg c];rfl
theorem gw4:gw S k 4=if 1<=k % 6 then (k:Int) - 1 else -1:=by unfold gw;by_cases c:1<=k % 6<;>simp[c]
theorem gw_five(S:Array Value)(k:Nat):gw S k 0=(k:Int)/\(gw S k 1=(k:Int) - 6/\6<=k\/gw S k 1=-1/\k<6)/\(gw S k 2=(k:Int)+1/\((k % 6:Nat):Int)+1<num S 0\/gw S k 2=-1/\¬((k % 6:Nat):Int)+1<num S 0)/\(gw S k 3=(k:Int)+6/\((k / 6:Nat):Int)+1<num S 1\/gw S k 3=-1/\¬((k / 6:Nat):Int)+1<num S 1)/\(gw S k 4=(k:Int) - 1/\1<=k % 6\/gw S k 4=-1/\k % 6=0):=by
 refine⟨rfl,?_,?_,?_,?_⟩
 ·rw[gw1];split
  ·exact .inl ⟨rfl,by assumption⟩
  ·exact .inr ⟨rfl,by omega⟩
 ·rw[gw2];split
  ·exact .inl ⟨rfl,by assumption⟩
  ·exact .inr ⟨rfl,by assumption⟩
 ·rw[gw3];split
  ·exact .inl ⟨rfl,by assumption⟩
  ·exact .inr ⟨rfl,by assumption⟩
 ·rw[gw4];split
  ·exact .inl ⟨rfl,by assumption⟩
  ·exact .inr ⟨rfl,by omega⟩
end
noncomputable def chainX(S:Array Value)(t:Int)(k:Nat)(to:Int):Int:=
 bif (gw S k 0==to) then chW S t (k:Int) 0 else bif (gw S k 1==to) then chW S t (k:Int) 1 else bif (gw S k 2==to) then chW S t (k:Int) 2 else bif (gw S k 3==to) then chW S t (k:Int) 3 else bif (gw S k 4==to) then chW S t (k:Int) 4 else 0
theorem stepX_wet{S:Array Value}(h0:1<=num S 0/\num S 0<=6/\1<=num S 1/\num S 1<=6){k:Nat}(hk:k<36)(hi:inC (num S 0) (num S 1) k=true)(hd:spec_l01Dry_v0 (k:Int) S=false)(t to:Int):stepX S (k:Int) to t=chainX S t k to:=by
 have g:=λw hw=>goes_nice h0 hk hi w hw
 unfold stepX chainX;rw[hd,cond_false,<- g 0 (by omega),<- g 1 (by omega),<- g 2 (by omega),<- g 3 (by omega),<- g 4 (by omega)];rfl
theorem stepX_dry{S:Array Value}{k:Nat}(hd:spec_l01Dry_v0 (k:Int) S=true)(t to:Int):stepX S (k:Int) to t=bif ((k:Int)==to) then 12 else 0:=by unfold stepX;rw[hd,cond_true]
theorem chain_at{S:Array Value}{k:Nat}(hk:k<36)(t:Int){w:Nat}(hw:w<5)(hn:gw S k w ≠ -1):chainX S t k (gw S k w)=chW S t (k:Int) w:=by
 obtain⟨e0,e1,e2,e3,e4⟩:=gw_five S k;unfold chainX;have ne:∀a b:Int,a≠b->(a==b)=false:=λa b h=>by simpa using h
 match w,hw with|0,_=>rw[beq_self_eq_true];rfl|1,_=>rw[ne (gw S k 0) (gw S k 1) (by omega),beq_self_eq_true];rfl|2,_=>rw[ne (gw S k 0) (gw S k 2) (by omega),ne (gw S k 1) (gw S k 2) (by omega),beq_self_eq_true];rfl|3,_=>rw[ne (gw S k 0) (gw S k 3) (by omega),ne (gw S k 1) (gw S k 3) (by omega),ne (gw S k 2) (gw S k 3) (by omega),beq_self_eq_true];rfl|4,_=>rw[ne (gw S k 0) (gw S k 4) (by omega),ne (gw S k 1) (gw S k 4) (by omega),ne (gw S k 2) (gw S k 4) (by omega),ne (gw S k 3) (gw S k 4) (by omega),beq_self_eq_true];rfl
theorem chain_none{S:Array Value}{k:Nat}{to:Int}(t:Int)(h:∀w,w<5->gw S k w≠to):chainX S t k to=0:=by
 unfold chainX;have ne:∀a b:Int,a≠b->(a==b)=false:=λa b h=>by simpa using h
 rw[ne _ _ (h 0 (by omega)),ne _ _ (h 1 (by omega)),ne _ _ (h 2 (by omega)),ne _ _ (h 3 (by omega)),ne _ _ (h 4 (by omega))];rfl
theorem chain_pos{S:Array Value}{k:Nat}{to t:Int}(h:chainX S t k to > 0):∃w,w<5/\gw S k w=to:=by
 refine Classical.byContradiction λhn=> ?_
 rw[chain_none t (λw hw e=>hn ⟨w,hw,e⟩)]at h;omega
noncomputable def nearB(k j:Nat):Bool:=decide (j+6=k)||decide (j+1=k)||decide (j=k)||decide (j=k+1)||decide (j=k+6)
noncomputable def cpL(k:Nat):Nat->List Nat
 |1=>if 6<=k then [k - 6] else []
 |4=>if 1<=k then [k - 1] else []
 |2=>if k+1<36 then [k+1] else []
 |3=>if k+6<36 then [k+6] else []
 |_=>[k]
theorem cand_eq:∀k,k<36->(List.range 36).filter (nearB k)=cpL k 1++cpL k 4++cpL k 0++cpL k 2++cpL k 3:=by decide +kernel
theorem is_gw {S : Array Value} (hS : WT Try.prog 37 S) (h0 : 1 ≤ num S 0 ∧ num S 0 ≤ 6 ∧ 1 ≤ num S 1 ∧ num S 1 ≤ 6) {k : Nat} (hk : k < 36) (hi : inC (num S 0) (num S 1) k = true) {w : Nat} (hw : w < 5) {j : Nat} (hj : gw S k w = (j : Int)) : spec_l01Is_v0 (j : Int) S = true := by
  have hr:=gw_range h0 hk hi w hw (by omega);rw[is_inC hS (by omega)];obtain⟨hx,hy⟩:=inC_lt hi;obtain⟨e0,e1,e2,e3,e4⟩:=gw_five S k;unfold inC;rw[Bool.and_eq_true];have:((j % 6:Nat):Int)<num S 0/\((j / 6:Nat):Int)<num S 1:=by
    match w,hw with
    | 0, _ => have : j = k := by omega
              subst this; exact⟨hx,hy⟩
    | 1, _ => have : j = k - 6 := by omega
              constructor<;>omega
    | 2, _ => have : j = k + 1 := by omega
              constructor<;>omega
    | 3, _ => have : j = k + 6 := by omega
              constructor<;>omega
    | 4, _ => have : j = k - 1 := by omega
              constructor<;>omega
  exact⟨decide_eq_true this.1,decide_eq_true this.2⟩
theorem piece{S:Array Value}(hS:WT Try.prog 37 S)(h0:1<=num S 0/\num S 0<=6/\1<=num S 1/\num S 1<=6){k:Nat}(hk:k<36)(hi:inC (num S 0) (num S 1) k=true)(hd:spec_l01Dry_v0 (k:Int) S=false)(t:Int){w:Nat}(hw:w<5):
  ((cpL k w).filter (nxP S (k:Int) t)).map (λj:Nat=>((j:Int),stepX S (k:Int) (j:Int) t))=oneSt S t k w:=by
 have yes:∀j:Nat,gw S k w=(j:Int)->([j].filter (nxP S (k:Int) t)).map (λj:Nat=>((j:Int),stepX S (k:Int) (j:Int) t))=oneSt S t k w:=by
  intro j hj;have hn:gw S k w ≠ -1:=by omega
  have hs:stepX S (k:Int) (j:Int) t=chW S t (k:Int) w:=by rw[stepX_wet h0 hk hi hd,<- hj,chain_at hk t hw hn]
  have hp:nxP S (k:Int) t j=decide (chW S t (k:Int) w > 0):=by unfold nxP;rw[is_gw hS h0 hk hi hw hj,hs,Bool.true_and]
  unfold oneSt;rw[decide_eq_true hn,Bool.and_true];cases hc:decide (chW S t (k:Int) w > 0) with|false=>rw[hc]at hp;simp[List.filter,hp]|true=>rw[hc]at hp;simp[List.filter,hp,hs,hj]
 have none':gw S k w=-1->oneSt S t k w=[]:=by intro hn;unfold oneSt;rw[hn,show decide ((-1:Int) ≠ -1)=false from rfl,Bool.and_false];rfl
 have no:∀j:Nat,gw S k w=-1->(∀w,w<5->gw S k w≠(j:Int))->([j].filter (nxP S (k:Int) t)).map (λj:Nat=>((j:Int),stepX S (k:Int) (j:Int) t))=oneSt S t k w:=by
  intro j hn hj;have hp:nxP S (k:Int) t j=false:=by unfold nxP;rw[stepX_wet h0 hk hi hd,chain_none t hj,Bool.and_eq_false_iff];exact .inr rfl
  rw[none' hn];simp[List.filter,hp]
 obtain⟨hx,hy⟩:=inC_lt hi;obtain⟨e0,e1,e2,e3,e4⟩:=gw_five S k;have all5:∀{c:Int},gw S k 0≠c->gw S k 1≠c->gw S k 2≠c->gw S k 3≠c->gw S k 4≠c->∀w,w<5->gw S k w≠c:=by
  intro c a0 a1 a2 a3 a4 w hw
  match w,hw with|0,_=>exact a0|1,_=>exact a1|2,_=>exact a2|3,_=>exact a3|4,_=>exact a4
 match w,hw with
 |0,_=>exact yes k rfl
 | 1,_=>
  by_cases c:6<=k
  ·rw[show cpL k 1=[k - 6] from if_pos c];exact yes (k - 6) (by omega)
  ·rw[show cpL k 1=[] from if_neg c,none' (by omega)];rfl
 | 2,_=>
  by_cases c:k+1<36
  ·rw[show cpL k 2=[k+1] from if_pos c]
   by_cases c2:((k % 6:Nat):Int)+1<num S 0
   ·exact yes (k+1) (by omega)
   ·exact no (k+1) (by omega) (all5 (by omega) (by omega) (by omega) (by omega) (by omega))
  ·rw[show cpL k 2=[] from if_neg c,none' (by omega)];rfl
 | 3,_=>
  by_cases c:k+6<36
  ·rw[show cpL k 3=[k+6] from if_pos c]
   by_cases c2:((k / 6:Nat):Int)+1<num S 1
   ·exact yes (k+6) (by omega)
   ·exact no (k+6) (by omega) (all5 (by omega) (by omega) (by omega) (by omega) (by omega))
  ·rw[show cpL k 3=[] from if_neg c,none' (by omega)];rfl
 | 4,_=>
  by_cases c:1<=k
  ·rw[show cpL k 4=[k - 1] from if_pos c]
   by_cases c2:1<=k % 6
   ·exact yes (k - 1) (by omega)
   ·exact no (k - 1) (by omega) (all5 (by omega) (by omega) (by omega) (by omega) (by omega))
  ·rw[show cpL k 4=[] from if_neg c,none' (by omega)];rfl
theorem stL_nx{S:Array Value}(hS:WT Try.prog 37 S)(h0:1<=num S 0/\num S 0<=6/\1<=num S 1/\num S 1<=6){k:Nat}(hk:k<36)(hi:inC (num S 0) (num S 1) k=true)(t:Int):stL S t k=(nxL S (k:Int) t).map λj:Nat=>((j:Int),stepX S (k:Int) (j:Int) t):=by
 have near:∀j,j<36->nxP S (k:Int) t j=true->nearB k j=true:=by
  intro j hj hp;unfold nxP at hp;rw[Bool.and_eq_true]at hp;have hp:=of_decide_eq_true hp.2;obtain⟨e0,e1,e2,e3,e4⟩:=gw_five S k;have:j+6=k\/j+1=k\/j=k\/j=k+1\/j=k+6:=by
   cases hd:spec_l01Dry_v0 (k:Int) S with
   |true=>rw[stepX_dry hd]at hp;cases hc:((k:Int)==(j:Int)) with|false=>rw[hc]at hp;simp at hp|true=>have:=eq_of_beq hc;omega
   |false=>
    rw[stepX_wet h0 hk hi hd]at hp;obtain⟨w,hw,hg⟩:=chain_pos hp
    match w,hw with|0,_=>omega|1,_=>omega|2,_=>omega|3,_=>omega|4,_=>omega
  unfold nearB;simp only[Bool.or_eq_true,decide_eq_true_eq];omega
 have e:nxL S (k:Int) t=(cpL k 1++cpL k 4++cpL k 0++cpL k 2++cpL k 3).filter (nxP S (k:Int) t):=by
  rw[<- cand_eq k hk,List.filter_filter];unfold nxL nxU;refine List.filter_congr λj hj=> ?_
  cases hp:nxP S (k:Int) t j with|false=>rfl|true=>rw[near j (List.mem_range.1 hj) hp];rfl
 rw[e];simp only[List.filter_append,List.map_append];unfold stL;rw[<- dry_land hS hk];cases hd:spec_l01Dry_v0 (k:Int) S with
 |false=>rw[cond_false,piece hS h0 hk hi hd t (by omega),piece hS h0 hk hi hd t (by omega),piece hS h0 hk hi hd t (by omega),piece hS h0 hk hi hd t (by omega),piece hS h0 hk hi hd t (by omega)]
 | true=>
  have self:nxP S (k:Int) t k=true:=by unfold nxP;rw[is_inC hS hk,hi,stepX_dry hd,beq_self_eq_true];rfl
  have other:∀j,j≠k->nxP S (k:Int) t j=false:=by intro j hj;unfold nxP;rw[stepX_dry hd,show ((k:Int)==(j:Int))=false by simp;omega,Bool.and_eq_false_iff];exact .inr rfl
  have p1:(cpL k 1).filter (nxP S (k:Int) t)=[]:=by
   by_cases c:6<=k
   ·rw[show cpL k 1=[k - 6] from if_pos c];simp[other (k - 6) (by omega)]
   ·rw[show cpL k 1=[] from if_neg c];rfl
  have p4:(cpL k 4).filter (nxP S (k:Int) t)=[]:=by
   by_cases c:1<=k
   ·rw[show cpL k 4=[k - 1] from if_pos c];simp[other (k - 1) (by omega)]
   ·rw[show cpL k 4=[] from if_neg c];rfl
  have p2:(cpL k 2).filter (nxP S (k:Int) t)=[]:=by
   by_cases c:k+1<36
   ·rw[show cpL k 2=[k+1] from if_pos c];simp[other (k+1) (by omega)]
   ·rw[show cpL k 2=[] from if_neg c];rfl
  have p3:(cpL k 3).filter (nxP S (k:Int) t)=[]:=by
   by_cases c:k+6<36
   ·rw[show cpL k 3=[k+6] from if_pos c];simp[other (k+6) (by omega)]
   ·rw[show cpL k 3=[] from if_neg c];rfl
  rw[p1,p4,p2,p3,show cpL k 0=[k] from rfl];simp[List.filter,self,stepX_dry hd]
end
end Go.Proofs.Ytnhilgpdgicgfaa
