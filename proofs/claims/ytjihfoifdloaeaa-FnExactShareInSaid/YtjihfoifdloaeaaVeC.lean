/- Code: what is known behind it. -/
import Derived.LoopNIn
import Derived.RangeFuncLeaves
import Derived.RangeFuncRecord
import Derived.Test.YtjihfoifdloaeaaVeB
namespace Go.Proofs.Ytjihfoifdloaeaa.Ve
open Go.RowKit
set_option linter.unusedVariables false

inductive Stp (S α : Type) where
  | more (s : S)
  | done (r : α)
/-- Rounds, at most so many. -/
def iterO {S α : Type} (f : S → Option (Stp S α)) : Nat → S → Option α
  | 0, _ => none
  | n + 1, s => match f s with
    | some (.more s') => iterO f n s'
    | some (.done r) => some r
    | none => none

inductive Plan where
  | one
  | two (p q : Plan)
  | loop (cs bs : List Nat) (p : Plan)

def anyNew : List Oper → Bool
  | [] => false
  | o :: r => (match o.op with | .alloc _ => true | .box _ _ => true | _ => false) || anyNew r

def veReg (P : Program) (Γ : Cons) (ops : Array Oper) (draw : Bool) {α : Type} (st : St) (K : St → Option α) : Option α :=
  bif draw then
    (bif edgesOk ops.toList 0 then veDraw P Γ ops.toList (befs ops.toList []) st.h.length { st with h := st.h ++ List.replicate ops.size .no } K ops.toList 0 [] else none)
  else
    (bif anyNew ops.toList then veOps P Γ ops st.h.length ops.toList 0 { st with h := st.h ++ List.replicate ops.size .no } K
     else veOps P Γ ops st.h.length ops.toList 0 st K)

def writes : Code → List Nat
  | .region _ ops _ => wrL ops.toList
  | .seq x y => writes x ++ writes y
  | .cond _ x y => writes x ++ writes y
  | .block _ x => writes x
  | .loop x => writes x
  | _ => []

def elemN (i : Nat) : List Nat → Bool
  | [] => false
  | a :: l => Nat.beq i a || elemN i l
def forget (W : List Nat) : List SV → Nat → List SV
  | [], _ => []
  | v :: r, i => (bif elemN i W then .a .x else v) :: forget W r (i + 1)
def setMany {α : Type} : List α → List Nat → List α → List α
  | l, c :: cs, v :: vs => setMany (l.set c v) cs vs
  | l, _, _ => l
def head (W cs bs : List Nat) (st : St) (s : List SV × List VB) : St := { s := setMany (forget W st.s 0) cs s.1, h := setMany st.h bs s.2, d := bs }
def refLt (m : Nat) : SA → Bool
  | .p n _ _ => Nat.blt n m
  | .w n => Nat.blt n m
  | .c _ ns => ns.all (Nat.blt · m)
  | _ => true
def refLtV (m : Nat) : SV → Bool
  | .a y => refLt m y
  | .t l => l.all (refLt m)
def refLtB (m : Nat) : VB → Bool
  | .one y _ => refLt m y
  | _ => true
def getS (s : List SV) : List Nat → List SV
  | [] => []
  | c :: cs => s.getD c (.a .x) :: getS s cs
def getH (h : List VB) : List Nat → List VB
  | [] => []
  | c :: cs => h.getD c .no :: getH h cs
def dirtyOk (m : Nat) (bs : List Nat) : List Nat → Bool
  | [] => true
  | n :: r => (elemN n bs || !Nat.blt n m) && dirtyOk m bs r
def tail (m : Nat) (cs bs : List Nat) (st : St) : Option (List SV × List VB) :=
  bif dirtyOk m bs st.d && ((getS st.s cs).all (refLtV m) && (getH st.h bs).all (refLtB m)) then some (getS st.s cs, getH st.h bs) else none

def moreStp {S X : Type} : Option S → Option (Stp S X)
  | some s => some (.more s)
  | none => none
def doneStp {S : Type} (e : Exit) : Option S → Option (Stp S (Exit × S))
  | some s => some (.done (e, s))
  | none => none
abbrev LS := List SV × List VB
/-- Behind a round. -/
def kBody (m : Nat) (cs bs : List Nat) (e : Exit) (st' : St) : Option (Stp LS (Exit × LS)) := match e with
  | .normal => moreStp (tail m cs bs st')
  | .panic _ => none
  | .outgrown => none
  | e => doneStp e (tail m cs bs st')
def kSeq {α : Type} (f : St → (Exit → St → Option α) → Option α) (K : Exit → St → Option α) (e : Exit) (st' : St) : Option α := match e with
  | .normal => f st' K
  | e => K e st'
def kBlock {α : Type} (id : Nat) (K : Exit → St → Option α) (e : Exit) (st' : St) : Option α := match e with
  | .exit id' => bif Nat.beq id' id then K .normal st' else K (.exit id') st'
  | e => K e st'
def left (W cs bs : List Nat) (st : St) (s : LS) : St := { s := setMany (forget W st.s 0) cs s.1, h := setMany st.h bs s.2, d := bs ++ st.d }
def bindX {α : Type} (o : Option (Exit × LS)) (K : Exit → LS → Option α) : Option α := match o with
  | some r => K r.1 r.2
  | none => none

def veC (P : Program) (Γ : Cons) (N : Nat) : Code → Plan → (α : Type) → St → (Exit → St → Option α) → Option α
  | .skip, _, _, st, K => K .normal st
  | .region _ ops draw, _, _, st, K => veReg P Γ ops draw st (K .normal)
  | .seq x y, .two p q, α, st, K => veC P Γ N x p α st (kSeq (veC P Γ N y q α) K)
  | .cond c x y, .two p q, α, st, K => (match asA (evO st.s c) with
    | .b t => bif t then veC P Γ N x p α st K else veC P Γ N y q α st K
    | _ => none)
  | .block id x, p, α, st, K => veC P Γ N x p α st (kBlock id K)
  | .loop x, .loop cs bs p, α, st, K =>
    bif cs.all (elemN · (writes x)) then
      bindX (iterO (fun s => veC P Γ N x p (Stp LS (Exit × LS)) (head (writes x) cs bs st s) (kBody st.h.length cs bs)) N (getS st.s cs, getH st.h bs)) fun e s => K e (left (writes x) cs bs st s)
    else none
  | .exit id, _, _, st, K => K (.exit id) st
  | .ret, _, _, st, K => K .ret st
  | _, _, _, _, _ => none
/-- A round. -/
def stepV (P : Program) (Γ : Cons) (N : Nat) (x : Code) (p : Plan) (cs bs : List Nat) (st : St) (s : LS) : Option (Stp LS (Exit × LS)) :=
  veC P Γ N x p (Stp LS (Exit × LS)) (head (writes x) cs bs st s) (kBody st.h.length cs bs)

/-! Lists. -/
theorem elemN_mem {i : Nat} : ∀ {l : List Nat}, elemN i l = true ↔ i ∈ l
  | [] => by simp [elemN]
  | a :: l => by
    simp only [elemN, Bool.or_eq_true, List.mem_cons, elemN_mem (l := l)]
    constructor
    · rintro (h | h)
      · exact .inl (Nat.eq_of_beq_eq_true h)
      · exact .inr h
    · rintro (rfl | h)
      · exact .inl (Nat.beq_refl _)
      · exact .inr h
theorem forget_get (W : List Nat) : ∀ (l : List SV) (q i : Nat), (forget W l q)[i]? = (l[i]?).map fun v => bif elemN (q + i) W then .a .x else v
  | [], q, i => by simp [forget]
  | v :: r, q, 0 => by simp [forget]
  | v :: r, q, i + 1 => by
    simp only [forget, List.getElem?_cons_succ]
    rw [forget_get W r (q + 1) i, show q + 1 + i = q + (i + 1) by omega]
theorem forget_len (W : List Nat) : ∀ (l : List SV) (q : Nat), (forget W l q).length = l.length
  | [], q => rfl
  | v :: r, q => by simp [forget, forget_len W r]
theorem setMany_len {α : Type} : ∀ (l : List α) (cs : List Nat) (vs : List α), (setMany l cs vs).length = l.length
  | l, c :: cs, v :: vs => by rw [setMany, setMany_len]; simp
  | l, [], _ => by cases ‹List α› <;> rfl
  | l, _ :: _, [] => rfl
theorem setMany_get {α : Type} {g : Nat → α} : ∀ (cs : List Nat) (l : List α) (vs : List α) (i : Nat), vs = cs.map g → (setMany l cs vs)[i]? = if i ∈ cs ∧ i < l.length then some (g i) else l[i]?
  | [], l, vs, i, h => by cases vs <;> simp [setMany]
  | c :: cs, l, vs, i, h => by
    subst h
    simp only [List.map_cons, setMany]
    rw [setMany_get cs _ _ i rfl]
    simp only [List.length_set, List.mem_cons]
    by_cases hlt : i < l.length
    · by_cases hc : i ∈ cs
      · rw [if_pos ⟨hc, hlt⟩, if_pos ⟨.inr hc, hlt⟩]
      · rw [if_neg (fun h => hc h.1)]
        by_cases hic : i = c
        · subst hic
          rw [if_pos ⟨.inl rfl, hlt⟩, List.getElem?_set_self hlt]
        · rw [if_neg (by rintro ⟨h | h, _⟩; exact hic h; exact hc h), List.getElem?_set_ne (by omega)]
    · rw [if_neg (fun h => hlt h.2), if_neg (fun h => hlt h.2)]
      rw [List.getElem?_eq_none (by simp; omega), List.getElem?_eq_none (by omega)]
theorem setMany_other {α : Type} {i : Nat} : ∀ (l : List α) (cs : List Nat) (vs : List α), i ∉ cs → (setMany l cs vs)[i]? = l[i]?
  | l, c :: cs, v :: vs, h => by
    rw [setMany, setMany_other _ cs vs fun hc => h (List.mem_cons_of_mem _ hc), List.getElem?_set_ne (by rintro rfl; exact h (List.mem_cons_self ..))]
  | l, [], vs, _ => by cases vs <;> rfl
  | l, _ :: _, [], _ => rfl
theorem getS_map (s : List SV) : ∀ (cs : List Nat), getS s cs = cs.map fun c => s.getD c (.a .x)
  | [] => rfl
  | c :: cs => by simp [getS, getS_map s cs]
theorem getH_map (h : List VB) : ∀ (cs : List Nat), getH h cs = cs.map fun c => h.getD c .no
  | [] => rfl
  | c :: cs => by simp [getH, getH_map h cs]
theorem dirtyOk_mem {m : Nat} {bs : List Nat} : ∀ {d : List Nat}, dirtyOk m bs d = true → ∀ n ∈ d, n < m → n ∈ bs
  | [], _, n, hn, _ => by cases hn
  | a :: d, h, n, hn, hm => by
    simp only [dirtyOk, Bool.and_eq_true, Bool.or_eq_true, Bool.not_eq_true'] at h
    rcases List.mem_cons.1 hn with rfl | hn
    · rcases h.1 with h1 | h1
      · exact elemN_mem.1 h1
      · have h2 : Nat.blt n m = true := by simp [Nat.blt]; omega
        rw [h2] at h1; cases h1
    · exact dirtyOk_mem h.2 n hn hm

section
variable {P : Program} {Γ : Cons} {F : Fence} {n : Nat} {Q : Exit → Act → World → Prop} {W0 : World} {n0 : Nat} {D : List Nat} {ρ0 : Nat → Nat}

/-- More room for blocks. -/
theorem R.room {ρ : Nat → Nat} {st : St} {a : Act} {w : World} (hR : R P W0 n0 D ρ0 ρ st a w) (m : Nat) : R P W0 n0 D ρ0 ρ { st with h := st.h ++ List.replicate m .no } a w ∧ HLe st.h (st.h ++ List.replicate m .no) := by
  have old : ∀ {n : Nat} {b : VB}, st.h[n]? = some b → (st.h ++ List.replicate m .no)[n]? = some b := fun {n b} h => by
    rw [List.getElem?_append_left (List.getElem?_eq_some_iff.1 h).1]; exact h
  have back : ∀ {n : Nat} {b : VB}, (st.h ++ List.replicate m .no)[n]? = some b → st.h[n]? = some b ∨ b = .no := fun {n b} h => by
    by_cases hn : n < st.h.length
    · rw [List.getElem?_append_left hn] at h; exact .inl h
    · rw [List.getElem?_append_right (by omega), List.getElem?_replicate] at h
      split at h
      · cases h; exact .inr rfl
      · cases h
  have hl : HLe st.h (st.h ++ List.replicate m .no) := fun n => ⟨fun C t e => ⟨C, old e⟩, fun y t e => ⟨y, old e⟩⟩
  have pb : ∀ n, present (st.h ++ List.replicate m .no) n → present st.h n := fun n hp => by
    rcases hp with ⟨C, t, e⟩ | ⟨C, t, e⟩ <;> rcases back e with h | h <;> first | cases h | skip
    · exact .inl ⟨_, _, h⟩
    · exact .inr ⟨_, _, h⟩
  refine ⟨⟨hR.len, fun i v hv => (hR.slots i v hv).mono hl fun _ _ => rfl, ⟨fun n b hb => ?_, fun n q hp hq => hR.heap.inj n q (pb n hp) (pb q hq)⟩, hR.base, fun n hn hp => hR.fresh n hn (pb n hp), hR.kept, hR.defers, by simp; have := hR.bound; omega⟩, hl⟩
  rcases back hb with h | rfl
  · exact (hR.heap.is n b h).mono hl fun _ _ => rfl
  · trivial

theorem R.drew {ρ : Nat → Nat} {st : St} {a : Act} {w : World} (hR : R P W0 n0 D ρ0 ρ st a w) : R P W0 n0 D ρ0 ρ st a { w with drawn := w.drawn + 1 } :=
  ⟨hR.len, hR.slots, ⟨fun n b hb => by
    have := hR.heap.is n b hb
    cases b with
    | no => trivial
    | row C t => exact this
    | one y t => exact this, hR.heap.inj⟩, hR.base, hR.fresh, ⟨hR.kept.os, hR.kept.tape, hR.kept.output, hR.kept.size, hR.kept.block⟩, ⟨hR.defers.all, hR.defers.diff⟩, hR.bound⟩

theorem fold_ext {base : Nat} {B : Nat → Bool} (W : List Nat) {b : Nat} (hb : b ≤ base) : ∀ (l : List Entry) (q : Nat) (st : St), (∀ (j : Nat) (x : Entry), l[j]? = some x → ∀ d, x.1 = some d → d ∈ W) →
    (∀ (i : Nat), i ∉ W → (foldTr base B l q st).s[i]? = st.s[i]?) ∧ (∀ (m : Nat), m < b → m ∉ (foldTr base B l q st).d → (foldTr base B l q st).h[m]? = st.h[m]?) ∧ (∀ m, m ∈ st.d → m ∈ (foldTr base B l q st).d)
  | [], q, st, _ => ⟨fun _ _ => rfl, fun _ _ _ => rfl, fun _ h => h⟩
  | (d, v, e) :: r, q, st, hW => by
    simp only [foldTr]
    obtain ⟨h1, h2, h3⟩ := fold_ext (base := base) (B := B) W hb r (q + 1) (bif B q then applyE st (base + q) d v e else st) fun j x hj => hW (j + 1) x (by simpa using hj)
    cases hB : B q with
    | false => rw [hB] at h1 h2 h3; exact ⟨h1, h2, h3⟩
    | true =>
      rw [hB] at h1 h2 h3
      simp only [cond_true] at h1 h2 h3 ⊢
      have hd : ∀ (i : Nat) (u : SV), i ∉ W → (putS st.s d u)[i]? = st.s[i]? := fun i u hi => by
        cases hdd : d with
        | none => rfl
        | some dd => exact List.getElem?_set_ne fun e' => hi (by rw [← e']; exact hW 0 (d, v, e) rfl dd hdd)
      refine ⟨fun i hi => (h1 i hi).trans ?_, fun m hm hmd => (h2 m hm hmd).trans ?_, fun m hm => h3 m ?_⟩
      · cases e <;> exact hd i _ hi
      · cases e with
        | none => rfl
        | new bb => exact List.getElem?_set_ne (by omega)
        | set k bb =>
          refine List.getElem?_set_ne fun e' => hmd (h3 m ?_)
          subst e'
          simp [applyE]
      · cases e with
        | none => exact hm
        | new bb => exact hm
        | set k bb => exact List.mem_cons_of_mem _ hm

theorem mem_wrL {l : List Oper} {j : Nat} {o : Oper} (ho : l[j]? = some o) {d : Nat} (hd : o.dst = some d) : d ∈ wrL l := by
  induction l generalizing j with
  | nil => simp at ho
  | cons x r ih =>
    cases j with
    | zero =>
      simp only [List.getElem?_cons_zero, Option.some.injEq] at ho
      subst ho
      exact mem_wrL_head d (by rw [hd]; exact List.mem_singleton.2 rfl)
    | succ j => exact mem_wrL_tail d (ih (by simpa using ho))
end
end Go.Proofs.Ytjihfoifdloaeaa.Ve
/- Code and functions: what the symbolic run finds is what the model does. -/
namespace Go.Proofs.Ytjihfoifdloaeaa.Ve
open Go.RowKit
set_option linter.unusedVariables false

section
variable {P : Program} {Γ : Cons} {F : Fence} {n N : Nat} {Q : Exit → Act → World → Prop} {W0 : World} {n0 : Nat} {D : List Nat} {ρ0 : Nat → Nat}

theorem veReg_sound (hF : FenceOk P F) (hm : P.follows .mixedOrders = true) (hΓ : ConsOk P Γ) {id : Nat} {ops : Array Oper} {draw : Bool} {α : Type} {K : St → Option α} {r : α} {ρ : Nat → Nat} {st : St} {a : Act} {w : World}
    (hR : R P W0 n0 D ρ0 ρ st a w) (hr : veReg P Γ ops draw st K = some r)
    (hQ : ∀ ρ' st' a' w', K st' = some r → R P W0 n0 D ρ0 ρ' st' a' w' → Ext (wrL ops.toList) st.h.length ρ ρ' st st' → Q .normal a' w') : (Code.region id ops draw).wpIn F n P Q a w := by
  have roomExt : ∀ (W : List Nat) (ρ : Nat → Nat), Ext W st.h.length ρ ρ st { st with h := st.h ++ List.replicate ops.size .no } := fun W ρ =>
    ⟨fun _ _ => rfl, rfl, fun m hm _ => by rw [List.getElem?_append_left hm], fun _ h => h, by simp, (hR.room ops.size).2, fun _ _ => rfl⟩
  unfold veReg at hr
  cases draw with
  | false =>
    simp only [cond_false] at hr
    refine wpIn_region ?_
    rw [List.range_eq_range', ← Array.length_toList]
    cases hnew : anyNew ops.toList with
    | true =>
      rw [hnew] at hr
      simp only [cond_true] at hr
      exact veOps_sound hF hΓ hR.bound ops.toList 0 rfl (hR.room ops.size).1 hr fun ρ' st' a' w' hk hR' he => hQ ρ' st' a' w' hk hR' ((roomExt _ _).trans he)
    | false =>
      rw [hnew] at hr
      simp only [cond_false] at hr
      exact veOps_sound hF hΓ hR.bound ops.toList 0 rfl hR hr fun ρ' st' a' w' hk hR' he => hQ ρ' st' a' w' hk hR' he
  | true =>
    simp only [cond_true] at hr
    cases hE : edgesOk ops.toList 0 with
    | false => rw [hE] at hr; cases hr
    | true =>
      rw [hE] at hr
      simp only [cond_true] at hr
      obtain ⟨tr, hlen, hX, hT, hk⟩ := veDraw_tr ops.toList 0 [] rfl (Nat.zero_le _) rfl (fun i o x _ hx => by simp at hx) hr
      refine wpIn_region_any hm ?_
      have hR1 := (hR.room ops.size).1.drew
      have hno : ∀ i, i < ops.size → (st.h ++ List.replicate ops.size VB.no)[st.h.length + i]? = some .no := fun i hi => by
        rw [List.getElem?_append_right (by omega), List.getElem?_replicate, if_pos (by omega)]
      have hl0 : ∀ k, lst (Array.replicate ops.size false) k = false := fun k => by
        unfold lst
        rw [Array.getD_eq_getD_getElem?, Array.getElem?_replicate]
        split <;> rfl
      have hst : foldTr st.h.length (lst (Array.replicate ops.size false)) tr 0 { st with h := st.h ++ List.replicate ops.size .no } = { st with h := st.h ++ List.replicate ops.size .no } :=
        foldTr_none _ tr 0 _ fun k _ => hl0 k
      refine draw_sound hF hΓ hR.bound (st0 := { st with h := st.h ++ List.replicate ops.size .no }) hno hE hlen hX hT (ρs := ρ) (fun ρ' a' w' hR' hhl hren => ?_) ops.size _ ρ a _ (by simp) (by simp [unl]) (fun i k h => by rw [hl0] at h; cases h) (by rw [hst]; exact hR1) (by rw [hst]; exact HLe.refl _) (fun _ _ => rfl)
      refine hQ ρ' _ a' w' hk hR' ?_
      obtain ⟨h1, h2, h3⟩ := fold_ext (base := st.h.length) (B := fun _ => true) (wrL ops.toList) (Nat.le_refl st.h.length) tr 0 { st with h := st.h ++ List.replicate ops.size .no } fun j x hj d hd => by
        have hjlt : j < ops.size := by have := (List.getElem?_eq_some_iff.1 hj).1; omega
        have := (hX j ops[j] x (Array.getElem?_eq_getElem hjlt) hj).1
        exact mem_wrL (l := ops.toList) (j := j) (o := ops[j]) (by simp [hjlt]) (by rw [← this]; exact hd)
      have hlens := foldTr_len st.h.length (fun _ => true) tr 0 { st with h := st.h ++ List.replicate ops.size .no }
      exact (roomExt (wrL ops.toList) ρ).trans ⟨h1, hlens.1, h2, h3, by rw [hlens.2]; exact Nat.le_refl _, hhl, hren⟩

/-- Less room: nothing of what is looked at lies behind. -/
theorem Is.cut {ρ : Nat → Nat} {h hs : List VB} {m : Nat} (hl : ∀ n, n < m → h[n]? = hs[n]?) {y : SA} {v : Value} (hi : Is P ρ hs y v) (hr : refLt m y = true) : Is P ρ h y v := by
  have pres : ∀ n, n < m → present hs n → present h n := fun n hn hp => by
    rcases hp with ⟨C, t, e⟩ | ⟨C, t, e⟩
    · exact .inl ⟨C, t, by rw [hl n hn]; exact e⟩
    · exact .inr ⟨C, t, by rw [hl n hn]; exact e⟩
  have lt : ∀ {n}, Nat.blt n m = true → n < m := fun {n} h => by simp [Nat.blt] at h; omega
  cases y with
  | i k n => exact hi
  | b t => exact hi
  | s t => exact hi
  | g D T => exact hi
  | v y => exact hi
  | u => exact hi
  | x => trivial
  | w n => exact ⟨hi.1, pres n (lt hr) hi.2⟩
  | p n o T =>
    obtain ⟨h1, h2, C, t, h3, h4⟩ := hi
    exact ⟨h1, h2, C, t, by rw [hl n (lt hr)]; exact h3, h4⟩
  | c f ns =>
    simp only [refLt, List.all_eq_true] at hr
    exact ⟨hi.1, fun n hn => pres n (lt (hr n hn)) (hi.2 n hn)⟩
theorem IsV.cut {ρ : Nat → Nat} {h hs : List VB} {m : Nat} (hl : ∀ n, n < m → h[n]? = hs[n]?) {y : SV} {v : Value} (hi : IsV P ρ hs y v) (hr : refLtV m y = true) : IsV P ρ h y v := by
  cases y with
  | a y => exact Is.cut hl hi hr
  | t l =>
    obtain ⟨vs, h1, h2, h3⟩ := hi
    simp only [refLtV, List.all_eq_true] at hr
    exact ⟨vs, h1, h2, fun i y v hy hv => (h3 i y v hy hv).cut hl (hr y (List.mem_of_getElem? hy))⟩
/-- What is known by a shorter memory looks at no block behind it. -/
theorem Is.lt {ρ : Nat → Nat} {h : List VB} {y : SA} {v : Value} (hi : Is P ρ h y v) : refLt h.length y = true := by
  have pl : ∀ n, present h n → Nat.blt n h.length = true := fun n hp => by
    have : n < h.length := by rcases hp with ⟨C, t, e⟩ | ⟨C, t, e⟩ <;> exact (List.getElem?_eq_some_iff.1 e).1
    simp [Nat.blt]; omega
  cases y with
  | w n => exact pl n hi.2
  | p n o T => obtain ⟨_, _, C, t, h3, _⟩ := hi; exact pl n (.inl ⟨C, t, h3⟩)
  | c f ns => simp only [refLt, List.all_eq_true]; exact fun n hn => pl n (hi.2 n hn)
  | _ => rfl
theorem AllIs.lt {ρ : Nat → Nat} {h : List VB} {l : List SA} {vs : List Value} (hi : AllIs P ρ h l vs) : l.all (refLt h.length) = true := by
  rw [List.all_eq_true]
  intro y hy
  obtain ⟨i, hi'⟩ := List.mem_iff_getElem?.1 hy
  have hlt : i < vs.length := by rw [← hi.1]; exact (List.getElem?_eq_some_iff.1 hi').1
  exact (hi.2 i y _ hi' (List.getElem?_eq_getElem hlt)).lt
theorem IsV.lt {ρ : Nat → Nat} {h : List VB} {y : SV} {v : Value} (hi : IsV P ρ h y v) : refLtV h.length y = true := by
  cases y with
  | a y => exact Is.lt hi
  | t l => obtain ⟨vs, _, h2⟩ := hi; exact h2.lt

theorem BIs.cut {ρ : Nat → Nat} {h hs : List VB} {m : Nat} (hl : ∀ n, n < m → h[n]? = hs[n]?) {w : World} {g : Nat} {b : VB} (hi : BIs P ρ hs w g b) (hr : refLtB m b = true) : BIs P ρ h w g b := by
  cases b with
  | no => trivial
  | row C t => exact hi
  | one y t => obtain ⟨v, h1, h2⟩ := hi; exact ⟨v, h1.cut hl hr, h2⟩

theorem BIs.lt {ρ : Nat → Nat} {h : List VB} {w : World} {g : Nat} {b : VB} (hi : BIs P ρ h w g b) : refLtB h.length b = true := by
  cases b with
  | one y t => obtain ⟨v, h1, _⟩ := hi; exact h1.lt
  | _ => rfl

theorem getS_mem {s : List SV} {cs : List Nat} {i : Nat} (hi : i ∈ cs) : s.getD i (.a .x) ∈ getS s cs := by rw [getS_map]; exact List.mem_map.2 ⟨i, hi, rfl⟩
theorem getH_mem {h : List VB} {cs : List Nat} {i : Nat} (hi : i ∈ cs) : h.getD i .no ∈ getH h cs := by rw [getH_map]; exact List.mem_map.2 ⟨i, hi, rfl⟩

/-- The next round's head. -/
theorem next_head {W cs bs : List Nat} {st st' : St} {s : List SV × List VB} {ρ ρ' : Nat → Nat} {a a' : Act} {w w' : World} (hR : R P W0 n0 D ρ0 ρ (head W cs bs st s) a w) (hR' : R P W0 n0 D ρ0 ρ' st' a' w')
    (hE : Ext W (head W cs bs st s).h.length ρ ρ' (head W cs bs st s) st') (hhl : HLe st.h (head W cs bs st s).h) (hd : dirtyOk st.h.length bs st'.d = true) (hrs : (getS st'.s cs).all (refLtV st.h.length) = true) (hrh : (getH st'.h bs).all (refLtB st.h.length) = true) :
    R P W0 n0 D ρ0 ρ' (head W cs bs st (getS st'.s cs, getH st'.h bs)) a' w' ∧ HLe st.h (head W cs bs st (getS st'.s cs, getH st'.h bs)).h := by
  have hlen : (head W cs bs st s).h.length = st.h.length := setMany_len _ _ _
  have hslen : (head W cs bs st s).s.length = st.s.length := by simp only [head]; rw [setMany_len, forget_len]
  have hh : ∀ k, k < st.h.length → (head W cs bs st (getS st'.s cs, getH st'.h bs)).h[k]? = st'.h[k]? := fun k hklt => by
    have hk' : k < st'.h.length := by have := hE.hlen; omega
    simp only [head]
    rw [setMany_get (g := fun c => st'.h.getD c .no) bs _ _ k (getH_map _ _)]
    by_cases hb : k ∈ bs
    · rw [if_pos ⟨hb, hklt⟩, List.getD_eq_getElem?_getD, List.getElem?_eq_getElem hk']; rfl
    · rw [if_neg (fun h => hb h.1)]
      have hnd : k ∉ st'.d := fun hkd => hb (dirtyOk_mem hd k hkd hklt)
      rw [hE.heap k (by omega) hnd]
      simp only [head]
      rw [setMany_other _ _ _ hb]
  have hlen2 : (head W cs bs st (getS st'.s cs, getH st'.h bs)).h.length = st.h.length := setMany_len _ _ _
  have inlen : ∀ {k : Nat} {b : VB}, (head W cs bs st (getS st'.s cs, getH st'.h bs)).h[k]? = some b → k < st.h.length := fun {k b} h => by rw [← hlen2]; exact (List.getElem?_eq_some_iff.1 h).1
  have pres : ∀ k, present (head W cs bs st (getS st'.s cs, getH st'.h bs)).h k → present st'.h k := fun k hp => by
    rcases hp with ⟨C, t, e⟩ | ⟨C, t, e⟩
    · exact .inl ⟨C, t, by rw [← hh k (inlen e)]; exact e⟩
    · exact .inr ⟨C, t, by rw [← hh k (inlen e)]; exact e⟩
  refine ⟨⟨?_, fun i v hv => ?_, ⟨fun k b hb => ?_, fun k q hp hq => hR'.heap.inj k q (pres k hp) (pres q hq)⟩, hR'.base, fun k hk hp => hR'.fresh k hk (pres k hp), ?_, hR'.defers, ?_⟩, ?_⟩
  · simp only [head]
    rw [setMany_len, forget_len, ← hR'.len, hE.len, hslen]
  · simp only [head] at hv
    rw [setMany_get (g := fun c => st'.s.getD c (.a .x)) cs _ _ i (getS_map _ _)] at hv
    have hilt : i < st.s.length := by
      by_cases h : i < st.s.length
      · exact h
      · exfalso
        rw [if_neg (fun hc => h (by have := hc.2; rwa [forget_len] at this)), List.getElem?_eq_none (by rw [forget_len]; omega)] at hv
        cases hv
    have hi' : i < st'.s.length := by rw [hE.len, hslen]; exact hilt
    by_cases hc : i ∈ cs
    · rw [if_pos ⟨hc, by rw [forget_len]; exact hilt⟩] at hv
      simp only [Option.some.injEq] at hv
      have hmem := getS_mem (s := st'.s) hc
      rw [hv] at hmem
      rw [List.all_eq_true] at hrs
      have hs' : st'.s[i]? = some v := by
        rw [List.getD_eq_getElem?_getD, List.getElem?_eq_getElem hi'] at hv
        rw [List.getElem?_eq_getElem hi']; exact congrArg some hv
      exact (hR'.slots i v hs').cut hh (hrs v hmem)
    · rw [if_neg (fun h => hc h.1), forget_get, Nat.zero_add] at hv
      cases hu : st.s[i]? with
      | none => rw [hu] at hv; cases hv
      | some u =>
        rw [hu] at hv
        simp only [Option.map_some, Option.some.injEq] at hv
        cases he : elemN i W with
        | true => rw [he] at hv; simp only [cond_true] at hv; rw [← hv]; trivial
        | false =>
          rw [he] at hv
          simp only [cond_false] at hv
          subst hv
          have hnW : i ∉ W := fun h => by rw [elemN_mem.2 h] at he; cases he
          have h1 : (head W cs bs st s).s[i]? = some u := by
            simp only [head]
            rw [setMany_other _ _ _ hc, forget_get, Nat.zero_add, hu, he]
            rfl
          have h2 := hE.slots i hnW
          rw [h1] at h2
          have h3 := (hR.slots i u h1).lt
          rw [hlen] at h3
          exact (hR'.slots i u h2).cut hh h3
  · have hk := inlen hb
    rw [hh k hk] at hb
    refine (hR'.heap.is k b hb).cut hh ?_
    by_cases hbs : k ∈ bs
    · have hmem := getH_mem (h := st'.h) hbs
      rw [List.all_eq_true] at hrh
      rw [List.getD_eq_getElem?_getD, hb] at hmem
      exact hrh b hmem
    · have hnd : k ∉ st'.d := fun hkd => hbs (dirtyOk_mem hd k hkd hk)
      rw [hE.heap k (by omega) hnd] at hb
      have := (hR.heap.is k b hb).lt
      rw [hlen] at this
      exact this
  · refine hR'.kept.mono fun k _ ⟨m, h1, h2, h3⟩ => ⟨m, h1, h2.imp (fun h2 => ?_) (fun h => h), h3⟩
    have := hR.bound
    exact dirtyOk_mem hd m h2 (by omega)
  · rw [hlen2]
    have := hR.bound
    omega
  · intro m
    have key := hhl.trans hE.hle
    refine ⟨fun C t e => ?_, fun y t e => ?_⟩
    · have hlt := (List.getElem?_eq_some_iff.1 e).1
      obtain ⟨C', e'⟩ := (key m).1 C t e
      exact ⟨C', by rw [hh m hlt]; exact e'⟩
    · have hlt := (List.getElem?_eq_some_iff.1 e).1
      obtain ⟨y', e'⟩ := (key m).2 y t e
      exact ⟨y', by rw [hh m hlt]; exact e'⟩

/-- A loop left. -/
theorem left_loop {W cs bs : List Nat} {st : St} {s : LS} {ρs ρ' : Nat → Nat} {a' : Act} {w' : World} (hcs : cs.all (elemN · W) = true) (hR : R P W0 n0 (st.d ++ D) ρ0 ρ' (head W cs bs st s) a' w')
    (hhl : HLe st.h (head W cs bs st s).h) (hren : ∀ k, present st.h k → ρ' k = ρs k) :
    R P W0 n0 D ρ0 ρ' (left W cs bs st s) a' w' ∧ Ext W st.h.length ρs ρ' st (left W cs bs st s) := by
  refine ⟨⟨hR.len, hR.slots, hR.heap, hR.base, hR.fresh, hR.kept.mono fun k _ ⟨m, h1, h2, h3⟩ => ⟨m, h1, ?_, h3⟩, hR.defers, hR.bound⟩, ⟨fun i hi => ?_, ?_, fun m hm hd => ?_, fun m hm => List.mem_append_right _ hm, ?_, hhl, hren⟩⟩
  · simp only [head, left, List.mem_append] at h2 ⊢
    rcases h2 with h2 | h2 | h2
    · exact .inl (.inl h2)
    · exact .inl (.inr h2)
    · exact .inr h2
  · have hc : i ∉ cs := fun hc => by
      rw [List.all_eq_true] at hcs
      exact hi (elemN_mem.1 (hcs i hc))
    simp only [left]
    rw [setMany_other _ _ _ hc, forget_get, Nat.zero_add]
    have : elemN i W = false := by
      cases h : elemN i W with
      | false => rfl
      | true => exact absurd (elemN_mem.1 h) hi
    rw [this]
    cases st.s[i]? <;> rfl
  · simp only [left]
    rw [setMany_len, forget_len]
  · simp only [left] at hd ⊢
    exact setMany_other _ _ _ fun hb => hd (List.mem_append_left _ hb)
  · simp only [left]
    rw [setMany_len]
    exact Nat.le_refl _

theorem loop_rounds {c : Code} {p : Plan} {cs bs : List Nat} (hcs : cs.all (elemN · (writes c)) = true) {α : Type} {K : Exit → St → Option α} {r : α} {st : St} {ρs : Nat → Nat}
    (body : ∀ (s : LS) (r' : Stp LS (Exit × LS)) (ρ : Nat → Nat) (a : Act) (w : World),
      veC P Γ N c p (Stp LS (Exit × LS)) (head (writes c) cs bs st s) (kBody st.h.length cs bs) = some r' → R P W0 n0 (st.d ++ D) ρ0 ρ (head (writes c) cs bs st s) a w →
      c.wpIn F n P (fun e a' w' => ∃ ρ' st', kBody st.h.length cs bs e st' = some r' ∧ R P W0 n0 (st.d ++ D) ρ0 ρ' st' a' w' ∧ Ext (writes c) (head (writes c) cs bs st s).h.length ρ ρ' (head (writes c) cs bs st s) st') a w) :
    ∀ (m : Nat) (s : LS) (ρ : Nat → Nat) (a : Act) (w : World),
      bindX (iterO (fun s => veC P Γ N c p (Stp LS (Exit × LS)) (head (writes c) cs bs st s) (kBody st.h.length cs bs)) m s) (fun e s => K e (left (writes c) cs bs st s)) = some r →
      R P W0 n0 (st.d ++ D) ρ0 ρ (head (writes c) cs bs st s) a w → HLe st.h (head (writes c) cs bs st s).h → (∀ k, present st.h k → ρ k = ρs k) →
      Code.roundsIn F n P c (fun e a' w' => ∃ ρ' st', K e st' = some r ∧ R P W0 n0 D ρ0 ρ' st' a' w' ∧ Ext (writes c) st.h.length ρs ρ' st st') m a w
  | 0, s, ρ, a, w, hr, _, _, _ => by simp [iterO, bindX] at hr
  | m + 1, s, ρ, a, w, hr, hR, hhl, hren => by
    rw [iterO] at hr
    rw [roundsIn_succ]
    have good : ∀ {st' : St} {s' : LS}, tail st.h.length cs bs st' = some s' → s' = (getS st'.s cs, getH st'.h bs) ∧ dirtyOk st.h.length bs st'.d = true ∧ (getS st'.s cs).all (refLtV st.h.length) = true ∧ (getH st'.h bs).all (refLtB st.h.length) = true := by
      intro st' s' h
      unfold tail at h
      cases hok : dirtyOk st.h.length bs st'.d && ((getS st'.s cs).all (refLtV st.h.length) && (getH st'.h bs).all (refLtB st.h.length)) with
      | false => rw [hok] at h; cases h
      | true =>
        rw [hok] at h
        simp only [cond_true, Option.some.injEq] at h
        simp only [Bool.and_eq_true] at hok
        exact ⟨h.symm, hok.1, hok.2.1, hok.2.2⟩
    have moreE : ∀ {o : Option LS} {s' : LS}, moreStp (X := Exit × LS) o = some (.more s') → o = some s' := fun {o s'} h => by cases o <;> cases h; rfl
    have moreN : ∀ {o : Option LS} {x : Exit × LS}, moreStp (X := Exit × LS) o = some (.done x) → False := fun {o x} h => by cases o <;> cases h
    have doneE : ∀ {o : Option LS} {e : Exit} {x : Exit × LS}, doneStp e o = some (.done x) → ∃ s', o = some s' ∧ x = (e, s') := fun {o e x} h => by cases o <;> cases h; exact ⟨_, rfl, rfl⟩
    have doneN : ∀ {o : Option LS} {e : Exit} {s' : LS}, doneStp e o = some (.more s') → False := fun {o e s'} h => by cases o <;> cases h
    cases hs' : veC P Γ N c p (Stp LS (Exit × LS)) (head (writes c) cs bs st s) (kBody st.h.length cs bs) with
    | none => rw [hs'] at hr; simp [bindX] at hr
    | some x =>
      rw [hs'] at hr
      cases x with
      | more s' =>
        dsimp only at hr
        refine wpIn_mono (body s _ ρ a w hs' hR) ?_
        rintro e a' w' ⟨ρ', st', hk, hR', hE⟩
        cases e with
        | normal =>
          obtain ⟨rfl, h1, h2, h3⟩ := good (moreE hk)
          obtain ⟨hR2, hhl2⟩ := next_head hR hR' hE hhl h1 h2 h3
          exact loop_rounds hcs body m _ ρ' a' w' hr hR2 hhl2 fun k hk' => (hE.ren k (hhl.present hk')).trans (hren k hk')
        | exit id => exact (doneN hk).elim
        | goto l => exact (doneN hk).elim
        | ret => exact (doneN hk).elim
        | panic ch => cases hk
        | outgrown => cases hk
      | done x =>
        simp only [bindX] at hr
        refine wpIn_mono (body s _ ρ a w hs' hR) ?_
        rintro e a' w' ⟨ρ', st', hk, hR', hE⟩
        have fin : doneStp e (tail st.h.length cs bs st') = some (.done x) → ∃ ρ' st', K e st' = some r ∧ R P W0 n0 D ρ0 ρ' st' a' w' ∧ Ext (writes c) st.h.length ρs ρ' st st' := fun h => by
          obtain ⟨s', hs, rfl⟩ := doneE h
          obtain ⟨rfl, h1, h2, h3⟩ := good hs
          obtain ⟨hR2, hhl2⟩ := next_head hR hR' hE hhl h1 h2 h3
          obtain ⟨h4, h5⟩ := left_loop hcs hR2 hhl2 fun k hk' => (hE.ren k (hhl.present hk')).trans (hren k hk')
          exact ⟨ρ', _, hr, h4, h5⟩
        cases e with
        | normal => exact (moreN hk).elim
        | exit id => exact fin hk
        | goto l => exact fin hk
        | ret => exact fin hk
        | panic ch => cases hk
        | outgrown => cases hk

theorem ext_seq {W1 W2 : List Nat} {ρ ρ1 ρ2 : Nat → Nat} {a b c : St} (h : Ext W1 a.h.length ρ ρ1 a b) (k : Ext W2 b.h.length ρ1 ρ2 b c) : Ext (W1 ++ W2) a.h.length ρ ρ2 a c :=
  (h.mono (fun _ h => List.mem_append_left _ h) (Nat.le_refl _)).trans (k.mono (fun _ h => List.mem_append_right _ h) h.hlen)

theorem first_head {W cs bs : List Nat} {st : St} {ρ : Nat → Nat} {a : Act} {w : World} (hR : R P W0 n0 D ρ0 ρ st a w) :
    R P W0 n0 (st.d ++ D) ρ0 ρ (head W cs bs st (getS st.s cs, getH st.h bs)) a w ∧ HLe st.h (head W cs bs st (getS st.s cs, getH st.h bs)).h := by
  have hh : (head W cs bs st (getS st.s cs, getH st.h bs)).h = st.h := by
    refine List.ext_getElem? fun i => ?_
    simp only [head]
    rw [setMany_get (g := fun c => st.h.getD c .no) bs _ _ i (getH_map _ _)]
    split
    · rename_i h
      rw [List.getD_eq_getElem?_getD, List.getElem?_eq_getElem h.2]; rfl
    · rfl
  refine ⟨⟨by simp only [head]; rw [setMany_len, forget_len]; exact hR.len, fun i v hv => ?_, by rw [hh]; exact hR.heap, hR.base, by rw [hh]; exact hR.fresh, hR.kept.mono fun k _ ⟨m, h1, h2, h3⟩ => ⟨m, h1, .inr (by simp only [List.mem_append]; exact h2), h3⟩, hR.defers, by rw [hh]; exact hR.bound⟩, by rw [hh]; exact HLe.refl _⟩
  rw [hh]
  simp only [head] at hv
  rw [setMany_get (g := fun c => st.s.getD c (.a .x)) cs _ _ i (getS_map _ _)] at hv
  split at hv
  · rename_i h
    rw [forget_len] at h
    simp only [Option.some.injEq] at hv
    rw [List.getD_eq_getElem?_getD, List.getElem?_eq_getElem h.2] at hv
    exact hR.slots i v (by rw [List.getElem?_eq_getElem h.2]; exact congrArg some hv)
  · rw [forget_get, Nat.zero_add] at hv
    cases hu : st.s[i]? with
    | none => rw [hu] at hv; cases hv
    | some u =>
      rw [hu] at hv
      simp only [Option.map_some, Option.some.injEq] at hv
      cases he : elemN i W with
      | true => rw [he] at hv; simp only [cond_true] at hv; rw [← hv]; trivial
      | false =>
        rw [he] at hv
        simp only [cond_false] at hv
        subst hv
        exact hR.slots i u hu

theorem veC_sound (hF : FenceOk P F) (hm : P.follows .mixedOrders = true) (hΓ : ConsOk P Γ) : ∀ (c : Code) (p : Plan) (α : Type) (st : St) (K : Exit → St → Option α) (r : α) (D : List Nat) (ρ : Nat → Nat) (a : Act) (w : World),
    veC P Γ N c p α st K = some r → R P W0 n0 D ρ0 ρ st a w →
    c.wpIn F n P (fun e a' w' => ∃ ρ' st', K e st' = some r ∧ R P W0 n0 D ρ0 ρ' st' a' w' ∧ Ext (writes c) st.h.length ρ ρ' st st') a w
  | .skip, p, α, st, K, r, D, ρ, a, w, hr, hR => wpIn_skip ⟨ρ, st, by simpa [veC] using hr, hR, .refl _ _ _ _⟩
  | .region id ops draw, p, α, st, K, r, D, ρ, a, w, hr, hR => by
    rw [veC] at hr
    exact veReg_sound hF hm hΓ hR hr fun ρ' st' a' w' hk hR' hE => ⟨ρ', st', hk, hR', hE⟩
  | .exit id, p, α, st, K, r, D, ρ, a, w, hr, hR => wpIn_exit ⟨ρ, st, by simpa [veC] using hr, hR, .refl _ _ _ _⟩
  | .ret, p, α, st, K, r, D, ρ, a, w, hr, hR => wpIn_ret ⟨ρ, st, by simpa [veC] using hr, hR, .refl _ _ _ _⟩
  | .seq x y, p, α, st, K, r, D, ρ, a, w, hr, hR => by
    cases p with
    | one => simp [veC] at hr
    | loop cs bs p => simp [veC] at hr
    | two p q =>
      rw [veC] at hr
      refine wpIn_seq (wpIn_mono (veC_sound hF hm hΓ x p α st _ r D ρ a w hr hR) ?_)
      rintro e a1 w1 ⟨ρ1, st1, hk, hR1, hE1⟩
      cases e with
      | normal =>
        refine wpIn_mono (veC_sound hF hm hΓ y q α st1 K r D ρ1 a1 w1 hk hR1) ?_
        rintro e2 a2 w2 ⟨ρ2, st2, hk2, hR2, hE2⟩
        exact ⟨ρ2, st2, hk2, hR2, ext_seq hE1 hE2⟩
      | exit id => exact ⟨ρ1, st1, hk, hR1, hE1.mono (fun _ h => List.mem_append_left _ h) (Nat.le_refl _)⟩
      | goto l => exact ⟨ρ1, st1, hk, hR1, hE1.mono (fun _ h => List.mem_append_left _ h) (Nat.le_refl _)⟩
      | ret => exact ⟨ρ1, st1, hk, hR1, hE1.mono (fun _ h => List.mem_append_left _ h) (Nat.le_refl _)⟩
      | panic ch => exact ⟨ρ1, st1, hk, hR1, hE1.mono (fun _ h => List.mem_append_left _ h) (Nat.le_refl _)⟩
      | outgrown => exact ⟨ρ1, st1, hk, hR1, hE1.mono (fun _ h => List.mem_append_left _ h) (Nat.le_refl _)⟩
  | .cond c x y, p, α, st, K, r, D, ρ, a, w, hr, hR => by
    cases p with
    | one => simp [veC] at hr
    | loop cs bs p => simp [veC] at hr
    | two p q =>
      rw [veC] at hr
      have hc := asA_is (evO_is hR.slots c)
      split at hr
      · rename_i t ht
        rw [ht] at hc
        have hc : a.eval c = .bool t := hc
        cases t with
        | true =>
          refine wpIn_cond_true hc (wpIn_mono (veC_sound hF hm hΓ x p α st K r D ρ a w hr hR) ?_)
          rintro e2 a2 w2 ⟨ρ2, st2, hk2, hR2, hE2⟩
          exact ⟨ρ2, st2, hk2, hR2, hE2.mono (fun _ h => List.mem_append_left _ h) (Nat.le_refl _)⟩
        | false =>
          refine wpIn_cond_false hc (wpIn_mono (veC_sound hF hm hΓ y q α st K r D ρ a w hr hR) ?_)
          rintro e2 a2 w2 ⟨ρ2, st2, hk2, hR2, hE2⟩
          exact ⟨ρ2, st2, hk2, hR2, hE2.mono (fun _ h => List.mem_append_right _ h) (Nat.le_refl _)⟩
      · cases hr
  | .block id x, p, α, st, K, r, D, ρ, a, w, hr, hR => by
    rw [veC] at hr
    refine wpIn_block (wpIn_mono (veC_sound hF hm hΓ x p α st _ r D ρ a w hr hR) ?_)
    rintro e a1 w1 ⟨ρ1, st1, hk, hR1, hE1⟩
    cases e with
    | exit id' =>
      simp only [kBlock] at hk
      unfold Exit.inBlock
      cases hb : Nat.beq id' id with
      | true =>
        rw [hb] at hk
        have := Nat.eq_of_beq_eq_true hb
        simp only [if_pos this]
        exact ⟨ρ1, st1, hk, hR1, hE1⟩
      | false =>
        rw [hb] at hk
        have : id' ≠ id := fun e => by subst e; rw [Nat.beq_refl] at hb; cases hb
        simp only [if_neg this]
        exact ⟨ρ1, st1, hk, hR1, hE1⟩
    | normal => exact ⟨ρ1, st1, hk, hR1, hE1⟩
    | goto l => exact ⟨ρ1, st1, hk, hR1, hE1⟩
    | ret => exact ⟨ρ1, st1, hk, hR1, hE1⟩
    | panic ch => exact ⟨ρ1, st1, hk, hR1, hE1⟩
    | outgrown => exact ⟨ρ1, st1, hk, hR1, hE1⟩
  | .loop x, p, α, st, K, r, D, ρ, a, w, hr, hR => by
    cases p with
    | one => simp [veC] at hr
    | two p q => simp [veC] at hr
    | loop cs bs p =>
      rw [veC] at hr
      cases hcs : cs.all (elemN · (writes x)) with
      | false => rw [hcs] at hr; cases hr
      | true =>
        rw [hcs] at hr
        simp only [cond_true] at hr
        obtain ⟨hR0, hhl0⟩ := first_head (W := writes x) (cs := cs) (bs := bs) hR
        exact wpIn_loop_rounds N (loop_rounds hcs (ρs := ρ) (fun s r' ρ a w h1 h2 => veC_sound hF hm hΓ x p _ _ _ r' (st.d ++ D) ρ a w h1 h2) N _ ρ a w hr hR0 hhl0 fun _ _ => rfl)
  | .rangeFunc f ps as b, p, α, st, K, r, D, ρ, a, w, hr, hR => by simp [veC] at hr
  | .scope b, p, α, st, K, r, D, ρ, a, w, hr, hR => by simp [veC] at hr
  | .label l, p, α, st, K, r, D, ρ, a, w, hr, hR => by simp [veC] at hr
  | .goto l, p, α, st, K, r, D, ρ, a, w, hr, hR => by simp [veC] at hr
  | .refuse l, p, α, st, K, r, D, ρ, a, w, hr, hR => by simp [veC] at hr
end
end Go.Proofs.Ytjihfoifdloaeaa.Ve
/- Functions, and lists of contracts. -/
namespace Go.Proofs.Ytjihfoifdloaeaa.Ve
open Go.RowKit
set_option linter.unusedVariables false

def resOne (P : Program) (st : St) : ResultVar → Option SA
  | .tmp t => some (asA (st.s.getD t (.a .x)))
  | .cell t T => (match asA (st.s.getD t (.a .x)) with
    | .w m => (match st.h[m]? with
      | some (.row C t') => rdW P T C t'
      | _ => none)
    | _ => none)
def resAll (P : Program) (st : St) : List ResultVar → Option (List SA)
  | [] => some []
  | r :: l => (match resOne P st r, resAll P st l with
    | some y, some m => some (y :: m)
    | _, _ => none)
def pack : List SA → SV
  | [y] => .a y
  | l => .t l
def cleanD (n0 : Nat) : List Nat → Bool
  | [] => true
  | k :: d => !Nat.blt k n0 && cleanD n0 d
/-- One block of the arguments is written, no other. -/
def oneD (n0 m : Nat) : List Nat → Bool
  | [] => true
  | k :: d => (!Nat.blt k n0 || Nat.beq k m) && oneD n0 m d
def firstD (n0 : Nat) : List Nat → Option Nat
  | [] => none
  | k :: d => bif Nat.blt k n0 then some k else firstD n0 d
def finA (P : Program) (h0 : List VB) (res : List ResultVar) (st : St) : Option (SV × Eff × Bool) :=
  bif cleanD h0.length st.d then (match resAll P st res with | some l => bif l.all (refLt h0.length) then some (pack l, .none, true) else none | none => none)
  else (match res, firstD h0.length st.d with
    | [], some m => bif oneD h0.length m st.d then (match st.h[m]?, h0[m]? with | some (.row C t), some (.row _ t0) => bif Nat.beq t t0 then some (.a .u, .set m (.row C t), true) else none | _, _ => none) else none
    | _, _ => none)
def finK (P : Program) (h0 : List VB) (res : List ResultVar) (e : Exit) (st : St) : Option (SV × Eff × Bool) :=
  match e with
  | .normal => finA P h0 res st
  | .ret => finA P h0 res st
  | _ => none
def entry (ntmps : Nat) (args : List SA) (h : List VB) : St := { s := args.map SV.a ++ List.replicate (ntmps - args.length) (.a .u), h := h, d := [] }
/-- A function's answer. -/
def funV (P : Program) (Γ : Cons) (N : Nat) (res : List ResultVar) (ntmps : Nat) (c : Code) (p : Plan) (args : List SA) (h : List VB) : Option (SV × Eff × Bool) :=
  veC P Γ N c p (SV × Eff × Bool) (entry ntmps args h) (finK P h res)

/-- The plan of a code, loop by loop. -/
def mkPlan : Code → List (List Nat × List Nat) → Plan × List (List Nat × List Nat)
  | .seq x y, l => (.two (mkPlan x l).1 (mkPlan y (mkPlan x l).2).1, (mkPlan y (mkPlan x l).2).2)
  | .cond _ x y, l => (.two (mkPlan x l).1 (mkPlan y (mkPlan x l).2).1, (mkPlan y (mkPlan x l).2).2)
  | .block _ x, l => mkPlan x l
  | .loop x, (cs, bs) :: l => (.loop cs bs (mkPlan x l).1, (mkPlan x l).2)
  | _, l => (.one, l)
def codeOf (fn : Func) : Code := match fn.body with | some c => c | none => .skip
/-- A function's answer, by its text. -/
def ansV (P : Program) (Γ : Cons) (N : Nat) (fn : Func) (l : List (List Nat × List Nat)) (args : List SA) (h : List VB) : Option (SV × Eff × Bool) :=
  funV P Γ N fn.results.toList fn.ntmps (codeOf fn) (mkPlan (codeOf fn) l).1 args h

theorem wide_ok (P : Program) : FenceOk P Fence.wide := ⟨fun _ => trivial, rfl, fun n f args w R h => callsIn_wide.2 h⟩
theorem round_ok (P : Program) (l : Nat) : FenceOk P (Fence.wide.inRound l) := ⟨fun _ => trivial, rfl, fun n f args w R h => (callsIn_wide.2 h : CallsIn Fence.wide n P f args w R)⟩

section
variable {P : Program} {Γ : Cons} {N : Nat}

theorem resOne_sound {ρ : Nat → Nat} {st : St} {a : Act} {w : World} (hs : ∀ (i : Nat) (v : SV), st.s[i]? = some v → IsV P ρ st.h v (a.tmps.getD i undef)) (hH : HIs P ρ st.h w) {r : ResultVar} {y : SA} (hr : resOne P st r = some y) :
    ∃ v, ((match r with | .tmp t => pure (a.tmps.getD t undef) | .cell p t => do loadVar t (← asAddr (a.tmps.getD p undef))) : Sem Value).run P w = .ok v w ∧ Is P ρ st.h y v := by
  have ev := fun (t : Nat) => asA_is (evO_is hs (.tmp t))
  cases r with
  | tmp t =>
    simp only [resOne, Option.some.injEq] at hr
    subst hr
    exact ⟨a.tmps.getD t undef, rfl, ev t⟩
  | cell t T =>
    simp only [resOne] at hr
    have hv := ev t
    simp only [evO] at hv
    split at hr
    · rename_i m hm
      rw [hm] at hv
      obtain ⟨hp, _⟩ := hv
      split at hr
      · rename_i C t' hb
        have hB := (hH.is m _ hb).row
        obtain ⟨v, hrun, hi⟩ := rdW_load (ρ := ρ) (h := st.h) hr hB.2 hB.1
        refine ⟨v, ?_, hi⟩
        have hp : a.tmps.getD t undef = .pointer (some ⟨ρ m, 0, none⟩) := hp
        simp only [hp, asAddr, Sem.run_bind, Sem.run_pure, Result.andThen_ok, hrun]
      · cases hr
    · cases hr

theorem resAll_sound {ρ : Nat → Nat} {st : St} {a : Act} {w : World} (hs : ∀ (i : Nat) (v : SV), st.s[i]? = some v → IsV P ρ st.h v (a.tmps.getD i undef)) (hH : HIs P ρ st.h w) : ∀ (l : List ResultVar) (ys : List SA), resAll P st l = some ys →
    ∃ vs : List Value, (l.mapM fun r => ((match r with | .tmp t => pure (a.tmps.getD t undef) | .cell p t => do loadVar t (← asAddr (a.tmps.getD p undef))) : Sem Value)).run P w = .ok vs w ∧ AllIs P ρ st.h ys vs
  | [], ys, h => by
    simp only [resAll, Option.some.injEq] at h
    subst h
    exact ⟨[], rfl, rfl, fun i y v hy => by simp at hy⟩
  | r :: l, ys, h => by
    simp only [resAll] at h
    split at h
    · rename_i y m hy hm
      simp only [Option.some.injEq] at h
      subst h
      obtain ⟨v, h1, h2⟩ := resOne_sound hs hH hy
      obtain ⟨vs, h3, h4⟩ := resAll_sound hs hH l m hm
      refine ⟨v :: vs, ?_, by simp [h4.1], fun i y' v' hy' hv' => ?_⟩
      · simp only [List.mapM_cons, Sem.run_bind, h1, Result.andThen_ok, h3, Sem.run_pure]
      · cases i with
        | zero =>
          simp only [List.getElem?_cons_zero, Option.some.injEq] at hy' hv'
          subst hy'; subst hv'; exact h2
        | succ i => exact h4.2 i y' v' (by simpa using hy') (by simpa using hv')
    · cases h

theorem BIs.world' {ρ : Nat → Nat} {h : List VB} {w w' : World} {g : Nat} {b : VB} (hi : BIs P ρ h w g b) (hw : ∀ c t fr, w.heap[g]? = some (Obj.cells c t fr) → w'.heap[g]? = some (Obj.cells c t fr)) : BIs P ρ h w' g b := by
  cases b with
  | no => trivial
  | row C T => exact ⟨hw _ _ _ hi.1, hi.2⟩
  | one y T => obtain ⟨v, h1, h2⟩ := hi; exact ⟨v, h1, hw _ _ _ h2⟩

theorem cleanD_mem {n0 : Nat} : ∀ {d : List Nat}, cleanD n0 d = true → ∀ k ∈ d, n0 ≤ k
  | [], _, k, hk => by cases hk
  | a :: d, h, k, hk => by
    simp only [cleanD, Bool.and_eq_true, Bool.not_eq_true'] at h
    rcases List.mem_cons.1 hk with rfl | hk
    · by_cases hlt : k < n0
      · have : Nat.blt k n0 = true := by simp [Nat.blt]; omega
        rw [this] at h; cases h.1
      · omega
    · exact cleanD_mem h.2 k hk

theorem firstD_lt {n0 m : Nat} : ∀ {d : List Nat}, firstD n0 d = some m → m < n0
  | [], h => by cases h
  | k :: d, h => by
    simp only [firstD] at h
    cases hb : Nat.blt k n0 with
    | true => rw [hb] at h; cases h; simp [Nat.blt] at hb; omega
    | false => rw [hb] at h; exact firstD_lt h
theorem oneD_mem {n0 m : Nat} : ∀ {d : List Nat}, oneD n0 m d = true → ∀ k ∈ d, k < n0 → k = m
  | [], _, k, hk, _ => by cases hk
  | a :: d, h, k, hk, hlt => by
    simp only [oneD, Bool.and_eq_true, Bool.or_eq_true, Bool.not_eq_true'] at h
    rcases List.mem_cons.1 hk with rfl | hk
    · rcases h.1 with h1 | h1
      · have : Nat.blt k n0 = true := by simp [Nat.blt]; omega
        rw [this] at h1; cases h1
      · exact Nat.eq_of_beq_eq_true h1
    · exact oneD_mem h.2 k hk hlt

/-- The marks are taken; nothing else turns. -/
theorem leaves_marks {fn : Func} {tmps : Array Value} {W0 : World} {R' : Ending → World → Prop} : ∀ {ds : List Deferred} {w : World}, DefOk W0 ds w →
    (∀ wx : World, Kept (fun k => W0.heap.size ≤ k) w wx → (∀ (k : Nat) c t fr, w.heap[k]? = some (Obj.cells c t fr) → wx.heap[k]? = some (Obj.cells c t fr)) → ∃ v, (results fn tmps).run P wx = .ok v wx ∧ R' (.returned v) wx) →
    LeavesInM Fence.wide 0 P fn tmps R' ds .returning w
  | [], w, _, h => by
    obtain ⟨v, h1, h2⟩ := h w (Kept.refl _ w) fun _ _ _ _ h => h
    exact ⟨v, h1, h2⟩
  | d :: ds, w, hd, h => by
    obtain ⟨m, rfl, hm, hb⟩ := hd.all d (List.mem_cons_self ..)
    refine ⟨by simp, .inl ⟨m, _, rfl, run_takeDeferred hb, ?_⟩⟩
    have hlt : m < w.heap.size := (Array.getElem?_eq_some_iff.1 hb).1
    have hk : Kept (fun k => W0.heap.size ≤ k) w (w.putObj m (.deferred none)) := ⟨rfl, rfl, rfl, by simp [World.putObj], fun k hk hne => World.putObj_heap_other (by omega)⟩
    have hc : ∀ k c t fr, w.heap[k]? = some (Obj.cells c t fr) → (w.putObj m (.deferred none)).heap[k]? = some (Obj.cells c t fr) := fun k c t fr hc => by
      rw [World.putObj_heap_other (by rintro rfl; rw [hb] at hc; cases hc)]
      exact hc
    have hpw := List.pairwise_cons.1 hd.diff
    refine leaves_marks ⟨fun e he => ?_, hpw.2⟩ fun wx h1 h2 => h wx (hk.trans (h1.mono fun _ _ h => h)) fun k c t fr hh => h2 k c t fr (hc k c t fr hh)
    obtain ⟨q, rfl, h1, h2⟩ := hd.all e (List.mem_cons_of_mem _ he)
    refine ⟨q, rfl, h1, ?_⟩
    rw [World.putObj_heap_other (by rintro rfl; exact hpw.1 _ he _ rfl rfl)]
    exact h2

/-- A function of the program does what its symbolic run finds. -/
theorem fun_ok (hm : P.follows .mixedOrders = true) (hΓ : ConsOk P Γ) {f : FuncId} {fn : Func} (hf : P.funcs[f]? = some fn) {c : Code} (hb : fn.body = some c) {res : List ResultVar} (hres : fn.results.toList = res) {nt : Nat} (hnt : fn.ntmps = nt) (p : Plan) :
    ConOk P f (funV P Γ N res nt c p) := by
  intro ρ h w args vals r ef hr hA hH
  refine (callsIn_wide (n := 0)).1 (callsIn_of_wp_marks hf hb trivial ?_ rfl)
  have hlen : args.length = vals.length := hA.1
  have hR : R P w h.length [] ρ ρ (entry nt args h) { tmps := vals.toArray ++ Array.replicate (fn.ntmps - vals.toArray.size) undef, defers := [] } w := by
    refine ⟨by simp [entry, hlen, hnt], fun i v hv => ?_, hH, fun _ _ => rfl, fun k hk hp => ?_, Kept.refl _ w, DefOk.nil _ _, Nat.le_refl _⟩
    · simp only [entry] at hv ⊢
      by_cases hi : i < args.length
      · rw [List.getElem?_append_left (by simpa using hi), List.getElem?_map, List.getElem?_eq_getElem hi] at hv
        simp only [Option.map_some, Option.some.injEq] at hv
        subst hv
        have : (vals.toArray ++ Array.replicate (fn.ntmps - vals.toArray.size) undef).getD i undef = vals[i]'(by omega) := by
          rw [Array.getD_eq_getD_getElem?, Array.getElem?_append_left (by simp; omega)]
          simp [show i < vals.length by omega]
        rw [this]
        exact hA.2 i _ _ (List.getElem?_eq_getElem hi) (List.getElem?_eq_getElem (by omega))
      · rw [List.getElem?_append_right (by simp; omega), List.getElem?_replicate] at hv
        split at hv
        · cases hv
          have : (vals.toArray ++ Array.replicate (fn.ntmps - vals.toArray.size) undef).getD i undef = undef := by
            rw [Array.getD_eq_getD_getElem?, Array.getElem?_append_right (by simp; omega), Array.getElem?_replicate]
            split <;> rfl
          rw [this]
          rfl
        · cases hv
    · exfalso
      rcases hp with ⟨C, t, e⟩ | ⟨C, t, e⟩ <;> (have := (List.getElem?_eq_some_iff.1 e).1; simp only [entry] at this; omega)
  refine wpIn_mono (veC_sound (n := 0) (wide_ok P) hm hΓ c p _ _ _ (r, ef, true) [] ρ _ w hr hR) ?_
  rintro e a' w' ⟨ρ', st', hk, hR', hE⟩
  have key : finA P h res st' = some (r, ef, true) →
      LeavesInM Fence.wide 0 P fn a'.tmps (fun e w' => ∃ v, e = .returned v ∧ EffPost P ρ h w r ef v w') a'.defers .returning w' := by
    intro hk
    unfold finA at hk
    cases hcl : cleanD h.length st'.d with
    | false =>
      rw [hcl] at hk
      simp only [cond_false] at hk
      split at hk
      · rename_i m hfirst hres'
        cases hone : oneD h.length m st'.d with
        | false => rw [hone] at hk; cases hk
        | true =>
          rw [hone] at hk
          simp only [cond_true] at hk
          split at hk
          · rename_i C t C0 t0 hmt hm0
            cases hbt : Nat.beq t t0 with
            | false => rw [hbt] at hk; cases hk
            | true =>
              rw [hbt] at hk
              obtain rfl := Nat.eq_of_beq_eq_true hbt
              simp only [cond_true, Option.some.injEq, Prod.mk.injEq] at hk
              obtain ⟨rfl, rfl, -⟩ := hk
              have hmlt := firstD_lt hfirst
              have hρ : ρ' m = ρ m := hE.ren m (.inl ⟨C0, _, hm0⟩)
              refine leaves_marks hR'.defers fun wx hkx hcx => ?_
              refine ⟨undef, by simp [results, Array.toList_eq_nil_iff.1 hres]; rfl, _, rfl, rfl, rfl, ⟨_, _, _, hm0, rfl⟩, ?_, ?_⟩
              · have hk0 : Kept (fun k => k = ρ m) w w' := hR'.kept.mono fun k _ ⟨q, h1, h2, h3⟩ => by
                  rcases h2 with h2 | h2
                  · rw [← h3, oneD_mem hone q h2 h1]
                  · cases h2
                exact ⟨hkx.os.trans hk0.os, hkx.tape.trans hk0.tape, hkx.output.trans hk0.output, Nat.le_trans hk0.size hkx.size, fun k hk he => (hkx.block k (Nat.lt_of_lt_of_le hk hk0.size) (by omega)).trans (hk0.block k hk he)⟩
              · have hB := (hR'.heap.is m _ hmt).row
                rw [hρ] at hB
                exact ⟨hcx _ _ _ _ hB.1, hB.2⟩
          · cases hk
      · cases hk
    | true =>
      rw [hcl] at hk
      simp only [cond_true] at hk
      split at hk
      · rename_i l hl
        cases hrl : l.all (refLt h.length) with
        | false => rw [hrl] at hk; cases hk
        | true =>
          rw [hrl] at hk
          simp only [cond_true, Option.some.injEq, Prod.mk.injEq] at hk
          obtain ⟨rfl, rfl, -⟩ := hk
          refine leaves_marks hR'.defers fun wx hkx hcx => ?_
          have hHx : HIs P ρ' st'.h wx := ⟨fun n b hb => (hR'.heap.is n b hb).world' fun c t fr hc => hcx _ _ _ _ hc, hR'.heap.inj⟩
          obtain ⟨vs, hrun, hall⟩ := resAll_sound hR'.slots hHx res l hl
          have hh : ∀ k, k < h.length → h[k]? = st'.h[k]? := fun k hk => by
            refine (hE.heap k hk fun hd => ?_).symm
            have := cleanD_mem hcl k hd
            omega
          have hall2 : AllIs P ρ h l vs := by
            refine ⟨hall.1, fun i y v hy hv => ?_⟩
            rw [List.all_eq_true] at hrl
            have h1 := (hall.2 i y v hy hv).cut hh (hrl y (List.mem_of_getElem? hy))
            exact h1.mono (HLe.refl _) fun k hk => (hE.ren k hk).symm
          have hkept0 : Kept (fun _ => False) w w' := hR'.kept.mono fun k _ ⟨m, h1, h2, _⟩ => by
            rcases h2 with h2 | h2
            · have := cleanD_mem hcl m h2
              omega
            · cases h2
          have hkept : Kept (fun _ => False) w wx := ⟨hkx.os.trans hkept0.os, hkx.tape.trans hkept0.tape, hkx.output.trans hkept0.output, Nat.le_trans hkept0.size hkx.size, fun k hk he => (hkx.block k (Nat.lt_of_lt_of_le hk hkept0.size) (by omega)).trans (hkept0.block k hk he)⟩
          have hrun2 : (results fn a'.tmps).run P wx = .ok (if h : vs.toArray.size = 1 then vs.toArray[0] else .tuple vs.toArray) wx := by
            unfold results
            rw [Sem.run_bind, Array.mapM_eq_mapM_toList, hres]
            have : (List.toArray <$> res.mapM fun r => ((match r with | .tmp t => pure (a'.tmps.getD t undef) | .cell p t => do loadVar t (← asAddr (a'.tmps.getD p undef))) : Sem Value)).run P wx = .ok vs.toArray wx := by
              rw [map_eq_pure_bind, Sem.run_bind, hrun]
              rfl
            exact congrArg (fun z : Result (Array Value) => z.andThen fun a w' => ((pure (if h : a.size = 1 then a[0] else .tuple a)) : Sem Value).run P w') this
          refine ⟨_, hrun2, _, rfl, ?_, hkept⟩
          match l, vs, hall2 with
          | [], [], h2 => exact ⟨[], rfl, h2⟩
          | [y], [v], h2 => exact h2.2 0 y v rfl rfl
          | y :: z :: l, v :: u :: vs, h2 =>
            refine ⟨v :: u :: vs, ?_, h2⟩
            rw [dif_neg (by simp)]
          | [], v :: vs, h2 => exact absurd h2.1 (by simp)
          | [y], [], h2 => exact absurd h2.1 (by simp)
          | [y], v :: u :: vs, h2 => exact absurd h2.1 (by simp)
          | y :: z :: l, [], h2 => exact absurd h2.1 (by simp)
          | y :: z :: l, [v], h2 => exact absurd h2.1 (by simp)
      · cases hk
  cases e with
  | normal => exact key hk
  | ret => exact key hk
  | exit id => cases hk
  | goto l => cases hk
  | panic ch => cases hk
  | outgrown => cases hk

def mkΓ : List (FuncId × Con) → Cons
  | [], _ => none
  | (g, F) :: r, f => bif Nat.beq f g then some F else mkΓ r f
theorem mkΓ_nil : ConsOk P (mkΓ []) := fun f F h => by cases h
theorem mkΓ_cons {g : FuncId} {G : Con} {r : List (FuncId × Con)} (h1 : ConOk P g G) (h2 : ∀ args w, (callFunc g args).run P w = .ok (.enter g args) w) (h3 : ConsOk P (mkΓ r)) : ConsOk P (mkΓ ((g, G) :: r)) := fun f F h => by
  simp only [mkΓ] at h
  cases hb : Nat.beq f g with
  | true =>
    rw [hb] at h
    obtain rfl := Nat.eq_of_beq_eq_true hb
    cases h
    exact ⟨h1, h2⟩
  | false => rw [hb] at h; exact h3 f F h

/-- A contract that says the same, or less. -/
theorem ConOk.of {f : FuncId} {G G' : Con} (h : ConOk P f G) (hle : ∀ ρ h w args vals r e, AllIs P ρ h args vals → HIs P ρ h w → G' args h = some (r, e, true) → G args h = some (r, e, true)) : ConOk P f G' :=
  fun ρ hh w args vals r e hr hA hH => h ρ hh w args vals r e (hle ρ hh w args vals r e hA hH hr) hA hH

theorem enter_ok {f : FuncId} {fn : Func} (hf : P.funcs[f]? = some fn) (hn : (fn.name == "runtime.NumGoroutine") = false) (hb : fn.body.isNone = false) : ∀ args w, (callFunc f args).run P w = .ok (.enter f args) w := by
  intro args w
  unfold callFunc
  show (match P.funcs[f]? with | none => _ | some fn => _ : Sem Next).run P w = _
  rw [hf]
  dsimp only
  rw [hn, hb]
  rfl

theorem ans_ok (hm : P.follows .mixedOrders = true) (hΓ : ConsOk P Γ) {f : FuncId} {fn : Func} (hf : P.funcs[f]? = some fn) (hb : fn.body.isNone = false) (l : List (List Nat × List Nat)) :
    ConOk P f (ansV P Γ N fn l) := by
  cases hc : fn.body with
  | none => rw [hc] at hb; cases hb
  | some c =>
    have : codeOf fn = c := by unfold codeOf; rw [hc]
    exact fun ρ h w args vals r e hr hA hH => fun_ok hm hΓ hf (by rw [hc, this]) rfl rfl _ ρ h w args vals r e hr hA hH
end
end Go.Proofs.Ytjihfoifdloaeaa.Ve
