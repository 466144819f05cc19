/- The least bit of a number, and an iterator over bits, in company: Go's text walked. -/
import Derived.Test.YtgllknjdblkhnaaGreatDoorAsX
import Derived.Test.YtgllknjdblkhnaaGreatDoorCxEach
set_option linter.unusedVariables false
set_option linter.unusedSimpArgs false
open _root_.List renaming replicate->jA
namespace Go.Proofs.YtgllknjdblkhnaaGreatDoor
open Tryz (f29 f49 f50 f68)
open Go.RowKit Go.Conc Go.Extern Ve Vc
open Tryz renaming prog -> PZ
set_option maxRecDepth 100000
set_option maxHeartbeats 1000000
section
variable {mn:Md}
theorem Ydn{P:Program}{α:Type}{s:Sem α}{v v':World}{r r':α}(h:Tr P s v r v')(e:r=r'):Tr P s v r' v':=e ▸ h
theorem Yns{ρ:Operand->Value}{o:Oper}{T:TypeId}{y z:Operand}{x w:Value}(ho:o.op=.indexAddr T y z)(hy:ρ y=x)(hz:ρ z=w):execOp ρ o=Instr.indexAt T x w >>= λr=>pure (Next.value r):=by unfold execOp;rw[ho];dsimp only;rw[hy,hz]
theorem tr_index{ρ:Operand->Value}{o:Oper}{y z:Operand}{i:Nat}{v:World}(ho:o.op=.indexAddr 151 y z)(hy:ρ y=.pointer (some ⟨1,0,none⟩))(hz:ρ z=.int .u64 (i:Int))(hi:i<64):Tr PZ (execOp ρ o) v (.value (.pointer (some ⟨1,i,none⟩))) v:=by
 rw[Yns ho hy hz];refine Zh8 ((Zu1 _ _ _).tr (r:=.pointer (some ⟨1,i,none⟩)) ?_) (Zar λw es=>rfl);rw[run_indexAt_array _ 151 ⟨1,0,none⟩ .u64 (i:Int) (by kernel_rfl)];have hl:Tryz.prog.arrayLen 151=64:=by kernel_rfl
 have hs:(sizeOf (Tryz.prog.elem 151)).run PZ v=.ok 1 v:=by kernel_rfl
 rw[hl,if_pos (by omega),hs];simp[Result.andThen,Addr.add]
 try exact λh=>h.symm
theorem Ypm{ρ:Operand->Value}{o:Oper}{T:TypeId}{y:Operand}{a i:Nat}{x:Value}{v:World}(ho:o.op=.load T y)(hy:ρ y=.pointer (some ⟨a,i,none⟩))(hu:(Tryz.prog.underlying T).map (·.isRow)=some false)(hc:v.cell? ⟨a,i,none⟩=some x):Tr PZ (execOp ρ o) v (.value x) v:=by
 rw[Yeh ho hy];refine Zh8 ((Zlg T _).tr (r:=x) ?_) (Zar λw es=>rfl);obtain⟨d,hu,hd⟩:=Option.map_eq_some_iff.1 hu;have:(loadVar T ⟨a,i,none⟩).run PZ v=.ok x v:=by unfold loadVar;simp only[Sem.run_bind,Zgs hu,hd,Result.andThen_ok];simp[load,Sem.run,hc]
 simp only[Instr.loadAt,Instr.sureAddr,Sem.run_bind,Sem.run_pure,Result.andThen_ok,this]
theorem tz64X{n:Nat}(h0:0<n)(h1:n<2^64){C:Array Value}{TC:TypeId}{fr:Nat×Nat}(v0:World)(hT:v0.heap[1]?=some (.cells C TC fr))(hC:∀i,i<64->C[i]?=some (.int .u8 (deBr i))):Ua9 mn PZ 68 #[(.int .u64 (n:Int))] v0 λr v'=>r=.int .i64 ((tzN n:Nat):Int)/\Ge v0 v':=by
 refine Zga (c:=codeOf f68) Tryz.func68 rfl ?_;rw[show ({ tmps:=#[(.int .u64 (n:Int))]++Array.replicate (f68.ntmps - (#[(.int .u64 (n:Int))]:Array Value).size) undef,defers:=[] }:Act)=act ([(.int .u64 (n:Int))]++jA 13 undef) from by kernel_rfl];have h:Ge v0 v0:=Ge.refl v0;have hk:=(Zze h0 h1).1;have hx:=ix_ok hk;have hne:((n:Int)==(0:Int))=false:=beq_eq_false_iff_ne.2 (by omega);refine Zal ?_;refine Zap ?_
 show OpsX mn _ _ _ [0] _ _
 refine Zaq 2 rfl (by kernel_rfl) rfl rfl h (vv:=(.int .i64 0)) (λv h=>Zar λw es=>by kernel_rfl) λv h=> ?_
 show WpX mn none _ _ _ _ _
 refine Zci (l':=([(.int .u64 (n:Int))]++(jA 1 undef++([(.int .i64 0)]++(jA 11 undef))):List Value)) (by kernel_rfl) ?_;refine Zal ?_;refine Zal ?_;refine Zap ?_
 show OpsX mn _ _ _ [0,1] _ _
 refine Zaq 3 rfl (by kernel_rfl) rfl rfl h (vv:=(.int .u64 (n:Int))) (λv h=>Zar λw es=>by kernel_rfl) λv h=> ?_
 refine Zaq 4 rfl (by kernel_rfl) rfl rfl h (vv:=(.bool false)) (λv h=>Ydn (r:=Next.value (.bool ((n:Int)==(0:Int)))) (Zar λw es=>by kernel_rfl) (by rw[hne])) λv h=> ?_
 show WpX mn none _ _ _ _ _
 refine Zci (l':=([(.int .u64 (n:Int))]++(jA 1 undef++([(.int .i64 0),(.int .u64 (n:Int)),(.bool false)]++(jA 9 undef))):List Value)) (by kernel_rfl) ?_;refine Za7 (by kernel_rfl) ?_;refine Zf8 ?_
 show WpX mn none _ _ _ _ _
 refine Zci (l':=([(.int .u64 (n:Int))]++(jA 1 undef++([(.int .i64 0),(.int .u64 (n:Int)),(.bool false)]++(jA 9 undef))):List Value)) (by kernel_rfl) ?_;refine Zal ?_;refine Zap ?_
 show OpsX mn _ _ _ [0,1,2,3,4,5,6,7,8,9] _ _
 refine Zaq 5 rfl (by kernel_rfl) rfl rfl h (vv:=(.int .u64 (n:Int))) (λv h=>Zar λw es=>by kernel_rfl) λv h=> ?_
 refine Zaq 6 rfl (by kernel_rfl) rfl rfl h (vv:=(.int .u64 (n:Int))) (λv h=>Zar λw es=>by kernel_rfl) λv h=> ?_
 refine Zaq 7 rfl (by kernel_rfl) rfl rfl h (vv:=(.int .u64 (IntKind.u64.wrap (-(n:Int))))) (λv h=>Ydn (r:=Next.value (.int .u64 (IntKind.u64.wrap ((0:Int) - (n:Int))))) (Zar λw es=>by kernel_rfl) (by rw[Int.zero_sub])) λv h=> ?_
 refine Zaq 8 rfl (by kernel_rfl) rfl rfl h (vv:=(.int .u64 ((2^tzN n:Nat):Int))) (λv h=>Ydn (r:=Next.value (.int .u64 (andI (n:Int) (IntKind.u64.wrap (-(n:Int)))))) (Zar λw es=>by kernel_rfl) (by rw[tz_and h0 h1])) λv h=> ?_
 refine Zaq 9 rfl (by kernel_rfl) rfl rfl h (vv:=(.int .u64 (IntKind.u64.wrap (((2^tzN n:Nat):Int)*285870213051353865)))) (λv h=>Zar λw es=>by kernel_rfl) λv h=> ?_
 refine Zaq 10 rfl (by kernel_rfl) rfl rfl h (vv:=(.int .u64 ((ixK (tzN n):Nat):Int))) (λv h=>Ydn (r:=Next.value (.int .u64 ((IntKind.u64.wrap (((2^tzN n:Nat):Int)*285870213051353865)).fdiv (2^(min 58 IntKind.u64.bits))))) (Zar λw es=>by kernel_rfl) (by rw[tz_ix])) λv h=> ?_
 refine Zaq 11 rfl (by kernel_rfl) rfl rfl h (vv:=(.pointer (some ⟨1,ixK (tzN n),none⟩))) (λv h=>tr_index rfl (by kernel_rfl) (by kernel_rfl) hx.1) λv h=> ?_
 refine Zaq 12 rfl (by kernel_rfl) rfl rfl h (vv:=(.int .u8 (deBr (ixK (tzN n))))) (λv h=>Ypm rfl (by kernel_rfl) (by kernel_rfl) (Zv5 (geC h hT) (hC _ hx.1))) λv h=> ?_
 refine Zaq 13 rfl (by kernel_rfl) rfl rfl h (vv:=(.int .i64 ((tzN n:Nat):Int))) (λv h=>Ydn (r:=Next.value (.int .i64 (IntKind.i64.wrap (deBr (ixK (tzN n)))))) (Zar λw es=>by kernel_rfl) (by rw[hx.2,IntWalk.i64_in _ (by omega)])) λv h=> ?_
 refine Zaq 2 rfl (by kernel_rfl) rfl rfl h (vv:=(.int .i64 ((tzN n:Nat):Int))) (λv h=>Zar λw es=>by kernel_rfl) λv h=> ?_
 show WpX mn none _ _ _ _ _
 refine Zci (l':=([(.int .u64 (n:Int))]++(jA 1 undef++([(.int .i64 ((tzN n:Nat):Int)),(.int .u64 (n:Int)),(.bool false),(.int .u64 (n:Int)),(.int .u64 (n:Int)),(.int .u64 (IntKind.u64.wrap (-(n:Int)))),(.int .u64 ((2^tzN n:Nat):Int)),(.int .u64 (IntKind.u64.wrap (((2^tzN n:Nat):Int)*285870213051353865))),(.int .u64 ((ixK (tzN n):Nat):Int)),(.pointer (some ⟨1,ixK (tzN n),none⟩)),(.int .u8 (deBr (ixK (tzN n)))),(.int .i64 ((tzN n:Nat):Int))])):List Value)) (by kernel_rfl) ?_;refine Zkl ?_;exact⟨.inr rfl,.inl ⟨rfl,λv₁ g=>⟨.int .i64 ((tzN n:Nat):Int),by kernel_rfl,rfl,h.trans g⟩⟩⟩
theorem firstX{n:Nat}(h0:0<n)(h1:n<2^64){C:Array Value}{TC:TypeId}{fr:Nat×Nat}(v0:World)(hT:v0.heap[1]?=some (.cells C TC fr))(hC:∀i,i<64->C[i]?=some (.int .u8 (deBr i))):Ua9 mn PZ 50 #[(.int .u64 (n:Int))] v0 λr v'=>r=.int .i64 ((tzN n:Nat):Int)/\Ge v0 v':=by
 refine Zga (c:=codeOf f50) Tryz.func50 rfl ?_;rw[show ({ tmps:=#[(.int .u64 (n:Int))]++Array.replicate (f50.ntmps - (#[(.int .u64 (n:Int))]:Array Value).size) undef,defers:=[] }:Act)=act ([(.int .u64 (n:Int))]++jA 4 undef) from by kernel_rfl];have h:Ge v0 v0:=Ge.refl v0;refine Zal ?_;refine Zap ?_
 show OpsX mn _ _ _ [0] _ _
 refine Zaq 2 rfl (by kernel_rfl) rfl rfl h (vv:=(.int .i64 0)) (λv h=>Zar λw es=>by kernel_rfl) λv h=> ?_
 show WpX mn none _ _ _ _ _
 refine Zci (l':=([(.int .u64 (n:Int))]++(jA 1 undef++([(.int .i64 0)]++(jA 2 undef))):List Value)) (by kernel_rfl) ?_;refine Zal ?_;refine Zap ?_
 show OpsX mn _ _ _ [0,1,2] _ _
 refine Zaq 3 rfl (by kernel_rfl) rfl rfl h (vv:=(.int .u64 (n:Int))) (λv h=>Zar λw es=>by kernel_rfl) λv h=> ?_
 refine Zyz rfl rfl rfl (by kernel_rfl) (Zak (fn:=f68)) (by kernel_rfl) (R:=λr v'=>r=.int .i64 ((tzN n:Nat):Int)/\Ge v0 v') h (λv h=>(tz64X h0 h1 v (geC h hT) hC).mono λr v' q=>⟨q.1,h.trans q.2⟩) rfl 4 rfl λr B q=> ?_
 obtain⟨rfl,h⟩:=q;refine Zaq 2 rfl (by kernel_rfl) rfl rfl h (vv:=(.int .i64 ((tzN n:Nat):Int))) (λv h=>Zar λw es=>by kernel_rfl) λv h=> ?_
 show WpX mn none _ _ _ _ _
 refine Zci (l':=([(.int .u64 (n:Int))]++(jA 1 undef++([(.int .i64 ((tzN n:Nat):Int)),(.int .u64 (n:Int)),(.int .i64 ((tzN n:Nat):Int))])):List Value)) (by kernel_rfl) ?_;refine Zkl ?_;exact⟨.inr rfl,.inl ⟨rfl,λv₁ g=>⟨.int .i64 ((tzN n:Nat):Int),by kernel_rfl,rfl,h.trans g⟩⟩⟩
theorem Yg7:EntX PZ 50:=Zak (fn:=f50)
def Uf8:List VB->Bool
 |.gl g _ _ x::r=>(Nat.beq g 1&&Nat.beq x 1000000000)||Uf8 r
 |_=>false
theorem Ylp:∀{h:List VB},Uf8 h=true->∃(n:Nat) (t:TypeId) (a:Addr),h[n]?=some (VB.gl 1 t a 1000000000)
 |[],h=>by cases h
 | b::r,h=>by
  cases b with
  | gl g t a x=>
   simp only[Uf8,Bool.or_eq_true,Q7]at h;rcases h with ⟨h1,h2⟩|h
   ·obtain rfl:=Nat.eq_of_beq_eq_true h1;obtain rfl:=Nat.eq_of_beq_eq_true h2;exact⟨0,t,a,rfl⟩
   ·obtain⟨n,t',a',h1⟩:=Ylp (h:=r) h;exact⟨n+1,t',a',by simpa using h1⟩
  |_=>cases h
theorem gl_in{g:Nat}{t:TypeId}{a:Addr}{x:Nat}:∀{h:List VB} {n:Nat},h[n]?=some (VB.gl g t a x)->g∈glL h
 |[],n,h=>by simp at h
 |b::r,0,h=>by
  simp only[List.getElem?_cons_zero,Q8]at h;subst h;exact List.mem_cons_self ..
 |b::r,n+1,h=>by
  simp only[List.getElem?_cons_succ]at h;have:=gl_in h;cases b with|gl=>exact List.mem_cons_of_mem _ this|_=>exact this
theorem tab_heap{ρ:Nat->Ad}{h:List VB}{v:World}(hH:HIs PZ ρ h v)(ht:Uf8 h=true):1∈glL h/\∃C TC fr,v.heap[1]?=some (.cells C TC fr)/\∀i,i<64->C[i]?=some (.int .u8 (deBr i)):=by
 obtain⟨n,t,a,hn⟩:=Ylp ht;refine⟨gl_in hn,?_⟩;rcases hH.is _ _ hn with ⟨-,s1,C,T1,fr1,c1,b1,d1⟩ | ⟨-,-,⟨h3,-⟩ | ⟨-,h4⟩⟩
 ·exfalso;have:=Yh5 s1;rcases d1 with ⟨-,d1⟩ | ⟨-,d1⟩<;>omega
 ·omega
 ·obtain⟨C,TC,fr,hb,-⟩:=Yp7 (h4 0 (by omega));refine⟨C,TC,fr,hb,λi hi=> ?_⟩;have:=h4 i hi;unfold World.cell? at this;rw[hb]at this;exact this
end
variable {mn:Md}
noncomputable section
theorem eoΓ_ok:ConsOkX mn PZ (Uai mn PZ) (mkΓ []):=mKn
theorem wtU64{n:Int}(h:0<=n/\n<=18446744073709551615):WT PZ 23 #[.int .u64 n]:=by
 have hl:lay PZ 23=[kN .u64]:=by kernel_rfl
 refine Ubt (by rw[hl];rfl) ?_;have e1:IntKind.u64.min=0:=rfl;have e2:IntKind.u64.max=18446744073709551615:=rfl;constructor<;>omega
set_option maxHeartbeats 1000000 in
theorem Ylf(bc:Nat){c:Nat}(hc64:c<2^64)(v:World)(hbc:v.heap[bc]?=some (.cells #[.int .u64 (c:Int)] 23 (0,0))){C:Array Value}{TC:TypeId}{fr:Nat×Nat}(hT:v.heap[1]?=some (.cells C TC fr))(hC:∀i,i<64->C[i]?=some (.int .u8 (deBr i))){ks:List Nat}(hks:1∈ks):
  SeqX mn PZ 49 #[.pointer (some ⟨bc,0,none⟩)] (λx:Int=>#[.int .i64 x]) (Uc8 ks) (Uba c) v:=by
 intro l J Jx V hge hJ hJx hY h0;have hbc:=geAt hge hbc;have hT:=geAt hge hT;clear hge
 let Inv:List Int->World->Prop:=λp v=>J p v/\v.heap[1]?=some (.cells C TC fr)/\V.heap.size<=v.heap.size
 have invGe:∀{p v v'},Ge v v'->Inv p v->Inv p v':=λhg h=>⟨Ucm hJ hg h.1,geAt hg h.2.1,Nat.le_trans h.2.2 hg.size⟩
 have hI0:Inv [] V:=⟨h0,hT,Nat.le_refl _⟩
 show Ua9 mn PZ 49 #[.func (.yield l) #[] #[],.pointer (some ⟨bc,0,none⟩)] V _
 refine Zfd (c:=codeOf f49) Tryz.func49 rfl ?_;have hS:S0 PZ (slY l::slP bc::us 15 []) { tmps:=#[.func (.yield l) #[] #[],.pointer (some ⟨bc,0,none⟩)]++Array.replicate 15 undef,defers:=[] }:=S0.enter [.func (.yield l) #[] #[],.pointer (some ⟨bc,0,none⟩)] 15;refine Zal (Zyk eoΓ_ok hS (j:=1) (b:=bc) rfl hbc (wtU64 (by omega)) rfl (kS:=[0,1,3]) (nS:=17) (s':=slY l::.a (.w 0)::.a .x::.a (.i .u64 (c:Int))::xs 13 []) rfl rfl (by kernel_rfl) λa1 v1 hS1 hg1=> ?_);have hS1:S0 PZ (slY l::slP bc::.a .x::.a (.i .u64 (c:Int))::xs 13 []) a1:=hS1;have hI1:Inv [] v1:=invGe hg1 hI0;refine Zfj (Zby ((Uba c).length+1) ?_);refine(?_:∀(d:Nat) (r:Nat) (pre:List Int) (a:Act) (v:World),(Uba r).length=d->r<2^64->pre++Uba r=Uba c->S0 PZ (slY l::slP bc::.a .x::.a (.i .u64 (r:Int))::xs 13 []) a->Inv pre v->Ua7 mn none PZ _ _ (d+1) a v) _ c [] a1 v1 rfl hc64 rfl hS1 hI1;clear hS hS1 hI0 hI1 hg1 hbc hT h0;intro d
 induction d with
 | zero=>
  intro r pre a v hd hr hp hS hI;have hr0:r=0:=by
   by_cases h:0<r
   ·rw[Yj9 h hr]at hd;simp at hd
   ·omega
  subst hr0;refine Zal (Zal (Zgy eoΓ_ok hS (kS:=[12]) (nS:=17) (s':=xs 12 (.a (.b false)::xs 4 [])) rfl (by kernel_rfl) λa2 v2 hS2 hg2=> ?_));refine Za7 (hS2.bool (i:=12) rfl) (Zk5 ?_);refine⟨.inl rfl,Zkd rfl hS2.defers λv3 hg3=>.inl ?_⟩;rw[<- hp,Yiq,List.append_nil];exact(invGe hg3 (invGe hg2 hI)).1
 | succ d ih=>
  intro r pre a v hd hr hp hS hI;have h0:0<r:=by
   by_cases h:0<r
   ·exact h
   ·have:r=0:=by omega
    subst this;rw[Yiq]at hd;cases hd
  have hb:=Yj9 h0 hr;have hk:=(Zze h0 hr).1;have hne:((r:Int) != (0:Int))=true:=bne_iff_ne.2 (by omega);refine Zal (Zal (Zap ?_))
  show OpsX mn _ _ _ (List.range' 0 3++(List.range' 3 2++(5::(6::(List.range' 7 1++[]))))) _ _
  refine Zbw eoΓ_ok hS 0 3 rfl (kS:=[0,1,3,7]) (nS:=17) (s':=slY l::slP bc::.a .x::.a (.i .u64 (r:Int))::xs 3 (.a (.b ((r:Int) != (0:Int)))::xs 9 [])) rfl (by kernel_rfl) λa2 v2 hS2 hg2=> ?_
  rw[hne]at hS2;refine Zbw eoΓ_ok hS2 3 2 rfl (kS:=[0,1,3,7,8,9]) (nS:=17) (s':=slY l::slP bc::.a .x::.a (.i .u64 (r:Int))::xs 3 (.a (.b true)::slY l::.a (.i .u64 (r:Int))::xs 7 [])) rfl (by kernel_rfl) λa3 v3 hS3 hg3=> ?_
  have hI3:=invGe hg3 (invGe hg2 hI);refine Zpm hS3 (i:=5) rfl (j:=2) (d:=7) rfl rfl rfl (Yi9 rfl rfl rfl Yg7 (args:=#[.int .u64 (r:Int)]) (by rw[<- hS3.int (i:=9) rfl];simp) (R:=λe v'=>e=.int .i64 ((tzN r:Nat):Int)/\Ge v3 v') (λv₁ h₁=>(firstX h0 hr v₁ (geAt h₁ hI3.2.1) hC).mono λe v' q=>⟨q.1,h₁.trans q.2⟩) λe v4 h4=> ?_);obtain⟨rfl,hg4⟩:=h4;have hS4:=hS3.put 10 (y:=.i .i64 ((tzN r:Nat):Int)) (vv:=.int .i64 ((tzN r:Nat):Int)) ⟨rfl,by
   have e1:IntKind.i64.min=-9223372036854775808:=rfl;have e2:IntKind.i64.max=9223372036854775807:=rfl;omega⟩
  have hI4:=invGe hg4 hI3;refine Zpm hS4 (i:=6) rfl (j:=2) (d:=7) rfl rfl rfl (Zpl rfl rfl (hS4.cst (i:=8) rfl) (args:=#[.int .i64 ((tzN r:Nat):Int)]) (by simp only[List.map_toArray,List.map_cons,List.map_nil];exact congrArg (λx=>#[x]) (hS4.int (i:=10) rfl)) (hY pre ((tzN r:Nat):Int) v4 hI4.1 (⟨Uba (r &&& (r - 1)),by rw[<- hp,hb,List.append_assoc];rfl⟩) hI4.2.2) λr5 v5 hr5=> ?_);rcases hr5 with ⟨rfl,hJ5,hk5,hkf5⟩ | ⟨rfl,hJ5,hkf5⟩
  ·have hS5:=hS4.put 11 (y:=.b true) (vv:=.bool true) rfl;have hI5:Inv (pre++[((tzN r:Nat):Int)]) v5:=⟨hJ5,hk5 1 hks _ _ _ hI4.2.1,Nat.le_trans hI4.2.2 hkf5.size⟩;refine Zbw eoΓ_ok hS5 7 1 rfl (kS:=[0,1,3,12]) (nS:=17) (s':=slY l::slP bc::.a .x::.a (.i .u64 (r:Int))::xs 8 (.a (.b true)::xs 4 [])) rfl (by kernel_rfl) λa6 v6 hS6 hg6=> ?_
   refine Zdo (hS6.bool (i:=12) rfl) (Zf8 ?_);refine Zfj (Zgy eoΓ_ok hS6 (kS:=[0,1,3]) (nS:=17) (s':=slY l::slP bc::.a .x::.a (.i .u64 (andI (r:Int) (IntKind.u64.wrap ((r:Int) - 1))))::xs 13 []) rfl (by kernel_rfl) λa7 v7 hS7 hg7=> ?_);rw[rest_eq h0 hr]at hS7;refine ih (r &&& (r - 1)) (pre++[((tzN r:Nat):Int)]) a7 v7 ?_ (Nat.lt_of_le_of_lt Nat.and_le_left hr) ?_ hS7 (invGe hg7 (invGe hg6 hI5))
   ·rw[hb]at hd;simpa using hd
   ·rw[<- hp,hb];simp
  ·have hS5:=hS4.put 11 (y:=.b false) (vv:=.bool false) rfl;refine Zbw eoΓ_ok hS5 7 1 rfl (kS:=[12]) (nS:=17) (s':=xs 12 (.a (.b false)::xs 4 [])) rfl (by kernel_rfl) λa6 v6 hS6 hg6=> ?_
   refine Za7 (hS6.bool (i:=12) rfl) (Zk5 ?_);exact⟨.inl rfl,Zkd rfl hS6.defers λv7 hg7=>.inr ⟨_,⟨Uba (r &&& (r - 1)),by rw[<- hp,hb,List.append_assoc];rfl⟩,Ucm hJx (hg6.trans hg7) hJ5⟩⟩
theorem Yb5(c:Int):ansN PZ (mkΓ []) 10 f29 [] [.i .u64 c]=some ⟨49,[(#[.int .u64 c],23)]⟩:=by kernel_rfl
def Zjm:NCon:=λargs=>match args with|[.i .u64 c]=>some ⟨49,[(#[.int .u64 c],23)]⟩|_=>none
theorem Zig:Ubo mn PZ 29 Zjm:=(Yhi (N:=10) (by kernel_rfl) mKn (fn:=f29) (by kernel_rfl) (by kernel_rfl) []).of (by
 intro ρ h args vals c hA hr;unfold Zjm at hr;split at hr
 ·rename_i c0;rw[<- Q5 hr];exact Yb5 c0
 ·cases hr)
theorem Zgn:EntX PZ 29:=Zak (fn:=f29)
def Zfs:ICon:=λbs h=>match bs with|[.row S 23]=>bif Uf8 h then some ⟨Int,λn=>[.i .i64 n],Uba (num S 0).toNat,true⟩ else none|_=>none
theorem Zgq:Uai mn PZ 49 Zfs:=by
 intro ρ h w ns Y hY hok hH hr
 match ns,hY,hr with
 | [n1],hY,hr=>
  simp only[getH]at hY;unfold Zfs at hY;split at hY
  ·rename_i S heq;have e0:=(List.cons.inj heq).1;cases ht:Uf8 h with
   |false=>rw[ht]at hY;cases hY
   | true=>
    rw[ht,Q1]at hY;cases hY;have g:∀{m:Nat} {C:Array Value} {t:TypeId},h.getD m .no=.row C t->h[m]?=some (.row C t):=λ{m C t} e=>by
     rw[List.getD_eq_getElem?_getD]at e;cases hm:h[m]? with
     |none=>rw[hm]at e;cases e
     |some b=>rw[hm]at e;exact congrArg some e
    obtain⟨h1,w1⟩:=hH.is n1 _ (g e0);have hl:lay PZ 23=[kN .u64]:=by kernel_rfl
    have hz:=w1.layLen;rw[hl]at hz;have hint:=w1.int (o:=0) (k:=.u64) (by rw[hl];rfl);have m1:IntKind.u64.min=0:=rfl;have m2:IntKind.u64.max=18446744073709551615:=rfl;have eS:S=#[.int .u64 (num S 0)]:=Array.ext_getElem? λi=>by
     by_cases hi:i=0
     ·subst hi;rw[hint.1];rfl
     ·rw[Array.getElem?_eq_none (by simp at hz;omega),Array.getElem?_eq_none (by simp;omega)]
    obtain⟨c,hc⟩:=Int.eq_ofNat_of_zero_le (show 0<=num S 0 by omega);rw[eS,hc]at h1;rw[hc,Q9];obtain⟨hin,C,TC,fr,hT,hC⟩:=tab_heap hH ht;refine⟨λpre x hpre y hy=> ?_,(Ylf (ρ n1).a (by omega) w h1 hT hC (List.mem_append_right _ hin)).any h⟩;simp only[List.mem_singleton]at hy;subst hy;refine⟨rfl,rfl,?_⟩;obtain⟨k,hk,rfl,-⟩:=bits_mem (hpre.subset (by simp):x∈Uba c);have e1:IntKind.i64.min=-9223372036854775808:=rfl;have e2:IntKind.i64.max=9223372036854775807:=rfl;omega
  ·cases hY
 |[],hY,_=>cases hY
 |_::_::_,hY,_=>
  simp only[getH]at hY;unfold Zfs at hY;split at hY
  ·rename_i heq;simp at heq
  ·cases hY
theorem Zfm:EntX PZ 49:=Zak (fn:=f49)
end
end Go.Proofs.YtgllknjdblkhnaaGreatDoor
