import Derived.Test.YtdofpgniogochaaDoorProg
import Derived.Test.YtdofpgniogochaaDoorCzC
namespace Go.Proofs.YtdofpgniogochaaDoor
open Go.ChangeShapes Go.WideShapes Go.ChangeAt Go.RowKit Ve Vc
open Tryd (prog)
open IntKind (i64)
set_option linter.unusedVariables false
set_option linter.unusedSimpArgs false
set_option maxRecDepth 100000
noncomputable section
variable {F:Vc.Fd}
theorem gN_zero {A C:Array Value} {c b:Int} {n:Nat} (h:gB prog A C c b n=false):gN prog A C c b n=0:=by
 have h2:gnB (inH prog A c b n) (inH prog C c b n)=false:=h
 unfold gN gnN
 rw [h2];rfl
theorem Yno {f g:Nat→Int}:∀ n,(∀ k,k<n→f k≤g k)→sumI f n≤sumI g n
 | 0,_=>Int.le_refl _
 | n+1,h=>by
  have h1:=Yno n fun k hk=>h k (by omega)
  have h2:=h n (by omega)
  rw [sumI,sumI];omega
theorem Yjr {x:Int} (h1:1≤x) (h2:x≤1283918464548864):0≤lg x∧lg x≤1007:=by
 obtain ⟨n,rfl⟩:=Int.eq_ofNat_of_zero_le (show 0≤x by omega)
 have hd:=Yaj (lgx (Nat.log2 n) (n:Int)) 4 (by omega)
 have hk:=Yi7 (m:=n) (by omega) (by omega)
 unfold lg
 rw [Int.toNat_natCast]
 omega
theorem inH_sum {S:Array Value} (hS:WT prog 35 S) (hok:okS S=true) {c b:Int} (hc:Zab c S=true) (hb:Zaa b 0 1=true) {n:Nat} (hn:1≤n∧n≤14) :
  sumI (fun k=>num (inH prog S c b n) k) 36≤1283918464548864:=by
 obtain ⟨hM,hs⟩:=(Zrj hS hok hc hb n hn.2).1
 have hp:=Zvk hn.2
 rw [Zu8] at hp
 have h1:sumI (fun k=>num (inH prog S c b n) k) 36≤sumI (fun i=>num (driftV prog S (oneX prog c b) n) (3+i)) 36:=Yno 36 fun k hk=>by
  obtain ⟨e,_,_,_⟩:=Zqb hS hok hc hb hk hn
  have hb0:=(Yfo hS hok hc hb hk (show n - 1≤14 by omega)).1
  have hx:=hM k (by omega)
  show num (inH prog S c b n) k≤_
  rw [e]
  unfold partI
  rw [show n - 1+1=n by omega,show (12:Int)^1=12 by decide]
  have:num (byV prog S c b n) k≤num (driftV prog S (oneX prog c b) n) (3+k):=by
   unfold byV
   rw [Znz _ _ hk]
   split
   ·exact Int.le_refl _
   ·exact hx
  omega
 have h2:sumI (fun i=>num (driftV prog S (oneX prog c b) n) (3+i)) 37=sumI (fun i=>num (driftV prog S (oneX prog c b) n) (3+i)) 36+num (driftV prog S (oneX prog c b) n) (3+36):=rfl
 have h3:=hM 36 (by omega)
 omega
theorem Yma {p:Nat→Bool} {n:Nat} (h:((List.range n).find? p).isNone=true):∀ k,k<n→p k=false:=fun k hk=>by
 have h':=List.find?_range_eq_none.1 (Option.isNone_iff_eq_none.1 h)
 simpa using h' k hk
theorem Yej {X Y:Array Value} (hX:∀ k,k<36→0≤num X k) (hY:∀ k,k<36→0≤num Y k∧num Y k≤1283918464548864) (hs:sumI (fun k=>num X k) 36≤1283918464548864) (hg:gnB X Y=true) :
  ∀ n,n≤36 → -(1007*sumI (fun k=>num X k) n)≤folds (gnF X Y) 0 n∧folds (gnF X Y) 0 n≤1007*sumI (fun k=>num X k) n
 | 0,_=>by rw [Yd9];show -(1007*(0:Int))≤0∧(0:Int)≤1007*0;omega
 | n+1,hn=>by
  obtain ⟨i1,i2⟩:=Yej hX hY hs hg n (by omega)
  have hp:=Yma hg n (by omega)
  have hx:=hX n (by omega)
  obtain ⟨hy,hy2⟩:=hY n (by omega)
  have hle:sumI (fun k=>num X k) n+num X n≤sumI (fun k=>num X k) 36:=by
   have key:∀ m,n+1+m≤36→sumI (fun k=>num X k) (n+1)≤sumI (fun k=>num X k) (n+1+m):=by
    intro m
    induction m with
    | zero=>intro _;exact Int.le_refl _
    | succ m ih=>
     intro hm
     have h1:=ih (by omega)
     have h2:=hX (n+1+m) (by omega)
     have h3:sumI (fun k=>num X k) (n+1+(m+1))=sumI (fun k=>num X k) (n+1+m)+num X (n+1+m):=rfl
     omega
   have h1:=key (35 - n) (by omega)
   rw [show n+1+(35 - n)=36 by omega] at h1
   exact h1
  have hn0:=Zmz n fun k hk=>hX k (by omega)
  rw [Zd4]
  have e:sumI (fun k=>num X k) (n+1)=sumI (fun k=>num X k) n+num X n:=rfl
  rw [e]
  generalize folds (gnF X Y) 0 n=s at i1 i2
  generalize sumI (fun k=>num X k) n=t at i1 i2 hle hn0 e
  unfold gnF
  cases h0:(num X n==(0:Int)) with
  | true=>
   have h0:=eq_of_beq h0
   simp only [cond_true];omega
  | false=>
   have x1:1≤num X n:=of_decide_eq_true (Ydu hx h0)
   have y0:(num Y n==(0:Int))=false:=by unfold gnP at hp;rw [h0] at hp;simpa using hp
   have y1:1≤num Y n:=of_decide_eq_true (Ydu hy y0)
   simp only [cond_false]
   obtain ⟨a1,a2⟩:=Yjr x1 (by omega)
   obtain ⟨b1,b2⟩:=Yjr y1 hy2
   generalize lg (num X n)=u at a1 a2
   generalize lg (num Y n)=v at b1 b2
   generalize num X n=x at x1 hle
   rw [IntWalk.i64_in (u - v) (by omega)]
   have m1:x*(u - v)≤x*1007:=Int.mul_le_mul_of_nonneg_left (by omega) (by omega)
   have m2:x*(-1007)≤x*(u - v):=Int.mul_le_mul_of_nonneg_left (by omega) (by omega)
   generalize x*(u - v)=d at m1 m2
   rw [IntWalk.i64_in d (by omega),IntWalk.i64_in (s+d) (by omega)]
   omega
theorem gN_le {A C:Array Value} (hA:WT prog 35 A) (hC:WT prog 35 C) (okA:okS A=true) (okC:okS C=true) {c b:Int} (iA:Zab c A=true) (iC:Zab c C=true) (hb:Zaa b 0 1=true) {m:Nat} (hm:1≤m∧m≤14) (hg:gB prog A C c b m=true):gN prog A C c b m≤1300000000000000000:=by
 have kX:∀ k,k<36→0≤num (inH prog A c b m) k:=fun k hk=>(Zqb hA okA iA hb hk hm).2.1
 have kY:∀ k,k<36→0≤num (inH prog C c b m) k∧num (inH prog C c b m) k≤1283918464548864:=fun k hk=>⟨(Zqb hC okC iC hb hk hm).2.1,(Zqb hC okC iC hb hk hm).2.2.1⟩
 have gs:=inH_sum hA okA iA hb hm
 have h2:gnB (inH prog A c b m) (inH prog C c b m)=true:=hg
 unfold gN gnN
 rw [h2,cond_true]
 generalize inH prog A c b m=X at kX gs h2⊢
 generalize inH prog C c b m=Y at kY h2⊢
 have gb:=(Yej kX kY gs h2 36 (Nat.le_refl _)).2
 have bd:∀ s t:Int,s≤1007*t→t≤1283918464548864→s≤1300000000000000000:=fun s t h1 h2=>by omega
 exact bd _ _ gb gs
theorem ceil_eq {a g:Int} (ha:0≤a) (hg:0<g):(a+g - 1).tdiv g=bif (a.tmod g != 0) then a.tdiv g+1 else a.tdiv g:=by
 rw [Int.tdiv_eq_ediv_of_nonneg ha,Int.tmod_eq_emod_of_nonneg ha,Int.tdiv_eq_ediv_of_nonneg (by omega)]
 have h1:=Int.emod_add_mul_ediv a g
 have h2:=Int.emod_nonneg a (show g≠0 by omega)
 have h3:=Int.emod_lt_of_pos a hg
 generalize a / g=q at h1
 generalize a % g=r at h1 h2 h3
 subst h1
 have le:∀ k x:Int,k*g≤x→x<(k+1)*g→x / g=k:=fun k x l1 l2=>
  Int.le_antisymm (Int.le_of_lt_add_one (Int.ediv_lt_of_lt_mul hg l2)) (Int.le_ediv_of_mul_le hg l1)
 by_cases h:r=0
 ·subst h
  rw [show ((0:Int) != 0)=false from rfl,cond_false]
  refine le q _ ?_ ?_
  ·rw [Int.mul_comm q g];omega
  ·rw [Int.add_mul,Int.mul_comm q g];omega
 ·rw [show (r != 0)=true by simpa using h,cond_true]
  refine le (q+1) _ ?_ ?_
  ·rw [Int.add_mul,Int.mul_comm q g];omega
  ·rw [Int.add_mul,Int.add_mul,Int.mul_comm q g];omega
def egV (a0 a1:Array Value) (a2 a3 a4:Int):Int:=bif (bothC a0 a1 a2 a3 (Zaa a4 1 14) != (0:Int)) then 0 else gN prog a0 a1 a2 a3 a4.toNat
def egC (a0 a1:Array Value) (a2 a3 a4:Int):Int:=bif (bothC a0 a1 a2 a3 (Zaa a4 1 14) != (0:Int)) then bothC a0 a1 a2 a3 (Zaa a4 1 14) else bif gB prog a0 a1 a2 a3 a4.toNat then 0 else 6
def Zmj:Cons:=(mkΓ [(33,con Zin),(34,con Zf2),(54,con Zim)])
theorem Zq8 (N:Nat) (a0 a1:Array Value) (a2 a3 a4:Int):ansV prog Zmj N Tryd.f19 [] [.g a0 35,.g a1 35,.i .i64 (a2),.i .i64 (a3),.i .i64 (a4)] []=(bif Nat.beq 0 0 then (bif ((bothC a0 a1 a2 a3 (Zaa a4 (1:Int) (14:Int))) != (0:Int)) then (some (.t [.i .i64 (0:Int),.i .i64 (bothC a0 a1 a2 a3 (Zaa a4 (1:Int) (14:Int)))],.none,true))
   else (bif (okS a0&&(okS a1&&(Zab a2 a0&&(Zab a2 a1&&(Zaa a3 0 1&&Zaa a4 1 14))))) then (bif (!((gB prog a0 a1 a2 a3 a4.toNat))) then (some (.t [.i .i64 (0:Int),.i .i64 (6:Int)],.none,true))
     else (some (.t [.i .i64 (gN prog a0 a1 a2 a3 a4.toNat),.i .i64 (0:Int)],.none,true)))
    else (none)))
  else (none)):=by kernel_rfl
theorem Zpl (a0 a1:Array Value) (a2 a3 a4:Int) (h_a0:WT prog 35 a0) (h_a1:WT prog 35 a1) (h_a2:i64.min≤a2∧a2≤i64.max) (h_a3:i64.min≤a3∧a3≤i64.max) (h_a4:i64.min≤a4∧a4≤i64.max) (hg:(true)=true):ansV prog Zmj 1000 Tryd.f19 [] [.g a0 35,.g a1 35,.i .i64 (a2),.i .i64 (a3),.i .i64 (a4)] []=some (.t [.i .i64 (egV a0 a1 a2 a3 a4),.i .i64 (egC a0 a1 a2 a3 a4)],.none,true):=by
 unfold egV egC
 refine (Zq8 1000 a0 a1 a2 a3 a4).trans ?_
 have hb:Nat.beq 0 0=true:=rfl
 rw [hb,cond_true]
 cases hz:(bothC a0 a1 a2 a3 (Zaa a4 1 14) != (0:Int)) with
 | true=>simp only [cond_true]
 | false=>
  obtain ⟨o0,o1,_,i0,i1,t0,f0,_⟩:=Zmu hz
  rw [o0,o1,i0,i1,t0,f0]
  simp only [Bool.and_self,cond_true,cond_false]
  cases hg2:gB prog a0 a1 a2 a3 a4.toNat with
  | true=>simp only [Bool.not_true,cond_true,cond_false]
  | false=>simp only [Bool.not_false,cond_true,cond_false,gN_zero hg2]
def Zhd:Con:=fun args h=>match args,h with
 | [.g a0 35,.g a1 35,.i .i64 a2,.i .i64 a3,.i .i64 a4],[]=>some (.t [.i .i64 (egV a0 a1 a2 a3 a4),.i .i64 (egC a0 a1 a2 a3 a4)],.none,true)
 | _,_=>none
theorem Zo6:EntX prog 19:=Zai (fn:=Tryd.f19) (by kernel_rfl) (by kernel_rfl) (by kernel_rfl)
theorem Zr0:ConOkX (md F) prog 19 Zhd:=(Zaj (N:=1000) (by kernel_rfl) (mkΓ_consX (Zad Zpw) Znf (mkΓ_consX (Zad Zmx) Zji (mkΓ_consX (Zad Zp2) Zm8 mkΓ_nilX))) (fn:=Tryd.f19) (by kernel_rfl) (by kernel_rfl) []).of (by
 intro ρ h w args vals r e hA hH hr
 unfold Zhd at hr
 split at hr
 ·rename_i a0 a1 a2 a3 a4
  obtain ⟨rfl,hg⟩:=Prod.mk.inj (Option.some.inj hr)
  obtain ⟨rfl,hg2⟩:=Prod.mk.inj hg
  exact Zpl a0 a1 a2 a3 a4 (hA.wt 0 rfl) (hA.wt 1 rfl) (hA.rng 2 rfl) (hA.rng 3 rfl) (hA.rng 4 rfl) hg2
 ·cases hr)
def Zms:Cons:=(mkΓ [(38,conG Zcw),(39,con Zf5),(55,con Zed)])
theorem Zqi (N:Nat) (a0 a1:Array Value) (a2 a3 a4:Int) (g_e0 g_e1 g_e2 g_e3 g_e4:Addr):ansV prog Zms N Tryd.f20 [] [.g a0 35,.g a1 35,.i .i64 (a2),.i .i64 (a3),.i .i64 (a4)] [.gl 1 215 g_e0 101973,.gl 2 215 g_e1 93330,.gl 0 215 g_e2 124718,.gl 3 215 g_e3 112315,.gl 4 215 g_e4 94254]=(bif Nat.beq 2 2 then (bif ((bothC ((spl (spl (repC (zc prog 35) 2) 0 a0.toList) 363 a1.toList).extract 0 363) ((spl (spl (repC (zc prog 35) 2) 0 a0.toList) 363 a1.toList).extract 363 726) (num (#[.int .i64 (a2),.int .i64 (a3),.slice none 0 0]:Array Value) 0) (num (#[.int .i64 (a2),.int .i64 (a3),.slice none 0 0]:Array Value) 1) (Zd6 a4)) != (0:Int)) then (some (.t [.i .i64 (0:Int),.i .i64 (bothC ((spl (spl (repC (zc prog 35) 2) 0 a0.toList) 363 a1.toList).extract 0 363) ((spl (spl (repC (zc prog 35) 2) 0 a0.toList) 363 a1.toList).extract 363 726) (num (#[.int .i64 (a2),.int .i64 (a3),.slice none 0 0]:Array Value) 0) (num (#[.int .i64 (a2),.int .i64 (a3),.slice none 0 0]:Array Value) 1) (Zd6 a4))],.none,true))
   else (bif (okS a0&&(okS a1&&(Zab (num (#[.int .i64 (a2),.int .i64 (a3),.slice none 0 0]:Array Value) 0) a0&&(Zab (num (#[.int .i64 (a2),.int .i64 (a3),.slice none 0 0]:Array Value) 0) a1&&(Zaa (num (#[.int .i64 (a2),.int .i64 (a3),.slice none 0 0]:Array Value) 1) 0 1&&Zaa a4 1 14))))) then (some (.t [.i .i64 (gN prog a0 a1 (num (#[.int .i64 (a2),.int .i64 (a3),.slice none 0 0]:Array Value) 0) (num (#[.int .i64 (a2),.int .i64 (a3),.slice none 0 0]:Array Value) 1) a4.toNat),.i .i64 (bif gB prog a0 a1 (num (#[.int .i64 (a2),.int .i64 (a3),.slice none 0 0]:Array Value) 0) (num (#[.int .i64 (a2),.int .i64 (a3),.slice none 0 0]:Array Value) 1) a4.toNat then 0 else 6)],.none,true))
    else (none)))
  else (none)):=by kernel_rfl
theorem Zpp (a0 a1:Array Value) (a2 a3 a4:Int) (g_e0 g_e1 g_e2 g_e3 g_e4:Addr) (h_a0:WT prog 35 a0) (h_a1:WT prog 35 a1) (h_a2:i64.min≤a2∧a2≤i64.max) (h_a3:i64.min≤a3∧a3≤i64.max) (h_a4:i64.min≤a4∧a4≤i64.max) (hg:(true)=true):ansV prog Zms 1000 Tryd.f20 [] [.g a0 35,.g a1 35,.i .i64 (a2),.i .i64 (a3),.i .i64 (a4)] [.gl 1 215 g_e0 101973,.gl 2 215 g_e1 93330,.gl 0 215 g_e2 124718,.gl 3 215 g_e3 112315,.gl 4 215 g_e4 94254]=some (.t [.i .i64 (egV a0 a1 a2 a3 a4),.i .i64 (egC a0 a1 a2 a3 a4)],.none,true):=by
 unfold egV egC
 have z0:a0.size=363:=by rw [h_a0.layLen];kernel_rfl
 have z1:a1.size=363:=by rw [h_a1.layLen];kernel_rfl
 obtain ⟨x0,x1⟩:=Yj6 z0 z1
 have hb:Nat.beq 2 2=true:=rfl
 have c0:num (#[.int .i64 a2,.int .i64 a3,.slice none 0 0]:Array Value) 0=a2:=rfl
 have c1:num (#[.int .i64 a2,.int .i64 a3,.slice none 0 0]:Array Value) 1=a3:=rfl
 refine (Zqi 1000 a0 a1 a2 a3 a4 g_e0 g_e1 g_e2 g_e3 g_e4).trans ?_
 rw [hb,cond_true,x0,x1,c0,c1,Ygw]
 cases hz:(bothC a0 a1 a2 a3 (Zaa a4 1 14) != (0:Int)) with
 | true=>simp only [cond_true]
 | false=>
  obtain ⟨o0,o1,_,i0,i1,t0,f0,_⟩:=Zmu hz
  rw [o0,o1,i0,i1,t0,f0]
  simp only [Bool.and_self,cond_true,cond_false]
def Zg4:Con:=fun args h=>match args,h with
 | [.g a0 35,.g a1 35,.i .i64 a2,.i .i64 a3,.i .i64 a4],[.gl 1 215 g_e0 101973,.gl 2 215 g_e1 93330,.gl 0 215 g_e2 124718,.gl 3 215 g_e3 112315,.gl 4 215 g_e4 94254]=>some (.t [.i .i64 (egV a0 a1 a2 a3 a4),.i .i64 (egC a0 a1 a2 a3 a4)],.none,true)
 | _,_=>none
theorem Zoz:EntX prog 20:=Zai (fn:=Tryd.f20) (by kernel_rfl) (by kernel_rfl) (by kernel_rfl)
theorem Zsp:ConOkX (md F) prog 20 Zg4:=(Zaj (N:=1000) (by kernel_rfl) (mkΓ_consX (Zhe Zig) Zgy (mkΓ_consX (Zad Zmw) Zjk (mkΓ_consX (Zad Zkx) Zi1 mkΓ_nilX))) (fn:=Tryd.f20) (by kernel_rfl) (by kernel_rfl) []).of (by
 intro ρ h w args vals r e hA hH hr
 unfold Zg4 at hr
 split at hr
 ·rename_i a0 a1 a2 a3 a4 g_e0 g_e1 g_e2 g_e3 g_e4
  obtain ⟨rfl,hg⟩:=Prod.mk.inj (Option.some.inj hr)
  obtain ⟨rfl,hg2⟩:=Prod.mk.inj hg
  exact Zpp a0 a1 a2 a3 a4 g_e0 g_e1 g_e2 g_e3 g_e4 (hA.wt 0 rfl) (hA.wt 1 rfl) (hA.rng 2 rfl) (hA.rng 3 rfl) (hA.rng 4 rfl) hg2
 ·cases hr)
def fnV (a0 a1:Array Value) (a2 a3 a4 a5:Int):Int:=bif (bothC a0 a1 a2 a3 (Zaa a4 1 14&&Zaa a5 1 1000) != (0:Int)) then 0 else bif gB prog a0 a1 a2 a3 a4.toNat then (bif decide (gN prog a0 a1 a2 a3 a4.toNat≤0) then 0 else (bif (((a5*12^a4.toNat)).tmod (gN prog a0 a1 a2 a3 a4.toNat) != (0:Int)) then ((a5*12^a4.toNat)).tdiv (gN prog a0 a1 a2 a3 a4.toNat)+1 else ((a5*12^a4.toNat)).tdiv (gN prog a0 a1 a2 a3 a4.toNat))) else 0
def fnC (a0 a1:Array Value) (a2 a3 a4 a5:Int):Int:=bif (bothC a0 a1 a2 a3 (Zaa a4 1 14&&Zaa a5 1 1000) != (0:Int)) then bothC a0 a1 a2 a3 (Zaa a4 1 14&&Zaa a5 1 1000) else bif gB prog a0 a1 a2 a3 a4.toNat then (bif decide (gN prog a0 a1 a2 a3 a4.toNat≤0) then 8 else 0) else 6
def Zna:Cons:=(mkΓ [(33,con Zin),(34,con Zf2),(44,con Zki),(54,con Zim),(56,con Zbv)])
theorem Zsk (N:Nat) (a0 a1:Array Value) (a2 a3 a4 a5:Int):ansV prog Zna N Tryd.f21 [] [.g a0 35,.g a1 35,.i .i64 (a2),.i .i64 (a3),.i .i64 (a4),.i .i64 (a5)] []=(bif (Zaa a4 (1:Int) (14:Int)) then (bif Nat.beq 0 0 then (bif ((bothC a0 a1 a2 a3 (Zaa a5 (1:Int) (1000:Int))) != (0:Int)) then (some (.t [.i .i64 (0:Int),.i .i64 (bothC a0 a1 a2 a3 (Zaa a5 (1:Int) (1000:Int)))],.none,true))
        else (bif (okS a0&&(okS a1&&(Zab a2 a0&&(Zab a2 a1&&(Zaa a3 0 1&&Zaa a4 1 14))))) then (bif (!((gB prog a0 a1 a2 a3 a4.toNat))) then (some (.t [.i .i64 (0:Int),.i .i64 (6:Int)],.none,true))
            else (bif decide ((gN prog a0 a1 a2 a3 a4.toNat)≤(0:Int)) then (some (.t [.i .i64 (0:Int),.i .i64 (8:Int)],.none,true))
              else (bif (decide (0≤a4)&&decide (a4≤14)) then (bif ((gN prog a0 a1 a2 a3 a4.toNat) != 0) then (bif ((gN prog a0 a1 a2 a3 a4.toNat) != 0) then (bif ((((i64.wrap (a5*(12^a4.toNat)))).tmod (gN prog a0 a1 a2 a3 a4.toNat)) != (0:Int)) then (some (.t [.i .i64 (i64.wrap ((i64.wrap (((i64.wrap (a5*(12^a4.toNat)))).tdiv (gN prog a0 a1 a2 a3 a4.toNat)))+(1:Int))),.i .i64 (0:Int)],.none,true))
                      else (some (.t [.i .i64 (i64.wrap (((i64.wrap (a5*(12^a4.toNat)))).tdiv (gN prog a0 a1 a2 a3 a4.toNat))),.i .i64 (0:Int)],.none,true)))
                    else (none))
                  else (none))
                else (none))))
          else (none)))
      else (none))
    else (bif Nat.beq 0 0 then (bif ((bothC a0 a1 a2 a3 false) != (0:Int)) then (some (.t [.i .i64 (0:Int),.i .i64 (bothC a0 a1 a2 a3 false)],.none,true))
        else (bif (okS a0&&(okS a1&&(Zab a2 a0&&(Zab a2 a1&&(Zaa a3 0 1&&Zaa a4 1 14))))) then (bif (!((gB prog a0 a1 a2 a3 a4.toNat))) then (some (.t [.i .i64 (0:Int),.i .i64 (6:Int)],.none,true))
            else (bif decide ((gN prog a0 a1 a2 a3 a4.toNat)≤(0:Int)) then (some (.t [.i .i64 (0:Int),.i .i64 (8:Int)],.none,true))
              else (bif (decide (0≤a4)&&decide (a4≤14)) then (bif ((gN prog a0 a1 a2 a3 a4.toNat) != 0) then (bif ((gN prog a0 a1 a2 a3 a4.toNat) != 0) then (bif ((((i64.wrap (a5*(12^a4.toNat)))).tmod (gN prog a0 a1 a2 a3 a4.toNat)) != (0:Int)) then (some (.t [.i .i64 (i64.wrap ((i64.wrap (((i64.wrap (a5*(12^a4.toNat)))).tdiv (gN prog a0 a1 a2 a3 a4.toNat)))+(1:Int))),.i .i64 (0:Int)],.none,true))
                      else (some (.t [.i .i64 (i64.wrap (((i64.wrap (a5*(12^a4.toNat)))).tdiv (gN prog a0 a1 a2 a3 a4.toNat))),.i .i64 (0:Int)],.none,true)))
                    else (none))
                  else (none))
                else (none))))
          else (none)))
      else (none))):=by kernel_rfl
theorem Zq1 (a0 a1:Array Value) (a2 a3 a4 a5:Int) (h_a0:WT prog 35 a0) (h_a1:WT prog 35 a1) (h_a2:i64.min≤a2∧a2≤i64.max) (h_a3:i64.min≤a3∧a3≤i64.max) (h_a4:i64.min≤a4∧a4≤i64.max) (h_a5:i64.min≤a5∧a5≤i64.max) (hg:(true)=true):ansV prog Zna 1000 Tryd.f21 [] [.g a0 35,.g a1 35,.i .i64 (a2),.i .i64 (a3),.i .i64 (a4),.i .i64 (a5)] []=some (.t [.i .i64 (fnV a0 a1 a2 a3 a4 a5),.i .i64 (fnC a0 a1 a2 a3 a4 a5)],.none,true):=by
 unfold fnV fnC
 refine (Zsk 1000 a0 a1 a2 a3 a4 a5).trans ?_
 have hb:Nat.beq 0 0=true:=rfl
 rw [hb]
 cases f1:Zaa a4 1 14 with
 | false=>
  have hz:(bothC a0 a1 a2 a3 false != (0:Int))=true:=by
   cases hz:(bothC a0 a1 a2 a3 false != (0:Int)) with
   | true=>rfl
   | false=>obtain ⟨_,_,_,_,_,_,f0,_⟩:=Zmu hz;cases f0
  simp only [Bool.false_and,hz,cond_true,cond_false]
 | true=>
 simp only [cond_true,Bool.true_and]
 cases hz:(bothC a0 a1 a2 a3 (Zaa a5 1 1000) != (0:Int)) with
 | true=>simp only [cond_true]
 | false=>
  obtain ⟨o0,o1,_,i0,i1,t0,f2,_⟩:=Zmu hz
  rw [o0,o1,i0,i1,t0]
  simp only [Bool.and_self,cond_true,cond_false]
  obtain ⟨q1,q2⟩:=Zgv f1
  obtain ⟨q3,q4⟩:=Zgv f2
  obtain ⟨m,rfl⟩:=Int.eq_ofNat_of_zero_le (show 0≤a4 by omega)
  have pw:=Zvk (show m≤14 by omega)
  rw [Zu8] at pw
  have pz:=Zoe m
  have n1:0≤a5*12^m:=Int.mul_nonneg (by omega) (Int.le_of_lt pz)
  have n2:a5*12^m≤1000*12^m:=Int.mul_le_mul_of_nonneg_right q4 (Int.le_of_lt pz)
  have wn:i64.wrap (a5*12^m)=a5*12^m:=IntWalk.i64_in _ (by omega)
  have r4:(decide (0≤(m:Int))&&decide ((m:Int)≤14))=true:=by rw [decide_eq_true (show 0≤(m:Int) by omega),decide_eq_true (show (m:Int)≤14 by omega)];rfl
  simp only [Int.toNat_natCast,wn,r4] at *
  cases hg2:gB prog a0 a1 a2 a3 m with
  | false=>simp only [Bool.not_false,cond_true,cond_false,show ((6:Int) != 0)=true from rfl]
  | true=>
   have gt:=gN_le h_a0 h_a1 o0 o1 i0 i1 t0 (show 1≤m∧m≤14 by omega) hg2
   obtain ⟨g,hgn⟩:∃ g,gN prog a0 a1 a2 a3 m=g:=⟨_,rfl⟩
   simp only [hgn] at gt⊢
   simp only [Bool.not_true,cond_true,cond_false,show ((0:Int) != 0)=false from rfl]
   by_cases hle:g≤0
   ·simp only [decide_eq_true hle,cond_true]
   ·have hne:(g != 0)=true:=by simpa using (show g≠0 by omega)
    have d0:0≤(a5*12^m).tdiv g:=Int.tdiv_nonneg n1 (by omega)
    have d1:(a5*12^m).tdiv g≤a5*12^m:=by rw [Int.tdiv_eq_ediv_of_nonneg n1];exact Int.ediv_le_self _ n1
    simp only [decide_eq_false hle,hne,cond_true,cond_false]
    have wd:i64.wrap ((a5*12^m).tdiv g)=(a5*12^m).tdiv g:=IntWalk.i64_in _ (by omega)
    have wd1:i64.wrap ((a5*12^m).tdiv g+1)=(a5*12^m).tdiv g+1:=IntWalk.i64_in _ (by omega)
    cases ((a5*12^m).tmod g != 0)<;>simp only [wd,wd1,cond_true,cond_false]
def Zia:Con:=fun args h=>match args,h with
 | [.g a0 35,.g a1 35,.i .i64 a2,.i .i64 a3,.i .i64 a4,.i .i64 a5],[]=>some (.t [.i .i64 (fnV a0 a1 a2 a3 a4 a5),.i .i64 (fnC a0 a1 a2 a3 a4 a5)],.none,true)
 | _,_=>none
theorem Zpg:EntX prog 21:=Zai (fn:=Tryd.f21) (by kernel_rfl) (by kernel_rfl) (by kernel_rfl)
theorem Zs7:ConOkX (md F) prog 21 Zia:=(Zaj (N:=1000) (by kernel_rfl) (mkΓ_consX (Zad Zpw) Znf (mkΓ_consX (Zad Zmx) Zji (mkΓ_consX (Zad Yab) Zs9 (mkΓ_consX (Zad Zp2) Zm8 (mkΓ_consX (Zad Zhl) Zep mkΓ_nilX))))) (fn:=Tryd.f21) (by kernel_rfl) (by kernel_rfl) []).of (by
 intro ρ h w args vals r e hA hH hr
 unfold Zia at hr
 split at hr
 ·rename_i a0 a1 a2 a3 a4 a5
  obtain ⟨rfl,hg⟩:=Prod.mk.inj (Option.some.inj hr)
  obtain ⟨rfl,hg2⟩:=Prod.mk.inj hg
  exact Zq1 a0 a1 a2 a3 a4 a5 (hA.wt 0 rfl) (hA.wt 1 rfl) (hA.rng 2 rfl) (hA.rng 3 rfl) (hA.rng 4 rfl) (hA.rng 5 rfl) hg2
 ·cases hr)
def Zm6:Cons:=(mkΓ [(38,conG Zcw),(39,con Zf5),(48,con Za6),(55,con Zed)])
theorem Zr1 (N:Nat) (a0 a1:Array Value) (a2 a3 a4 a5:Int) (g_e0 g_e1 g_e2 g_e3 g_e4:Addr):ansV prog Zm6 N Tryd.f22 [] [.g a0 35,.g a1 35,.i .i64 (a2),.i .i64 (a3),.i .i64 (a4),.i .i64 (a5)] [.gl 1 215 g_e0 101973,.gl 2 215 g_e1 93330,.gl 0 215 g_e2 124718,.gl 3 215 g_e3 112315,.gl 4 215 g_e4 94254]=(bif (Zd6 a4) then (bif decide (a5 ≥ (1:Int)) then (bif Nat.beq 2 2 then (bif ((bothC ((spl (spl (repC (zc prog 35) 2) 0 a0.toList) 363 a1.toList).extract 0 363) ((spl (spl (repC (zc prog 35) 2) 0 a0.toList) 363 a1.toList).extract 363 726) (num (#[.int .i64 (a2),.int .i64 (a3),.slice none 0 0]:Array Value) 0) (num (#[.int .i64 (a2),.int .i64 (a3),.slice none 0 0]:Array Value) 1) (decide (a5≤(1000:Int)))) != (0:Int)) then (some (.t [.i .i64 (0:Int),.i .i64 (bothC ((spl (spl (repC (zc prog 35) 2) 0 a0.toList) 363 a1.toList).extract 0 363) ((spl (spl (repC (zc prog 35) 2) 0 a0.toList) 363 a1.toList).extract 363 726) (num (#[.int .i64 (a2),.int .i64 (a3),.slice none 0 0]:Array Value) 0) (num (#[.int .i64 (a2),.int .i64 (a3),.slice none 0 0]:Array Value) 1) (decide (a5≤(1000:Int))))],.none,true))
          else (bif (okS a0&&(okS a1&&(Zab (num (#[.int .i64 (a2),.int .i64 (a3),.slice none 0 0]:Array Value) 0) a0&&(Zab (num (#[.int .i64 (a2),.int .i64 (a3),.slice none 0 0]:Array Value) 0) a1&&(Zaa (num (#[.int .i64 (a2),.int .i64 (a3),.slice none 0 0]:Array Value) 1) 0 1&&Zaa a4 1 14))))) then (bif ((bif gB prog a0 a1 (num (#[.int .i64 (a2),.int .i64 (a3),.slice none 0 0]:Array Value) 0) (num (#[.int .i64 (a2),.int .i64 (a3),.slice none 0 0]:Array Value) 1) a4.toNat then 0 else 6) != (0:Int)) then (some (.t [.i .i64 (0:Int),.i .i64 (bif gB prog a0 a1 (num (#[.int .i64 (a2),.int .i64 (a3),.slice none 0 0]:Array Value) 0) (num (#[.int .i64 (a2),.int .i64 (a3),.slice none 0 0]:Array Value) 1) a4.toNat then 0 else 6)],.none,true))
              else (bif decide ((gN prog a0 a1 (num (#[.int .i64 (a2),.int .i64 (a3),.slice none 0 0]:Array Value) 0) (num (#[.int .i64 (a2),.int .i64 (a3),.slice none 0 0]:Array Value) 1) a4.toNat)≤(0:Int)) then (some (.t [.i .i64 (0:Int),.i .i64 (8:Int)],.none,true))
                else (bif (decide (0≤a4)&&decide (a4≤14)) then (bif ((gN prog a0 a1 (num (#[.int .i64 (a2),.int .i64 (a3),.slice none 0 0]:Array Value) 0) (num (#[.int .i64 (a2),.int .i64 (a3),.slice none 0 0]:Array Value) 1) a4.toNat) != 0) then (some (.t [.i .i64 (i64.wrap (((i64.wrap ((i64.wrap ((i64.wrap (a5*(12^a4.toNat)))+(gN prog a0 a1 (num (#[.int .i64 (a2),.int .i64 (a3),.slice none 0 0]:Array Value) 0) (num (#[.int .i64 (a2),.int .i64 (a3),.slice none 0 0]:Array Value) 1) a4.toNat))) - (1:Int)))).tdiv (gN prog a0 a1 (num (#[.int .i64 (a2),.int .i64 (a3),.slice none 0 0]:Array Value) 0) (num (#[.int .i64 (a2),.int .i64 (a3),.slice none 0 0]:Array Value) 1) a4.toNat))),.i .i64 (0:Int)],.none,true))
                    else (none))
                  else (none))))
            else (none)))
        else (none))
      else (bif Nat.beq 2 2 then (bif ((bothC ((spl (spl (repC (zc prog 35) 2) 0 a0.toList) 363 a1.toList).extract 0 363) ((spl (spl (repC (zc prog 35) 2) 0 a0.toList) 363 a1.toList).extract 363 726) (num (#[.int .i64 (a2),.int .i64 (a3),.slice none 0 0]:Array Value) 0) (num (#[.int .i64 (a2),.int .i64 (a3),.slice none 0 0]:Array Value) 1) false) != (0:Int)) then (some (.t [.i .i64 (0:Int),.i .i64 (bothC ((spl (spl (repC (zc prog 35) 2) 0 a0.toList) 363 a1.toList).extract 0 363) ((spl (spl (repC (zc prog 35) 2) 0 a0.toList) 363 a1.toList).extract 363 726) (num (#[.int .i64 (a2),.int .i64 (a3),.slice none 0 0]:Array Value) 0) (num (#[.int .i64 (a2),.int .i64 (a3),.slice none 0 0]:Array Value) 1) false)],.none,true))
          else (bif (okS a0&&(okS a1&&(Zab (num (#[.int .i64 (a2),.int .i64 (a3),.slice none 0 0]:Array Value) 0) a0&&(Zab (num (#[.int .i64 (a2),.int .i64 (a3),.slice none 0 0]:Array Value) 0) a1&&(Zaa (num (#[.int .i64 (a2),.int .i64 (a3),.slice none 0 0]:Array Value) 1) 0 1&&Zaa a4 1 14))))) then (bif ((bif gB prog a0 a1 (num (#[.int .i64 (a2),.int .i64 (a3),.slice none 0 0]:Array Value) 0) (num (#[.int .i64 (a2),.int .i64 (a3),.slice none 0 0]:Array Value) 1) a4.toNat then 0 else 6) != (0:Int)) then (some (.t [.i .i64 (0:Int),.i .i64 (bif gB prog a0 a1 (num (#[.int .i64 (a2),.int .i64 (a3),.slice none 0 0]:Array Value) 0) (num (#[.int .i64 (a2),.int .i64 (a3),.slice none 0 0]:Array Value) 1) a4.toNat then 0 else 6)],.none,true))
              else (bif decide ((gN prog a0 a1 (num (#[.int .i64 (a2),.int .i64 (a3),.slice none 0 0]:Array Value) 0) (num (#[.int .i64 (a2),.int .i64 (a3),.slice none 0 0]:Array Value) 1) a4.toNat)≤(0:Int)) then (some (.t [.i .i64 (0:Int),.i .i64 (8:Int)],.none,true))
                else (bif (decide (0≤a4)&&decide (a4≤14)) then (bif ((gN prog a0 a1 (num (#[.int .i64 (a2),.int .i64 (a3),.slice none 0 0]:Array Value) 0) (num (#[.int .i64 (a2),.int .i64 (a3),.slice none 0 0]:Array Value) 1) a4.toNat) != 0) then (some (.t [.i .i64 (i64.wrap (((i64.wrap ((i64.wrap ((i64.wrap (a5*(12^a4.toNat)))+(gN prog a0 a1 (num (#[.int .i64 (a2),.int .i64 (a3),.slice none 0 0]:Array Value) 0) (num (#[.int .i64 (a2),.int .i64 (a3),.slice none 0 0]:Array Value) 1) a4.toNat))) - (1:Int)))).tdiv (gN prog a0 a1 (num (#[.int .i64 (a2),.int .i64 (a3),.slice none 0 0]:Array Value) 0) (num (#[.int .i64 (a2),.int .i64 (a3),.slice none 0 0]:Array Value) 1) a4.toNat))),.i .i64 (0:Int)],.none,true))
                    else (none))
                  else (none))))
            else (none)))
        else (none)))
    else (bif Nat.beq 2 2 then (bif ((bothC ((spl (spl (repC (zc prog 35) 2) 0 a0.toList) 363 a1.toList).extract 0 363) ((spl (spl (repC (zc prog 35) 2) 0 a0.toList) 363 a1.toList).extract 363 726) (num (#[.int .i64 (a2),.int .i64 (a3),.slice none 0 0]:Array Value) 0) (num (#[.int .i64 (a2),.int .i64 (a3),.slice none 0 0]:Array Value) 1) false) != (0:Int)) then (some (.t [.i .i64 (0:Int),.i .i64 (bothC ((spl (spl (repC (zc prog 35) 2) 0 a0.toList) 363 a1.toList).extract 0 363) ((spl (spl (repC (zc prog 35) 2) 0 a0.toList) 363 a1.toList).extract 363 726) (num (#[.int .i64 (a2),.int .i64 (a3),.slice none 0 0]:Array Value) 0) (num (#[.int .i64 (a2),.int .i64 (a3),.slice none 0 0]:Array Value) 1) false)],.none,true))
        else (bif (okS a0&&(okS a1&&(Zab (num (#[.int .i64 (a2),.int .i64 (a3),.slice none 0 0]:Array Value) 0) a0&&(Zab (num (#[.int .i64 (a2),.int .i64 (a3),.slice none 0 0]:Array Value) 0) a1&&(Zaa (num (#[.int .i64 (a2),.int .i64 (a3),.slice none 0 0]:Array Value) 1) 0 1&&Zaa a4 1 14))))) then (bif ((bif gB prog a0 a1 (num (#[.int .i64 (a2),.int .i64 (a3),.slice none 0 0]:Array Value) 0) (num (#[.int .i64 (a2),.int .i64 (a3),.slice none 0 0]:Array Value) 1) a4.toNat then 0 else 6) != (0:Int)) then (some (.t [.i .i64 (0:Int),.i .i64 (bif gB prog a0 a1 (num (#[.int .i64 (a2),.int .i64 (a3),.slice none 0 0]:Array Value) 0) (num (#[.int .i64 (a2),.int .i64 (a3),.slice none 0 0]:Array Value) 1) a4.toNat then 0 else 6)],.none,true))
            else (bif decide ((gN prog a0 a1 (num (#[.int .i64 (a2),.int .i64 (a3),.slice none 0 0]:Array Value) 0) (num (#[.int .i64 (a2),.int .i64 (a3),.slice none 0 0]:Array Value) 1) a4.toNat)≤(0:Int)) then (some (.t [.i .i64 (0:Int),.i .i64 (8:Int)],.none,true))
              else (bif (decide (0≤a4)&&decide (a4≤14)) then (bif ((gN prog a0 a1 (num (#[.int .i64 (a2),.int .i64 (a3),.slice none 0 0]:Array Value) 0) (num (#[.int .i64 (a2),.int .i64 (a3),.slice none 0 0]:Array Value) 1) a4.toNat) != 0) then (some (.t [.i .i64 (i64.wrap (((i64.wrap ((i64.wrap ((i64.wrap (a5*(12^a4.toNat)))+(gN prog a0 a1 (num (#[.int .i64 (a2),.int .i64 (a3),.slice none 0 0]:Array Value) 0) (num (#[.int .i64 (a2),.int .i64 (a3),.slice none 0 0]:Array Value) 1) a4.toNat))) - (1:Int)))).tdiv (gN prog a0 a1 (num (#[.int .i64 (a2),.int .i64 (a3),.slice none 0 0]:Array Value) 0) (num (#[.int .i64 (a2),.int .i64 (a3),.slice none 0 0]:Array Value) 1) a4.toNat))),.i .i64 (0:Int)],.none,true))
                  else (none))
                else (none))))
          else (none)))
      else (none))):=by kernel_rfl
theorem Zp0 (a0 a1:Array Value) (a2 a3 a4 a5:Int) (g_e0 g_e1 g_e2 g_e3 g_e4:Addr) (h_a0:WT prog 35 a0) (h_a1:WT prog 35 a1) (h_a2:i64.min≤a2∧a2≤i64.max) (h_a3:i64.min≤a3∧a3≤i64.max) (h_a4:i64.min≤a4∧a4≤i64.max) (h_a5:i64.min≤a5∧a5≤i64.max) (hg:(true)=true):ansV prog Zm6 1000 Tryd.f22 [] [.g a0 35,.g a1 35,.i .i64 (a2),.i .i64 (a3),.i .i64 (a4),.i .i64 (a5)] [.gl 1 215 g_e0 101973,.gl 2 215 g_e1 93330,.gl 0 215 g_e2 124718,.gl 3 215 g_e3 112315,.gl 4 215 g_e4 94254]=some (.t [.i .i64 (fnV a0 a1 a2 a3 a4 a5),.i .i64 (fnC a0 a1 a2 a3 a4 a5)],.none,true):=by
 unfold fnV fnC
 have z0:a0.size=363:=by rw [h_a0.layLen];kernel_rfl
 have z1:a1.size=363:=by rw [h_a1.layLen];kernel_rfl
 obtain ⟨x0,x1⟩:=Yj6 z0 z1
 have hb:Nat.beq 2 2=true:=rfl
 have c0:num (#[.int .i64 a2,.int .i64 a3,.slice none 0 0]:Array Value) 0=a2:=rfl
 have c1:num (#[.int .i64 a2,.int .i64 a3,.slice none 0 0]:Array Value) 1=a3:=rfl
 refine (Zr1 1000 a0 a1 a2 a3 a4 a5 g_e0 g_e1 g_e2 g_e3 g_e4).trans ?_
 rw [hb,Ygw]
 simp only [x0,x1,c0,c1]
 have e5:Zaa a5 1 1000=bif decide (a5 ≥ 1) then decide (a5≤1000) else false:=rfl
 cases f1:Zaa a4 1 14 with
 | false=>
  have hz:(bothC a0 a1 a2 a3 false != (0:Int))=true:=by
   cases hz:(bothC a0 a1 a2 a3 false != (0:Int)) with
   | true=>rfl
   | false=>obtain ⟨_,_,_,_,_,_,f0,_⟩:=Zmu hz;cases f0
  simp only [Bool.false_and,hz,cond_true,cond_false]
 | true=>
 simp only [cond_true,Bool.true_and]
 cases h5:decide (a5 ≥ 1) with
 | false=>
  rw [h5,cond_false] at e5
  have hz:(bothC a0 a1 a2 a3 false != (0:Int))=true:=by
   cases hz:(bothC a0 a1 a2 a3 false != (0:Int)) with
   | true=>rfl
   | false=>obtain ⟨_,_,_,_,_,_,f0,_⟩:=Zmu hz;cases f0
  simp only [e5,hz,cond_true,cond_false]
 | true=>
 rw [h5,cond_true] at e5
 simp only [cond_true,← e5]
 cases hz:(bothC a0 a1 a2 a3 (Zaa a5 1 1000) != (0:Int)) with
 | true=>simp only [cond_true]
 | false=>
  obtain ⟨o0,o1,_,i0,i1,t0,f2,_⟩:=Zmu hz
  rw [o0,o1,i0,i1,t0]
  simp only [Bool.and_self,cond_true,cond_false]
  obtain ⟨q1,q2⟩:=Zgv f1
  obtain ⟨q3,q4⟩:=Zgv f2
  obtain ⟨m,rfl⟩:=Int.eq_ofNat_of_zero_le (show 0≤a4 by omega)
  have pw:=Zvk (show m≤14 by omega)
  rw [Zu8] at pw
  have pz:=Zoe m
  have n1:0≤a5*12^m:=Int.mul_nonneg (by omega) (Int.le_of_lt pz)
  have n2:a5*12^m≤1000*12^m:=Int.mul_le_mul_of_nonneg_right q4 (Int.le_of_lt pz)
  have wn:i64.wrap (a5*12^m)=a5*12^m:=IntWalk.i64_in _ (by omega)
  have r4:(decide (0≤(m:Int))&&decide ((m:Int)≤14))=true:=by rw [decide_eq_true (show 0≤(m:Int) by omega),decide_eq_true (show (m:Int)≤14 by omega)];rfl
  simp only [Int.toNat_natCast,wn,r4] at *
  cases hg2:gB prog a0 a1 a2 a3 m with
  | false=>simp only [Bool.not_false,cond_true,cond_false,show ((6:Int) != 0)=true from rfl]
  | true=>
   have gt:=gN_le h_a0 h_a1 o0 o1 i0 i1 t0 (show 1≤m∧m≤14 by omega) hg2
   obtain ⟨g,hgn⟩:∃ g,gN prog a0 a1 a2 a3 m=g:=⟨_,rfl⟩
   simp only [hgn] at gt⊢
   simp only [Bool.not_true,cond_true,cond_false,show ((0:Int) != 0)=false from rfl]
   by_cases hle:g≤0
   ·simp only [decide_eq_true hle,cond_true]
   ·have hne:(g != 0)=true:=by simpa using (show g≠0 by omega)
    have d0:0≤(a5*12^m).tdiv g:=Int.tdiv_nonneg n1 (by omega)
    have d1:(a5*12^m).tdiv g≤a5*12^m:=by rw [Int.tdiv_eq_ediv_of_nonneg n1];exact Int.ediv_le_self _ n1
    simp only [decide_eq_false hle,hne,cond_true,cond_false]
    rw [IntWalk.i64_in (a5*12^m+g) (by omega),IntWalk.i64_in (a5*12^m+g - 1) (by omega),ceil_eq n1 (show 0<g by omega)]
    have wd:i64.wrap ((a5*12^m).tdiv g)=(a5*12^m).tdiv g:=IntWalk.i64_in _ (by omega)
    have wd1:i64.wrap ((a5*12^m).tdiv g+1)=(a5*12^m).tdiv g+1:=IntWalk.i64_in _ (by omega)
    cases ((a5*12^m).tmod g != 0)<;>simp only [wd,wd1,cond_true,cond_false]
def Zh0:Con:=fun args h=>match args,h with
 | [.g a0 35,.g a1 35,.i .i64 a2,.i .i64 a3,.i .i64 a4,.i .i64 a5],[.gl 1 215 g_e0 101973,.gl 2 215 g_e1 93330,.gl 0 215 g_e2 124718,.gl 3 215 g_e3 112315,.gl 4 215 g_e4 94254]=>some (.t [.i .i64 (fnV a0 a1 a2 a3 a4 a5),.i .i64 (fnC a0 a1 a2 a3 a4 a5)],.none,true)
 | _,_=>none
theorem Zpd:EntX prog 22:=Zai (fn:=Tryd.f22) (by kernel_rfl) (by kernel_rfl) (by kernel_rfl)
theorem Ztb:ConOkX (md F) prog 22 Zh0:=(Zaj (N:=1000) (by kernel_rfl) (mkΓ_consX (Zhe Zig) Zgy (mkΓ_consX (Zad Zmw) Zjk (mkΓ_consX (Zad Znb) Zkt (mkΓ_consX (Zad Zkx) Zi1 mkΓ_nilX)))) (fn:=Tryd.f22) (by kernel_rfl) (by kernel_rfl) []).of (by
 intro ρ h w args vals r e hA hH hr
 unfold Zh0 at hr
 split at hr
 ·rename_i a0 a1 a2 a3 a4 a5 g_e0 g_e1 g_e2 g_e3 g_e4
  obtain ⟨rfl,hg⟩:=Prod.mk.inj (Option.some.inj hr)
  obtain ⟨rfl,hg2⟩:=Prod.mk.inj hg
  exact Zp0 a0 a1 a2 a3 a4 a5 g_e0 g_e1 g_e2 g_e3 g_e4 (hA.wt 0 rfl) (hA.wt 1 rfl) (hA.rng 2 rfl) (hA.rng 3 rfl) (hA.rng 4 rfl) (hA.rng 5 rfl) hg2
 ·cases hr)
end
end Go.Proofs.YtdofpgniogochaaDoor
