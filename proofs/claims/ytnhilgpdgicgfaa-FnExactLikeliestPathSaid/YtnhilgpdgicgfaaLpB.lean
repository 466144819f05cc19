/- What lists of steps tell. -/
import Derived.Test.YtnhilgpdgicgfaaProg
import Derived.Test.YtnhilgpdgicgfaaLpA
namespace Go.Proofs.Ytnhilgpdgicgfaa
open Go.ChangeShapes Go.WideShapes Go.ChangeAt Go.RowKit Ve Vc
open IntKind (i64)
set_option linter.unusedVariables false
set_option linter.unusedSimpArgs false
set_option maxRecDepth 100000
noncomputable section
variable {mn:Md}
theorem ext_num{C:Array Value}{b m o:Nat}(ho:o<m):num (C.extract b (b+m)) o=num C (b+o):=by
 have e2:(C.extract b (b+m))[o]?=C[b+o]?:=by
  simp only[Array.getElem?_extract]
  by_cases h:b+o<C.size
  ·rw[if_pos (by omega)]
  ·rw[if_neg (by omega),Array.getElem?_eq_none (by omega)]
 unfold num;rw[e2]
theorem sl_int{P:Program}{e:TypeId}{n m:Nat}{C:Array Value}(h:∀k,k<n->WT P e (C.extract (k*m) (k*m+m))){k o:Nat}{kd:IntKind}(hk:k<n)(ho:o<m)(hq:(lay P e)[o]?=some (kN kd)):
  C[k*m+o]?=some (.int kd (num C (k*m+o)))/\kd.min<=num C (k*m+o)/\num C (k*m+o)<=kd.max:=by
 have hw:=(h k hk).int hq;rw[ext_num ho]at hw;refine⟨?_,hw.2⟩;have:=hw.1;rw[Array.getElem?_extract]at this;split at this
 ·exact this
 ·cases this
noncomputable def rdSt(n:Nat)(C:Array Value):List (Int×Int):=(List.range n).map λk=>(num C (k*2+0),num C (k*2+1))
noncomputable def okSt(n:Nat)(C:Array Value):Bool:=(List.range n).all λk=>decide (0<=num C (k*2+0))&&decide (num C (k*2+0)<36)
noncomputable def laterOf(L:Array Value)(c:Int):Int:=num L (c.toNat*1)
noncomputable def lkF(L:Array Value)(b:Int×Int)(p:Int×Int):Int×Int:=bif decide (i64.wrap (p.2*laterOf L p.1) > b.2) then (p.1,i64.wrap (p.2*laterOf L p.1)) else b
noncomputable def lkL(l:List (Int×Int))(L:Array Value):Int×Int:=l.foldl (lkF L) (0,0)
theorem okSt_at{n:Nat}{C:Array Value}(h:okSt n C=true){k:Nat}(hk:k<n):(decide (0<=num C (k*2+0))&&decide (num C (k*2+0)<36))=true:=List.all_eq_true.1 h k (List.mem_range.2 hk)
theorem rd_fold{T:Type}(f:T->Int×Int->T)(t:T)(n:Nat)(C:Array Value):folds (λs k=>f s (num C (k*2+0),num C (k*2+1))) t n=(rdSt n C).foldl f t:=by unfold folds rdSt;rw[List.foldl_map]
theorem encSt_get:∀(l:List (Int×Int)) (k:Nat) (p:Int×Int),l[k]?=some p->num (encSt l) (k*2+0)=p.1/\num (encSt l) (k*2+1)=p.2
 |[],k,p,h=>by simp at h
 | q::r,k,p,h=>by
  have e:encSt (q::r)=#[.int .i64 q.1,.int .i64 q.2]++encSt r:=by rw[show q::r=[q]++r from rfl,encSt_app];rfl
  cases k with
  |zero=>simp only[List.getElem?_cons_zero,Option.some.injEq]at h;subst h;rw[e];unfold num;constructor<;>rw[Array.getElem?_append_left (by simp)]<;>rfl
  | succ k=>
   have:=encSt_get r k p (by simpa using h);rw[e];have s:∀o,num (#[Value.int .i64 q.1,.int .i64 q.2]++encSt r) (o+2)=num (encSt r) o:=λo=>by
    unfold num;rw[Array.getElem?_append_right (by simp)];rfl
   rw[show (k+1)*2+0=(k*2+0)+2 by omega,show (k+1)*2+1=(k*2+1)+2 by omega,s,s];exact this
theorem rd_enc(l:List (Int×Int)):rdSt l.length (encSt l)=l:=by
 refine List.ext_getElem? λk=> ?_
 unfold rdSt;rw[List.getElem?_map]
 by_cases hk:k<l.length
 ·rw[List.getElem?_range hk,List.getElem?_eq_getElem hk];obtain⟨h1,h2⟩:=encSt_get l k l[k] (List.getElem?_eq_getElem hk);simp only[Option.map_some,h1,h2]
 ·rw[List.getElem?_eq_none (by simpa using hk),List.getElem?_eq_none (by omega)];rfl
theorem ok_enc{l:List (Int×Int)}(h:∀p∈l,0<=p.1/\p.1<36):okSt l.length (encSt l)=true:=by
 unfold okSt;refine List.all_eq_true.2 λk hk=> ?_
 have hk:=List.mem_range.1 hk;obtain⟨h1,h2⟩:=encSt_get l k l[k] (List.getElem?_eq_getElem hk);have:=h l[k] (List.getElem_mem hk);rw[h1,decide_eq_true this.1,decide_eq_true this.2];rfl
noncomputable def impl_steps_likeliest_t0(a1:Array Value)(b_a0:Option (Option Addr))(n_a0:Nat)(a0:Array Value):St:=(⟨.a (.l 0)::.a (.g a1 42)::.a (.u)::.a (.w 1)::.a (.w 2)::.a (.w 3)::us 3 (.a (.l 0)::.a (.i .i64 (n_a0:Int))::.a (.i .i64 0)::us 20 ([])),[.sl (.came b_a0) n_a0 a0 116,.row a1 42,.row #[.int .i64 0,.int .i64 0] 116,.row #[.int .i64 0,.int .i64 0] 116],[]⟩:St)
noncomputable def impl_steps_likeliest_e0:Int×Array Value->LS
 |(y0_11,r0_3)=>([.a (.i .i64 y0_11)],[.row r0_3 116])
noncomputable def impl_steps_likeliest_x0:Int×Array Value->Exit×LS
 |t=>((.exit 0),impl_steps_likeliest_e0 t)
noncomputable def impl_steps_likeliest_g0(P:Program)(a1:Array Value)(b_a0:Option (Option Addr))(n_a0:Nat)(a0:Array Value):Int×Array Value->Option (Stp (Int×Array Value) (Int×Array Value))
 |(y0_11,r0_3)=>bif decide (y0_11<(n_a0:Int)) then (bif (decide (0<=y0_11)&&decide (y0_11<(n_a0:Int))) then (bif (decide (0<=(num (a0.extract ((y0_11).toNat*2) (((y0_11).toNat*2)+2)) 0))&&decide ((num (a0.extract ((y0_11).toNat*2) (((y0_11).toNat*2)+2)) 0)<36)) then (bif decide ((i64.wrap ((num (a0.extract ((y0_11).toNat*2) (((y0_11).toNat*2)+2)) 1)*(num a1 ((num (a0.extract ((y0_11).toNat*2) (((y0_11).toNat*2)+2)) 0).toNat*1)))) > (num r0_3 1)) then (some (.more ((i64.wrap (y0_11+(1:Int))),(#[.int .i64 (num (a0.extract ((y0_11).toNat*2) (((y0_11).toNat*2)+2)) 0),.int .i64 (i64.wrap ((num (a0.extract ((y0_11).toNat*2) (((y0_11).toNat*2)+2)) 1)*(num a1 ((num (a0.extract ((y0_11).toNat*2) (((y0_11).toNat*2)+2)) 0).toNat*1))))]:Array Value)))) else (some (.more ((i64.wrap (y0_11+(1:Int))),r0_3)))) else (none)) else (none)) else (some (.done (y0_11,r0_3)))
theorem impl_steps_likeliest_s0(N:Nat)(a1:Array Value)(b_a0:Option (Option Addr))(n_a0:Nat)(a0:Array Value):∀t:Int×Array Value,stepV Try.prog (mkΓ []) N (cAt (codeOf Try.f81) [1,1,0,1,0,0]) (pAt (mkPlan (codeOf Try.f81) [([11],[3])]).1 [1,1,0,1,0]) [11] [3] (impl_steps_likeliest_t0 a1 b_a0 n_a0 a0) (impl_steps_likeliest_e0 t)=mapS impl_steps_likeliest_e0 impl_steps_likeliest_x0 (impl_steps_likeliest_g0 Try.prog a1 b_a0 n_a0 a0 t):=by
 rintro⟨y0_11,r0_3⟩
 conv=>rhs;simp only[impl_steps_likeliest_g0,mapS_cond,mapS_more,mapS_done,mapS_none,impl_steps_likeliest_e0,impl_steps_likeliest_x0]
 kernel_rfl
noncomputable def impl_steps_likeliest_k0_0(P:Program)(N:Nat)(a1:Array Value)(b_a0:Option (Option Addr))(n_a0:Nat)(a0:Array Value)(z0_11:Int)(q0_3:Array Value):Option (SV×Eff×Bool):=some (.a (.g q0_3 116),.none,true)
theorem impl_steps_likeliest_k0_0_eq(N:Nat)(a1:Array Value)(b_a0:Option (Option Addr))(n_a0:Nat)(a0:Array Value)(z0_11:Int)(q0_3:Array Value):(kBlock 0 (kSeq (veC Try.prog (mkΓ []) N (cAt (codeOf Try.f81) [1,1,1]) (pAt (mkPlan (codeOf Try.f81) [([11],[3])]).1 [1,1,1]) (SV×Eff×Bool)) (finK Try.prog [.sl (.came b_a0) n_a0 a0 116] [.cell 4 116]))) (.exit 0) (left (writes (cAt (codeOf Try.f81) [1,1,0,1,0,0])) [11] [3] (impl_steps_likeliest_t0 a1 b_a0 n_a0 a0) ([.a (.i .i64 z0_11)],[.row q0_3 116]))=impl_steps_likeliest_k0_0 Try.prog N a1 b_a0 n_a0 a0 z0_11 q0_3:=by kernel_rfl
theorem impl_steps_likeliest_n0(N:Nat)(a1:Array Value)(b_a0:Option (Option Addr))(n_a0:Nat)(a0:Array Value):bindX (iterO (stepV Try.prog (mkΓ []) N (cAt (codeOf Try.f81) [1,1,0,1,0,0]) (pAt (mkPlan (codeOf Try.f81) [([11],[3])]).1 [1,1,0,1,0]) [11] [3] (impl_steps_likeliest_t0 a1 b_a0 n_a0 a0)) N ([.a (.i .i64 0)],[.row (#[.int .i64 0,.int .i64 0]:Array Value) 116])) (λe s=>(kBlock 0 (kSeq (veC Try.prog (mkΓ []) N (cAt (codeOf Try.f81) [1,1,1]) (pAt (mkPlan (codeOf Try.f81) [([11],[3])]).1 [1,1,1]) (SV×Eff×Bool)) (finK Try.prog [.sl (.came b_a0) n_a0 a0 116] [.cell 4 116]))) e (left (writes (cAt (codeOf Try.f81) [1,1,0,1,0,0])) [11] [3] (impl_steps_likeliest_t0 a1 b_a0 n_a0 a0) s))=nodeX (iterO (impl_steps_likeliest_g0 Try.prog a1 b_a0 n_a0 a0) N ((0:Int),(#[.int .i64 0,.int .i64 0]:Array Value))) (λx=>impl_steps_likeliest_k0_0 Try.prog N a1 b_a0 n_a0 a0 x.1 x.2):=by refine loop_node impl_steps_likeliest_e0 impl_steps_likeliest_x0 _ _ (impl_steps_likeliest_s0 N a1 b_a0 n_a0 a0) N ((0:Int),(#[.int .i64 0,.int .i64 0]:Array Value)) _ _ ?_;intro x;exact impl_steps_likeliest_k0_0_eq N a1 b_a0 n_a0 a0 x.1 x.2
theorem impl_steps_likeliest_ans(N:Nat)(a1:Array Value)(b_a0:Option (Option Addr))(n_a0:Nat)(a0:Array Value):ansV Try.prog (mkΓ []) N Try.f81 [([11],[3])] [.l 0,.g a1 42] [.sl (.came b_a0) n_a0 a0 116]=(nodeX (iterO (impl_steps_likeliest_g0 Try.prog a1 b_a0 n_a0 a0) N ((0:Int),(#[.int .i64 0,.int .i64 0]:Array Value))) (λx=>impl_steps_likeliest_k0_0 Try.prog N a1 b_a0 n_a0 a0 x.1 x.2)):=by
 conv=>rhs;simp only[<- impl_steps_likeliest_n0 N a1 b_a0 n_a0 a0]
 kernel_rfl
theorem impl_steps_likeliest_main(a1:Array Value)(b_a0:Option (Option Addr))(n_a0:Nat)(a0:Array Value)(h_a1:WT Try.prog 42 a1)(h_a0:a0.size=n_a0*(lay Try.prog 116).length/\(∀k,k<n_a0->WT Try.prog 116 (a0.extract (k*(lay Try.prog 116).length) (k*(lay Try.prog 116).length+(lay Try.prog 116).length)))/\n_a0<=9223372036854775807)(hg:((okSt n_a0 a0))=true):ansV Try.prog (mkΓ []) 18446744073709551616 Try.f81 [([11],[3])] [.l 0,.g a1 42] [.sl (.came b_a0) n_a0 a0 116]=some (.a (.g (#[.int .i64 (lkL (rdSt n_a0 a0) a1).1,.int .i64 (lkL (rdSt n_a0 a0) a1).2]:Array Value) 116),.none,true):=by
 have hn:=h_a0.2.2;refine(impl_steps_likeliest_ans 18446744073709551616 a1 b_a0 n_a0 a0).trans ?_;have h:=iter_folds (g:=impl_steps_likeliest_g0 Try.prog a1 b_a0 n_a0 a0) (λs k=>((k:Int),(#[.int .i64 s.1,.int .i64 s.2]:Array Value))) (λs k=>lkF a1 s (num a0 (k*2+0),num a0 (k*2+1))) (m:=n_a0) (t:=((0:Int),(0:Int))) (x:=((n_a0:Int),(#[.int .i64 (lkL (rdSt n_a0 a0) a1).1,.int .i64 (lkL (rdSt n_a0 a0) a1).2]:Array Value))) (N:=18446744073709551616) (λk s hk _=>by
  have h1:decide ((k:Int)<(n_a0:Int))=true:=decide_eq_true (by omega);have h0:decide (0<=(k:Int))=true:=decide_eq_true (by omega);have h3:i64.wrap ((k:Int)+1)=((k+1:Nat):Int):=by rw[IntWalk.i64_in _ (by omega)];omega
  have hx0:num (a0.extract (k*2) (k*2+2)) 0=num a0 (k*2+0):=ext_num (by omega);have hx1:num (a0.extract (k*2) (k*2+2)) 1=num a0 (k*2+1):=ext_num (by omega);have hok:=okSt_at hg hk;have hs:num (#[.int .i64 s.1,.int .i64 s.2]:Array Value) 1=s.2:=rfl;simp only[impl_steps_likeliest_g0,h1,h0,h3,Int.toNat_natCast,Bool.and_self,cond_true,hx0,hx1,hok,hs];unfold lkF laterOf;cases decide (i64.wrap (num a0 (k*2+1)*num a1 ((num a0 (k*2+0)).toNat*1)) > s.2)<;>rfl) (by
  have h1:decide ((n_a0:Int)<(n_a0:Int))=false:=decide_eq_false (by omega);simp only[impl_steps_likeliest_g0,h1,cond_false];rw[rd_fold (lkF a1)];rfl) (by omega)
 have h':iterO (impl_steps_likeliest_g0 Try.prog a1 b_a0 n_a0 a0) 18446744073709551616 ((0:Int),(#[.int .i64 0,.int .i64 0]:Array Value))=some ((n_a0:Int),(#[.int .i64 (lkL (rdSt n_a0 a0) a1).1,.int .i64 (lkL (rdSt n_a0 a0) a1).2]:Array Value)):=h;rw[h'];rfl
noncomputable def impl_steps_likeliest_con:Con:=λargs h=>match args,h with|[.l 0,.g a1 42],[.sl (.came b_a0) n_a0 a0 116]=>some (.a (.g (#[.int .i64 (lkL (rdSt n_a0 a0) a1).1,.int .i64 (lkL (rdSt n_a0 a0) a1).2]:Array Value) 116),.none,(okSt n_a0 a0))|_,_=>none
theorem impl_steps_likeliest_enter:EntX Try.prog 81:=entX_ok (fn:=Try.f81) (by kernel_rfl) (by kernel_rfl) (by kernel_rfl)
theorem impl_steps_likeliest_ok:ConOkX mn Try.prog 81 impl_steps_likeliest_con:=(ansX_ok (N:=18446744073709551616) (by kernel_rfl) mKn (fn:=Try.f81) (by kernel_rfl) (by kernel_rfl) [([11],[3])]).of (by
 intro ρ h w args vals r e hA hH hr;unfold impl_steps_likeliest_con at hr;split at hr
 ·rename_i a1 b_a0 n_a0 a0;obtain⟨rfl,hg⟩:=Prod.mk.inj (Option.some.inj hr);obtain⟨rfl,hg2⟩:=Prod.mk.inj hg;exact impl_steps_likeliest_main a1 b_a0 n_a0 a0 (hA.wt 1 rfl) (hH.slw 0 rfl) hg2
 ·cases hr)
noncomputable def impl_steps_most_G:Cons:=(mkΓ [(81,con impl_steps_likeliest_con)])
theorem impl_steps_most_ans(N:Nat)(a1:Array Value)(b_a0:Option (Option Addr))(n_a0:Nat)(a0:Array Value):ansV Try.prog impl_steps_most_G N Try.f78 [] [.l 0,.g a1 42] [.sl (.came b_a0) n_a0 a0 116]=(bif (okSt n_a0 a0) then (some (.a (.i .i64 (num (#[.int .i64 (lkL (rdSt n_a0 a0) a1).1,.int .i64 (lkL (rdSt n_a0 a0) a1).2]:Array Value) 1)),.none,true)) else (none)):=by kernel_rfl
theorem impl_steps_most_main(a1:Array Value)(b_a0:Option (Option Addr))(n_a0:Nat)(a0:Array Value)(h_a1:WT Try.prog 42 a1)(h_a0:a0.size=n_a0*(lay Try.prog 116).length/\(∀k,k<n_a0->WT Try.prog 116 (a0.extract (k*(lay Try.prog 116).length) (k*(lay Try.prog 116).length+(lay Try.prog 116).length)))/\n_a0<=9223372036854775807)(hg:((okSt n_a0 a0))=true):ansV Try.prog impl_steps_most_G 1000 Try.f78 [] [.l 0,.g a1 42] [.sl (.came b_a0) n_a0 a0 116]=some (.a (.i .i64 (lkL (rdSt n_a0 a0) a1).2),.none,true):=by refine(impl_steps_most_ans 1000 a1 b_a0 n_a0 a0).trans ?_;rw[hg];rfl
noncomputable def impl_steps_most_con:Con:=λargs h=>match args,h with|[.l 0,.g a1 42],[.sl (.came b_a0) n_a0 a0 116]=>some (.a (.i .i64 (lkL (rdSt n_a0 a0) a1).2),.none,(okSt n_a0 a0))|_,_=>none
theorem impl_steps_most_enter:EntX Try.prog 78:=entX_ok (fn:=Try.f78) (by kernel_rfl) (by kernel_rfl) (by kernel_rfl)
theorem impl_steps_most_ok:ConOkX mn Try.prog 78 impl_steps_most_con:=(ansX_ok (N:=1000) (by kernel_rfl) (mKc (con_okX impl_steps_likeliest_ok) impl_steps_likeliest_enter mKn) (fn:=Try.f78) (by kernel_rfl) (by kernel_rfl) []).of (by
 intro ρ h w args vals r e hA hH hr;unfold impl_steps_most_con at hr;split at hr
 ·rename_i a1 b_a0 n_a0 a0;obtain⟨rfl,hg⟩:=Prod.mk.inj (Option.some.inj hr);obtain⟨rfl,hg2⟩:=Prod.mk.inj hg;exact impl_steps_most_main a1 b_a0 n_a0 a0 (hA.wt 1 rfl) (hH.slw 0 rfl) hg2
 ·cases hr)
end
end Go.Proofs.Ytnhilgpdgicgfaa
