/- PlanFewest, both sides. -/
import Derived.Test.YtgllknjdblkhnaaGreatDoorProg
import Derived.Test.YtgllknjdblkhnaaGreatDoorCfF
set_option linter.unusedVariables false
set_option linter.unusedSimpArgs false
open _root_.List renaming range->jA
namespace Go.Proofs.YtgllknjdblkhnaaGreatDoor
open Tryz (f4 f6 f15 f16)
open Go.ChangeShapes Go.WideShapes Go.ChangeAt Go.RowKit Ve Vc
open Tryz renaming prog -> PZ
open IntKind (i64)
set_option maxRecDepth 100000
noncomputable section
open Pop
variable {mn:Md}
def Zdb:Cons:=(mkΓx [] [(29,Zjm)] [(49,Zfs)])
def Zin(a0 a1:Int)(g_et:Addr)(g_tb:Addr)(x0:Int)(m0_b:Nat)(y0_b:Array Value):St:=(⟨.a (.i .u64 a0)::.a (.i .i64 a1)::.a (.u)::.a (.w 2)::.a (.v (.slice none 0 0))::.a (.w 4)::.a (.i .i64 x0)::.a (.u)::.a (.i .u64 a0)::.a (.c 49 [8])::.a (.i .i64 x0)::.a (.i .i64 a1)::.a (.i .i64 0)::us 12 ([]),[.gl 0 124 g_et 3000055,.gl 1 0 g_tb 1000000000,.row #[.int .i64 a1] 2,.no,.one (.l 14) 29,.no,.no,.no,.row #[.int .u64 a0] 23,.no,.no,.no,.no,.sp,.sl .own m0_b y0_b 48],[4,13]⟩:St)
def Zhg:Int×Nat×Array Value->LS
 |(y1_12,m1_b,y1_b)=>([.a (.i .i64 y1_12)],[.sl .own m1_b y1_b 48])
def Zky:Int×Nat×Array Value->Exit×LS
 |t=>((.exit 2),Zhg t)
def Zey(P:Program)(a0 a1:Int)(g_et:Addr)(g_tb:Addr)(x0:Int)(m0_b:Nat)(y0_b:Array Value):Int×Nat×Array Value->Option (Stp (Int×Nat×Array Value) (Int×Nat×Array Value))
 |(y1_12,m1_b,y1_b)=>bif decide (y1_12<a1) then (bif (Nat.ble ((m1_b+1)*bytesOf PZ 48) 140737488355328) then (some (.more ((i64.wrap (y1_12+(1:Int))),(m1_b+1),(y1_b++(#[.int .i8 (IntKind.i8.wrap x0),.int .i8 (IntKind.i8.wrap y1_12),.int .i16 1]:Array Value))))) else (none)) else (some (.done (y1_12,m1_b,y1_b)))
noncomputable abbrev cKCfG16:=codeOf f16
theorem Zp2(N:Nat)(a0 a1:Int)(g_et:Addr)(g_tb:Addr)(x0:Int)(m0_b:Nat)(y0_b:Array Value):∀t:Int×Nat×Array Value,Udy PZ Zdb N (cAt cKCfG16 [1,1,0,1,0,0,0,1,0,0]) (pAt (Uaa cKCfG16 [([],[2000004,48]),([12],[2000004,48])]).1 [1,1,0,1,0,1,0]) [12] [] 4 48 14 (Zin a0 a1 g_et g_tb x0 m0_b y0_b) (Zhg t)=mapS Zhg Zky (Zey PZ a0 a1 g_et g_tb x0 m0_b y0_b t):=by
 rintro⟨y1_12,m1_b,y1_b⟩
 conv=>rhs;simp only[Zey,Zax,Zay,Zaw,Zaz,Zhg,Zky]
 kernel_rfl
def Zf6(a0 a1:Int)(g_et:Addr)(g_tb:Addr):St:=(⟨.a (.i .u64 a0)::.a (.i .i64 a1)::.a (.u)::.a (.w 2)::.a (.v (.slice none 0 0))::.a (.w 4)::.a (.u)::.a (.u)::.a (.i .u64 a0)::.a (.c 49 [8])::us 15 ([]),[.gl 0 124 g_et 3000055,.gl 1 0 g_tb 1000000000,.row #[.int .i64 a1] 2,.no,.one (.l 13) 29,.no,.no,.no,.row #[.int .u64 a0] 23,.no,.no,.no,.no,.sl .own 0 (#[]:Array Value) 48],[4]⟩:St)
def Zf3:Nat×Array Value->BS
 |(m0_b,y0_b)=>([.sl .own m0_b y0_b 48]:BS)
def Zhe:Empty->Exit×BS:=λx=>nomatch x
def Zkm(P:Program)(N:Nat)(a0 a1:Int)(g_et:Addr)(g_tb:Addr)(x0:Int)(m0_b:Nat)(y0_b:Array Value)(z1_12:Int)(p1_b:Nat)(z1_b:Array Value):Option (Stp (Nat×Array Value) Empty):=some (.more (p1_b,z1_b))
theorem Zy7(N:Nat)(a0 a1:Int)(g_et:Addr)(g_tb:Addr)(x0:Int)(m0_b:Nat)(y0_b:Array Value)(z1_12:Int)(p1_b:Nat)(z1_b:Array Value):(Uad 2 (Uad 1 (Ubg Ua2 (.l 13) 13 [] 4 48))) (.exit 2) (left (writes (cAt cKCfG16 [1,1,0,1,0,0,0,1,0,0])) [12] [14] (Zin a0 a1 g_et g_tb x0 m0_b y0_b) ([.a (.i .i64 z1_12)],[.sl .own p1_b z1_b 48]))=mapS Zf3 Zhe (Zkm PZ N a0 a1 g_et g_tb x0 m0_b y0_b z1_12 p1_b z1_b):=by
 conv=>rhs;simp only[Zkm,Zax,Zay,Zaw,Zaz,Zf3,Zhe]
 kernel_rfl
theorem Ygq(N:Nat)(a0 a1:Int)(g_et:Addr)(g_tb:Addr)(x0:Int)(m0_b:Nat)(y0_b:Array Value):Uah (Uab (Udy PZ Zdb N (cAt cKCfG16 [1,1,0,1,0,0,0,1,0,0]) (pAt (Uaa cKCfG16 [([],[2000004,48]),([12],[2000004,48])]).1 [1,1,0,1,0,1,0]) [12] [] 4 48 14 (Zin a0 a1 g_et g_tb x0 m0_b y0_b)) N ([.a (.i .i64 0)],[.sl .own m0_b y0_b 48])) (λe s=>(Uad 2 (Uad 1 (Ubg Ua2 (.l 13) 13 [] 4 48))) e (left (writes (cAt cKCfG16 [1,1,0,1,0,0,0,1,0,0])) [12] [14] (Zin a0 a1 g_et g_tb x0 m0_b y0_b) s))=mapS Zf3 Zhe (Uao (Uab (Zey PZ a0 a1 g_et g_tb x0 m0_b y0_b) N ((0:Int),m0_b,y0_b)) (λx=>Zkm PZ N a0 a1 g_et g_tb x0 m0_b y0_b x.1 x.2.1 x.2.2)):=by
 rw[Zpq Zf3 Zhe]
 first
 |(have h:=Za2 (α:=Stp LS (Exit×LS)) Zhg Zky _ _ (Zp2 N a0 a1 g_et g_tb x0 m0_b y0_b) N ((0:Int),m0_b,y0_b);refine h _ _ ?_)
 |(have h:=Za2 (α:=Stp BS (Exit×BS)) Zhg Zky _ _ (Zp2 N a0 a1 g_et g_tb x0 m0_b y0_b) N ((0:Int),m0_b,y0_b);refine h _ _ ?_)
 |(have h:=Za2 (α:=Stp LS ((Exit×LS)⊕(SV×Eff×Bool))) Zhg Zky _ _ (Zp2 N a0 a1 g_et g_tb x0 m0_b y0_b) N ((0:Int),m0_b,y0_b);refine h _ _ ?_)
 intro x;exact Zy7 N a0 a1 g_et g_tb x0 m0_b y0_b x.1 x.2.1 x.2.2
def Zim(P:Program)(N:Nat)(a0 a1:Int)(g_et:Addr)(g_tb:Addr)(x0:Int):Nat×Array Value->Option (Stp (Nat×Array Value) Empty)
 |(m0_b,y0_b)=>Uao (Uab (Zey P a0 a1 g_et g_tb x0 m0_b y0_b) N ((0:Int),m0_b,y0_b)) (λx=>Zkm P N a0 a1 g_et g_tb x0 m0_b y0_b x.1 x.2.1 x.2.2)
theorem Yhc(N:Nat)(a0 a1:Int)(g_et:Addr)(g_tb:Addr)(x0:Int):∀t:Nat×Array Value,Ud6 PZ Zdb N (cAt cKCfG16 [1,1,0,1,0,0]) (pAt (Uaa cKCfG16 [([],[2000004,48]),([12],[2000004,48])]).1 [1,1,0,1,0]) 13 [] 4 48 [10] [(6,10)] (Zf6 a0 a1 g_et g_tb) [.i .i64 x0] (Zf3 t)=mapS Zf3 Zhe (Zim PZ N a0 a1 g_et g_tb x0 t):=by
 rintro⟨m0_b,y0_b⟩
 conv=>rhs;simp only[<- Ygq N a0 a1 g_et g_tb x0 m0_b y0_b,Zim,Zax,Zay,Zaw,Zaz,Zf3,Zhe]
 kernel_rfl
def Znb(P:Program)(N:Nat)(a0 a1:Int)(g_et:Addr)(g_tb:Addr)(p0_b:Nat)(z0_b:Array Value):Option (SV×Eff×Bool):=some (.a .x,.newS none p0_b z0_b 48,true)
theorem Zyx(N:Nat)(a0 a1:Int)(g_et:Addr)(g_tb:Addr)(p0_b:Nat)(z0_b:Array Value):(Uad 0 (kSeq (veC PZ Zdb N (cAt cKCfG16 [1,1,1]) (pAt (Uaa cKCfG16 [([],[2000004,48]),([12],[2000004,48])]).1 [1,1,1]) (SV×Eff×Bool)) (finK PZ [.gl 0 124 g_et 3000055,.gl 1 0 g_tb 1000000000] [.tmp 4]))) .normal (Uas [13] (Zf6 a0 a1 g_et g_tb) ([.sl .own p0_b z0_b 48]:BS))=Znb PZ N a0 a1 g_et g_tb p0_b z0_b:=by kernel_rfl
theorem Ygn(N:Nat)(a0 a1:Int)(g_et:Addr)(g_tb:Addr):Ubv (Uam (λ(x0:Int) (hb:BS)=>Ud6 PZ Zdb N (cAt cKCfG16 [1,1,0,1,0,0]) (pAt (Uaa cKCfG16 [([],[2000004,48]),([12],[2000004,48])]).1 [1,1,0,1,0]) 13 [] 4 48 [10] [(6,10)] (Zf6 a0 a1 g_et g_tb) [.i .i64 x0] hb) (Uba (a0).toNat) ([.sl .own 0 (#[]:Array Value) 48]:BS)) (λhb=>(Uad 0 (kSeq (veC PZ Zdb N (cAt cKCfG16 [1,1,1]) (pAt (Uaa cKCfG16 [([],[2000004,48]),([12],[2000004,48])]).1 [1,1,1]) (SV×Eff×Bool)) (finK PZ [.gl 0 124 g_et 3000055,.gl 1 0 g_tb 1000000000] [.tmp 4]))) .normal (Uas [13] (Zf6 a0 a1 g_et g_tb) hb)) (λe hb=>(Uad 0 (kSeq (veC PZ Zdb N (cAt cKCfG16 [1,1,1]) (pAt (Uaa cKCfG16 [([],[2000004,48]),([12],[2000004,48])]).1 [1,1,1]) (SV×Eff×Bool)) (finK PZ [.gl 0 124 g_et 3000055,.gl 1 0 g_tb 1000000000] [.tmp 4]))) e (Uas [13] (Zf6 a0 a1 g_et g_tb) hb))=Ucw (Uam (Zim PZ N a0 a1 g_et g_tb) (Uba (a0).toNat) (0,(#[]:Array Value))) (λx=>Znb PZ N a0 a1 g_et g_tb x.1 x.2) (λx:Empty=>nomatch x):=by
 refine Zpp Zf3 Zhe _ _ (λy t=>Yhc N a0 a1 g_et g_tb y t) _ (0,(#[]:Array Value)) _ _ _ _ ?_ ?_
 ·intro x;exact Zyx N a0 a1 g_et g_tb x.1 x.2
 ·intro x;exact nomatch x
theorem Yex(N:Nat)(a0 a1:Int)(g_et:Addr)(g_tb:Addr):ansV PZ Zdb N f16 [([],[2000004,48]),([12],[2000004,48])] [.i .u64 a0,.i .i64 a1] [.gl 0 124 g_et 3000055,.gl 1 0 g_tb 1000000000]=(Ucw (Uam (Zim PZ N a0 a1 g_et g_tb) (Uba (a0).toNat) (0,(#[]:Array Value))) (λx=>Znb PZ N a0 a1 g_et g_tb x.1 x.2) (λx:Empty=>nomatch x)):=by
 conv=>rhs;simp only[<- Ygn N a0 a1 g_et g_tb]
 kernel_rfl
def tripL(q:Nat×Nat):List Value:=[.int .i8 (IntKind.i8.wrap (q.1:Int)),.int .i8 (IntKind.i8.wrap (q.2:Int)),.int .i16 1]
def arrL(l:List (Nat×Nat)):Array Value:=⟨l.flatMap tripL⟩
theorem Ylw(l m:List (Nat×Nat)):arrL (l++m)=arrL l++arrL m:=by unfold arrL;rw[List.flatMap_append];simp
def prL(c:Int)(h:Nat):Nat->List (Nat×Nat)
 |0=>[]
 |n+1=>if bitI c n then prL c h n++(jA h).map (λt=>(n,t)) else prL c h n
theorem Yhz(c:Int)(h:Nat):∀n,(prL c h n).length<=n*h
 |0=>Nat.zero_le _
 |n+1=>by
  have:=Yhz c h n;rw[prL,Nat.succ_mul];split<;>simp<;>omega
def oneN(c h:Int):Nat:=(prL c h.toNat 36).length
def oneA(c h:Int):Array Value:=arrL (prL c h.toNat 36)
theorem Yeg(a0 a1:Int)(g_et:Addr)(g_tb:Addr)(h_a0:IntKind.u64.min<=a0/\a0<=IntKind.u64.max)(h_a1:i64.min<=a1/\a1<=i64.max)(hg:((decide (a0<68719476736)&&(decide (0<=a1)&&decide (a1<=100))))=true):ansV PZ Zdb 18446744073709551616 f16 [([],[2000004,48]),([12],[2000004,48])] [.i .u64 a0,.i .i64 a1] [.gl 0 124 g_et 3000055,.gl 1 0 g_tb 1000000000]=some (.a .x,.newS none (oneN a0 a1) (oneA a0 a1) 48,true):=by
 simp only[Q7,decide_eq_true_eq]at hg;obtain⟨hlow,h0,h8⟩:=hg;have hU:U64 a0:=h_a0;have hh:=Ylj hU hlow;obtain⟨m,rfl⟩:=Int.eq_ofNat_of_zero_le h0;have hby:bytesOf PZ 48<=1000:=Nat.le_of_ble_eq_true (by kernel_rfl);refine(Yex 18446744073709551616 a0 (m:Int) g_et g_tb).trans ?_;have hin:∀(k:Nat) (l:List (Nat×Nat)),l.length<=100000->Uab (Zey PZ a0 (m:Int) g_et g_tb (k:Int) l.length (arrL l)) 18446744073709551616 ((0:Int),l.length,arrL l)=some ((m:Int),(l++(jA m).map (λt=>(k,t))).length,arrL (l++(jA m).map (λt=>(k,t)))):=λk l hl=>
  (fun (h:Uab (Zey PZ a0 (m:Int) g_et g_tb (k:Int) l.length (arrL l)) 18446744073709551616 (((0:Nat):Int),(l++(jA 0).map (fun t=>(k,t))).length,arrL (l++(jA 0).map (fun t=>(k,t))))=some ((m:Int),(l++(jA m).map (fun t=>(k,t))).length,arrL (l++(jA m).map (fun t=>(k,t)))))=>by
   rw[List.range_zero,List.map_nil,List.append_nil]at h;exact h) (Ze0 (g:=Zey PZ a0 (m:Int) g_et g_tb (k:Int) l.length (arrL l)) (λj=>((j:Int),(l++(jA j).map (λt=>(k,t))).length,arrL (l++(jA j).map (λt=>(k,t))))) (m:=m) (x:=((m:Int),(l++(jA m).map (λt=>(k,t))).length,arrL (l++(jA m).map (λt=>(k,t))))) (N:=18446744073709551616) (λj hj=>by
   have h1:decide ((j:Int)<(m:Int))=true:=Q3 (by omega);have h3:i64.wrap ((j:Int)+1)=((j+1:Nat):Int):=by rw[IntWalk.i64_in _ (by omega)];omega
   have hlen:(l++(jA j).map (λt=>(k,t))).length=l.length+j:=by simp
   have hb:Nat.ble (((l++(jA j).map (λt=>(k,t))).length+1)*bytesOf PZ 48) 140737488355328=true:=Nat.ble_eq_true_of_le (Nat.le_trans (Nat.mul_le_mul (show _<=200000 by rw[hlen];omega) hby) (by decide));have e:l++(jA (j+1)).map (λt=>(k,t))=(l++(jA j).map (λt=>(k,t)))++[(k,j)]:=by rw[List.range_succ,List.map_append,List.append_assoc];rfl
   rw[e];clear e hlen;generalize l++(jA j).map (λt=>(k,t))=L at hb|-
   rw[show (L++[(k,j)]).length=L.length+1 from List.length_append,Ylw];simp only[Zey,h1,h3,hb,Q1];rfl) (by
   have h1:decide ((m:Int)<(m:Int))=false:=Q4 (by omega);simp only[Zey,h1,Q2]) (by omega))
 have hfold:Uam (Zim PZ 18446744073709551616 a0 (m:Int) g_et g_tb) (Uba a0.toNat) ((0:Nat),(#[]:Array Value))=some (.more ((prL a0 m 36).length,arrL (prL a0 m 36))):=Zvl (X:=Empty) (g:=Zim PZ 18446744073709551616 a0 (m:Int) g_et g_tb) (λk=>((prL a0 m k).length,arrL (prL a0 m k))) hU hh (λk hk hb=>by
  have hl:=Yhz a0 m k;have hl2:(prL a0 m k).length<=100000:=Nat.le_trans hl (Nat.le_trans (Nat.mul_le_mul (show k<=36 by omega) (show m<=100 by omega)) (by decide));have h:=hin k (prL a0 m k) hl2;have e:prL a0 m (k+1)=prL a0 m k++(jA m).map (λt=>(k,t)):=by rw[prL,if_pos hb]
  rw[e]
  show Uao (Uab _ 18446744073709551616 ((0:Int),(prL a0 m k).length,arrL (prL a0 m k))) _=_
  rw[h];rfl) (λk hk hb=>by
  have e:prL a0 m (k+1)=prL a0 m k:=by rw[prL,if_neg (by rw[hb];simp)]
  rw[e])
 rw[hfold];unfold oneN oneA;rw[Q9];rfl
def Zoz:Con:=λargs h=>match args,h with|[.i .u64 a0,.i .i64 a1],[.gl 0 124 g_et 3000055,.gl 1 0 g_tb 1000000000]=>some (.a .x,.newS none (oneN a0 a1) (oneA a0 a1) 48,(decide (a0<68719476736)&&(decide (0<=a1)&&decide (a1<=100))))|_,_=>none
theorem Zq1:EntX PZ 16:=Zak (fn:=f16)
theorem Zwv:Uac mn PZ 16 Zoz:=(ansY (N:=18446744073709551616) (mkΓx_nX Zig Zgn (mkΓx_iX Zgq Zfm mkΓx_nilX)) f16 [([],[2000004,48]),([12],[2000004,48])]).of (by
 intro ρ h w args vals r e hA hH hr;unfold Zoz at hr;split at hr
 ·rename_i a0 a1 g_et g_tb;obtain⟨rfl,rfl,hg2⟩:=BQi hr;exact Yeg a0 a1 g_et g_tb (hA.rng 0 rfl) (hA.rng 1 rfl) hg2
 ·cases hr)
theorem Zus(N:Nat)(a0:Array Value)(b_a1:Option (Option Addr))(n_a1:Nat)(a1:Array Value):ansV PZ (mkΓ []) N f15 [] [.r a0 53 [],.l 0] [.sl (.came b_a1) n_a1 a1 48]=(some (.a (.r #[.int .i8 (IntKind.i8.wrap (num a0 0)),.int .i8 (IntKind.i8.wrap (num a0 1)),.slice none 0 0] 31 [(2,0)]),.none,true)):=by kernel_rfl
theorem Zrv(a0:Array Value)(b_a1:Option (Option Addr))(n_a1:Nat)(a1:Array Value)(h_a0:WT PZ 53 a0)(h_a1:a1.size=n_a1*(lay PZ 48).length/\(∀k,k<n_a1->WT PZ 48 (a1.extract (k*(lay PZ 48).length) (k*(lay PZ 48).length+(lay PZ 48).length)))/\n_a1<=9223372036854775807)(hg:(true)=true):ansV PZ (mkΓ []) 1000 f15 [] [.r a0 53 [],.l 0] [.sl (.came b_a1) n_a1 a1 48]=some (.a (.r #[.int .i8 (IntKind.i8.wrap (num a0 0)),.int .i8 (IntKind.i8.wrap (num a0 1)),.slice none 0 0] 31 [(2,0)]),.none,true):=by refine(Zus 1000 a0 b_a1 n_a1 a1).trans ?_;rfl
def Zi4:Con:=λargs h=>match args,h with|[.r a0 53 [],.l 0],[.sl (.came b_a1) n_a1 a1 48]=>some (.a (.r #[.int .i8 (IntKind.i8.wrap (num a0 0)),.int .i8 (IntKind.i8.wrap (num a0 1)),.slice none 0 0] 31 [(2,0)]),.none,true)|_,_=>none
theorem Zlh:EntX PZ 15:=Zak (fn:=f15)
theorem Zne:Uac mn PZ 15 Zi4:=(ansY (N:=1000) mKn f15 []).of (by
 intro ρ h w args vals r e hA hH hr;unfold Zi4 at hr;split at hr
 ·rename_i a0 b_a1 n_a1 a1;obtain⟨rfl,rfl,hg2⟩:=BQi hr;exact Zrv a0 b_a1 n_a1 a1 (hA.wtr 0 rfl) (hH.slw 0 rfl) hg2
 ·cases hr)
theorem Yp8{S:Array Value}(hS:WT PZ 38 S)(b h c:Int):U64 (fcV PZ S b h c)/\∀j,36<=j->bitI (fcV PZ S b h c) j=false:=by
 have z:U64 0/\∀j,36<=j->bitI 0 j=false:=⟨⟨by decide,by decide⟩,λj _=>Zis j⟩;unfold fcV;cases okS S with
 |false=>exact z
 | true=>
  cases (Zaa b 0 1&&(Zaa h 1 8&&Zac S c)) with
  |false=>exact z
  | true=>
   simp only[Q1];unfold lfV;cases decide ((nW S:Int) > (12:Int)) with
   |true=>exact z
   | false=>
    simp only[Q2];unfold fwV;cases scF PZ S b h c with
    |none=>exact z
    |some k=>
     refine⟨Yol _ _,λj hj=> ?_⟩
     by_cases h64:j<64
     ·rw[Zxh (Ugi S) h64,Yi6 hS h64,Q4 (by omega)];rfl
     ·exact Yml (by omega) _
def Zel(a0:Array Value)(a1 a2 a3:Int):St:=(⟨.a (.g a0 38)::.a (.i .i64 a1)::.a (.i .i64 a2)::.a (.i .u64 a3)::.a (.w 0)::us 3 (.a (.w 1)::.a (.i .i64 0)::.a (.i .u64 (fcV PZ a0 a1 a2 a3))::.a (.i .i64 (fcC PZ a0 a1 a2 a3))::.a (.w 8)::.a (.i .i64 0)::.t [.i .u64 (fcV PZ a0 a1 a2 a3),.i .i64 (fcC PZ a0 a1 a2 a3)]::.a (.g a0 38)::.a (.i .i64 a1)::.a (.i .i64 a2)::.a (.i .u64 a3)::.t [.i .u64 (fcV PZ a0 a1 a2 a3),.i .i64 (fcC PZ a0 a1 a2 a3)]::.a (.i .u64 (fcV PZ a0 a1 a2 a3))::.a (.i .i64 (fcC PZ a0 a1 a2 a3))::.a (.i .i64 (fcC PZ a0 a1 a2 a3))::.a (.b (((fcC PZ a0 a1 a2 a3) != (0:Int))))::.a (.u)::.a (.u)::.a (.i .i64 a1)::.a (.i .i8 (IntKind.i8.wrap a1))::.a (.i .i64 a2)::.a (.i .i8 (IntKind.i8.wrap a2))::.a (.r #[.int .i8 (IntKind.i8.wrap a1),.int .i8 (IntKind.i8.wrap a2),.slice none 0 0] 31 [])::us 19 ([])),[.row a0 38,.one (.r #[.int .i8 0,.int .i8 0,.slice none 0 0] 31 []) 31,.no,.no,.no,.no,.no,.no,.one (.r #[.int .i8 (IntKind.i8.wrap a1),.int .i8 (IntKind.i8.wrap a2),.slice none 0 0] 31 [(2,10)]) 31,.no,.sl .own 0 (#[]:Array Value) 48],[8,8]⟩:St)
def Zf4:Int×Nat×Array Value->LS
 |(y0_13,m0_b,y0_b)=>([.a (.i .i64 y0_13)],[.sl .own m0_b y0_b 48])
def Zk0:Int×Nat×Array Value->Exit×LS
 |t=>((.exit 0),Zf4 t)
def Zcb(P:Program)(a0:Array Value)(a1 a2 a3:Int):Int×Nat×Array Value->Option (Stp (Int×Nat×Array Value) (Int×Nat×Array Value))
 |(y0_13,m0_b,y0_b)=>bif decide (y0_13<(36:Int)) then (bif decide (0<=(IntKind.u64.wrap y0_13)) then (bif ((((((fcV PZ a0 a1 a2 a3)).fdiv (2^(min ((IntKind.u64.wrap y0_13)).toNat IntKind.u64.bits)))).tmod (2:Int))==(1:Int)) then (bif (Nat.ble ((m0_b+1)*bytesOf PZ 48) 140737488355328) then (bif (Ua2 (#[.int .i8 (IntKind.i8.wrap a1),.int .i8 (IntKind.i8.wrap a2),.slice none 0 0]:Array Value) (#[.int .i8 (IntKind.i8.wrap a1),.int .i8 (IntKind.i8.wrap a2),.slice none 0 0]:Array Value)) then (some (.more ((i64.wrap (y0_13+(1:Int))),(m0_b+1),(y0_b++(#[.int .i8 (IntKind.i8.wrap y0_13),.int .i8 0,.int .i16 1]:Array Value))))) else (none)) else (none)) else (bif (Ua2 (#[.int .i8 (IntKind.i8.wrap a1),.int .i8 (IntKind.i8.wrap a2),.slice none 0 0]:Array Value) (#[.int .i8 (IntKind.i8.wrap a1),.int .i8 (IntKind.i8.wrap a2),.slice none 0 0]:Array Value)) then (some (.more ((i64.wrap (y0_13+(1:Int))),m0_b,y0_b))) else (none))) else (none)) else (bif (Ua2 (#[.int .i8 (IntKind.i8.wrap a1),.int .i8 (IntKind.i8.wrap a2),.slice none 0 0]:Array Value) (#[.int .i8 (IntKind.i8.wrap a1),.int .i8 (IntKind.i8.wrap a2),.slice none 0 0]:Array Value)) then (some (.done (y0_13,m0_b,y0_b))) else (none))
noncomputable abbrev cKCfG4:=codeOf f4
theorem Zxk(N:Nat)(a0:Array Value)(a1 a2 a3:Int):∀t:Int×Nat×Array Value,Udy PZ (mkΓ [(10,con Za9)]) N (cAt cKCfG4 [1,1,1,1,0,1,0,0]) (pAt (Uaa cKCfG4 [([13],[2000008,48])]).1 [1,1,1,1,0,1,0]) [13] [] 8 48 10 (Zel a0 a1 a2 a3) (Zf4 t)=mapS Zf4 Zk0 (Zcb PZ a0 a1 a2 a3 t):=by
 rintro⟨y0_13,m0_b,y0_b⟩
 conv=>rhs;simp only[Zcb,Zax,Zay,Zaw,Zaz,Zf4,Zk0]
 kernel_rfl
def Zi9(P:Program)(N:Nat)(a0:Array Value)(a1 a2 a3:Int)(z0_13:Int)(p0_b:Nat)(z0_b:Array Value):Option (SV×Eff×Bool):=some (.t [.r #[.int .i8 (IntKind.i8.wrap a1),.int .i8 (IntKind.i8.wrap a2),.slice none 0 0] 31 [(2,HOLE)],.i .i64 0],.newS (some 1000000) p0_b z0_b 48,true)
theorem Zqj(N:Nat)(a0:Array Value)(a1 a2 a3:Int)(z0_13:Int)(p0_b:Nat)(z0_b:Array Value):(Uad 0 (kSeq (veC PZ (mkΓ [(10,con Za9)]) N (cAt cKCfG4 [1,1,1,1,1]) (pAt (Uaa cKCfG4 [([13],[2000008,48])]).1 [1,1,1,1,1]) (SV×Eff×Bool)) (finK PZ [] [.cell 8 31,.tmp 9]))) (.exit 0) (left (writes (cAt cKCfG4 [1,1,1,1,0,1,0,0])) [13] [10] (Zel a0 a1 a2 a3) ([.a (.i .i64 z0_13)],[.sl .own p0_b z0_b 48]))=Zi9 PZ N a0 a1 a2 a3 z0_13 p0_b z0_b:=by kernel_rfl
theorem Zxl(N:Nat)(a0:Array Value)(a1 a2 a3:Int):Uah (Uab (Udy PZ (mkΓ [(10,con Za9)]) N (cAt cKCfG4 [1,1,1,1,0,1,0,0]) (pAt (Uaa cKCfG4 [([13],[2000008,48])]).1 [1,1,1,1,0,1,0]) [13] [] 8 48 10 (Zel a0 a1 a2 a3)) N ([.a (.i .i64 0)],[.sl .own 0 (#[]:Array Value) 48])) (λe s=>(Uad 0 (kSeq (veC PZ (mkΓ [(10,con Za9)]) N (cAt cKCfG4 [1,1,1,1,1]) (pAt (Uaa cKCfG4 [([13],[2000008,48])]).1 [1,1,1,1,1]) (SV×Eff×Bool)) (finK PZ [] [.cell 8 31,.tmp 9]))) e (left (writes (cAt cKCfG4 [1,1,1,1,0,1,0,0])) [13] [10] (Zel a0 a1 a2 a3) s))=Uao (Uab (Zcb PZ a0 a1 a2 a3) N ((0:Int),0,(#[]:Array Value))) (λx=>Zi9 PZ N a0 a1 a2 a3 x.1 x.2.1 x.2.2):=by refine Za2 Zf4 Zk0 _ _ (Zxk N a0 a1 a2 a3) N ((0:Int),0,(#[]:Array Value)) _ _ ?_;intro x;exact Zqj N a0 a1 a2 a3 x.1 x.2.1 x.2.2
theorem Zni(N:Nat)(a0:Array Value)(a1 a2 a3:Int):ansV PZ (mkΓ [(10,con Za9)]) N f4 [([13],[2000008,48])] [.g a0 38,.i .i64 a1,.i .i64 a2,.i .u64 a3] []=(bif ((fcC PZ a0 a1 a2 a3) != (0:Int)) then (some (.t [.r #[.int .i8 0,.int .i8 0,.slice none 0 0] 31 [],.i .i64 (fcC PZ a0 a1 a2 a3)],.none,true)) else (Uao (Uab (Zcb PZ a0 a1 a2 a3) N ((0:Int),0,(#[]:Array Value))) (λx=>Zi9 PZ N a0 a1 a2 a3 x.1 x.2.1 x.2.2))):=by
 conv=>rhs;simp only[<- Zxl N a0 a1 a2 a3]
 kernel_rfl
theorem Zrr(a0:Array Value)(a1 a2 a3:Int)(h_a0:WT PZ 38 a0)(h_a1:i64.min<=a1/\a1<=i64.max)(h_a2:i64.min<=a2/\a2<=i64.max)(h_a3:IntKind.u64.min<=a3/\a3<=IntKind.u64.max)(hc0:(((fcC PZ a0 a1 a2 a3)==(0:Int)))=false)(hg:(true)=true):ansV PZ (mkΓ [(10,con Za9)]) 1000 f4 [([13],[2000008,48])] [.g a0 38,.i .i64 a1,.i .i64 a2,.i .u64 a3] []=some (.t [.r #[.int .i8 0,.int .i8 0,.slice none 0 0] 31 [],.i .i64 (fcC PZ a0 a1 a2 a3)],.none,true):=by
 refine(Zni 1000 a0 a1 a2 a3).trans ?_;have h0:((fcC PZ a0 a1 a2 a3) != (0:Int))=true:=by rw[bne,hc0];rfl
 rw[h0,Q1]
theorem Zr6(a0:Array Value)(a1 a2 a3:Int)(h_a0:WT PZ 38 a0)(h_a1:i64.min<=a1/\a1<=i64.max)(h_a2:i64.min<=a2/\a2<=i64.max)(h_a3:IntKind.u64.min<=a3/\a3<=IntKind.u64.max)(hc0:(((fcC PZ a0 a1 a2 a3)==(0:Int)))=true)(hg:(true)=true):ansV PZ (mkΓ [(10,con Za9)]) 1000 f4 [([13],[2000008,48])] [.g a0 38,.i .i64 a1,.i .i64 a2,.i .u64 a3] []=some (.t [.r #[.int .i8 (IntKind.i8.wrap a1),.int .i8 (IntKind.i8.wrap a2),.slice none 0 0] 31 [(2,HOLE)],.i .i64 0],.newS (some 1000000) (prL (fcV PZ a0 a1 a2 a3) 1 36).length (arrL (prL (fcV PZ a0 a1 a2 a3) 1 36)) 48,true):=by
 obtain⟨hU,hlo⟩:=Yp8 h_a0 a1 a2 a3;have h0:(fcC PZ a0 a1 a2 a3)=0:=beq_iff_eq.1 hc0;refine(Zni 1000 a0 a1 a2 a3).trans ?_;rw[h0,show ((0:Int) != 0)=false from rfl,Q2];have hby:bytesOf PZ 48<=1000:=Nat.le_of_ble_eq_true (by kernel_rfl);have h:=Ze0 (g:=Zcb PZ a0 a1 a2 a3) (λk=>((k:Int),(prL (fcV PZ a0 a1 a2 a3) 1 k).length,arrL (prL (fcV PZ a0 a1 a2 a3) 1 k))) (m:=36) (x:=((36:Int),(prL (fcV PZ a0 a1 a2 a3) 1 36).length,arrL (prL (fcV PZ a0 a1 a2 a3) 1 36))) (λk hk=>by
  have h1:decide ((k:Int)<36)=true:=Q3 (by omega);have h2:decide (0<=IntKind.u64.wrap (k:Int))=true:=Q3 (Zhx .u64 _).1;have h3:i64.wrap ((k:Int)+1)=((k+1:Nat):Int):=by rw[w64 (by omega)];omega
  have hlen:=Yhz (fcV PZ a0 a1 a2 a3) 1 k;have h4:Nat.ble (((prL (fcV PZ a0 a1 a2 a3) 1 k).length+1)*bytesOf PZ 48) 140737488355328=true:=Nat.ble_eq_true_of_le (Nat.le_trans (Nat.mul_le_mul (show _<=37 by omega) hby) (by decide));have hbit:(((fcV PZ a0 a1 a2 a3).fdiv (2^(min (IntKind.u64.wrap (k:Int)).toNat IntKind.u64.bits))).tmod 2==1)=bitI (fcV PZ a0 a1 a2 a3) k:=by rw[Ugk (show 0<=(k:Int)/\(k:Int)<=35 by omega),Q9];exact Yku hU (by omega)
  rw[prL];cases hb:bitI (fcV PZ a0 a1 a2 a3) k with
  |false=>simp only[Zcb,h1,h2,h3,hbit,hb,Zke,Q1,Q2,Bool.false_eq_true,if_false]
  |true=>rw[if_pos rfl,List.length_append,Ylw];simp only[Zcb,h1,h2,h3,h4,hbit,hb,Zke,Q1];rfl) (by
  have h1:decide (((36:Nat):Int)<36)=false:=by decide
  simp only[Zcb,h1,Zke,Q2,Q1];rfl) (N:=1000) (by omega)
 rw[show Uab (Zcb PZ a0 a1 a2 a3) 1000 ((0:Int),0,(#[]:Array Value))=_ from h];rfl
def Zgf:SCon:=λargs h=>match args,h with|[.g a0 38,.i .i64 a1,.i .i64 a2,.i .u64 a3],[]=>.two (((fcC PZ a0 a1 a2 a3)==(0:Int))) (.one (some (.t [.r #[.int .i8 (IntKind.i8.wrap a1),.int .i8 (IntKind.i8.wrap a2),.slice none 0 0] 31 [(2,HOLE)],.i .i64 0],.newS (some 1000000) (prL (fcV PZ a0 a1 a2 a3) 1 36).length (arrL (prL (fcV PZ a0 a1 a2 a3) 1 36)) 48,true))) (.one (some (.t [.r #[.int .i8 0,.int .i8 0,.slice none 0 0] 31 [(2,HOLE)],.i .i64 (fcC PZ a0 a1 a2 a3)],.newS (some 1000000) 0 (#[]:Array Value) 48,true)))|_,_=>.one none
theorem Zs9:EntX PZ 4:=Zak (fn:=f4)
theorem Zvi:Uac mn PZ 4 (λargs h=>Uag (Zgf args h)):=by
 intro ρ h w args vals r e hn hr hA hH;dsimp only at hr;unfold Zgf at hr;split at hr
 ·rename_i a0 a1 a2 a3;simp only[Uag]at hr;cases hc0:(((fcC PZ a0 a1 a2 a3)==(0:Int)))
  ·rw[hc0]at hr;simp only[Uag,Q1,Q2]at hr;obtain⟨rfl,rfl,hg2⟩:=BQi hr;exact(Uac.nilR (ansY (N:=1000) (mKc (Zag Znq) Zli mKn) f4 [([13],[2000008,48])]) 2 48) ρ _ w _ vals _ _ hn (congrArg (Vc.nilR 2 48) (Zrr a0 a1 a2 a3 (hA.wt 0 rfl) (hA.rng 1 rfl) (hA.rng 2 rfl) (hA.rng 3 rfl) hc0 hg2)) hA hH
  ·rw[hc0]at hr;simp only[Uag,Q1,Q2]at hr;obtain⟨rfl,rfl,hg2⟩:=BQi hr;exact((ansY (N:=1000) (mKc (Zag Znq) Zli mKn) f4 [([13],[2000008,48])])) ρ _ w _ vals _ _ hn ((Zr6 a0 a1 a2 a3 (hA.wt 0 rfl) (hA.rng 1 rfl) (hA.rng 2 rfl) (hA.rng 3 rfl) hc0 hg2)) hA hH
 ·simp only[Uag]at hr;cases hr
def pfI(P:Program)(S:Array Value)(b h c x:Int):Int:=bif (fcC P S b h c==(0:Int)) then IntKind.i8.wrap x else 0
def pfV(P:Program)(S:Array Value)(b h c:Int):Array Value:=#[.int .i8 (pfI P S b h c b),.int .i8 (pfI P S b h c h),.slice none 0 0]
def pfN(P:Program)(S:Array Value)(b h c:Int):Nat:=bif (fcC P S b h c==(0:Int)) then (prL (fcV P S b h c) 1 36).length else 0
def pfA(P:Program)(S:Array Value)(b h c:Int):Array Value:=bif (fcC P S b h c==(0:Int)) then arrL (prL (fcV P S b h c) 1 36) else #[]
def Zjz:Con:=λargs h=>match args,h with|[.g a0 38,.i .i64 a1,.i .i64 a2,.i .u64 a3],[]=>some (.t [.r (pfV PZ a0 a1 a2 a3) 31 [(2,HOLE)],.i .i64 (fcC PZ a0 a1 a2 a3)],.newS (some 1000000) (pfN PZ a0 a1 a2 a3) (pfA PZ a0 a1 a2 a3) 48,true)|_,_=>none
theorem Zw5:Uac mn PZ 4 Zjz:=Uac.of Zvi (by
 intro ρ h w args vals r e hA hH hr;unfold Zjz at hr;split at hr
 ·rename_i a0 a1 a2 a3;obtain⟨rfl,rfl,hg2⟩:=BQi hr
  show Uag (Zgf _ _)=_
  unfold Zgf;simp only[Uag];unfold pfV pfI pfN pfA;cases hq:((fcC PZ a0 a1 a2 a3)==(0:Int)) with|false=>rfl|true=>rw[beq_iff_eq.1 hq];try rfl
 ·cases hr)
def Zl1:Cons:=(mkΓw [(12,conS Zjt),(14,conSG Zg4)] [(13,conG Zo6),(15,con Zi4),(16,conG Zoz)] [] [])
theorem Zny(N:Nat)(a0:Array Value)(a1 a2 a3:Int)(g_et:Addr)(g_tb:Addr):ansV PZ Zl1 N f6 [] [.g a0 38,.i .i64 a1,.i .i64 a2,.i .u64 a3] [.gl 0 124 g_et 3000055,.gl 1 0 g_tb 1000000000]=(bif okS a0 then (bif (Zaa a1 0 1&&(Zaa a2 1 8&&Zac a0 a3)) then (bif decide ((nW ((spl (spl (zc PZ 53) 0 (#[.int .i64 a1,.int .i64 a2]:Array Value).toList) 2 a0.toList).extract 2 (2+363)):Int) > (12:Int)) then (bif (((okS ((spl (spl (zc PZ 53) 0 (#[.int .i64 a1,.int .i64 a2]:Array Value).toList) 2 a0.toList).extract 2 (2+363))&&(decide (0<=(num (spl (spl (zc PZ 53) 0 (#[.int .i64 a1,.int .i64 a2]:Array Value).toList) 2 a0.toList) 0))&&decide ((num (spl (spl (zc PZ 53) 0 (#[.int .i64 a1,.int .i64 a2]:Array Value).toList) 2 a0.toList) 0)<2)))&&(decide (1<=(num (spl (spl (zc PZ 53) 0 (#[.int .i64 a1,.int .i64 a2]:Array Value).toList) 2 a0.toList) 1))&&decide ((num (spl (spl (zc PZ 53) 0 (#[.int .i64 a1,.int .i64 a2]:Array Value).toList) 2 a0.toList) 1)<=8)))&&Zac ((spl (spl (zc PZ 53) 0 (#[.int .i64 a1,.int .i64 a2]:Array Value).toList) 2 a0.toList).extract 2 (2+363)) a3) then (some (.t [.r #[.int .i8 0,.int .i8 0,.slice none 0 0] 31 [],.i .i64 7],.none,true)) else (none)) else (bif (scF PZ ((spl (spl (zc PZ 53) 0 (#[.int .i64 a1,.int .i64 a2]:Array Value).toList) 2 a0.toList).extract 2 (2+363)) (num (spl (spl (zc PZ 53) 0 (#[.int .i64 a1,.int .i64 a2]:Array Value).toList) 2 a0.toList) 0) (num (spl (spl (zc PZ 53) 0 (#[.int .i64 a1,.int .i64 a2]:Array Value).toList) 2 a0.toList) 1) a3).isSome then (bif (((okS ((spl (spl (zc PZ 53) 0 (#[.int .i64 a1,.int .i64 a2]:Array Value).toList) 2 a0.toList).extract 2 (2+363))&&(decide (0<=(num (spl (spl (zc PZ 53) 0 (#[.int .i64 a1,.int .i64 a2]:Array Value).toList) 2 a0.toList) 0))&&decide ((num (spl (spl (zc PZ 53) 0 (#[.int .i64 a1,.int .i64 a2]:Array Value).toList) 2 a0.toList) 0)<2)))&&(decide (1<=(num (spl (spl (zc PZ 53) 0 (#[.int .i64 a1,.int .i64 a2]:Array Value).toList) 2 a0.toList) 1))&&decide ((num (spl (spl (zc PZ 53) 0 (#[.int .i64 a1,.int .i64 a2]:Array Value).toList) 2 a0.toList) 1)<=8)))&&Zac ((spl (spl (zc PZ 53) 0 (#[.int .i64 a1,.int .i64 a2]:Array Value).toList) 2 a0.toList).extract 2 (2+363)) a3) then (bif (decide ((fwV PZ ((spl (spl (zc PZ 53) 0 (#[.int .i64 a1,.int .i64 a2]:Array Value).toList) 2 a0.toList).extract 2 (2+363)) (num (spl (spl (zc PZ 53) 0 (#[.int .i64 a1,.int .i64 a2]:Array Value).toList) 2 a0.toList) 0) (num (spl (spl (zc PZ 53) 0 (#[.int .i64 a1,.int .i64 a2]:Array Value).toList) 2 a0.toList) 1) a3)<68719476736)&&(decide (0<=(1:Int))&&decide ((1:Int)<=100))) then (some (.t [.r #[.int .i8 (IntKind.i8.wrap (num (spl (spl (zc PZ 53) 0 (#[.int .i64 a1,.int .i64 a2]:Array Value).toList) 2 a0.toList) 0)),.int .i8 (IntKind.i8.wrap (num (spl (spl (zc PZ 53) 0 (#[.int .i64 a1,.int .i64 a2]:Array Value).toList) 2 a0.toList) 1)),.slice none 0 0] 31 [(2,HOLE)],.i .i64 0],.newS (some 1000000) ((oneN (fwV PZ ((spl (spl (zc PZ 53) 0 (#[.int .i64 a1,.int .i64 a2]:Array Value).toList) 2 a0.toList).extract 2 (2+363)) (num (spl (spl (zc PZ 53) 0 (#[.int .i64 a1,.int .i64 a2]:Array Value).toList) 2 a0.toList) 0) (num (spl (spl (zc PZ 53) 0 (#[.int .i64 a1,.int .i64 a2]:Array Value).toList) 2 a0.toList) 1) a3) (1:Int))) (oneA (fwV PZ ((spl (spl (zc PZ 53) 0 (#[.int .i64 a1,.int .i64 a2]:Array Value).toList) 2 a0.toList).extract 2 (2+363)) (num (spl (spl (zc PZ 53) 0 (#[.int .i64 a1,.int .i64 a2]:Array Value).toList) 2 a0.toList) 0) (num (spl (spl (zc PZ 53) 0 (#[.int .i64 a1,.int .i64 a2]:Array Value).toList) 2 a0.toList) 1) a3) (1:Int)) 48,true))
              else (none)) else (none)) else (bif (((okS ((spl (spl (zc PZ 53) 0 (#[.int .i64 a1,.int .i64 a2]:Array Value).toList) 2 a0.toList).extract 2 (2+363))&&(decide (0<=(num (spl (spl (zc PZ 53) 0 (#[.int .i64 a1,.int .i64 a2]:Array Value).toList) 2 a0.toList) 0))&&decide ((num (spl (spl (zc PZ 53) 0 (#[.int .i64 a1,.int .i64 a2]:Array Value).toList) 2 a0.toList) 0)<2)))&&(decide (1<=(num (spl (spl (zc PZ 53) 0 (#[.int .i64 a1,.int .i64 a2]:Array Value).toList) 2 a0.toList) 1))&&decide ((num (spl (spl (zc PZ 53) 0 (#[.int .i64 a1,.int .i64 a2]:Array Value).toList) 2 a0.toList) 1)<=8)))&&Zac ((spl (spl (zc PZ 53) 0 (#[.int .i64 a1,.int .i64 a2]:Array Value).toList) 2 a0.toList).extract 2 (2+363)) a3) then (some (.t [.r #[.int .i8 0,.int .i8 0,.slice none 0 0] 31 [],.i .i64 6],.none,true)) else (none)))) else (some (.t [.r #[.int .i8 0,.int .i8 0,.slice none 0 0] 31 [],.i .i64 2],.none,true))) else (some (.t [.r #[.int .i8 0,.int .i8 0,.slice none 0 0] 31 [],.i .i64 1],.none,true))):=by kernel_rfl
theorem Zsy(a0:Array Value)(a1 a2 a3:Int)(g_et:Addr)(g_tb:Addr)(h_a0:WT PZ 38 a0)(h_a1:i64.min<=a1/\a1<=i64.max)(h_a2:i64.min<=a2/\a2<=i64.max)(h_a3:IntKind.u64.min<=a3/\a3<=IntKind.u64.max)(hc0:(((fcC PZ a0 a1 a2 a3)==(0:Int)))=false)(hg:(true)=true):ansV PZ Zl1 1000 f6 [] [.g a0 38,.i .i64 a1,.i .i64 a2,.i .u64 a3] [.gl 0 124 g_et 3000055,.gl 1 0 g_tb 1000000000]=some (.t [.r #[.int .i8 0,.int .i8 0,.slice none 0 0] 31 [],.i .i64 (fcC PZ a0 a1 a2 a3)],.none,true):=by
 refine(Zny 1000 a0 a1 a2 a3 g_et g_tb).trans ?_;have hz:a0.size=363:=Zxp h_a0;obtain⟨hU,hlo⟩:=Yp8 h_a0 a1 a2 a3;have hlow:=low_of hU hlo;rw[(Zpv hz).1,(Ycd hz).1,(Ycd hz).2];unfold fcC at hc0
 try unfold fcC
 unfold fcV at hlow
 try unfold fcV
 cases hok:okS a0 with
 |false=>rw[hok]at hc0;simp only[Q2]at hc0 |-<;>first|rfl | (exfalso;revert hc0;decide)
 | true=>
  cases hr:(Zaa a1 0 1&&(Zaa a2 1 8&&Zac a0 a3)) with
  |false=>rw[hok,hr]at hc0;simp only[Q1,Q2]at hc0 |-<;>first|rfl | (exfalso;revert hc0;decide)
  | true=>
   rw[hok,hr]at hc0 hlow;simp only[Q1]at hc0 hlow|-
   have hr':=hr;rw[Q7,Q7]at hr';obtain⟨g0,g1,hc⟩:=hr';have hb:=Zoi g0;have hh:=Zoi g1;rw[dec2 hb.1 (show a1<2 by omega),Q3 (show 1<=a2 by omega),Q3 (show a2<=8 by omega),hc];unfold lfV at hlow
   try unfold lfV
   unfold lfC at hc0
   try unfold lfC
   cases hd:decide ((nW a0:Int) > (12:Int)) with
   |true=>rw[hd]at hc0;simp only[Q1]at hc0 |-<;>first|rfl | (exfalso;revert hc0;decide)
   | false=>
    rw[hd]at hc0 hlow;simp only[Q2]at hc0 hlow|-
    cases hs:(scF PZ a0 a1 a2 a3).isSome with
    |false=>rw[hs]at hc0;simp only[Q2]at hc0 |-<;>first|rfl | (exfalso;revert hc0;decide)
    |true=>rw[hs]at hc0;simp only[Q1]at hc0 |-<;>first | (exfalso;revert hc0;decide) | (rw[Q3 hlow];rfl)
theorem Zsn(a0:Array Value)(a1 a2 a3:Int)(g_et:Addr)(g_tb:Addr)(h_a0:WT PZ 38 a0)(h_a1:i64.min<=a1/\a1<=i64.max)(h_a2:i64.min<=a2/\a2<=i64.max)(h_a3:IntKind.u64.min<=a3/\a3<=IntKind.u64.max)(hc0:(((fcC PZ a0 a1 a2 a3)==(0:Int)))=true)(hg:(true)=true):ansV PZ Zl1 1000 f6 [] [.g a0 38,.i .i64 a1,.i .i64 a2,.i .u64 a3] [.gl 0 124 g_et 3000055,.gl 1 0 g_tb 1000000000]=some (.t [.r #[.int .i8 (IntKind.i8.wrap a1),.int .i8 (IntKind.i8.wrap a2),.slice none 0 0] 31 [(2,HOLE)],.i .i64 0],.newS (some 1000000) (prL (fcV PZ a0 a1 a2 a3) 1 36).length (arrL (prL (fcV PZ a0 a1 a2 a3) 1 36)) 48,true):=by
 refine(Zny 1000 a0 a1 a2 a3 g_et g_tb).trans ?_;have hz:a0.size=363:=Zxp h_a0;obtain⟨hU,hlo⟩:=Yp8 h_a0 a1 a2 a3;have hlow:=low_of hU hlo;rw[(Zpv hz).1,(Ycd hz).1,(Ycd hz).2];unfold fcC at hc0
 try unfold fcC
 unfold fcV at hlow
 try unfold fcV
 cases hok:okS a0 with
 |false=>rw[hok]at hc0;simp only[Q2]at hc0 |-<;>first|rfl | (exfalso;revert hc0;decide)
 | true=>
  cases hr:(Zaa a1 0 1&&(Zaa a2 1 8&&Zac a0 a3)) with
  |false=>rw[hok,hr]at hc0;simp only[Q1,Q2]at hc0 |-<;>first|rfl | (exfalso;revert hc0;decide)
  | true=>
   rw[hok,hr]at hc0 hlow;simp only[Q1]at hc0 hlow|-
   have hr':=hr;rw[Q7,Q7]at hr';obtain⟨g0,g1,hc⟩:=hr';have hb:=Zoi g0;have hh:=Zoi g1;rw[dec2 hb.1 (show a1<2 by omega),Q3 (show 1<=a2 by omega),Q3 (show a2<=8 by omega),hc];unfold lfV at hlow
   try unfold lfV
   unfold lfC at hc0
   try unfold lfC
   cases hd:decide ((nW a0:Int) > (12:Int)) with
   |true=>rw[hd]at hc0;simp only[Q1]at hc0 |-<;>first|rfl | (exfalso;revert hc0;decide)
   | false=>
    rw[hd]at hc0 hlow;simp only[Q2]at hc0 hlow|-
    cases hs:(scF PZ a0 a1 a2 a3).isSome with
    |false=>rw[hs]at hc0;simp only[Q2]at hc0 |-<;>first|rfl | (exfalso;revert hc0;decide)
    |true=>rw[hs]at hc0;simp only[Q1]at hc0 |-<;>first | (exfalso;revert hc0;decide) | (rw[Q3 hlow];rfl)
def Zgi:SCon:=λargs h=>match args,h with|[.g a0 38,.i .i64 a1,.i .i64 a2,.i .u64 a3],[.gl 0 124 g_et 3000055,.gl 1 0 g_tb 1000000000]=>.two (((fcC PZ a0 a1 a2 a3)==(0:Int))) (.one (some (.t [.r #[.int .i8 (IntKind.i8.wrap a1),.int .i8 (IntKind.i8.wrap a2),.slice none 0 0] 31 [(2,HOLE)],.i .i64 0],.newS (some 1000000) (prL (fcV PZ a0 a1 a2 a3) 1 36).length (arrL (prL (fcV PZ a0 a1 a2 a3) 1 36)) 48,true))) (.one (some (.t [.r #[.int .i8 0,.int .i8 0,.slice none 0 0] 31 [(2,HOLE)],.i .i64 (fcC PZ a0 a1 a2 a3)],.newS (some 1000000) 0 (#[]:Array Value) 48,true)))|_,_=>.one none
theorem Zsl:EntX PZ 6:=Zak (fn:=f6)
theorem Zwa:Uac mn PZ 6 (λargs h=>Uag (Zgi args h)):=by
 intro ρ h w args vals r e hn hr hA hH;dsimp only at hr;unfold Zgi at hr;split at hr
 ·rename_i a0 a1 a2 a3 g_et g_tb;simp only[Uag]at hr;cases hc0:(((fcC PZ a0 a1 a2 a3)==(0:Int)))
  ·rw[hc0]at hr;simp only[Uag,Q1,Q2]at hr;obtain⟨rfl,rfl,hg2⟩:=BQi hr;exact(Uac.nilR (ansY (N:=1000) (mkΓw_sX (Ymc Zn8) Zmu (mkΓw_sX (Yjj Zlj) Zkg (mKw (Zmx Zq2) Zno (mKw (Zag Zne) Zlh (mKw (Zmx Zwv) Zq1 mkΓx_nilX))))) f6 []) 2 48) ρ _ w _ vals _ _ hn (congrArg (Vc.nilR 2 48) (Zsy a0 a1 a2 a3 g_et g_tb (hA.wt 0 rfl) (hA.rng 1 rfl) (hA.rng 2 rfl) (hA.rng 3 rfl) hc0 hg2)) hA hH
  ·rw[hc0]at hr;simp only[Uag,Q1,Q2]at hr;obtain⟨rfl,rfl,hg2⟩:=BQi hr;exact((ansY (N:=1000) (mkΓw_sX (Ymc Zn8) Zmu (mkΓw_sX (Yjj Zlj) Zkg (mKw (Zmx Zq2) Zno (mKw (Zag Zne) Zlh (mKw (Zmx Zwv) Zq1 mkΓx_nilX))))) f6 [])) ρ _ w _ vals _ _ hn ((Zsn a0 a1 a2 a3 g_et g_tb (hA.wt 0 rfl) (hA.rng 1 rfl) (hA.rng 2 rfl) (hA.rng 3 rfl) hc0 hg2)) hA hH
 ·simp only[Uag]at hr;cases hr
def Zka:Con:=λargs h=>match args,h with|[.g a0 38,.i .i64 a1,.i .i64 a2,.i .u64 a3],[.gl 0 124 g_et 3000055,.gl 1 0 g_tb 1000000000]=>some (.t [.r (pfV PZ a0 a1 a2 a3) 31 [(2,HOLE)],.i .i64 (fcC PZ a0 a1 a2 a3)],.newS (some 1000000) (pfN PZ a0 a1 a2 a3) (pfA PZ a0 a1 a2 a3) 48,true)|_,_=>none
theorem Zxv:Uac mn PZ 6 Zka:=Uac.of Zwa (by
 intro ρ h w args vals r e hA hH hr;unfold Zka at hr;split at hr
 ·rename_i a0 a1 a2 a3 g_et g_tb;obtain⟨rfl,rfl,hg2⟩:=BQi hr
  show Uag (Zgi _ _)=_
  unfold Zgi;simp only[Uag];unfold pfV pfI pfN pfA;cases hq:((fcC PZ a0 a1 a2 a3)==(0:Int)) with|false=>rfl|true=>rw[beq_iff_eq.1 hq];try rfl
 ·cases hr)
end
end Go.Proofs.YtgllknjdblkhnaaGreatDoor
