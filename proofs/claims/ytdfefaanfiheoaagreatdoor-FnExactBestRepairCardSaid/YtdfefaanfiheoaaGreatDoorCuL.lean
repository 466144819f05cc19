/- Logarithms, both sides, in company. -/
import Derived.Test.YtdfefaanfiheoaaGreatDoorProg
import Derived.Test.YtdfefaanfiheoaaGreatDoorVcG
set_option linter.unusedVariables false
set_option linter.unusedSimpArgs false
open _root_.Nat renaming log2->jA
open _root_.Int renaming fdiv_eq_ediv_of_nonneg->jB
namespace Go.Proofs.YtdfefaanfiheoaaGreatDoor
open Tryz (f60 f89 f109)
open Go.ChangeShapes Go.WideShapes Go.ChangeAt Go.RowKit Ve Vc
open Tryz renaming prog -> PZ
open IntKind (i64)
set_option maxRecDepth 100000
noncomputable section
variable {F:Vc.Fd}
def len8:ByteArray:=⟨#[0,1,2,2,3,3,3,3,4,4,4,4,4,4,4,4,5,5,5,5,5,5,5,5,5,5,5,5,5,5,5,5,6,6,6,6,6,6,6,6,6,6,6,6,6,6,6,6,6,6,6,6,6,6,6,6,6,6,6,6,6,6,6,6,7,7,7,7,7,7,7,7,7,7,7,7,7,7,7,7,7,7,7,7,7,7,7,7,7,7,7,7,7,7,7,7,7,7,7,7,7,7,7,7,7,7,7,7,7,7,7,7,7,7,7,7,7,7,7,7,7,7,7,7,7,7,7,7,8,8,8,8,8,8,8,8,8,8,8,8,8,8,8,8,8,8,8,8,8,8,8,8,8,8,8,8,8,8,8,8,8,8,8,8,8,8,8,8,8,8,8,8,8,8,8,8,8,8,8,8,8,8,8,8,8,8,8,8,8,8,8,8,8,8,8,8,8,8,8,8,8,8,8,8,8,8,8,8,8,8,8,8,8,8,8,8,8,8,8,8,8,8,8,8,8,8,8,8,8,8,8,8,8,8,8,8,8,8,8,8,8,8,8,8,8,8,8,8,8,8,8,8,8,8,8,8]⟩
def Uav(a:Int):Int:=bif decide (0<a) then (jA a.toNat:Int)+1 else 0
theorem len8_all:(List.range 256).all (λi=>Uch len8 i==(if i=0 then 0 else (jA i:Int)+1))=true:=by decide +kernel
theorem len8_at{m:Nat}(h:m<256):Uch len8 m=(if m=0 then 0 else (jA m:Int)+1):=eq_of_beq (List.all_eq_true.1 len8_all m (List.mem_range.2 h))
theorem Yry{n s:Nat}(h:1<=n / 2^s):jA n=jA (n / 2^s)+s:=by
 have hp:0<2^s:=Nat.pow_pos (by omega);have hn:n≠0:=by rintro rfl;simp at h
 refine(Nat.log2_eq_iff hn).2 ?_;obtain⟨h1,h2⟩:=(Nat.log2_eq_iff (show n / 2^s≠0 by omega)).1 rfl;generalize jA (n / 2^s)=j at h1 h2;constructor
 ·rw[Nat.pow_add];exact(Nat.le_div_iff_mul_le hp).1 h1
 ·rw[show j+s+1=(j+1)+s by omega,Nat.pow_add];exact(Nat.div_lt_iff_lt_mul hp).1 h2
theorem Ym4(n:Nat):Uav (n:Int)=if n=0 then 0 else (jA n:Int)+1:=by
 unfold Uav
 by_cases h:n=0
 ·subst h;rfl
 ·rw[Q3 (show (0:Int)<n by omega),if_neg h,Q9];rfl
theorem Zyi(n k:Nat)(b:Nat)(h:k<=b):((n:Int)).fdiv (2^(min k b))=((n / 2^k:Nat):Int):=by rw[Nat.min_eq_left h,jB _ (Int.le_of_lt (Int.pow_pos (by omega)))];simp
theorem Zpu{n s:Nat}(C:Int)(hs:s<=56)(hm:n / 2^s<256)(h1:s=0\/1<=n / 2^s)(hC:C=s):
  (bif (decide (0<=IntKind.u8.wrap ((n / 2^s:Nat):Int))&&decide (IntKind.u8.wrap ((n / 2^s:Nat):Int)<(len8.size:Int))) then (some (.a (.i .i64 (i64.wrap (C+i64.wrap (Uch len8 (IntKind.u8.wrap ((n / 2^s:Nat):Int)).toNat)))),.none,true)) else none:Option (SV×Eff×Bool))=some (.a (.i .i64 (Uav (n:Int))),.none,true):=by
 have hw:IntKind.u8.wrap ((n / 2^s:Nat):Int)=((n / 2^s:Nat):Int):=(λ(q:Nat) (hq:q<256)=>(by rw[IntKind.wrap_u8];omega:IntKind.u8.wrap (q:Int)=(q:Int))) _ hm;have hsz:(len8.size:Int)=256:=by decide +kernel
 rw[hw,hsz,Q3 (Int.natCast_nonneg _),Q3 (show ((n / 2^s:Nat):Int)<256 from Int.ofNat_lt.2 hm),Q9,len8_at hm,Ym4];have hl:jA (n / 2^s)<=8:=by
  by_cases h0:n / 2^s=0
  ·rw[h0];decide
  ·exact Nat.le_of_lt ((Nat.log2_lt h0).2 (by omega))
 have key:C+(if n / 2^s=0 then 0 else (jA (n / 2^s):Int)+1)=if n=0 then 0 else (jA n:Int)+1:=by
  rcases h1 with rfl|h1
  ·rw[Nat.pow_zero,Nat.div_one] at *;rw[hC];simp
  ·rw[if_neg (by omega),if_neg (by rintro rfl;simp at h1),Yry h1,hC];omega
 have hw2:i64.wrap (if n / 2^s=0 then 0 else (jA (n / 2^s):Int)+1)=(if n / 2^s=0 then 0 else (jA (n / 2^s):Int)+1):=IntWalk.i64_in _ (by split<;>omega);rw[hw2,key];have:i64.wrap (if n=0 then 0 else (jA n:Int)+1)=(if n=0 then 0 else (jA n:Int)+1):=IntWalk.i64_in _ (by rw[<- key];split<;>omega);rw[this];rfl
theorem Zwy(N:Nat)(a0:Int):ansV PZ (mkΓ []) N f109 [] [.i .u64 a0] []=(bif decide (a0>=(4294967296:Int)) then (bif decide (((a0).fdiv (2^(min ((32:Int)).toNat IntKind.u64.bits)))>=(65536:Int)) then (bif decide (((((a0).fdiv (2^(min ((32:Int)).toNat IntKind.u64.bits)))).fdiv (2^(min ((16:Int)).toNat IntKind.u64.bits)))>=(256:Int)) then (bif (decide (0<=(IntKind.u8.wrap ((((((a0).fdiv (2^(min ((32:Int)).toNat IntKind.u64.bits)))).fdiv (2^(min ((16:Int)).toNat IntKind.u64.bits)))).fdiv (2^(min ((8:Int)).toNat IntKind.u64.bits)))))&&decide ((IntKind.u8.wrap ((((((a0).fdiv (2^(min ((32:Int)).toNat IntKind.u64.bits)))).fdiv (2^(min ((16:Int)).toNat IntKind.u64.bits)))).fdiv (2^(min ((8:Int)).toNat IntKind.u64.bits))))<(len8.size:Int))) then (some (.a (.i .i64 (i64.wrap ((i64.wrap ((i64.wrap ((32:Int)+(16:Int)))+(8:Int)))+(i64.wrap (Uch len8 ((IntKind.u8.wrap ((((((a0).fdiv (2^(min ((32:Int)).toNat IntKind.u64.bits)))).fdiv (2^(min ((16:Int)).toNat IntKind.u64.bits)))).fdiv (2^(min ((8:Int)).toNat IntKind.u64.bits))))).toNat))))),.none,true)) else (none)) else (bif (decide (0<=(IntKind.u8.wrap ((((a0).fdiv (2^(min ((32:Int)).toNat IntKind.u64.bits)))).fdiv (2^(min ((16:Int)).toNat IntKind.u64.bits)))))&&decide ((IntKind.u8.wrap ((((a0).fdiv (2^(min ((32:Int)).toNat IntKind.u64.bits)))).fdiv (2^(min ((16:Int)).toNat IntKind.u64.bits))))<(len8.size:Int))) then (some (.a (.i .i64 (i64.wrap ((i64.wrap ((32:Int)+(16:Int)))+(i64.wrap (Uch len8 ((IntKind.u8.wrap ((((a0).fdiv (2^(min ((32:Int)).toNat IntKind.u64.bits)))).fdiv (2^(min ((16:Int)).toNat IntKind.u64.bits))))).toNat))))),.none,true)) else (none))) else (bif decide (((a0).fdiv (2^(min ((32:Int)).toNat IntKind.u64.bits)))>=(256:Int)) then (bif (decide (0<=(IntKind.u8.wrap ((((a0).fdiv (2^(min ((32:Int)).toNat IntKind.u64.bits)))).fdiv (2^(min ((8:Int)).toNat IntKind.u64.bits)))))&&decide ((IntKind.u8.wrap ((((a0).fdiv (2^(min ((32:Int)).toNat IntKind.u64.bits)))).fdiv (2^(min ((8:Int)).toNat IntKind.u64.bits))))<(len8.size:Int))) then (some (.a (.i .i64 (i64.wrap ((i64.wrap ((32:Int)+(8:Int)))+(i64.wrap (Uch len8 ((IntKind.u8.wrap ((((a0).fdiv (2^(min ((32:Int)).toNat IntKind.u64.bits)))).fdiv (2^(min ((8:Int)).toNat IntKind.u64.bits))))).toNat))))),.none,true)) else (none)) else (bif (decide (0<=(IntKind.u8.wrap ((a0).fdiv (2^(min ((32:Int)).toNat IntKind.u64.bits)))))&&decide ((IntKind.u8.wrap ((a0).fdiv (2^(min ((32:Int)).toNat IntKind.u64.bits))))<(len8.size:Int))) then (some (.a (.i .i64 (i64.wrap ((32:Int)+(i64.wrap (Uch len8 ((IntKind.u8.wrap ((a0).fdiv (2^(min ((32:Int)).toNat IntKind.u64.bits))))).toNat))))),.none,true)) else (none)))) else (bif decide (a0>=(65536:Int)) then (bif decide (((a0).fdiv (2^(min ((16:Int)).toNat IntKind.u64.bits)))>=(256:Int)) then (bif (decide (0<=(IntKind.u8.wrap ((((a0).fdiv (2^(min ((16:Int)).toNat IntKind.u64.bits)))).fdiv (2^(min ((8:Int)).toNat IntKind.u64.bits)))))&&decide ((IntKind.u8.wrap ((((a0).fdiv (2^(min ((16:Int)).toNat IntKind.u64.bits)))).fdiv (2^(min ((8:Int)).toNat IntKind.u64.bits))))<(len8.size:Int))) then (some (.a (.i .i64 (i64.wrap ((i64.wrap ((i64.wrap ((0:Int)+(16:Int)))+(8:Int)))+(i64.wrap (Uch len8 ((IntKind.u8.wrap ((((a0).fdiv (2^(min ((16:Int)).toNat IntKind.u64.bits)))).fdiv (2^(min ((8:Int)).toNat IntKind.u64.bits))))).toNat))))),.none,true))
          else (none)) else (bif (decide (0<=(IntKind.u8.wrap ((a0).fdiv (2^(min ((16:Int)).toNat IntKind.u64.bits)))))&&decide ((IntKind.u8.wrap ((a0).fdiv (2^(min ((16:Int)).toNat IntKind.u64.bits))))<(len8.size:Int))) then (some (.a (.i .i64 (i64.wrap ((i64.wrap ((0:Int)+(16:Int)))+(i64.wrap (Uch len8 ((IntKind.u8.wrap ((a0).fdiv (2^(min ((16:Int)).toNat IntKind.u64.bits))))).toNat))))),.none,true)) else (none))) else (bif decide (a0>=(256:Int)) then (bif (decide (0<=(IntKind.u8.wrap ((a0).fdiv (2^(min ((8:Int)).toNat IntKind.u64.bits)))))&&decide ((IntKind.u8.wrap ((a0).fdiv (2^(min ((8:Int)).toNat IntKind.u64.bits))))<(len8.size:Int))) then (some (.a (.i .i64 (i64.wrap ((i64.wrap ((0:Int)+(8:Int)))+(i64.wrap (Uch len8 ((IntKind.u8.wrap ((a0).fdiv (2^(min ((8:Int)).toNat IntKind.u64.bits))))).toNat))))),.none,true)) else (none)) else (bif (decide (0<=(IntKind.u8.wrap a0))&&decide ((IntKind.u8.wrap a0)<(len8.size:Int))) then (some (.a (.i .i64 (i64.wrap ((0:Int)+(i64.wrap (Uch len8 ((IntKind.u8.wrap a0)).toNat))))),.none,true)) else (none))))):=by kernel_rfl
theorem Zu8(a0:Int)(h_a0:IntKind.u64.min<=a0/\a0<=IntKind.u64.max)(hg:(true)=true):ansV PZ (mkΓ []) 1000 f109 [] [.i .u64 a0] []=some (.a (.i .i64 (Uav a0)),.none,true):=by
 obtain⟨n,rfl⟩:=Int.eq_ofNat_of_zero_le (show 0<=a0 from h_a0.1);have hn:n<18446744073709551616:=by have:=h_a0.2;have e:IntKind.u64.max=18446744073709551615:=rfl;omega
 refine(Zwy 1000 _).trans ?_;have t32:((32:Int)).toNat=32:=rfl;have t16:((16:Int)).toNat=16:=rfl;have t8:((8:Int)).toNat=8:=rfl;have hb:IntKind.u64.bits=64:=rfl;have dd:∀a b:Nat,n / 2^a / 2^b=n / 2^(a+b):=λa b=>by rw[Nat.div_div_eq_div_mul,<- Nat.pow_add]
 simp only[t32,t16,t8,hb,Zyi _ _ 64 (show 32<=64 by omega),Zyi _ _ 64 (show 16<=64 by omega),Zyi _ _ 64 (show 8<=64 by omega),dd];have w1:i64.wrap ((32:Int)+16)=48:=by decide
 have w2:i64.wrap ((48:Int)+8)=56:=by decide
 have w3:i64.wrap ((32:Int)+8)=40:=by decide
 have w4:i64.wrap ((16:Int)+8)=24:=by decide
 have w5:i64.wrap ((0:Int)+32)=32:=by decide
 have w6:i64.wrap ((0:Int)+16)=16:=by decide
 have w7:i64.wrap ((0:Int)+8)=8:=by decide
 simp only[w1,w2,w3,w4,w5,w6,w7,show (32+16:Nat)=48 from rfl,show (48+8:Nat)=56 from rfl,show (32+8:Nat)=40 from rfl,show (16+8:Nat)=24 from rfl]
 by_cases a:n>=4294967296
 ·rw[Q3 (show ((n:Nat):Int)>=4294967296 by omega),Q1]
  by_cases b:n / 2^32>=65536
  ·rw[Q3 (show ((n / 2^32:Nat):Int)>=65536 by omega),Q1]
   by_cases c:n / 2^48>=256
   ·rw[Q3 (show ((n / 2^48:Nat):Int)>=256 by omega),Q1];exact Zpu (s:=56) _ (by omega) (by omega) (.inr (by omega)) rfl
   ·rw[Q4 (show ¬((n / 2^48:Nat):Int)>=256 by omega),Q2];exact Zpu (s:=48) _ (by omega) (by omega) (.inr (by omega)) rfl
  ·rw[Q4 (show ¬((n / 2^32:Nat):Int)>=65536 by omega),Q2]
   by_cases c:n / 2^32>=256
   ·rw[Q3 (show ((n / 2^32:Nat):Int)>=256 by omega),Q1];exact Zpu (s:=40) _ (by omega) (by omega) (.inr (by omega)) rfl
   ·rw[Q4 (show ¬((n / 2^32:Nat):Int)>=256 by omega),Q2];exact Zpu (s:=32) _ (by omega) (by omega) (.inr (by omega)) rfl
 ·rw[Q4 (show ¬((n:Nat):Int)>=4294967296 by omega),Q2]
  by_cases b:n>=65536
  ·rw[Q3 (show ((n:Nat):Int)>=65536 by omega),Q1]
   by_cases c:n / 2^16>=256
   ·rw[Q3 (show ((n / 2^16:Nat):Int)>=256 by omega),Q1];exact Zpu (s:=24) _ (by omega) (by omega) (.inr (by omega)) rfl
   ·rw[Q4 (show ¬((n / 2^16:Nat):Int)>=256 by omega),Q2];exact Zpu (s:=16) _ (by omega) (by omega) (.inr (by omega)) rfl
  ·rw[Q4 (show ¬((n:Nat):Int)>=65536 by omega),Q2]
   by_cases c:n>=256
   ·rw[Q3 (show ((n:Nat):Int)>=256 by omega),Q1];exact Zpu (s:=8) _ (by omega) (by omega) (.inr (by omega)) rfl
   ·rw[Q4 (show ¬((n:Nat):Int)>=256 by omega),Q2];have:=Zpu (n:=n) (s:=0) 0 (by omega) (by rw[Nat.pow_zero,Nat.div_one];omega) (.inl rfl) rfl;rw[Nat.pow_zero,Nat.div_one]at this;exact this
def Zbi:Con:=λargs h=>match args,h with|[.i .u64 a0],[]=>some (.a (.i .i64 (Uav a0)),.none,true)|_,_=>none
theorem Zs4:EntX PZ 109:=Zaj (fn:=f109)
theorem Zzv:Uac (md F) PZ 109 Zbi:=(ansY (N:=1000) mKn f109 []).of (by
 intro ρ h w args vals r e hA hH hr;unfold Zbi at hr;split at hr
 ·rename_i a0;obtain⟨rfl,rfl,hg2⟩:=BQi hr;exact Zu8 a0 (hA.rng 0 rfl) hg2
 ·cases hr)
def xq(x:Int):Int:=(i64.wrap (x*x)).fdiv (2^(min ((30:Int)).toNat i64.bits))
def xbig(x:Int):Bool:=decide (xq x>=2147483648)
def xnx(x:Int):Int:=bif xbig x then (xq x) / 2 else xq x
def xbit(x:Int):Int:=bif xbig x then 1 else 0
def xsq(x0:Int):Nat->Int
 |0=>x0
 |i+1=>xnx (xsq x0 i)
def dg(x0:Int):Nat->Int
 |0=>0
 |i+1=>2*dg x0 i+xbit (xsq x0 i)
def lgx(k:Nat)(n:Int):Int:=bif decide ((k:Int) > 30) then n.fdiv (2^(min (k - 30) 64)) else i64.wrap (n*2^(min (30 - k) 64))
def lg(n:Int):Int:=16*(jA n.toNat:Int)+dg (lgx (jA n.toNat) n) 4
theorem Ubc(x:Int):0<=xbit x/\xbit x<=1:=by unfold xbit;cases xbig x<;>simp
theorem Yk5(x0:Int):∀i,i<=4->0<=dg x0 i/\dg x0 i<=15
 |0,_=>by simp[dg]
 |1,_=>by have:=Ubc (xsq x0 0);simp only[dg];omega
 |2,_=>by have:=Ubc (xsq x0 0);have:=Ubc (xsq x0 1);simp only[dg];omega
 |3,_=>by have:=Ubc (xsq x0 0);have:=Ubc (xsq x0 1);have:=Ubc (xsq x0 2);simp only[dg];omega
 |4,_=>by have:=Ubc (xsq x0 0);have:=Ubc (xsq x0 1);have:=Ubc (xsq x0 2);have:=Ubc (xsq x0 3);simp only[dg];omega
 |_+5,h=>absurd h (by omega)
theorem xq_le(x:Int):xq x<=9223372036854775807:=by
 unfold xq;have h:=(Zgw .i64 (x*x)).2;have h0:=(Zgw .i64 (x*x)).1;have e:i64.max=9223372036854775807:=rfl;rw[e]at h;rw[jB _ (Int.le_of_lt (Int.pow_pos (by omega)))];have e2:((2:Int)^(min ((30:Int)).toNat i64.bits))=1073741824:=by decide
 rw[e2];omega
theorem Uga{x:Int}(h:xq x>=2147483648):i64.wrap ((xq x).tdiv 2)=(xq x) / 2/\(xq x).fdiv (2^(min ((1:Int)).toNat i64.bits))=(xq x) / 2:=by
 have hl:=xq_le x;have e2:((2:Int)^(min ((1:Int)).toNat i64.bits))=2:=by decide
 rw[e2,jB _ (by omega),Int.tdiv_eq_ediv_of_nonneg (by omega)];exact⟨IntWalk.i64_in _ (by omega),rfl⟩
def lgL(k:Nat)(x0:Int):Nat->Int
 |0=>k
 |i+1=>2*lgL k x0 i+xbit (xsq x0 i)
theorem Zzg(k:Nat)(x0:Int)(hk:k<=64):∀i,i<=4->0<=lgL k x0 i/\lgL k x0 i<=2000
 |0,_=>by simp only[lgL];omega
 |1,_=>by have:=Ubc (xsq x0 0);simp only[lgL];omega
 |2,_=>by have:=Ubc (xsq x0 0);have:=Ubc (xsq x0 1);simp only[lgL];omega
 |3,_=>by have:=Ubc (xsq x0 0);have:=Ubc (xsq x0 1);have:=Ubc (xsq x0 2);simp only[lgL];omega
 |4,_=>by have:=Ubc (xsq x0 0);have:=Ubc (xsq x0 1);have:=Ubc (xsq x0 2);have:=Ubc (xsq x0 3);simp only[lgL];omega
 |_+5,h=>absurd h (by omega)
theorem lgL_4(k:Nat)(x0:Int):lgL k x0 4=16*(k:Int)+dg x0 4:=by simp only[lgL,dg];omega
theorem Ys5{m:Nat}(h0:m≠0)(h:m<=9223372036854775807):jA m<=62:=by have:=(Nat.log2_lt h0 (k:=63)).2 (by omega);omega
def Zh2(a0:Int):St:=(⟨.a (.i .i64 a0)::.a (.u)::.a (.i .i64 0)::.a (.i .i64 0)::us 43 ([]),[],[]⟩:St)
def Zjv:Int->LS
 |y0_3=>([.a (.i .i64 y0_3)],[])
def Zp8:Int->Exit×LS
 |t=>((.exit 0),Zjv t)
def Ze1(P:Program)(a0:Int):Int->Option (Stp (Int) (Int))
 |y0_3=>bif decide (0<=(IntKind.u64.wrap y0_3)) then (bif decide (((a0).fdiv (2^(min ((IntKind.u64.wrap y0_3)).toNat i64.bits))) > (1:Int)) then (some (.more (i64.wrap (y0_3+(1:Int))))) else (some (.done y0_3))) else (none)
noncomputable abbrev cKCuL60:=codeOf f60
theorem Yjc(N:Nat)(a0:Int):∀t:Int,Uah PZ (mkΓ []) N (cAt cKCuL60 [1,1,0,0,0]) (pAt (Uaa cKCuL60 [([3],[]),([4,5,6],[])]).1 [1,1,0,0]) [3] [] (Zh2 a0) (Zjv t)=mapS Zjv Zp8 (Ze1 PZ a0 t):=by
 rintro y0_3
 conv=>rhs;simp only[Ze1,Zao,Zam,Zan,Zap,Zjv,Zp8]
 kernel_rfl
def Zhy(a0:Int)(z0_3:Int):St:=(⟨.a (.i .i64 a0)::.a (.u)::.a (.i .i64 0)::.a (.i .i64 z0_3)::.a (.i .i64 (i64.wrap (a0*2^(min ((IntKind.u64.wrap (i64.wrap ((30:Int) - z0_3)))).toNat i64.bits))))::.a (.i .i64 0)::.a (.i .i64 0)::xs 7 (.a (.i .i64 a0)::.a (.i .i64 z0_3)::.a (.b (decide (z0_3<=(30:Int))))::.a (.i .i64 a0)::.a (.i .i64 z0_3)::.a (.i .i64 (i64.wrap ((30:Int) - z0_3)))::.a (.i .u64 (IntKind.u64.wrap (i64.wrap ((30:Int) - z0_3))))::.a (.i .i64 (i64.wrap (a0*2^(min ((IntKind.u64.wrap (i64.wrap ((30:Int) - z0_3)))).toNat i64.bits))))::us 25 ([])),[],[]⟩:St)
def Zjy:Int×Int×Int->LS
 |(y1_4,y1_5,y1_6)=>([.a (.i .i64 y1_4),.a (.i .i64 y1_5),.a (.i .i64 y1_6)],[])
def Zp3:Int×Int×Int->Exit×LS
 |t=>((.exit 2),Zjy t)
def Zdw(P:Program)(a0:Int)(z0_3:Int):Int×Int×Int->Option (Stp (Int×Int×Int) (Int×Int×Int))
 |(y1_4,y1_5,y1_6)=>bif decide (y1_6<(4:Int)) then (bif decide ((((i64.wrap (y1_4*y1_4))).fdiv (2^(min ((30:Int)).toNat i64.bits)))>=(2147483648:Int)) then (some (.more ((((((i64.wrap (y1_4*y1_4))).fdiv (2^(min ((30:Int)).toNat i64.bits)))).fdiv (2^(min ((1:Int)).toNat i64.bits))),(i64.wrap ((i64.wrap (y1_5*(2:Int)))+(1:Int))),(i64.wrap (y1_6+(1:Int)))))) else (some (.more ((((i64.wrap (y1_4*y1_4))).fdiv (2^(min ((30:Int)).toNat i64.bits))),(i64.wrap (y1_5*(2:Int))),(i64.wrap (y1_6+(1:Int))))))) else (some (.done (y1_4,y1_5,y1_6)))
theorem Yik(N:Nat)(a0:Int)(z0_3:Int):∀t:Int×Int×Int,Uah PZ (mkΓ []) N (cAt cKCuL60 [1,1,1,1,1,1,0,1,0,0]) (pAt (Uaa cKCuL60 [([3],[]),([4,5,6],[])]).1 [1,1,1,1,1,1,0,1,0]) [4,5,6] [] (Zhy a0 z0_3) (Zjy t)=mapS Zjy Zp3 (Zdw PZ a0 z0_3 t):=by
 rintro⟨y1_4,y1_5,y1_6⟩
 conv=>rhs;simp only[Zdw,Zao,Zam,Zan,Zap,Zjy,Zp3]
 kernel_rfl
def Zhl(P:Program)(N:Nat)(a0:Int)(z0_3:Int)(z1_4:Int)(z1_5:Int)(z1_6:Int):Option (SV×Eff×Bool):=some (.a (.i .i64 (i64.wrap ((i64.wrap ((16:Int)*z0_3))+z1_5))),.none,true)
theorem Zwh(N:Nat)(a0:Int)(z0_3:Int)(z1_4:Int)(z1_5:Int)(z1_6:Int):(Uad 2 (kSeq (veC PZ (mkΓ []) N (cAt cKCuL60 [1,1,1,1,1,1,1]) (pAt (Uaa cKCuL60 [([3],[]),([4,5,6],[])]).1 [1,1,1,1,1,1,1]) (SV×Eff×Bool)) (finK PZ [] [.tmp 2]))) (.exit 2) (left (writes (cAt cKCuL60 [1,1,1,1,1,1,0,1,0,0])) [4,5,6] [] (Zhy a0 z0_3) ([.a (.i .i64 z1_4),.a (.i .i64 z1_5),.a (.i .i64 z1_6)],[]))=Zhl PZ N a0 z0_3 z1_4 z1_5 z1_6:=by kernel_rfl
theorem Yje(N:Nat)(a0:Int)(z0_3:Int):Uag (Uab (Uah PZ (mkΓ []) N (cAt cKCuL60 [1,1,1,1,1,1,0,1,0,0]) (pAt (Uaa cKCuL60 [([3],[]),([4,5,6],[])]).1 [1,1,1,1,1,1,0,1,0]) [4,5,6] [] (Zhy a0 z0_3)) N ([.a (.i .i64 (i64.wrap (a0*2^(min ((IntKind.u64.wrap (i64.wrap ((30:Int) - z0_3)))).toNat i64.bits)))),.a (.i .i64 0),.a (.i .i64 0)],[])) (λe s=>(Uad 2 (kSeq (veC PZ (mkΓ []) N (cAt cKCuL60 [1,1,1,1,1,1,1]) (pAt (Uaa cKCuL60 [([3],[]),([4,5,6],[])]).1 [1,1,1,1,1,1,1]) (SV×Eff×Bool)) (finK PZ [] [.tmp 2]))) e (left (writes (cAt cKCuL60 [1,1,1,1,1,1,0,1,0,0])) [4,5,6] [] (Zhy a0 z0_3) s))=Uai (Uab (Zdw PZ a0 z0_3) N ((i64.wrap (a0*2^(min ((IntKind.u64.wrap (i64.wrap ((30:Int) - z0_3)))).toNat i64.bits))),(0:Int),(0:Int))) (λx=>Zhl PZ N a0 z0_3 x.1 x.2.1 x.2.2):=by refine Zar Zjy Zp3 _ _ (Yik N a0 z0_3) N ((i64.wrap (a0*2^(min ((IntKind.u64.wrap (i64.wrap ((30:Int) - z0_3)))).toNat i64.bits))),(0:Int),(0:Int)) _ _ ?_;intro x;exact Zwh N a0 z0_3 x.1 x.2.1 x.2.2
def Zfw(a0:Int)(z0_3:Int):St:=(⟨.a (.i .i64 a0)::.a (.u)::.a (.i .i64 0)::.a (.i .i64 z0_3)::.a (.i .i64 ((a0).fdiv (2^(min ((IntKind.u64.wrap (i64.wrap (z0_3 - (30:Int))))).toNat i64.bits))))::.a (.i .i64 0)::.a (.i .i64 0)::xs 7 (.a (.i .i64 a0)::.a (.i .i64 z0_3)::.a (.b (decide (z0_3<=(30:Int))))::us 5 (.a (.i .i64 a0)::.a (.i .i64 z0_3)::.a (.i .i64 (i64.wrap (z0_3 - (30:Int))))::.a (.i .u64 (IntKind.u64.wrap (i64.wrap (z0_3 - (30:Int)))))::.a (.i .i64 ((a0).fdiv (2^(min ((IntKind.u64.wrap (i64.wrap (z0_3 - (30:Int))))).toNat i64.bits))))::us 20 ([]))),[],[]⟩:St)
def Zht:Int×Int×Int->LS
 |(y1v1_4,y1v1_5,y1v1_6)=>([.a (.i .i64 y1v1_4),.a (.i .i64 y1v1_5),.a (.i .i64 y1v1_6)],[])
def Zmt:Int×Int×Int->Exit×LS
 |t=>((.exit 2),Zht t)
def Zcs(P:Program)(a0:Int)(z0_3:Int):Int×Int×Int->Option (Stp (Int×Int×Int) (Int×Int×Int))
 |(y1v1_4,y1v1_5,y1v1_6)=>bif decide (y1v1_6<(4:Int)) then (bif decide ((((i64.wrap (y1v1_4*y1v1_4))).fdiv (2^(min ((30:Int)).toNat i64.bits)))>=(2147483648:Int)) then (some (.more ((((((i64.wrap (y1v1_4*y1v1_4))).fdiv (2^(min ((30:Int)).toNat i64.bits)))).fdiv (2^(min ((1:Int)).toNat i64.bits))),(i64.wrap ((i64.wrap (y1v1_5*(2:Int)))+(1:Int))),(i64.wrap (y1v1_6+(1:Int)))))) else (some (.more ((((i64.wrap (y1v1_4*y1v1_4))).fdiv (2^(min ((30:Int)).toNat i64.bits))),(i64.wrap (y1v1_5*(2:Int))),(i64.wrap (y1v1_6+(1:Int))))))) else (some (.done (y1v1_4,y1v1_5,y1v1_6)))
theorem Yd4(N:Nat)(a0:Int)(z0_3:Int):∀t:Int×Int×Int,Uah PZ (mkΓ []) N (cAt cKCuL60 [1,1,1,1,1,1,0,1,0,0]) (pAt (Uaa cKCuL60 [([3],[]),([4,5,6],[])]).1 [1,1,1,1,1,1,0,1,0]) [4,5,6] [] (Zfw a0 z0_3) (Zht t)=mapS Zht Zmt (Zcs PZ a0 z0_3 t):=by
 rintro⟨y1v1_4,y1v1_5,y1v1_6⟩
 conv=>rhs;simp only[Zcs,Zao,Zam,Zan,Zap,Zht,Zmt]
 kernel_rfl
def Zgd(P:Program)(N:Nat)(a0:Int)(z0_3:Int)(z1v1_4:Int)(z1v1_5:Int)(z1v1_6:Int):Option (SV×Eff×Bool):=some (.a (.i .i64 (i64.wrap ((i64.wrap ((16:Int)*z0_3))+z1v1_5))),.none,true)
theorem Zs5(N:Nat)(a0:Int)(z0_3:Int)(z1v1_4:Int)(z1v1_5:Int)(z1v1_6:Int):(Uad 2 (kSeq (veC PZ (mkΓ []) N (cAt cKCuL60 [1,1,1,1,1,1,1]) (pAt (Uaa cKCuL60 [([3],[]),([4,5,6],[])]).1 [1,1,1,1,1,1,1]) (SV×Eff×Bool)) (finK PZ [] [.tmp 2]))) (.exit 2) (left (writes (cAt cKCuL60 [1,1,1,1,1,1,0,1,0,0])) [4,5,6] [] (Zfw a0 z0_3) ([.a (.i .i64 z1v1_4),.a (.i .i64 z1v1_5),.a (.i .i64 z1v1_6)],[]))=Zgd PZ N a0 z0_3 z1v1_4 z1v1_5 z1v1_6:=by kernel_rfl
theorem Yet(N:Nat)(a0:Int)(z0_3:Int):Uag (Uab (Uah PZ (mkΓ []) N (cAt cKCuL60 [1,1,1,1,1,1,0,1,0,0]) (pAt (Uaa cKCuL60 [([3],[]),([4,5,6],[])]).1 [1,1,1,1,1,1,0,1,0]) [4,5,6] [] (Zfw a0 z0_3)) N ([.a (.i .i64 ((a0).fdiv (2^(min ((IntKind.u64.wrap (i64.wrap (z0_3 - (30:Int))))).toNat i64.bits)))),.a (.i .i64 0),.a (.i .i64 0)],[])) (λe s=>(Uad 2 (kSeq (veC PZ (mkΓ []) N (cAt cKCuL60 [1,1,1,1,1,1,1]) (pAt (Uaa cKCuL60 [([3],[]),([4,5,6],[])]).1 [1,1,1,1,1,1,1]) (SV×Eff×Bool)) (finK PZ [] [.tmp 2]))) e (left (writes (cAt cKCuL60 [1,1,1,1,1,1,0,1,0,0])) [4,5,6] [] (Zfw a0 z0_3) s))=Uai (Uab (Zcs PZ a0 z0_3) N (((a0).fdiv (2^(min ((IntKind.u64.wrap (i64.wrap (z0_3 - (30:Int))))).toNat i64.bits))),(0:Int),(0:Int))) (λx=>Zgd PZ N a0 z0_3 x.1 x.2.1 x.2.2):=by refine Zar Zht Zmt _ _ (Yd4 N a0 z0_3) N (((a0).fdiv (2^(min ((IntKind.u64.wrap (i64.wrap (z0_3 - (30:Int))))).toNat i64.bits))),(0:Int),(0:Int)) _ _ ?_;intro x;exact Zs5 N a0 z0_3 x.1 x.2.1 x.2.2
def Zfu(P:Program)(N:Nat)(a0:Int)(z0_3:Int):Option (SV×Eff×Bool):=bif decide (z0_3<=(30:Int)) then (bif decide (0<=(IntKind.u64.wrap (i64.wrap ((30:Int) - z0_3)))) then (Uai (Uab (Zdw P a0 z0_3) N ((i64.wrap (a0*2^(min ((IntKind.u64.wrap (i64.wrap ((30:Int) - z0_3)))).toNat i64.bits))),(0:Int),(0:Int))) (λx=>Zhl P N a0 z0_3 x.1 x.2.1 x.2.2)) else (none)) else (bif decide (0<=(IntKind.u64.wrap (i64.wrap (z0_3 - (30:Int))))) then (Uai (Uab (Zcs P a0 z0_3) N (((a0).fdiv (2^(min ((IntKind.u64.wrap (i64.wrap (z0_3 - (30:Int))))).toNat i64.bits))),(0:Int),(0:Int))) (λx=>Zgd P N a0 z0_3 x.1 x.2.1 x.2.2)) else (none))
theorem Zw3(N:Nat)(a0:Int)(z0_3:Int):(Uad 0 (kSeq (veC PZ (mkΓ []) N (cAt cKCuL60 [1,1,1]) (pAt (Uaa cKCuL60 [([3],[]),([4,5,6],[])]).1 [1,1,1]) (SV×Eff×Bool)) (finK PZ [] [.tmp 2]))) (.exit 0) (left (writes (cAt cKCuL60 [1,1,0,0,0])) [3] [] (Zh2 a0) ([.a (.i .i64 z0_3)],[]))=Zfu PZ N a0 z0_3:=by
 conv=>rhs;simp only[<- Yje N a0 z0_3,<- Yet N a0 z0_3,Zfu]
 kernel_rfl
theorem Yi9(N:Nat)(a0:Int):Uag (Uab (Uah PZ (mkΓ []) N (cAt cKCuL60 [1,1,0,0,0]) (pAt (Uaa cKCuL60 [([3],[]),([4,5,6],[])]).1 [1,1,0,0]) [3] [] (Zh2 a0)) N ([.a (.i .i64 0)],[])) (λe s=>(Uad 0 (kSeq (veC PZ (mkΓ []) N (cAt cKCuL60 [1,1,1]) (pAt (Uaa cKCuL60 [([3],[]),([4,5,6],[])]).1 [1,1,1]) (SV×Eff×Bool)) (finK PZ [] [.tmp 2]))) e (left (writes (cAt cKCuL60 [1,1,0,0,0])) [3] [] (Zh2 a0) s))=Uai (Uab (Ze1 PZ a0) N (0:Int)) (λx=>Zfu PZ N a0 x):=by refine Zar Zjv Zp8 _ _ (Yjc N a0) N (0:Int) _ _ ?_;intro x;exact Zw3 N a0 x
theorem Yhs(N:Nat)(a0:Int):ansV PZ (mkΓ []) N f60 [([3],[]),([4,5,6],[])] [.i .i64 a0] []=(Uai (Uab (Ze1 PZ a0) N (0:Int)) (λx=>Zfu PZ N a0 x)):=by
 conv=>rhs;simp only[<- Yi9 N a0]
 kernel_rfl
theorem Ydh(a0:Int)(h_a0:i64.min<=a0/\a0<=i64.max)(hg:(decide (1<=a0))=true):ansV PZ (mkΓ []) 1000 f60 [([3],[]),([4,5,6],[])] [.i .i64 a0] []=some (.a (.i .i64 (lg a0)),.none,true):=by
 have h0:1<=a0:=of_decide_eq_true hg;obtain⟨m,rfl⟩:=Int.eq_ofNat_of_zero_le (show 0<=a0 by omega);have hm0:m≠0:=by omega
 have hmx:m<=9223372036854775807:=by have:=h_a0.2;have e:i64.max=9223372036854775807:=rfl;omega
 refine(Yhs 1000 _).trans ?_;obtain⟨q1,q2⟩:=(Nat.log2_eq_iff hm0).1 rfl;have hk:=Ys5 hm0 hmx;have hb:i64.bits=64:=rfl;have first:Uab (Ze1 PZ (m:Int)) 1000 (0:Int)=some (jA m:Int):=by
  have h:=Zcr (g:=Ze1 PZ (m:Int)) (λi=>(i:Int)) (m:=jA m) (x:=(jA m:Int)) (N:=1000) (λi hi=>by
   have u:IntKind.u64.wrap (i:Int)=(i:Int):=by rw[IntKind.wrap_u64];omega
   have h3:i64.wrap ((i:Int)+1)=((i+1:Nat):Int):=by rw[IntWalk.i64_in _ (by omega)];omega
   have hd:2<=m / 2^i:=(Nat.le_div_iff_mul_le (Nat.pow_pos (by omega))).2 (by
    have:2^(i+1)<=2^jA m:=Nat.pow_le_pow_right (by omega) (by omega);rw[Nat.pow_succ]at this;omega)
   simp only[Ze1,u,Q9,hb,Zyi m i 64 (by omega),h3];rw[Q3 (show (0:Int)<=(i:Int) by omega),Q3 (show ((m / 2^i:Nat):Int) > 1 by omega)];rfl) (by
   have u:IntKind.u64.wrap ((jA m:Nat):Int)=((jA m:Nat):Int):=by rw[IntKind.wrap_u64];omega
   have hd:m / 2^jA m<2:=(Nat.div_lt_iff_lt_mul (Nat.pow_pos (by omega))).2 (by rw[Nat.pow_succ]at q2;omega);simp only[Ze1,u,Q9,hb,Zyi m _ 64 (show jA m<=64 by omega)];rw[Q3 (show (0:Int)<=((jA m:Nat):Int) by omega),Q4 (show ¬((m / 2^jA m:Nat):Int) > 1 by omega)];rfl) (by omega)
  exact h
 rw[first]
 show Zfu PZ 1000 (m:Int) (jA m:Int)=some (.a (.i .i64 (lg (m:Int))),.none,true)
 have hlg:lg (m:Int)=16*(jA m:Int)+dg (lgx (jA m) (m:Int)) 4:=by unfold lg;rw[Q9]
 rw[hlg];generalize hkk:jA m=k at hk;have fin:∀x0:Int,i64.wrap (i64.wrap (16*(k:Int))+dg x0 4)=16*(k:Int)+dg x0 4:=λx0=>by
  have:=Yk5 x0 4 (by omega);rw[IntWalk.i64_in (16*(k:Int)) (by omega),IntWalk.i64_in _ (by omega)]
 unfold Zfu lgx
 by_cases hc:30<k
 ·rw[Q4 (show ¬(k:Int)<=30 by omega),Q3 (show (k:Int) > 30 by omega)];simp only[Q2,Q1];have e0:IntKind.u64.wrap (i64.wrap ((k:Int) - 30))=((k - 30:Nat):Int):=by rw[IntWalk.i64_in _ (by omega),IntKind.wrap_u64];omega
  rw[e0,Q3 (by omega),Q1,Q9,hb];generalize ((m:Int)).fdiv (2^(min (k - 30) 64))=x0;have r:=(by
  have h:=Zcr (g:=Zcs PZ (m:Int) (k:Int)) (λi=>(xsq x0 i,dg x0 i,(i:Int))) (m:=4) (x:=(xsq x0 4,dg x0 4,(4:Int))) (N:=1000) (λi hi=>by
   have h1:decide ((i:Int)<4)=true:=Q3 (by omega);have h3:i64.wrap ((i:Int)+1)=((i+1:Nat):Int):=by rw[IntWalk.i64_in _ (by omega)];omega
   have hb:=Yk5 x0 i (by omega);have h4:i64.wrap (dg x0 i*2)=dg x0 i*2:=IntWalk.i64_in _ (by omega);have h5:i64.wrap (dg x0 i*2+1)=dg x0 i*2+1:=IntWalk.i64_in _ (by omega)
   show Zcs PZ (m:Int) (k:Int) (xsq x0 i,dg x0 i,(i:Int))=some (.more (xnx (xsq x0 i),2*dg x0 i+xbit (xsq x0 i),((i+1:Nat):Int)))
   have hq:((i64.wrap (xsq x0 i*xsq x0 i))).fdiv (2^(min ((30:Int)).toNat i64.bits))=xq (xsq x0 i):=rfl;simp only[Zcs,h1,Q1,hq,h3,h4,h5];unfold xnx xbit xbig
   by_cases hbig:xq (xsq x0 i)>=2147483648
   ·rw[Q3 hbig];simp only[Q1,(Uga hbig).2];rw[show dg x0 i*2+1=2*dg x0 i+1 by omega]
   ·rw[Q4 hbig];simp only[Q2];rw[show dg x0 i*2=2*dg x0 i+0 by omega]) (by
   have h1:decide (((4:Nat):Int)<4)=false:=by decide
   simp only[Zcs,h1,Q2];rfl) (by omega)
  exact h)
  have r':Uab (Zcs PZ (m:Int) (k:Int)) 1000 (x0,(0:Int),(0:Int))=some (xsq x0 4,dg x0 4,(4:Int)):=r;rw[r']
  show Zgd PZ 1000 (m:Int) (k:Int) (xsq x0 4) (dg x0 4) 4=_
  unfold Zgd;rw[fin]
 ·rw[Q3 (show (k:Int)<=30 by omega),Q4 (show ¬(k:Int) > 30 by omega)];simp only[Q2,Q1];have e0:IntKind.u64.wrap (i64.wrap (30 - (k:Int)))=((30 - k:Nat):Int):=by rw[IntWalk.i64_in _ (by omega),IntKind.wrap_u64];omega
  rw[e0,Q3 (by omega),Q1,Q9,hb];generalize i64.wrap ((m:Int)*2^(min (30 - k) 64))=x0;have r:=(by
  have h:=Zcr (g:=Zdw PZ (m:Int) (k:Int)) (λi=>(xsq x0 i,dg x0 i,(i:Int))) (m:=4) (x:=(xsq x0 4,dg x0 4,(4:Int))) (N:=1000) (λi hi=>by
   have h1:decide ((i:Int)<4)=true:=Q3 (by omega);have h3:i64.wrap ((i:Int)+1)=((i+1:Nat):Int):=by rw[IntWalk.i64_in _ (by omega)];omega
   have hb:=Yk5 x0 i (by omega);have h4:i64.wrap (dg x0 i*2)=dg x0 i*2:=IntWalk.i64_in _ (by omega);have h5:i64.wrap (dg x0 i*2+1)=dg x0 i*2+1:=IntWalk.i64_in _ (by omega)
   show Zdw PZ (m:Int) (k:Int) (xsq x0 i,dg x0 i,(i:Int))=some (.more (xnx (xsq x0 i),2*dg x0 i+xbit (xsq x0 i),((i+1:Nat):Int)))
   have hq:((i64.wrap (xsq x0 i*xsq x0 i))).fdiv (2^(min ((30:Int)).toNat i64.bits))=xq (xsq x0 i):=rfl;simp only[Zdw,h1,Q1,hq,h3,h4,h5];unfold xnx xbit xbig
   by_cases hbig:xq (xsq x0 i)>=2147483648
   ·rw[Q3 hbig];simp only[Q1,(Uga hbig).2];rw[show dg x0 i*2+1=2*dg x0 i+1 by omega]
   ·rw[Q4 hbig];simp only[Q2];rw[show dg x0 i*2=2*dg x0 i+0 by omega]) (by
   have h1:decide (((4:Nat):Int)<4)=false:=by decide
   simp only[Zdw,h1,Q2];rfl) (by omega)
  exact h)
  have r':Uab (Zdw PZ (m:Int) (k:Int)) 1000 (x0,(0:Int),(0:Int))=some (xsq x0 4,dg x0 4,(4:Int)):=r;rw[r']
  show Zhl PZ 1000 (m:Int) (k:Int) (xsq x0 4) (dg x0 4) 4=_
  unfold Zhl;rw[fin]
def Zou:Con:=λargs h=>match args,h with|[.i .i64 a0],[]=>some (.a (.i .i64 (lg a0)),.none,decide (1<=a0))|_,_=>none
theorem Ycj:EntX PZ 60:=Zaj (fn:=f60)
theorem Yio:Uac (md F) PZ 60 Zou:=(ansY (N:=1000) mKn f60 [([3],[]),([4,5,6],[])]).of (by
 intro ρ h w args vals r e hA hH hr;unfold Zou at hr;split at hr
 ·rename_i a0;obtain⟨rfl,rfl,hg2⟩:=BQi hr;exact Ydh a0 (hA.rng 0 rfl) hg2
 ·cases hr)
def Zi9(a0:Int):St:=(⟨.a (.i .i64 a0)::.a (.u)::.a (.i .i64 0)::.a (.i .i64 (i64.wrap ((Uav (IntKind.u64.wrap a0)) - (1:Int))))::.a (.i .i64 ((a0).fdiv (2^(min ((i64.wrap ((i64.wrap ((Uav (IntKind.u64.wrap a0)) - (1:Int))) - (30:Int)))).toNat i64.bits))))::.a (.i .i64 0)::.a (.i .i64 a0)::.a (.i .u64 (IntKind.u64.wrap a0))::.a (.i .i64 (Uav (IntKind.u64.wrap a0)))::.a (.i .i64 (i64.wrap ((Uav (IntKind.u64.wrap a0)) - (1:Int))))::.a (.i .i64 a0)::.a (.i .i64 (i64.wrap ((Uav (IntKind.u64.wrap a0)) - (1:Int))))::.a (.b (decide ((i64.wrap ((Uav (IntKind.u64.wrap a0)) - (1:Int))) > (30:Int))))::.a (.i .i64 a0)::.a (.i .i64 (i64.wrap ((Uav (IntKind.u64.wrap a0)) - (1:Int))))::.a (.i .i64 (i64.wrap ((i64.wrap ((Uav (IntKind.u64.wrap a0)) - (1:Int))) - (30:Int))))::.a (.i .i64 ((a0).fdiv (2^(min ((i64.wrap ((i64.wrap ((Uav (IntKind.u64.wrap a0)) - (1:Int))) - (30:Int)))).toNat i64.bits))))::us 21 ([]),[],[]⟩:St)
def Zk9:Int×Int×Int×Int->LS
 |(y0_2,y0_3,y0_4,y0_5)=>([.a (.i .i64 y0_2),.a (.i .i64 y0_3),.a (.i .i64 y0_4),.a (.i .i64 y0_5)],[])
def Zrp:Int×Int×Int×Int->Exit×LS
 |t=>(.ret,Zk9 t)
def Zeo(P:Program)(a0:Int):Int×Int×Int×Int->Option (Stp (Int×Int×Int×Int) (Int×Int×Int×Int))
 |(y0_2,y0_3,y0_4,y0_5)=>bif decide ((((i64.wrap (y0_4*y0_4))).fdiv (2^(min ((30:Int)).toNat i64.bits)))>=(2147483648:Int)) then (bif decide ((i64.wrap (y0_5+(1:Int)))<(4:Int)) then (some (.more (y0_2,(i64.wrap ((i64.wrap (y0_3*(2:Int)))+(1:Int))),(i64.wrap (((((i64.wrap (y0_4*y0_4))).fdiv (2^(min ((30:Int)).toNat i64.bits)))).tdiv (2:Int))),(i64.wrap (y0_5+(1:Int)))))) else (some (.done ((i64.wrap ((i64.wrap (y0_3*(2:Int)))+(1:Int))),(i64.wrap ((i64.wrap (y0_3*(2:Int)))+(1:Int))),(i64.wrap (((((i64.wrap (y0_4*y0_4))).fdiv (2^(min ((30:Int)).toNat i64.bits)))).tdiv (2:Int))),(i64.wrap (y0_5+(1:Int))))))) else (bif decide ((i64.wrap (y0_5+(1:Int)))<(4:Int)) then (some (.more (y0_2,(i64.wrap (y0_3*(2:Int))),(((i64.wrap (y0_4*y0_4))).fdiv (2^(min ((30:Int)).toNat i64.bits))),(i64.wrap (y0_5+(1:Int)))))) else (some (.done ((i64.wrap (y0_3*(2:Int))),(i64.wrap (y0_3*(2:Int))),(((i64.wrap (y0_4*y0_4))).fdiv (2^(min ((30:Int)).toNat i64.bits))),(i64.wrap (y0_5+(1:Int)))))))
noncomputable abbrev cKCuL89:=codeOf f89
theorem Ylz(N:Nat)(a0:Int):∀t:Int×Int×Int×Int,Uby PZ (mkΓ [(109,con Zbi)]) N (cAt cKCuL89 [1,0,1,1,1,1,1]) (pAt (Uaa cKCuL89 [([2,3,4,5],[])]).1 [1,1,1,1,1]) 0 [2,3,4,5] [] (Zi9 a0) (Zk9 t)=mapS Zk9 Zrp (Zeo PZ a0 t):=by
 rintro⟨y0_2,y0_3,y0_4,y0_5⟩
 conv=>rhs;simp only[Zeo,Zao,Zam,Zan,Zap,Zk9,Zrp]
 kernel_rfl
def Zon(P:Program)(N:Nat)(a0:Int)(z0_2:Int)(z0_3:Int)(z0_4:Int)(z0_5:Int):Option (SV×Eff×Bool):=some (.a (.i .i64 z0_2),.none,true)
theorem Yau(N:Nat)(a0:Int)(z0_2:Int)(z0_3:Int)(z0_4:Int)(z0_5:Int):(Ubq (finK PZ [] [.tmp 2])) .ret (left (writes (cAt cKCuL89 [1,0,1,1,1,1,1])) [2,3,4,5] [] (Zi9 a0) ([.a (.i .i64 z0_2),.a (.i .i64 z0_3),.a (.i .i64 z0_4),.a (.i .i64 z0_5)],[]))=Zon PZ N a0 z0_2 z0_3 z0_4 z0_5:=by kernel_rfl
theorem Yk4(N:Nat)(a0:Int):Uag (Uab (Uby PZ (mkΓ [(109,con Zbi)]) N (cAt cKCuL89 [1,0,1,1,1,1,1]) (pAt (Uaa cKCuL89 [([2,3,4,5],[])]).1 [1,1,1,1,1]) 0 [2,3,4,5] [] (Zi9 a0)) N ([.a (.i .i64 0),.a (.i .i64 (i64.wrap ((Uav (IntKind.u64.wrap a0)) - (1:Int)))),.a (.i .i64 ((a0).fdiv (2^(min ((i64.wrap ((i64.wrap ((Uav (IntKind.u64.wrap a0)) - (1:Int))) - (30:Int)))).toNat i64.bits)))),.a (.i .i64 0)],[])) (λe s=>(Ubq (finK PZ [] [.tmp 2])) e (left (writes (cAt cKCuL89 [1,0,1,1,1,1,1])) [2,3,4,5] [] (Zi9 a0) s))=Uai (Uab (Zeo PZ a0) N ((0:Int),(i64.wrap ((Uav (IntKind.u64.wrap a0)) - (1:Int))),((a0).fdiv (2^(min ((i64.wrap ((i64.wrap ((Uav (IntKind.u64.wrap a0)) - (1:Int))) - (30:Int)))).toNat i64.bits))),(0:Int))) (λx=>Zon PZ N a0 x.1 x.2.1 x.2.2.1 x.2.2.2):=by refine Zar Zk9 Zrp _ _ (Ylz N a0) N ((0:Int),(i64.wrap ((Uav (IntKind.u64.wrap a0)) - (1:Int))),((a0).fdiv (2^(min ((i64.wrap ((i64.wrap ((Uav (IntKind.u64.wrap a0)) - (1:Int))) - (30:Int)))).toNat i64.bits))),(0:Int)) _ _ ?_;intro x;exact Yau N a0 x.1 x.2.1 x.2.2.1 x.2.2.2
def Zg2(a0:Int):St:=(⟨.a (.i .i64 a0)::.a (.u)::.a (.i .i64 0)::.a (.i .i64 (i64.wrap ((Uav (IntKind.u64.wrap a0)) - (1:Int))))::.a (.i .i64 (i64.wrap (a0*2^(min ((i64.wrap ((30:Int) - (i64.wrap ((Uav (IntKind.u64.wrap a0)) - (1:Int)))))).toNat i64.bits))))::.a (.i .i64 0)::.a (.i .i64 a0)::.a (.i .u64 (IntKind.u64.wrap a0))::.a (.i .i64 (Uav (IntKind.u64.wrap a0)))::.a (.i .i64 (i64.wrap ((Uav (IntKind.u64.wrap a0)) - (1:Int))))::.a (.i .i64 a0)::.a (.i .i64 (i64.wrap ((Uav (IntKind.u64.wrap a0)) - (1:Int))))::.a (.b (decide ((i64.wrap ((Uav (IntKind.u64.wrap a0)) - (1:Int))) > (30:Int))))::us 4 (.a (.i .i64 a0)::.a (.i .i64 (i64.wrap ((Uav (IntKind.u64.wrap a0)) - (1:Int))))::.a (.i .i64 (i64.wrap ((30:Int) - (i64.wrap ((Uav (IntKind.u64.wrap a0)) - (1:Int))))))::.a (.i .i64 (i64.wrap (a0*2^(min ((i64.wrap ((30:Int) - (i64.wrap ((Uav (IntKind.u64.wrap a0)) - (1:Int)))))).toNat i64.bits))))::us 17 ([])),[],[]⟩:St)
def Ziq:Int×Int×Int×Int->LS
 |(y0v1_2,y0v1_3,y0v1_4,y0v1_5)=>([.a (.i .i64 y0v1_2),.a (.i .i64 y0v1_3),.a (.i .i64 y0v1_4),.a (.i .i64 y0v1_5)],[])
def Zoh:Int×Int×Int×Int->Exit×LS
 |t=>(.ret,Ziq t)
def Zdd(P:Program)(a0:Int):Int×Int×Int×Int->Option (Stp (Int×Int×Int×Int) (Int×Int×Int×Int))
 |(y0v1_2,y0v1_3,y0v1_4,y0v1_5)=>bif decide ((((i64.wrap (y0v1_4*y0v1_4))).fdiv (2^(min ((30:Int)).toNat i64.bits)))>=(2147483648:Int)) then (bif decide ((i64.wrap (y0v1_5+(1:Int)))<(4:Int)) then (some (.more (y0v1_2,(i64.wrap ((i64.wrap (y0v1_3*(2:Int)))+(1:Int))),(i64.wrap (((((i64.wrap (y0v1_4*y0v1_4))).fdiv (2^(min ((30:Int)).toNat i64.bits)))).tdiv (2:Int))),(i64.wrap (y0v1_5+(1:Int)))))) else (some (.done ((i64.wrap ((i64.wrap (y0v1_3*(2:Int)))+(1:Int))),(i64.wrap ((i64.wrap (y0v1_3*(2:Int)))+(1:Int))),(i64.wrap (((((i64.wrap (y0v1_4*y0v1_4))).fdiv (2^(min ((30:Int)).toNat i64.bits)))).tdiv (2:Int))),(i64.wrap (y0v1_5+(1:Int))))))) else (bif decide ((i64.wrap (y0v1_5+(1:Int)))<(4:Int)) then (some (.more (y0v1_2,(i64.wrap (y0v1_3*(2:Int))),(((i64.wrap (y0v1_4*y0v1_4))).fdiv (2^(min ((30:Int)).toNat i64.bits))),(i64.wrap (y0v1_5+(1:Int)))))) else (some (.done ((i64.wrap (y0v1_3*(2:Int))),(i64.wrap (y0v1_3*(2:Int))),(((i64.wrap (y0v1_4*y0v1_4))).fdiv (2^(min ((30:Int)).toNat i64.bits))),(i64.wrap (y0v1_5+(1:Int)))))))
theorem Yfy(N:Nat)(a0:Int):∀t:Int×Int×Int×Int,Uby PZ (mkΓ [(109,con Zbi)]) N (cAt cKCuL89 [1,0,1,1,1,1,1]) (pAt (Uaa cKCuL89 [([2,3,4,5],[])]).1 [1,1,1,1,1]) 0 [2,3,4,5] [] (Zg2 a0) (Ziq t)=mapS Ziq Zoh (Zdd PZ a0 t):=by
 rintro⟨y0v1_2,y0v1_3,y0v1_4,y0v1_5⟩
 conv=>rhs;simp only[Zdd,Zao,Zam,Zan,Zap,Ziq,Zoh]
 kernel_rfl
def Zl2(P:Program)(N:Nat)(a0:Int)(z0v1_2:Int)(z0v1_3:Int)(z0v1_4:Int)(z0v1_5:Int):Option (SV×Eff×Bool):=some (.a (.i .i64 z0v1_2),.none,true)
theorem Zvz(N:Nat)(a0:Int)(z0v1_2:Int)(z0v1_3:Int)(z0v1_4:Int)(z0v1_5:Int):(Ubq (finK PZ [] [.tmp 2])) .ret (left (writes (cAt cKCuL89 [1,0,1,1,1,1,1])) [2,3,4,5] [] (Zg2 a0) ([.a (.i .i64 z0v1_2),.a (.i .i64 z0v1_3),.a (.i .i64 z0v1_4),.a (.i .i64 z0v1_5)],[]))=Zl2 PZ N a0 z0v1_2 z0v1_3 z0v1_4 z0v1_5:=by kernel_rfl
theorem Ygm(N:Nat)(a0:Int):Uag (Uab (Uby PZ (mkΓ [(109,con Zbi)]) N (cAt cKCuL89 [1,0,1,1,1,1,1]) (pAt (Uaa cKCuL89 [([2,3,4,5],[])]).1 [1,1,1,1,1]) 0 [2,3,4,5] [] (Zg2 a0)) N ([.a (.i .i64 0),.a (.i .i64 (i64.wrap ((Uav (IntKind.u64.wrap a0)) - (1:Int)))),.a (.i .i64 (i64.wrap (a0*2^(min ((i64.wrap ((30:Int) - (i64.wrap ((Uav (IntKind.u64.wrap a0)) - (1:Int)))))).toNat i64.bits)))),.a (.i .i64 0)],[])) (λe s=>(Ubq (finK PZ [] [.tmp 2])) e (left (writes (cAt cKCuL89 [1,0,1,1,1,1,1])) [2,3,4,5] [] (Zg2 a0) s))=Uai (Uab (Zdd PZ a0) N ((0:Int),(i64.wrap ((Uav (IntKind.u64.wrap a0)) - (1:Int))),(i64.wrap (a0*2^(min ((i64.wrap ((30:Int) - (i64.wrap ((Uav (IntKind.u64.wrap a0)) - (1:Int)))))).toNat i64.bits))),(0:Int))) (λx=>Zl2 PZ N a0 x.1 x.2.1 x.2.2.1 x.2.2.2):=by refine Zar Ziq Zoh _ _ (Yfy N a0) N ((0:Int),(i64.wrap ((Uav (IntKind.u64.wrap a0)) - (1:Int))),(i64.wrap (a0*2^(min ((i64.wrap ((30:Int) - (i64.wrap ((Uav (IntKind.u64.wrap a0)) - (1:Int)))))).toNat i64.bits))),(0:Int)) _ _ ?_;intro x;exact Zvz N a0 x.1 x.2.1 x.2.2.1 x.2.2.2
theorem Yiw(N:Nat)(a0:Int):ansV PZ (mkΓ [(109,con Zbi)]) N f89 [([2,3,4,5],[])] [.i .i64 a0] []=(bif decide ((i64.wrap ((Uav (IntKind.u64.wrap a0)) - (1:Int))) > (30:Int)) then (bif decide (0<=(i64.wrap ((i64.wrap ((Uav (IntKind.u64.wrap a0)) - (1:Int))) - (30:Int)))) then (Uai (Uab (Zeo PZ a0) N ((0:Int),(i64.wrap ((Uav (IntKind.u64.wrap a0)) - (1:Int))),((a0).fdiv (2^(min ((i64.wrap ((i64.wrap ((Uav (IntKind.u64.wrap a0)) - (1:Int))) - (30:Int)))).toNat i64.bits))),(0:Int))) (λx=>Zon PZ N a0 x.1 x.2.1 x.2.2.1 x.2.2.2)) else (none)) else (bif decide (0<=(i64.wrap ((30:Int) - (i64.wrap ((Uav (IntKind.u64.wrap a0)) - (1:Int)))))) then (Uai (Uab (Zdd PZ a0) N ((0:Int),(i64.wrap ((Uav (IntKind.u64.wrap a0)) - (1:Int))),(i64.wrap (a0*2^(min ((i64.wrap ((30:Int) - (i64.wrap ((Uav (IntKind.u64.wrap a0)) - (1:Int)))))).toNat i64.bits))),(0:Int))) (λx=>Zl2 PZ N a0 x.1 x.2.1 x.2.2.1 x.2.2.2)) else (none))):=by
 conv=>rhs;simp only[<- Yk4 N a0,<- Ygm N a0]
 kernel_rfl
theorem Yhk(a0:Int)(h_a0:i64.min<=a0/\a0<=i64.max)(hg:(decide (1<=a0))=true):ansV PZ (mkΓ [(109,con Zbi)]) 1000 f89 [([2,3,4,5],[])] [.i .i64 a0] []=some (.a (.i .i64 (lg a0)),.none,true):=by
 have h0:1<=a0:=of_decide_eq_true hg;obtain⟨m,rfl⟩:=Int.eq_ofNat_of_zero_le (show 0<=a0 by omega);have hm0:m≠0:=by omega
 have hmx:m<=9223372036854775807:=by have:=h_a0.2;have e:i64.max=9223372036854775807:=rfl;omega
 refine(Yiw 1000 _).trans ?_;have hk:=Ys5 hm0 hmx;have hb:i64.bits=64:=rfl;have u:IntKind.u64.wrap (m:Int)=(m:Int):=by rw[IntKind.wrap_u64];omega
 have hlg:lg (m:Int)=16*(jA m:Int)+dg (lgx (jA m) (m:Int)) 4:=by unfold lg;rw[Q9]
 rw[u,Ym4,if_neg hm0,hlg];generalize hkk:jA m=k at hk;have e1:i64.wrap ((k:Int)+1 - 1)=(k:Int):=by rw[IntWalk.i64_in _ (by omega)];omega
 rw[e1];unfold lgx
 by_cases hc:30<k
 ·rw[Q3 (show (k:Int) > 30 by omega)];simp only[Q1];have e0:i64.wrap ((k:Int) - 30)=((k - 30:Nat):Int):=by rw[IntWalk.i64_in _ (by omega)];omega
  rw[e0,Q3 (by omega),Q1,Q9,hb];generalize ((m:Int)).fdiv (2^(min (k - 30) 64))=x0;have r:=(by
  have h:=Zcr (g:=Zeo PZ (m:Int)) (λi=>((0:Int),lgL k x0 i,xsq x0 i,(i:Int))) (m:=3) (x:=(lgL k x0 4,lgL k x0 4,xsq x0 4,(4:Int))) (N:=1000) (λi hi=>by
   have h1:decide (((i+1:Nat):Int)<4)=true:=Q3 (by omega);have h3:i64.wrap ((i:Int)+1)=((i+1:Nat):Int):=by rw[IntWalk.i64_in _ (by omega)];omega
   have hb:=Zzg k x0 (by omega) i (by omega);have h4:i64.wrap (lgL k x0 i*2)=lgL k x0 i*2:=IntWalk.i64_in _ (by omega);have h5:i64.wrap (lgL k x0 i*2+1)=lgL k x0 i*2+1:=IntWalk.i64_in _ (by omega)
   show Zeo PZ (m:Int) ((0:Int),lgL k x0 i,xsq x0 i,(i:Int))=some (.more ((0:Int),2*lgL k x0 i+xbit (xsq x0 i),xnx (xsq x0 i),((i+1:Nat):Int)))
   have hq:((i64.wrap (xsq x0 i*xsq x0 i))).fdiv (2^(min ((30:Int)).toNat i64.bits))=xq (xsq x0 i):=rfl;simp only[Zeo,hq,h3,h1,h4,h5];unfold xnx xbit xbig
   by_cases hbig:xq (xsq x0 i)>=2147483648
   ·rw[Q3 hbig];simp only[Q1,(Uga hbig).1];rw[show lgL k x0 i*2+1=2*lgL k x0 i+1 by omega]
   ·rw[Q4 hbig];simp only[Q2,Q1];rw[show lgL k x0 i*2=2*lgL k x0 i+0 by omega]) (by
   have h3:i64.wrap (((3:Nat):Int)+1)=4:=by decide
   have h1:decide ((4:Int)<4)=false:=by decide
   have hb:=Zzg k x0 (by omega) 3 (by omega);have h4:i64.wrap (lgL k x0 3*2)=lgL k x0 3*2:=IntWalk.i64_in _ (by omega);have h5:i64.wrap (lgL k x0 3*2+1)=lgL k x0 3*2+1:=IntWalk.i64_in _ (by omega);have hq:((i64.wrap (xsq x0 3*xsq x0 3))).fdiv (2^(min ((30:Int)).toNat i64.bits))=xq (xsq x0 3):=rfl;have eL:lgL k x0 4=2*lgL k x0 3+xbit (xsq x0 3):=rfl;have eX:xsq x0 4=xnx (xsq x0 3):=rfl;rw[eL,eX];simp only[Zeo,hq,h3,h1,h4,h5];unfold xnx xbit xbig
   by_cases hbig:xq (xsq x0 3)>=2147483648
   ·rw[Q3 hbig];simp only[Q1,Q2,(Uga hbig).1];rw[show lgL k x0 3*2+1=2*lgL k x0 3+1 by omega]
   ·rw[Q4 hbig];simp only[Q2];rw[show lgL k x0 3*2=2*lgL k x0 3+0 by omega]) (by omega)
  exact h)
  have r':Uab (Zeo PZ (m:Int)) 1000 ((0:Int),(k:Int),x0,(0:Int))=some (lgL k x0 4,lgL k x0 4,xsq x0 4,(4:Int)):=r;rw[r']
  show some (SV.a (SA.i .i64 (lgL k x0 4)),Eff.none,true)=_
  rw[lgL_4]
 ·rw[Q4 (show ¬(k:Int) > 30 by omega)];simp only[Q2];have e0:i64.wrap (30 - (k:Int))=((30 - k:Nat):Int):=by rw[IntWalk.i64_in _ (by omega)];omega
  rw[e0,Q3 (by omega),Q1,Q9,hb];generalize i64.wrap ((m:Int)*2^(min (30 - k) 64))=x0;have r:=(by
  have h:=Zcr (g:=Zdd PZ (m:Int)) (λi=>((0:Int),lgL k x0 i,xsq x0 i,(i:Int))) (m:=3) (x:=(lgL k x0 4,lgL k x0 4,xsq x0 4,(4:Int))) (N:=1000) (λi hi=>by
   have h1:decide (((i+1:Nat):Int)<4)=true:=Q3 (by omega);have h3:i64.wrap ((i:Int)+1)=((i+1:Nat):Int):=by rw[IntWalk.i64_in _ (by omega)];omega
   have hb:=Zzg k x0 (by omega) i (by omega);have h4:i64.wrap (lgL k x0 i*2)=lgL k x0 i*2:=IntWalk.i64_in _ (by omega);have h5:i64.wrap (lgL k x0 i*2+1)=lgL k x0 i*2+1:=IntWalk.i64_in _ (by omega)
   show Zdd PZ (m:Int) ((0:Int),lgL k x0 i,xsq x0 i,(i:Int))=some (.more ((0:Int),2*lgL k x0 i+xbit (xsq x0 i),xnx (xsq x0 i),((i+1:Nat):Int)))
   have hq:((i64.wrap (xsq x0 i*xsq x0 i))).fdiv (2^(min ((30:Int)).toNat i64.bits))=xq (xsq x0 i):=rfl;simp only[Zdd,hq,h3,h1,h4,h5];unfold xnx xbit xbig
   by_cases hbig:xq (xsq x0 i)>=2147483648
   ·rw[Q3 hbig];simp only[Q1,(Uga hbig).1];rw[show lgL k x0 i*2+1=2*lgL k x0 i+1 by omega]
   ·rw[Q4 hbig];simp only[Q2,Q1];rw[show lgL k x0 i*2=2*lgL k x0 i+0 by omega]) (by
   have h3:i64.wrap (((3:Nat):Int)+1)=4:=by decide
   have h1:decide ((4:Int)<4)=false:=by decide
   have hb:=Zzg k x0 (by omega) 3 (by omega);have h4:i64.wrap (lgL k x0 3*2)=lgL k x0 3*2:=IntWalk.i64_in _ (by omega);have h5:i64.wrap (lgL k x0 3*2+1)=lgL k x0 3*2+1:=IntWalk.i64_in _ (by omega);have hq:((i64.wrap (xsq x0 3*xsq x0 3))).fdiv (2^(min ((30:Int)).toNat i64.bits))=xq (xsq x0 3):=rfl;have eL:lgL k x0 4=2*lgL k x0 3+xbit (xsq x0 3):=rfl;have eX:xsq x0 4=xnx (xsq x0 3):=rfl;rw[eL,eX];simp only[Zdd,hq,h3,h1,h4,h5];unfold xnx xbit xbig
   by_cases hbig:xq (xsq x0 3)>=2147483648
   ·rw[Q3 hbig];simp only[Q1,Q2,(Uga hbig).1];rw[show lgL k x0 3*2+1=2*lgL k x0 3+1 by omega]
   ·rw[Q4 hbig];simp only[Q2];rw[show lgL k x0 3*2=2*lgL k x0 3+0 by omega]) (by omega)
  exact h)
  have r':Uab (Zdd PZ (m:Int)) 1000 ((0:Int),(k:Int),x0,(0:Int))=some (lgL k x0 4,lgL k x0 4,xsq x0 4,(4:Int)):=r;rw[r']
  show some (SV.a (SA.i .i64 (lgL k x0 4)),Eff.none,true)=_
  rw[lgL_4]
def Zp1:Con:=λargs h=>match args,h with|[.i .i64 a0],[]=>some (.a (.i .i64 (lg a0)),.none,decide (1<=a0))|_,_=>none
theorem Ye4:EntX PZ 89:=Zaj (fn:=f89)
theorem Ykx:Uac (md F) PZ 89 Zp1:=(ansY (N:=1000) (mKc (Zae Zzv) Zs4 mKn) f89 [([2,3,4,5],[])]).of (by
 intro ρ h w args vals r e hA hH hr;unfold Zp1 at hr;split at hr
 ·rename_i a0;obtain⟨rfl,rfl,hg2⟩:=BQi hr;exact Yhk a0 (hA.rng 0 rfl) hg2
 ·cases hr)
end
end Go.Proofs.YtdfefaanfiheoaaGreatDoor
