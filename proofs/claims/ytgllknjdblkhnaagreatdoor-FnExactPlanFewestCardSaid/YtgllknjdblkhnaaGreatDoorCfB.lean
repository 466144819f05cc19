/- The bits of a number, counted. -/
import Derived.Test.YtgllknjdblkhnaaGreatDoorProg
import Derived.Test.YtgllknjdblkhnaaGreatDoorCfA
set_option linter.unusedVariables false
set_option linter.unusedSimpArgs false
open _root_.List renaming mem_map->jA,map_cons->jB,length_cons->jC,length_map->jD,mem_cons_of_mem->jE,mem_cons_self->jF
open _root_.Nat renaming le_of_ble_eq_true->jG
namespace Go.Proofs.YtgllknjdblkhnaaGreatDoor
open Go.ChangeShapes Go.WideShapes Go.ChangeAt Go.RowKit Ve Vc
open IntKind (i64)
set_option maxRecDepth 100000
noncomputable section
variable {mn:Md}
namespace Pop
def Uak:List Nat->Nat
 |[]=>0
 |b::r=>b+256*Uak r
theorem Yem:∀{l:List Nat},(∀b∈l,b<256)->Uak l<256^l.length
 |[],_=>by decide
 |b::r,h=>by
  have h1:=Yem λb hb=>h b (jE _ hb)
  have h2:=h b (jF ..);rw[Uak,jC,Nat.pow_succ];omega
theorem Ycf:∀{l:List Nat},(∀b∈l,b<256)->∀j,(Uak l).testBit j=(l.getD (j / 8) 0).testBit (j % 8)
 |[],_,j=>by simp[Uak]
 |b::r,h,j=>by
  have hb:=h b (jF ..);have ih:=Ycf λb hb=>h b (jE _ hb)
  rw[Uak,Nat.add_comm,show (256:Nat)=2^8 from rfl,Nat.testBit_two_pow_mul_add _ (by exact hb)]
  by_cases hj:j<8
  ·rw[if_pos hj,Nat.div_eq_of_lt hj,Nat.mod_eq_of_lt hj];rfl
  ·rw[if_neg hj,ih,show j / 8=(j - 8) / 8+1 by omega,show j % 8=(j - 8) % 8 by omega,List.getD_cons_succ]
theorem Ygs(f g:Nat->Nat):∀l:List Nat,Uak (l.map f)+Uak (l.map g)=Uak (l.map λb=>f b+g b)
 |[]=>rfl
 |b::r=>by
  have ih:=Ygs f g r;simp only[jB,Uak];omega
theorem Zsh{l m:List Nat}{s c:Nat}(hl:∀b∈l,b<256)(hs:s<=8)(hc:c<2^(8 - s))(hm:m=l.map λ_=>c):(Uak l >>> s) &&& Uak m=Uak (l.map λb=>(b >>> s) &&& c):=by
 subst hm;have hc2:c<256:=Nat.lt_of_lt_of_le hc (by rw[show (256:Nat)=2^8 from rfl];exact Nat.pow_le_pow_right (by omega) (by omega));have h1:∀b∈l.map (λ_=>c),b<256:=λb hb=>by
  obtain⟨x,_,rfl⟩:=jA.1 hb;exact hc2
 have h2:∀b∈l.map (λb=>(b >>> s) &&& c),b<256:=λb hb=>by
  obtain⟨x,_,rfl⟩:=jA.1 hb;exact Nat.lt_of_le_of_lt Nat.and_le_right hc2
 refine Nat.eq_of_testBit_eq λj=> ?_
 rw[Nat.testBit_and,Nat.testBit_shiftRight,Ycf hl,Ycf h1,Ycf h2];simp only[List.getD_eq_getElem?_getD,List.getElem?_map]
 by_cases hr:j % 8+s<8
 ·rw[show (s+j) / 8=j / 8 by omega,show (s+j) % 8=s+j % 8 by omega];cases l[j / 8]? with|none=>simp|some b=>simp[Nat.testBit_and,Nat.testBit_shiftRight]
 ·have hz:c.testBit (j % 8)=false:=Nat.testBit_lt_two_pow (Nat.lt_of_lt_of_le hc (Nat.pow_le_pow_right (by omega) (by omega)));cases l[j / 8]? with|none=>simp|some b=>simp[Nat.testBit_and,hz]
def brkB:List Nat->List Nat
 |[]=>[]
 |b::r=>(b / 16+b+16*(Uak r % 16))::brkB r
theorem Yhs:∀l:List Nat,Uak l / 16+Uak l=Uak (brkB l)
 |[]=>rfl
 |b::r=>by
  have ih:=Yhs r;rw[brkB,Uak,Uak,<- ih];omega
def NibOk(b:Nat):Prop:=b / 16<=4/\b % 16<=4
theorem join_mod{b:Nat}{r:List Nat}:Uak (b::r) % 16=b % 16:=by rw[Uak];omega
theorem Yot:∀{l:List Nat},(∀b∈l,NibOk b)->(∀b∈brkB l,b<256)/\(brkB l).map (λb=>b &&& 15)=l.map (λb=>b / 16+b % 16)/\Uak l % 16<=4
 |[],_=>⟨λb hb=>(by cases hb),rfl,by decide⟩
 | b::r,h=>by
  obtain⟨h1,h2,h3⟩:=Yot λb hb=>h b (jE _ hb)
  obtain⟨n1,n2⟩:=h b (jF ..);refine⟨λx hx=> ?_,?_,by rw[join_mod];exact n2⟩
  ·rw[brkB]at hx;rcases List.mem_cons.1 hx with rfl|hx
   ·omega
   ·exact h1 x hx
  ·rw[brkB,jB,jB,h2];congr 1;rw[show (15:Nat)=2^4 - 1 from rfl,Nat.and_two_pow_sub_one_eq_mod];omega
theorem Ycj:∀(l m:List Nat),l.length=m.length->Uak l+Uak m=Uak (List.zipWith (·+·) l m)
 |[],[],_=>rfl
 |a::l,b::m,h=>by
  have ih:=Ycj l m (by simpa using h);rw[List.zipWith_cons_cons,Uak,Uak,Uak,<- ih];omega
 |[],_::_,h=>by simp at h
 |_::_,[],h=>by simp at h
theorem Zl8:∀l:List Nat,Uak (l++[0])=Uak l
 |[]=>rfl
 |a::l=>by rw[List.cons_append,Uak,Zl8 l];rfl
theorem join_d1{a:Nat}{r:List Nat}(h:a<256):Uak (a::r) / 256=Uak r:=by rw[Uak];omega
theorem Ykg{a b:Nat}{r:List Nat}(h:a<256)(h2:b<256):Uak (a::b::r) / 65536=Uak r:=by rw[Uak,Uak];omega
theorem join_d4{a b c d:Nat}{r:List Nat}(h:a<256)(h2:b<256)(h3:c<256)(h4:d<256):Uak (a::b::c::d::r) / 4294967296=Uak r:=by rw[show (4294967296:Nat)=65536*65536 from rfl,<- Nat.div_div_eq_div_mul,Ykg h h2,Ykg h3 h4]
theorem Yoq{c0 c1 c2 c3 c4 c5 c6 c7:Nat}(h0:c0<=8)(h1:c1<=8)(h2:c2<=8)(h3:c3<=8)(h4:c4<=8)(h5:c5<=8)(h6:c6<=8)(h7:c7<=8){x x1 x2 x3:Nat}(e:x=Uak [c0,c1,c2,c3,c4,c5,c6,c7])(e1:x1=x+x / 256)(e2:x2=x1+x1 / 65536)(e3:x3=x2+x2 / 4294967296):
  x1<18446744073709551616/\x2<18446744073709551616/\x3<18446744073709551616/\x3 % 128=c0+c1+c2+c3+c4+c5+c6+c7:=by
 have f1:x1=Uak [c0+c1,c1+c2,c2+c3,c3+c4,c4+c5,c5+c6,c6+c7,c7+0]:=by rw[e1,e,join_d1 (by omega),<- Zl8 [c1,c2,c3,c4,c5,c6,c7]];exact Ycj _ _ rfl
 have f2:x2=Uak [c0+c1+(c2+c3),c1+c2+(c3+c4),c2+c3+(c4+c5),c3+c4+(c5+c6),c4+c5+(c6+c7),c5+c6+(c7+0),c6+c7+0,c7+0+0]:=by rw[e2,f1,Ykg (by omega) (by omega),<- Zl8 [c2+c3,c3+c4,c4+c5,c5+c6,c6+c7,c7+0],<- Zl8 ([c2+c3,c3+c4,c4+c5,c5+c6,c6+c7,c7+0]++[0])];exact Ycj _ _ rfl
 have f3:x3=Uak [c0+c1+(c2+c3)+(c4+c5+(c6+c7)),c1+c2+(c3+c4)+(c5+c6+(c7+0)),c2+c3+(c4+c5)+(c6+c7+0),c3+c4+(c5+c6)+(c7+0+0),c4+c5+(c6+c7)+0,c5+c6+(c7+0)+0,c6+c7+0+0,c7+0+0+0]:=by rw[e3,f2,join_d4 (by omega) (by omega) (by omega) (by omega),<- Zl8 [c4+c5+(c6+c7),c5+c6+(c7+0),c6+c7+0,c7+0+0],<- Zl8 ([c4+c5+(c6+c7),c5+c6+(c7+0),c6+c7+0,c7+0+0]++[0]),<- Zl8 ([c4+c5+(c6+c7),c5+c6+(c7+0),c6+c7+0,c7+0+0]++[0]++[0]),<- Zl8 ([c4+c5+(c6+c7),c5+c6+(c7+0),c6+c7+0,c7+0+0]++[0]++[0]++[0])];exact Ycj _ _ rfl
 have lt:∀{a0 a1 a2 a3 a4 a5 a6 a7:Nat},a0<256->a1<256->a2<256->a3<256->a4<256->a5<256->a6<256->a7<256->Uak [a0,a1,a2,a3,a4,a5,a6,a7]<18446744073709551616:=λ{a0 a1 a2 a3 a4 a5 a6 a7} k0 k1 k2 k3 k4 k5 k6 k7=>by
  have h:=Yem (l:=[a0,a1,a2,a3,a4,a5,a6,a7]) λb hb=>by
   simp only[List.mem_cons,List.not_mem_nil,or_false]at hb;rcases hb with rfl|rfl|rfl|rfl|rfl|rfl|rfl|rfl<;>assumption
  have e:(256:Nat)^8=18446744073709551616:=by decide
  rw[<- e];exact h
 refine⟨?_,?_,?_,?_⟩
 ·rw[f1];refine lt ?_ ?_ ?_ ?_ ?_ ?_ ?_ ?_<;>omega
 ·rw[f2];refine lt ?_ ?_ ?_ ?_ ?_ ?_ ?_ ?_<;>omega
 ·rw[f3];refine lt ?_ ?_ ?_ ?_ ?_ ?_ ?_ ?_<;>omega
 ·rw[f3,Uak,show (256:Nat)=128*2 from rfl,Nat.mul_assoc,Nat.add_mul_mod_self_left,Nat.mod_eq_of_lt (by omega)];omega
def s1B(b:Nat):Nat:=((b >>> 1) &&& 85)+(b &&& 85)
def s2B(b:Nat):Nat:=((b >>> 2) &&& 51)+(b &&& 51)
def Ub8(b:Nat):Nat:=(b.testBit 0).toNat+(b.testBit 1).toNat+(b.testBit 2).toNat+(b.testBit 3).toNat+(b.testBit 4).toNat+(b.testBit 5).toNat+(b.testBit 6).toNat+(b.testBit 7).toNat
theorem byte_all:((List.range 256).all λb=>Nat.blt (s1B b) 256&&(Nat.blt (s2B (s1B b)) 256&&(Nat.ble (s2B (s1B b) / 16) 4&&(Nat.ble (s2B (s1B b) % 16) 4&&Nat.beq (s2B (s1B b) / 16+s2B (s1B b) % 16) (Ub8 b)))))=true:=by decide +kernel
theorem Zzp{b:Nat}(h:b<256):s1B b<256/\s2B (s1B b)<256/\NibOk (s2B (s1B b))/\s2B (s1B b) / 16+s2B (s1B b) % 16=Ub8 b:=by have h1:=List.all_eq_true.1 byte_all b (List.mem_range.2 h);simp only[Q7]at h1;obtain⟨a1,a2,a3,a4,a5⟩:=h1;exact⟨jG a1,jG a2,⟨jG a3,jG a4⟩,Nat.eq_of_beq_eq_true a5⟩
theorem Yqb{l:List Nat}(hl:∀b∈l,b<256){m1 m2 m4:Nat}(e1:m1=Uak (l.map λ_=>85))(e2:m2=Uak (l.map λ_=>51))(e4:m4=Uak (l.map λ_=>15)):
  ((Uak l >>> 1) &&& m1)+(Uak l &&& m1)=Uak (l.map s1B)/\((Uak (l.map s1B) >>> 2) &&& m2)+(Uak (l.map s1B) &&& m2)=Uak ((l.map s1B).map s2B)/\(Uak ((l.map s1B).map s2B) / 16+Uak ((l.map s1B).map s2B)) &&& m4=Uak (l.map Ub8):=by
 have k1:∀b∈l.map s1B,b<256:=λb hb=>by
  obtain⟨x,hx,rfl⟩:=jA.1 hb;exact(Zzp (hl x hx)).1
 have z:∀n:Nat,n >>> 0=n:=λn=>rfl
 refine⟨?_,?_,?_⟩
 ·rw[e1,Zsh hl (by omega) (by decide) rfl];have:=Zsh (s:=0) (c:=85) hl (by omega) (by decide) rfl;rw[z]at this;rw[this,Ygs];rfl
 ·have m:m2=Uak ((l.map s1B).map λ_=>51):=by rw[e2,List.map_map];rfl
  rw[m,Zsh k1 (by omega) (by decide) rfl];have:=Zsh (s:=0) (c:=51) k1 (by omega) (by decide) rfl;rw[z]at this;rw[this,Ygs];rfl
 ·have hn:∀b∈(l.map s1B).map s2B,NibOk b:=λb hb=>by
   obtain⟨y,hy,rfl⟩:=jA.1 hb;obtain⟨x,hx,rfl⟩:=jA.1 hy;exact(Zzp (hl x hx)).2.2.1
  obtain⟨q1,q2,-⟩:=Yot hn;have hlen:∀l:List Nat,(brkB l).map (λ_=>15)=l.map λ_=>15:=λl=>by
   induction l with|nil=>rfl|cons a r ih=>rw[brkB,jB,jB,ih]
  have m:m4=Uak ((brkB ((l.map s1B).map s2B)).map λ_=>15):=by rw[hlen,e4,List.map_map,List.map_map];rfl
  have h0:=Zsh (s:=0) (c:=15) q1 (by omega) (by decide) rfl;rw[z]at h0;rw[Yhs,m,h0];have q3:(brkB ((l.map s1B).map s2B)).map (λb=>(b >>> 0) &&& 15)=l.map Ub8:=by refine Eq.trans q2 ?_;rw[List.map_map,List.map_map];exact List.map_congr_left λx hx=>(Zzp (hl x hx)).2.2.2
  rw[q3]
def cntQ(q:Nat->Bool):Nat->Nat
 |0=>0
 |n+1=>cntQ q n+(if q n then 1 else 0)
def byN:Nat->Nat->List Nat
 |0,_=>[]
 |n+1,x=>x % 256::byN n (x / 256)
theorem Yl1:∀(n x:Nat),x<256^n->Uak (byN n x)=x
 |0,x,h=>by rw[Nat.pow_zero]at h;rw[byN,Uak];omega
 |n+1,x,h=>by
  rw[byN,Uak,Yl1 n (x / 256) (Nat.div_lt_of_lt_mul (by rw[Nat.pow_succ,Nat.mul_comm]at h;exact h))];omega
theorem byN_lt:∀(n x:Nat),∀b∈byN n x,b<256
 |0,x,b,h=>by cases h
 |n+1,x,b,h=>by
  rw[byN]at h;rcases List.mem_cons.1 h with rfl|h
  ·exact Nat.mod_lt _ (by decide)
  ·exact byN_lt n (x / 256) b h
theorem Yqj:∀(n x:Nat),(byN n x).length=n
 |0,_=>rfl
 |n+1,x=>by rw[byN,jC,Yqj n]
theorem Zod(b:Nat):Ub8 b<=8:=by
 unfold Ub8;have h:∀c:Bool,c.toNat<=1:=λc=>by cases c<;>decide
 have:=h (b.testBit 0);have:=h (b.testBit 1);have:=h (b.testBit 2);have:=h (b.testBit 3);have:=h (b.testBit 4);have:=h (b.testBit 5);have:=h (b.testBit 6);have:=h (b.testBit 7);omega
theorem Yk1(q:Nat->Bool)(m:Nat):∀n,cntQ q (m+n)=cntQ q m+cntQ (λi=>q (m+i)) n
 |0=>rfl
 |n+1=>by
  show cntQ q (m+n)+_=_
  rw[Yk1 q m n,cntQ,Nat.add_assoc];rfl
theorem Zl9{q q':Nat->Bool}:∀{n:Nat},(∀i,i<n->q i=q' i)->cntQ q n=cntQ q' n
 |0,_=>rfl
 |n+1,h=>by rw[cntQ,cntQ,Zl9 λi hi=>h i (by omega),h n (by omega)]
theorem cnt_byte(b:Nat):cntQ b.testBit 8=Ub8 b:=by
 have h:∀c:Bool,(if c=true then 1 else 0)=c.toNat:=λc=>by cases c<;>rfl
 simp only[cntQ,h,Ub8,Nat.zero_add]
theorem Ylk:∀{l:List Nat},(∀b∈l,b<256)->cntQ (Uak l).testBit (8*l.length)=(l.map Ub8).sum
 |[],_=>rfl
 | b::r,h=>by
  have hb:=h b (jF ..);have ih:=Ylk λb hb=>h b (jE _ hb)
  have tb:∀j,(Uak (b::r)).testBit j=if j<8 then b.testBit j else (Uak r).testBit (j - 8):=λj=>by
   rw[Uak,Nat.add_comm,show (256:Nat)=2^8 from rfl,Nat.testBit_two_pow_mul_add _ (by exact hb)]
  rw[jC,show 8*(r.length+1)=8+8*r.length by omega,Yk1,jB,List.sum_cons,<- ih,<- cnt_byte b];rw[Zl9 (q:=(Uak (b::r)).testBit) (q':=b.testBit) λi hi=>by rw[tb,if_pos hi]];rw[Zl9 (q:=λi=>(Uak (b::r)).testBit (8+i)) (q':=(Uak r).testBit) λi hi=>by
   rw[tb,if_neg (by omega),show 8+i - 8=i by omega]]
theorem pop64{x:Nat}(hx:x<18446744073709551616){x1 x2 x3 y1 y2 y3:Nat}(h1:x1=((x >>> 1) &&& 6148914691236517205)+(x &&& 6148914691236517205))(h2:x2=((x1 >>> 2) &&& 3689348814741910323)+(x1 &&& 3689348814741910323))(h3:x3=(x2 / 16+x2) &&& 1085102592571150095)(k1:y1=x3+x3 / 256)(k2:y2=y1+y1 / 65536)(k3:y3=y2+y2 / 4294967296):
  x1<18446744073709551616/\x2<18446744073709551616/\x2 / 16+x2<18446744073709551616/\y1<18446744073709551616/\y2<18446744073709551616/\y3<18446744073709551616/\y3 % 128=cntQ x.testBit 64:=by
 have e8:(256:Nat)^8=18446744073709551616:=by decide
 have hj:Uak (byN 8 x)=x:=Yl1 8 x (by rw[e8];exact hx);have hl:=byN_lt 8 x;have hn:=Yqj 8 x;have mm:∀c:Nat,(byN 8 x).map (λ_=>c)=[c,c,c,c,c,c,c,c]:=λc=>by simp only[byN,jB,List.map_nil]
 obtain⟨q1,q2,q3⟩:=Yqb hl (m1:=6148914691236517205) (m2:=3689348814741910323) (m4:=1085102592571150095) (by rw[mm];decide) (by rw[mm];decide) (by rw[mm];decide);rw[hj,<- h1]at q1;rw[<- q1,<- h2]at q2;rw[<- q2,<- h3]at q3;have l1:∀b∈(byN 8 x).map s1B,b<256:=λb hb=>by
  obtain⟨y,hy,rfl⟩:=jA.1 hb;exact(Zzp (hl y hy)).1
 have l2:∀b∈((byN 8 x).map s1B).map s2B,b<256:=λb hb=>by
  obtain⟨z,hz,rfl⟩:=jA.1 hb;obtain⟨y,hy,rfl⟩:=jA.1 hz;exact(Zzp (hl y hy)).2.1
 have l3:∀b∈((byN 8 x).map s1B).map s2B,NibOk b:=λb hb=>by
  obtain⟨z,hz,rfl⟩:=jA.1 hb;obtain⟨y,hy,rfl⟩:=jA.1 hz;exact(Zzp (hl y hy)).2.2.1
 have b1:x1<18446744073709551616:=by have:=Yem l1;rw[jD,hn,e8,<- q1]at this;exact this
 have b2:x2<18446744073709551616:=by have:=Yem l2;rw[jD,jD,hn,e8,<- q2]at this;exact this
 have lb:∀l:List Nat,(brkB l).length=l.length:=λl=>by
  induction l with|nil=>rfl|cons a r ih=>rw[brkB,jC,jC,ih]
 have b3:x2 / 16+x2<18446744073709551616:=by have:=Yem (Yot l3).1;rw[lb,jD,jD,hn,e8,<- Yhs,<- q2]at this;exact this
 have q3':x3=Uak [Ub8 (x % 256),Ub8 (x / 256 % 256),Ub8 (x / 256 / 256 % 256),Ub8 (x / 256 / 256 / 256 % 256),Ub8 (x / 256 / 256 / 256 / 256 % 256),Ub8 (x / 256 / 256 / 256 / 256 / 256 % 256),Ub8 (x / 256 / 256 / 256 / 256 / 256 / 256 % 256),Ub8 (x / 256 / 256 / 256 / 256 / 256 / 256 / 256 % 256)]:=by rw[q3];simp only[byN,jB,List.map_nil]
 obtain⟨s1,s2,s3,s4⟩:=Yoq (Zod _) (Zod _) (Zod _) (Zod _) (Zod _) (Zod _) (Zod _) (Zod _) q3' k1 k2 k3;refine⟨b1,b2,b3,s1,s2,s3,s4.trans ?_⟩;have c:=Ylk hl;rw[hj,hn]at c;refine Eq.trans ?_ c.symm;simp only[byN,jB,List.map_nil,List.sum_cons,List.sum_nil];omega
end Pop
open Pop
def onA(s m x:Int):Int:=IntKind.u64.wrap ((IntKind.u64.wrap (BitVec.ofInt IntKind.u64.bits (x.fdiv (2^(min s.toNat IntKind.u64.bits))) &&& BitVec.ofInt IntKind.u64.bits m).toNat)+(IntKind.u64.wrap (BitVec.ofInt IntKind.u64.bits x &&& BitVec.ofInt IntKind.u64.bits m).toNat))
def onC(x:Int):Int:=IntKind.u64.wrap (BitVec.ofInt IntKind.u64.bits (IntKind.u64.wrap (x.fdiv (2^(min (4:Int).toNat IntKind.u64.bits))+x)) &&& BitVec.ofInt IntKind.u64.bits (1085102592571150095:Int)).toNat
def onD(s x:Int):Int:=IntKind.u64.wrap (x+x.fdiv (2^(min s.toNat IntKind.u64.bits)))
def onesI(x:Int):Int:=i64.wrap (BitVec.ofInt i64.bits (i64.wrap (onD 32 (onD 16 (onD 8 (onC (onA 2 3689348814741910323 (onA 1 6148914691236517205 x))))))) &&& BitVec.ofInt i64.bits (127:Int)).toNat
theorem u64n{n:Nat}(h:n<18446744073709551616):IntKind.u64.wrap (n:Int)=(n:Int):=IntWalk.u64_in _ (by omega)
theorem Yhq{a b:Nat}(ha:a<18446744073709551616)(hb:b<18446744073709551616):IntKind.u64.wrap ((BitVec.ofInt IntKind.u64.bits (a:Int) &&& BitVec.ofInt IntKind.u64.bits (b:Int)).toNat:Int)=((a &&& b:Nat):Int):=by
 have e:∀n:Nat,n<18446744073709551616->(BitVec.ofInt IntKind.u64.bits (n:Int)).toNat=n:=λn hn=>by
  rw[show IntKind.u64.bits=64 from rfl,BitVec.ofInt_natCast,BitVec.toNat_ofNat];exact Nat.mod_eq_of_lt hn
 rw[BitVec.toNat_and,e a ha,e b hb];exact u64n (Nat.lt_of_le_of_lt Nat.and_le_left ha)
theorem fdivI{n:Nat}{s:Int}{k:Nat}(hs:min s.toNat 64=k):Int.fdiv (n:Int) (2^(min s.toNat IntKind.u64.bits))=((n / 2^k:Nat):Int):=by
 rw[show IntKind.u64.bits=64 from rfl,hs];have:((2:Int)^k)=((2^k:Nat):Int):=by simp
 rw[this,<- Int.ofNat_fdiv]
theorem Yok{n m:Nat}{s:Int}{k:Nat}(hn:n<18446744073709551616)(hm:m<18446744073709551616)(hs:min s.toNat 64=k)(hb:((n >>> k) &&& m)+(n &&& m)<18446744073709551616):onA s (m:Int) (n:Int)=((((n >>> k) &&& m)+(n &&& m):Nat):Int):=by unfold onA;have h2:n / 2^k<18446744073709551616:=Nat.lt_of_le_of_lt (Nat.div_le_self _ _) hn;rw[fdivI hs,Yhq h2 hm,Yhq hn hm,<- Int.natCast_add,<- Nat.shiftRight_eq_div_pow];exact u64n hb
theorem Yle{n:Nat}{s:Int}{k:Nat}(hs:min s.toNat 64=k)(hb:n+n / 2^k<18446744073709551616):onD s (n:Int)=((n+n / 2^k:Nat):Int):=by unfold onD;rw[fdivI hs,<- Int.natCast_add];exact u64n hb
theorem onC_nat{n:Nat}(hb:n / 16+n<18446744073709551616):onC (n:Int)=(((n / 16+n) &&& 1085102592571150095:Nat):Int):=by unfold onC;rw[fdivI (k:=4) rfl,<- Int.natCast_add,show n / 2^4+n=n / 16+n from rfl,u64n hb];exact Yhq hb (by decide)
theorem onE_nat{y:Nat}(hy:y<18446744073709551616):i64.wrap ((BitVec.ofInt i64.bits (i64.wrap (y:Int)) &&& BitVec.ofInt i64.bits (127:Int)).toNat:Int)=((y % 128:Nat):Int):=by
 have hw:(BitVec.ofInt i64.bits (i64.wrap (y:Int))).toNat=y:=by
  have e:i64.wrap (y:Int)=(y:Int)\/i64.wrap (y:Int)=(y:Int) - 18446744073709551616:=by
   by_cases h:y<9223372036854775808
   ·exact .inl (IntWalk.i64_in _ (by omega))
   ·refine .inr ?_;unfold IntKind.wrap;have hd:(i64.signed&&decide ((y:Int) % 2^i64.bits>=2^(i64.bits - 1)))=true:=by
     show decide ((y:Int) % 2^64>=2^63)=true
     exact Q3 (by omega)
    refine(if_pos hd).trans ?_
    show (y:Int) % 2^64 - 2^64=_
    omega
  rw[show i64.bits=64 from rfl,BitVec.toNat_ofInt];rcases e with e|e<;>rw[e]<;>omega
 have h7:(BitVec.ofInt i64.bits (127:Int)).toNat=127:=by decide
 rw[BitVec.toNat_and,hw,h7,show (127:Nat)=2^7 - 1 from rfl,Nat.and_two_pow_sub_one_eq_mod];have:=Nat.mod_lt y (show 0<128 by decide);exact IntWalk.i64_in _ (by omega)
theorem ones_is{n:Nat}(hn:n<18446744073709551616):onesI (n:Int)=(cntQ n.testBit 64:Int):=by obtain⟨b1,b2,b3,c1,c2,c3,h⟩:=pop64 hn rfl rfl rfl rfl rfl rfl;unfold onesI;have a1:=Yok (s:=1) (m:=6148914691236517205) (k:=1) hn (by decide) rfl b1;have a2:=Yok (s:=2) (m:=3689348814741910323) (k:=2) b1 (by decide) rfl b2;rw[show onA 1 6148914691236517205 (n:Int)=_ from a1,show onA 2 3689348814741910323 _=_ from a2,onC_nat b3,Yle (s:=8) (k:=8) rfl c1,Yle (s:=16) (k:=16) rfl c2,Yle (s:=32) (k:=32) rfl c3];refine(onE_nat c3).trans ?_;rw[h]
theorem Zov(N:Nat)(a0:Int):ansV Tryz.prog (mkΓ []) N Tryz.f28 [] [.i .u64 a0] []=(some (.a (.i .i64 (i64.wrap (BitVec.ofInt i64.bits (i64.wrap (IntKind.u64.wrap ((IntKind.u64.wrap ((IntKind.u64.wrap ((IntKind.u64.wrap (BitVec.ofInt IntKind.u64.bits (IntKind.u64.wrap ((((IntKind.u64.wrap ((IntKind.u64.wrap (BitVec.ofInt IntKind.u64.bits (((IntKind.u64.wrap ((IntKind.u64.wrap (BitVec.ofInt IntKind.u64.bits ((a0).fdiv (2^(min ((1:Int)).toNat IntKind.u64.bits))) &&& BitVec.ofInt IntKind.u64.bits (6148914691236517205:Int)).toNat)+(IntKind.u64.wrap (BitVec.ofInt IntKind.u64.bits a0 &&& BitVec.ofInt IntKind.u64.bits (6148914691236517205:Int)).toNat)))).fdiv (2^(min ((2:Int)).toNat IntKind.u64.bits))) &&& BitVec.ofInt IntKind.u64.bits (3689348814741910323:Int)).toNat)+(IntKind.u64.wrap (BitVec.ofInt IntKind.u64.bits (IntKind.u64.wrap ((IntKind.u64.wrap (BitVec.ofInt IntKind.u64.bits ((a0).fdiv (2^(min ((1:Int)).toNat IntKind.u64.bits))) &&& BitVec.ofInt IntKind.u64.bits (6148914691236517205:Int)).toNat)+(IntKind.u64.wrap (BitVec.ofInt IntKind.u64.bits a0 &&& BitVec.ofInt IntKind.u64.bits (6148914691236517205:Int)).toNat))) &&& BitVec.ofInt IntKind.u64.bits (3689348814741910323:Int)).toNat)))).fdiv (2^(min ((4:Int)).toNat IntKind.u64.bits)))+(IntKind.u64.wrap ((IntKind.u64.wrap (BitVec.ofInt IntKind.u64.bits (((IntKind.u64.wrap ((IntKind.u64.wrap (BitVec.ofInt IntKind.u64.bits ((a0).fdiv (2^(min ((1:Int)).toNat IntKind.u64.bits))) &&& BitVec.ofInt IntKind.u64.bits (6148914691236517205:Int)).toNat)+(IntKind.u64.wrap (BitVec.ofInt IntKind.u64.bits a0 &&& BitVec.ofInt IntKind.u64.bits (6148914691236517205:Int)).toNat)))).fdiv (2^(min ((2:Int)).toNat IntKind.u64.bits))) &&& BitVec.ofInt IntKind.u64.bits (3689348814741910323:Int)).toNat)+(IntKind.u64.wrap (BitVec.ofInt IntKind.u64.bits (IntKind.u64.wrap ((IntKind.u64.wrap (BitVec.ofInt IntKind.u64.bits ((a0).fdiv (2^(min ((1:Int)).toNat IntKind.u64.bits))) &&& BitVec.ofInt IntKind.u64.bits (6148914691236517205:Int)).toNat)+(IntKind.u64.wrap (BitVec.ofInt IntKind.u64.bits a0 &&& BitVec.ofInt IntKind.u64.bits (6148914691236517205:Int)).toNat))) &&& BitVec.ofInt IntKind.u64.bits (3689348814741910323:Int)).toNat))))) &&& BitVec.ofInt IntKind.u64.bits (1085102592571150095:Int)).toNat)+(((IntKind.u64.wrap (BitVec.ofInt IntKind.u64.bits (IntKind.u64.wrap ((((IntKind.u64.wrap ((IntKind.u64.wrap (BitVec.ofInt IntKind.u64.bits (((IntKind.u64.wrap ((IntKind.u64.wrap (BitVec.ofInt IntKind.u64.bits ((a0).fdiv (2^(min ((1:Int)).toNat IntKind.u64.bits))) &&& BitVec.ofInt IntKind.u64.bits (6148914691236517205:Int)).toNat)+(IntKind.u64.wrap (BitVec.ofInt IntKind.u64.bits a0 &&& BitVec.ofInt IntKind.u64.bits (6148914691236517205:Int)).toNat)))).fdiv (2^(min ((2:Int)).toNat IntKind.u64.bits))) &&& BitVec.ofInt IntKind.u64.bits (3689348814741910323:Int)).toNat)+(IntKind.u64.wrap (BitVec.ofInt IntKind.u64.bits (IntKind.u64.wrap ((IntKind.u64.wrap (BitVec.ofInt IntKind.u64.bits ((a0).fdiv (2^(min ((1:Int)).toNat IntKind.u64.bits))) &&& BitVec.ofInt IntKind.u64.bits (6148914691236517205:Int)).toNat)+(IntKind.u64.wrap (BitVec.ofInt IntKind.u64.bits a0 &&& BitVec.ofInt IntKind.u64.bits (6148914691236517205:Int)).toNat))) &&& BitVec.ofInt IntKind.u64.bits (3689348814741910323:Int)).toNat)))).fdiv (2^(min ((4:Int)).toNat IntKind.u64.bits)))+(IntKind.u64.wrap ((IntKind.u64.wrap (BitVec.ofInt IntKind.u64.bits (((IntKind.u64.wrap ((IntKind.u64.wrap (BitVec.ofInt IntKind.u64.bits ((a0).fdiv (2^(min ((1:Int)).toNat IntKind.u64.bits))) &&& BitVec.ofInt IntKind.u64.bits (6148914691236517205:Int)).toNat)+(IntKind.u64.wrap (BitVec.ofInt IntKind.u64.bits a0 &&& BitVec.ofInt IntKind.u64.bits (6148914691236517205:Int)).toNat)))).fdiv (2^(min ((2:Int)).toNat IntKind.u64.bits))) &&& BitVec.ofInt IntKind.u64.bits (3689348814741910323:Int)).toNat)+(IntKind.u64.wrap (BitVec.ofInt IntKind.u64.bits (IntKind.u64.wrap ((IntKind.u64.wrap (BitVec.ofInt IntKind.u64.bits ((a0).fdiv (2^(min ((1:Int)).toNat IntKind.u64.bits))) &&& BitVec.ofInt IntKind.u64.bits (6148914691236517205:Int)).toNat)+(IntKind.u64.wrap (BitVec.ofInt IntKind.u64.bits a0 &&& BitVec.ofInt IntKind.u64.bits (6148914691236517205:Int)).toNat))) &&& BitVec.ofInt IntKind.u64.bits (3689348814741910323:Int)).toNat))))) &&& BitVec.ofInt IntKind.u64.bits (1085102592571150095:Int)).toNat)).fdiv (2^(min ((8:Int)).toNat IntKind.u64.bits)))))+(((IntKind.u64.wrap ((IntKind.u64.wrap (BitVec.ofInt IntKind.u64.bits (IntKind.u64.wrap ((((IntKind.u64.wrap ((IntKind.u64.wrap (BitVec.ofInt IntKind.u64.bits (((IntKind.u64.wrap ((IntKind.u64.wrap (BitVec.ofInt IntKind.u64.bits ((a0).fdiv (2^(min ((1:Int)).toNat IntKind.u64.bits))) &&& BitVec.ofInt IntKind.u64.bits (6148914691236517205:Int)).toNat)+(IntKind.u64.wrap (BitVec.ofInt IntKind.u64.bits a0 &&& BitVec.ofInt IntKind.u64.bits (6148914691236517205:Int)).toNat)))).fdiv (2^(min ((2:Int)).toNat IntKind.u64.bits))) &&& BitVec.ofInt IntKind.u64.bits (3689348814741910323:Int)).toNat)+(IntKind.u64.wrap (BitVec.ofInt IntKind.u64.bits (IntKind.u64.wrap ((IntKind.u64.wrap (BitVec.ofInt IntKind.u64.bits ((a0).fdiv (2^(min ((1:Int)).toNat IntKind.u64.bits))) &&& BitVec.ofInt IntKind.u64.bits (6148914691236517205:Int)).toNat)+(IntKind.u64.wrap (BitVec.ofInt IntKind.u64.bits a0 &&& BitVec.ofInt IntKind.u64.bits (6148914691236517205:Int)).toNat))) &&& BitVec.ofInt IntKind.u64.bits (3689348814741910323:Int)).toNat)))).fdiv (2^(min ((4:Int)).toNat IntKind.u64.bits)))+(IntKind.u64.wrap ((IntKind.u64.wrap (BitVec.ofInt IntKind.u64.bits (((IntKind.u64.wrap ((IntKind.u64.wrap (BitVec.ofInt IntKind.u64.bits ((a0).fdiv (2^(min ((1:Int)).toNat IntKind.u64.bits))) &&& BitVec.ofInt IntKind.u64.bits (6148914691236517205:Int)).toNat)+(IntKind.u64.wrap (BitVec.ofInt IntKind.u64.bits a0 &&& BitVec.ofInt IntKind.u64.bits (6148914691236517205:Int)).toNat)))).fdiv (2^(min ((2:Int)).toNat IntKind.u64.bits))) &&& BitVec.ofInt IntKind.u64.bits (3689348814741910323:Int)).toNat)+(IntKind.u64.wrap (BitVec.ofInt IntKind.u64.bits (IntKind.u64.wrap ((IntKind.u64.wrap (BitVec.ofInt IntKind.u64.bits ((a0).fdiv (2^(min ((1:Int)).toNat IntKind.u64.bits))) &&& BitVec.ofInt IntKind.u64.bits (6148914691236517205:Int)).toNat)+(IntKind.u64.wrap (BitVec.ofInt IntKind.u64.bits a0 &&& BitVec.ofInt IntKind.u64.bits (6148914691236517205:Int)).toNat))) &&& BitVec.ofInt IntKind.u64.bits (3689348814741910323:Int)).toNat))))) &&& BitVec.ofInt IntKind.u64.bits (1085102592571150095:Int)).toNat)+(((IntKind.u64.wrap (BitVec.ofInt IntKind.u64.bits (IntKind.u64.wrap ((((IntKind.u64.wrap ((IntKind.u64.wrap (BitVec.ofInt IntKind.u64.bits (((IntKind.u64.wrap ((IntKind.u64.wrap (BitVec.ofInt IntKind.u64.bits ((a0).fdiv (2^(min ((1:Int)).toNat IntKind.u64.bits))) &&& BitVec.ofInt IntKind.u64.bits (6148914691236517205:Int)).toNat)+(IntKind.u64.wrap (BitVec.ofInt IntKind.u64.bits a0 &&& BitVec.ofInt IntKind.u64.bits (6148914691236517205:Int)).toNat)))).fdiv (2^(min ((2:Int)).toNat IntKind.u64.bits))) &&& BitVec.ofInt IntKind.u64.bits (3689348814741910323:Int)).toNat)+(IntKind.u64.wrap (BitVec.ofInt IntKind.u64.bits (IntKind.u64.wrap ((IntKind.u64.wrap (BitVec.ofInt IntKind.u64.bits ((a0).fdiv (2^(min ((1:Int)).toNat IntKind.u64.bits))) &&& BitVec.ofInt IntKind.u64.bits (6148914691236517205:Int)).toNat)+(IntKind.u64.wrap (BitVec.ofInt IntKind.u64.bits a0 &&& BitVec.ofInt IntKind.u64.bits (6148914691236517205:Int)).toNat))) &&& BitVec.ofInt IntKind.u64.bits (3689348814741910323:Int)).toNat)))).fdiv (2^(min ((4:Int)).toNat IntKind.u64.bits)))+(IntKind.u64.wrap ((IntKind.u64.wrap (BitVec.ofInt IntKind.u64.bits (((IntKind.u64.wrap ((IntKind.u64.wrap (BitVec.ofInt IntKind.u64.bits ((a0).fdiv (2^(min ((1:Int)).toNat IntKind.u64.bits))) &&& BitVec.ofInt IntKind.u64.bits (6148914691236517205:Int)).toNat)+(IntKind.u64.wrap (BitVec.ofInt IntKind.u64.bits a0 &&& BitVec.ofInt IntKind.u64.bits (6148914691236517205:Int)).toNat)))).fdiv (2^(min ((2:Int)).toNat IntKind.u64.bits))) &&& BitVec.ofInt IntKind.u64.bits (3689348814741910323:Int)).toNat)+(IntKind.u64.wrap (BitVec.ofInt IntKind.u64.bits (IntKind.u64.wrap ((IntKind.u64.wrap (BitVec.ofInt IntKind.u64.bits ((a0).fdiv (2^(min ((1:Int)).toNat IntKind.u64.bits))) &&& BitVec.ofInt IntKind.u64.bits (6148914691236517205:Int)).toNat)+(IntKind.u64.wrap (BitVec.ofInt IntKind.u64.bits a0 &&& BitVec.ofInt IntKind.u64.bits (6148914691236517205:Int)).toNat))) &&& BitVec.ofInt IntKind.u64.bits (3689348814741910323:Int)).toNat))))) &&& BitVec.ofInt IntKind.u64.bits (1085102592571150095:Int)).toNat)).fdiv (2^(min ((8:Int)).toNat IntKind.u64.bits)))))).fdiv (2^(min ((16:Int)).toNat IntKind.u64.bits)))))+(((IntKind.u64.wrap ((IntKind.u64.wrap ((IntKind.u64.wrap (BitVec.ofInt IntKind.u64.bits (IntKind.u64.wrap ((((IntKind.u64.wrap ((IntKind.u64.wrap (BitVec.ofInt IntKind.u64.bits (((IntKind.u64.wrap ((IntKind.u64.wrap (BitVec.ofInt IntKind.u64.bits ((a0).fdiv (2^(min ((1:Int)).toNat IntKind.u64.bits))) &&& BitVec.ofInt IntKind.u64.bits (6148914691236517205:Int)).toNat)+(IntKind.u64.wrap (BitVec.ofInt IntKind.u64.bits a0 &&& BitVec.ofInt IntKind.u64.bits (6148914691236517205:Int)).toNat)))).fdiv (2^(min ((2:Int)).toNat IntKind.u64.bits))) &&& BitVec.ofInt IntKind.u64.bits (3689348814741910323:Int)).toNat)+(IntKind.u64.wrap (BitVec.ofInt IntKind.u64.bits (IntKind.u64.wrap ((IntKind.u64.wrap (BitVec.ofInt IntKind.u64.bits ((a0).fdiv (2^(min ((1:Int)).toNat IntKind.u64.bits))) &&& BitVec.ofInt IntKind.u64.bits (6148914691236517205:Int)).toNat)+(IntKind.u64.wrap (BitVec.ofInt IntKind.u64.bits a0 &&& BitVec.ofInt IntKind.u64.bits (6148914691236517205:Int)).toNat))) &&& BitVec.ofInt IntKind.u64.bits (3689348814741910323:Int)).toNat)))).fdiv (2^(min ((4:Int)).toNat IntKind.u64.bits)))+(IntKind.u64.wrap ((IntKind.u64.wrap (BitVec.ofInt IntKind.u64.bits (((IntKind.u64.wrap ((IntKind.u64.wrap (BitVec.ofInt IntKind.u64.bits ((a0).fdiv (2^(min ((1:Int)).toNat IntKind.u64.bits))) &&& BitVec.ofInt IntKind.u64.bits (6148914691236517205:Int)).toNat)+(IntKind.u64.wrap (BitVec.ofInt IntKind.u64.bits a0 &&& BitVec.ofInt IntKind.u64.bits (6148914691236517205:Int)).toNat)))).fdiv (2^(min ((2:Int)).toNat IntKind.u64.bits))) &&& BitVec.ofInt IntKind.u64.bits (3689348814741910323:Int)).toNat)+(IntKind.u64.wrap (BitVec.ofInt IntKind.u64.bits (IntKind.u64.wrap ((IntKind.u64.wrap (BitVec.ofInt IntKind.u64.bits ((a0).fdiv (2^(min ((1:Int)).toNat IntKind.u64.bits))) &&& BitVec.ofInt IntKind.u64.bits (6148914691236517205:Int)).toNat)+(IntKind.u64.wrap (BitVec.ofInt IntKind.u64.bits a0 &&& BitVec.ofInt IntKind.u64.bits (6148914691236517205:Int)).toNat))) &&& BitVec.ofInt IntKind.u64.bits (3689348814741910323:Int)).toNat))))) &&& BitVec.ofInt IntKind.u64.bits (1085102592571150095:Int)).toNat)+(((IntKind.u64.wrap (BitVec.ofInt IntKind.u64.bits (IntKind.u64.wrap ((((IntKind.u64.wrap ((IntKind.u64.wrap (BitVec.ofInt IntKind.u64.bits (((IntKind.u64.wrap ((IntKind.u64.wrap (BitVec.ofInt IntKind.u64.bits ((a0).fdiv (2^(min ((1:Int)).toNat IntKind.u64.bits))) &&& BitVec.ofInt IntKind.u64.bits (6148914691236517205:Int)).toNat)+(IntKind.u64.wrap (BitVec.ofInt IntKind.u64.bits a0 &&& BitVec.ofInt IntKind.u64.bits (6148914691236517205:Int)).toNat)))).fdiv (2^(min ((2:Int)).toNat IntKind.u64.bits))) &&& BitVec.ofInt IntKind.u64.bits (3689348814741910323:Int)).toNat)+(IntKind.u64.wrap (BitVec.ofInt IntKind.u64.bits (IntKind.u64.wrap ((IntKind.u64.wrap (BitVec.ofInt IntKind.u64.bits ((a0).fdiv (2^(min ((1:Int)).toNat IntKind.u64.bits))) &&& BitVec.ofInt IntKind.u64.bits (6148914691236517205:Int)).toNat)+(IntKind.u64.wrap (BitVec.ofInt IntKind.u64.bits a0 &&& BitVec.ofInt IntKind.u64.bits (6148914691236517205:Int)).toNat))) &&& BitVec.ofInt IntKind.u64.bits (3689348814741910323:Int)).toNat)))).fdiv (2^(min ((4:Int)).toNat IntKind.u64.bits)))+(IntKind.u64.wrap ((IntKind.u64.wrap (BitVec.ofInt IntKind.u64.bits (((IntKind.u64.wrap ((IntKind.u64.wrap (BitVec.ofInt IntKind.u64.bits ((a0).fdiv (2^(min ((1:Int)).toNat IntKind.u64.bits))) &&& BitVec.ofInt IntKind.u64.bits (6148914691236517205:Int)).toNat)+(IntKind.u64.wrap (BitVec.ofInt IntKind.u64.bits a0 &&& BitVec.ofInt IntKind.u64.bits (6148914691236517205:Int)).toNat)))).fdiv (2^(min ((2:Int)).toNat IntKind.u64.bits))) &&& BitVec.ofInt IntKind.u64.bits (3689348814741910323:Int)).toNat)+(IntKind.u64.wrap (BitVec.ofInt IntKind.u64.bits (IntKind.u64.wrap ((IntKind.u64.wrap (BitVec.ofInt IntKind.u64.bits ((a0).fdiv (2^(min ((1:Int)).toNat IntKind.u64.bits))) &&& BitVec.ofInt IntKind.u64.bits (6148914691236517205:Int)).toNat)+(IntKind.u64.wrap (BitVec.ofInt IntKind.u64.bits a0 &&& BitVec.ofInt IntKind.u64.bits (6148914691236517205:Int)).toNat))) &&& BitVec.ofInt IntKind.u64.bits (3689348814741910323:Int)).toNat))))) &&& BitVec.ofInt IntKind.u64.bits (1085102592571150095:Int)).toNat)).fdiv (2^(min ((8:Int)).toNat IntKind.u64.bits)))))+(((IntKind.u64.wrap ((IntKind.u64.wrap (BitVec.ofInt IntKind.u64.bits (IntKind.u64.wrap ((((IntKind.u64.wrap ((IntKind.u64.wrap (BitVec.ofInt IntKind.u64.bits (((IntKind.u64.wrap ((IntKind.u64.wrap (BitVec.ofInt IntKind.u64.bits ((a0).fdiv (2^(min ((1:Int)).toNat IntKind.u64.bits))) &&& BitVec.ofInt IntKind.u64.bits (6148914691236517205:Int)).toNat)+(IntKind.u64.wrap (BitVec.ofInt IntKind.u64.bits a0 &&& BitVec.ofInt IntKind.u64.bits (6148914691236517205:Int)).toNat)))).fdiv (2^(min ((2:Int)).toNat IntKind.u64.bits))) &&& BitVec.ofInt IntKind.u64.bits (3689348814741910323:Int)).toNat)+(IntKind.u64.wrap (BitVec.ofInt IntKind.u64.bits (IntKind.u64.wrap ((IntKind.u64.wrap (BitVec.ofInt IntKind.u64.bits ((a0).fdiv (2^(min ((1:Int)).toNat IntKind.u64.bits))) &&& BitVec.ofInt IntKind.u64.bits (6148914691236517205:Int)).toNat)+(IntKind.u64.wrap (BitVec.ofInt IntKind.u64.bits a0 &&& BitVec.ofInt IntKind.u64.bits (6148914691236517205:Int)).toNat))) &&& BitVec.ofInt IntKind.u64.bits (3689348814741910323:Int)).toNat)))).fdiv (2^(min ((4:Int)).toNat IntKind.u64.bits)))+(IntKind.u64.wrap ((IntKind.u64.wrap (BitVec.ofInt IntKind.u64.bits (((IntKind.u64.wrap ((IntKind.u64.wrap (BitVec.ofInt IntKind.u64.bits ((a0).fdiv (2^(min ((1:Int)).toNat IntKind.u64.bits))) &&& BitVec.ofInt IntKind.u64.bits (6148914691236517205:Int)).toNat)+(IntKind.u64.wrap (BitVec.ofInt IntKind.u64.bits a0 &&& BitVec.ofInt IntKind.u64.bits (6148914691236517205:Int)).toNat)))).fdiv (2^(min ((2:Int)).toNat IntKind.u64.bits))) &&& BitVec.ofInt IntKind.u64.bits (3689348814741910323:Int)).toNat)+(IntKind.u64.wrap (BitVec.ofInt IntKind.u64.bits (IntKind.u64.wrap ((IntKind.u64.wrap (BitVec.ofInt IntKind.u64.bits ((a0).fdiv (2^(min ((1:Int)).toNat IntKind.u64.bits))) &&& BitVec.ofInt IntKind.u64.bits (6148914691236517205:Int)).toNat)+(IntKind.u64.wrap (BitVec.ofInt IntKind.u64.bits a0 &&& BitVec.ofInt IntKind.u64.bits (6148914691236517205:Int)).toNat))) &&& BitVec.ofInt IntKind.u64.bits (3689348814741910323:Int)).toNat))))) &&& BitVec.ofInt IntKind.u64.bits (1085102592571150095:Int)).toNat)+(((IntKind.u64.wrap (BitVec.ofInt IntKind.u64.bits (IntKind.u64.wrap ((((IntKind.u64.wrap ((IntKind.u64.wrap (BitVec.ofInt IntKind.u64.bits (((IntKind.u64.wrap ((IntKind.u64.wrap (BitVec.ofInt IntKind.u64.bits ((a0).fdiv (2^(min ((1:Int)).toNat IntKind.u64.bits))) &&& BitVec.ofInt IntKind.u64.bits (6148914691236517205:Int)).toNat)+(IntKind.u64.wrap (BitVec.ofInt IntKind.u64.bits a0 &&& BitVec.ofInt IntKind.u64.bits (6148914691236517205:Int)).toNat)))).fdiv (2^(min ((2:Int)).toNat IntKind.u64.bits))) &&& BitVec.ofInt IntKind.u64.bits (3689348814741910323:Int)).toNat)+(IntKind.u64.wrap (BitVec.ofInt IntKind.u64.bits (IntKind.u64.wrap ((IntKind.u64.wrap (BitVec.ofInt IntKind.u64.bits ((a0).fdiv (2^(min ((1:Int)).toNat IntKind.u64.bits))) &&& BitVec.ofInt IntKind.u64.bits (6148914691236517205:Int)).toNat)+(IntKind.u64.wrap (BitVec.ofInt IntKind.u64.bits a0 &&& BitVec.ofInt IntKind.u64.bits (6148914691236517205:Int)).toNat))) &&& BitVec.ofInt IntKind.u64.bits (3689348814741910323:Int)).toNat)))).fdiv (2^(min ((4:Int)).toNat IntKind.u64.bits)))+(IntKind.u64.wrap ((IntKind.u64.wrap (BitVec.ofInt IntKind.u64.bits (((IntKind.u64.wrap ((IntKind.u64.wrap (BitVec.ofInt IntKind.u64.bits ((a0).fdiv (2^(min ((1:Int)).toNat IntKind.u64.bits))) &&& BitVec.ofInt IntKind.u64.bits (6148914691236517205:Int)).toNat)+(IntKind.u64.wrap (BitVec.ofInt IntKind.u64.bits a0 &&& BitVec.ofInt IntKind.u64.bits (6148914691236517205:Int)).toNat)))).fdiv (2^(min ((2:Int)).toNat IntKind.u64.bits))) &&& BitVec.ofInt IntKind.u64.bits (3689348814741910323:Int)).toNat)+(IntKind.u64.wrap (BitVec.ofInt IntKind.u64.bits (IntKind.u64.wrap ((IntKind.u64.wrap (BitVec.ofInt IntKind.u64.bits ((a0).fdiv (2^(min ((1:Int)).toNat IntKind.u64.bits))) &&& BitVec.ofInt IntKind.u64.bits (6148914691236517205:Int)).toNat)+(IntKind.u64.wrap (BitVec.ofInt IntKind.u64.bits a0 &&& BitVec.ofInt IntKind.u64.bits (6148914691236517205:Int)).toNat))) &&& BitVec.ofInt IntKind.u64.bits (3689348814741910323:Int)).toNat))))) &&& BitVec.ofInt IntKind.u64.bits (1085102592571150095:Int)).toNat)).fdiv (2^(min ((8:Int)).toNat IntKind.u64.bits)))))).fdiv (2^(min ((16:Int)).toNat IntKind.u64.bits)))))).fdiv (2^(min ((32:Int)).toNat IntKind.u64.bits)))))) &&& BitVec.ofInt i64.bits (127:Int)).toNat)),.none,true)):=by kernel_rfl
theorem Zn5(a0:Int)(h_a0:IntKind.u64.min<=a0/\a0<=IntKind.u64.max)(hg:(true)=true):ansV Tryz.prog (mkΓ []) 1000 Tryz.f28 [] [.i .u64 a0] []=some (.a (.i .i64 (cntQ (a0.toNat).testBit 64:Int)),.none,true):=by
 obtain⟨n,rfl⟩:=Int.eq_ofNat_of_zero_le (show 0<=a0 from h_a0.1);have hn:n<18446744073709551616:=by have:=h_a0.2;have e:IntKind.u64.max=18446744073709551615:=rfl;omega
 refine(Zov 1000 _).trans ?_;rw[Q9,<- ones_is hn];rfl
def Zea:Con:=λargs h=>match args,h with|[.i .u64 a0],[]=>some (.a (.i .i64 (cntQ (a0.toNat).testBit 64:Int)),.none,true)|_,_=>none
theorem Zdp:EntX Tryz.prog 28:=Zak (fn:=Tryz.f28)
theorem Zen:Uac mn Tryz.prog 28 Zea:=(ansY (N:=1000) mKn Tryz.f28 []).of (by
 intro ρ h w args vals r e hA hH hr;unfold Zea at hr;split at hr
 ·rename_i a0;obtain⟨rfl,rfl,hg2⟩:=BQi hr;exact Zn5 a0 (hA.rng 0 rfl) hg2
 ·cases hr)
end
end Go.Proofs.YtgllknjdblkhnaaGreatDoor
