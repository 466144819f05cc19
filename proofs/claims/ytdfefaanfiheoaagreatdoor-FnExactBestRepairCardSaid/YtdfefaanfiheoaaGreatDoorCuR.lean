/- A repaired sea is a sea; the best repair of several. -/
import Derived.Test.YtdfefaanfiheoaaGreatDoorProg
import Derived.Test.YtdfefaanfiheoaaGreatDoorCuS
set_option linter.unusedVariables false
set_option linter.unusedSimpArgs false
open _root_.Array renaming getElem?_extract->jA
namespace Go.Proofs.YtdfefaanfiheoaaGreatDoor
open Tryz (f48 f49)
open Go.ChangeShapes Go.WideShapes Go.ChangeAt Go.RowKit Ve Vc
open Tryz renaming prog -> PZ
set_option maxRecDepth 100000
noncomputable section
variable {F:Vc.Fd}
theorem Zve(N:Nat)(a2 a0 a1:Array Value):ansV PZ (mkΓ []) N f48 [] [.w 0,.w 1,.g a2 53] [.row a0 37,.row a1 37]=(bif (decide (0<=(num a2 0))&&decide ((num a2 0)<2)) then (bif (decide (0<=(num a2 1))&&decide ((num a2 1)<36)) then (bif (decide (0<=(num a2 0))&&decide ((num a2 0)<2)) then (bif (decide (0<=(num a2 1))&&decide ((num a2 1)<36)) then (some (.a (.g (spl a0 ((3+((num a2 0).toNat*180))+((num a2 1).toNat*5)) (a1.extract ((3+((num a2 0).toNat*180))+((num a2 1).toNat*5)) (((3+((num a2 0).toNat*180))+((num a2 1).toNat*5))+5)).toList) 37),.none,true)) else (none)) else (none)) else (none)) else (none)):=by kernel_rfl
def Zai(a2 a0 a1:Array Value):Array Value:=(spl a0 ((3+((num a2 0).toNat*180))+((num a2 1).toNat*5)) (a1.extract ((3+((num a2 0).toNat*180))+((num a2 1).toNat*5)) (((3+((num a2 0).toNat*180))+((num a2 1).toNat*5))+5)).toList)
def Zcv(a2 a0 a1:Array Value):Bool:=(bif (decide (0<=(num a2 0))&&decide ((num a2 0)<2)) then (bif (decide (0<=(num a2 1))&&decide ((num a2 1)<36)) then (bif (decide (0<=(num a2 0))&&decide ((num a2 0)<2)) then (decide (0<=(num a2 1))&&decide ((num a2 1)<36)) else false) else false) else false)
theorem Ztk(a2 a0 a1:Array Value)(h_a2:WT PZ 53 a2)(h_a0:WT PZ 37 a0)(h_a1:WT PZ 37 a1)(hg:((Zcv a2 a0 a1))=true):ansV PZ (mkΓ []) 1000 f48 [] [.w 0,.w 1,.g a2 53] [.row a0 37,.row a1 37]=some (.a (.g (Zai a2 a0 a1) 37),.none,true):=by
 refine(Zve 1000 a2 a0 a1).trans ?_;unfold Zcv at hg;unfold Zai;revert hg;generalize (decide (0<=(num a2 0)))=b2;intro hg;cases b2
 ·skip
  first|exact(nomatch (hg:false=true))|rfl
 ·skip
  revert hg;generalize (decide ((num a2 0)<2))=b4;intro hg;cases b4
  ·skip
   first|exact(nomatch (hg:false=true))|rfl
  ·skip
   revert hg;generalize (decide (0<=(num a2 1)))=b6;intro hg;cases b6
   ·skip
    first|exact(nomatch (hg:false=true))|rfl
   ·skip
    revert hg;generalize (decide ((num a2 1)<36))=b8;intro hg;cases b8
    ·skip
     first|exact(nomatch (hg:false=true))|rfl
    ·skip
     first|rfl|exact(nomatch (hg:false=true))
def Zjn:Con:=λargs h=>match args,h with|[.w 0,.w 1,.g a2 53],[.row a0 37,.row a1 37]=>some (.a (.g (Zai a2 a0 a1) 37),.none,(Zcv a2 a0 a1))|_,_=>none
theorem Zr5:EntX PZ 48:=Zaj (fn:=f48)
theorem Zwj:Uac (md F) PZ 48 Zjn:=(ansY (N:=1000) mKn f48 []).of (by
 intro ρ h w args vals r e hA hH hr;unfold Zjn at hr;split at hr
 ·rename_i a2 a0 a1;obtain⟨rfl,rfl,hg2⟩:=BQi hr;exact Ztk a2 a0 a1 (hA.wt 2 rfl) (hH.wt 0 rfl) (hH.wt 1 rfl) hg2
 ·cases hr)
theorem Ybh(N:Nat)(a0 a1 a2:Array Value):ansV PZ (mkΓ []) N f49 [] [.g a0 37,.g a1 37,.g a2 53] []=(bif (decide (0<=(num a2 0))&&decide ((num a2 0)<2)) then (bif (decide (0<=(num a2 1))&&decide ((num a2 1)<36)) then (bif (decide (0<=(num a2 0))&&decide ((num a2 0)<2)) then (bif (decide (0<=(num a2 1))&&decide ((num a2 1)<36)) then (some (.a (.g (spl a0 ((3+((num a2 0).toNat*180))+((num a2 1).toNat*5)) (a1.extract ((3+((num a2 0).toNat*180))+((num a2 1).toNat*5)) (((3+((num a2 0).toNat*180))+((num a2 1).toNat*5))+5)).toList) 37),.none,true)) else (none)) else (none)) else (none)) else (none)):=by kernel_rfl
def Zaw(a0 a1 a2:Array Value):Array Value:=(spl a0 ((3+((num a2 0).toNat*180))+((num a2 1).toNat*5)) (a1.extract ((3+((num a2 0).toNat*180))+((num a2 1).toNat*5)) (((3+((num a2 0).toNat*180))+((num a2 1).toNat*5))+5)).toList)
def Zft(a0 a1 a2:Array Value):Bool:=(bif (decide (0<=(num a2 0))&&decide ((num a2 0)<2)) then (bif (decide (0<=(num a2 1))&&decide ((num a2 1)<36)) then (bif (decide (0<=(num a2 0))&&decide ((num a2 0)<2)) then (decide (0<=(num a2 1))&&decide ((num a2 1)<36)) else false) else false) else false)
theorem Zzd(a0 a1 a2:Array Value)(h_a0:WT PZ 37 a0)(h_a1:WT PZ 37 a1)(h_a2:WT PZ 53 a2)(hg:((Zft a0 a1 a2))=true):ansV PZ (mkΓ []) 1000 f49 [] [.g a0 37,.g a1 37,.g a2 53] []=some (.a (.g (Zaw a0 a1 a2) 37),.none,true):=by
 refine(Ybh 1000 a0 a1 a2).trans ?_;unfold Zft at hg;unfold Zaw;revert hg;generalize (decide (0<=(num a2 0)))=b2;intro hg;cases b2
 ·skip
  first|exact(nomatch (hg:false=true))|rfl
 ·skip
  revert hg;generalize (decide ((num a2 0)<2))=b4;intro hg;cases b4
  ·skip
   first|exact(nomatch (hg:false=true))|rfl
  ·skip
   revert hg;generalize (decide (0<=(num a2 1)))=b6;intro hg;cases b6
   ·skip
    first|exact(nomatch (hg:false=true))|rfl
   ·skip
    revert hg;generalize (decide ((num a2 1)<36))=b8;intro hg;cases b8
    ·skip
     first|exact(nomatch (hg:false=true))|rfl
    ·skip
     first|rfl|exact(nomatch (hg:false=true))
def Zly:Con:=λargs h=>match args,h with|[.g a0 37,.g a1 37,.g a2 53],[]=>some (.a (.g (Zaw a0 a1 a2) 37),.none,(Zft a0 a1 a2))|_,_=>none
theorem Zww:EntX PZ 49:=Zaj (fn:=f49)
theorem Yd6:Uac (md F) PZ 49 Zly:=(ansY (N:=1000) mKn f49 []).of (by
 intro ρ h w args vals r e hA hH hr;unfold Zly at hr;split at hr
 ·rename_i a0 a1 a2;obtain⟨rfl,rfl,hg2⟩:=BQi hr;exact Zzd a0 a1 a2 (hA.wt 0 rfl) (hA.wt 1 rfl) (hA.wt 2 rfl) hg2
 ·cases hr)
theorem Ysn(A C:Array Value)(t:Nat):∀k,∀q∈dfL A C t k,q.1=t/\q.2<k
 |0,q,h=>by cases h
 | k+1,q,h=>by
  rw[dfL]at h;cases hd:difB A C t k with
  |false=>rw[hd,Q2]at h;have:=Ysn A C t k q h;omega
  | true=>
   rw[hd,Q1]at h;rcases List.mem_append.1 h with h|h
   ·have:=Ysn A C t k q h;omega
   ·obtain rfl:=List.mem_singleton.1 h;exact⟨rfl,Nat.lt_succ_self k⟩
theorem dfT_in(A C:Array Value):∀t,∀q∈dfT A C t,q.1<t/\q.2<36
 |0,q,h=>by cases h
 |t+1,q,h=>by
  rw[dfT]at h;rcases List.mem_append.1 h with h|h
  ·have:=dfT_in A C t q h;omega
  ·have:=Ysn A C t 36 q h;omega
theorem Yt2:∀(l:List (Nat×Nat)) (i:Nat) (q:Nat×Nat) (j:Nat),l[i]?=some q->j<2->(l.flatMap duoL)[i*2+j]?=(duoL q)[j]?
 |[],i,q,j,h,_=>by simp at h
 |a::l,0,q,j,h,hj=>by
  simp only[List.getElem?_cons_zero,Q8]at h;subst h;rw[List.flatMap_cons,Nat.zero_mul,Nat.zero_add,List.getElem?_append_left (show j<2 from hj)]
 |a::l,i+1,q,j,h,hj=>by
  simp only[List.getElem?_cons_succ]at h;rw[List.flatMap_cons,List.getElem?_append_right (show 2<=(i+1)*2+j by omega)];rw[show (i+1)*2+j - (duoL a).length=i*2+j by show (i+1)*2+j - 2=_;omega];exact Yt2 l i q j h hj
def sptA(A C:Array Value)(j:Nat):Array Value:=(arrD (dfT A C 2)).extract (j*2) (j*2+2)
theorem spt_num{A C:Array Value}{j:Nat}(hj:j<(dfT A C 2).length):∃t k:Nat,t<2/\k<36/\num (sptA A C j) 0=(t:Int)/\num (sptA A C j) 1=(k:Int):=by
 have hq:=List.getElem?_eq_getElem hj;obtain⟨h1,h2⟩:=dfT_in A C 2 _ (List.mem_of_getElem? hq);generalize (dfT A C 2)[j]=q at hq h1 h2;have a0:=Yt2 _ j q 0 hq (by decide);have a1:=Yt2 _ j q 1 hq (by decide);have e0:(sptA A C j)[0]?=some (.int .i8 (IntKind.i8.wrap (q.1:Int))):=by unfold sptA;rw[jA,if_pos (by rw[Ygw];omega)];refine Eq.trans ?_ a0;simp[arrD]
 have e1:(sptA A C j)[1]?=some (.int .i8 (IntKind.i8.wrap (q.2:Int))):=by unfold sptA;rw[jA,if_pos (by rw[Ygw];omega)];refine Eq.trans ?_ a1;simp[arrD]
 refine⟨q.1,q.2,h1,h2,?_,?_⟩
 ·unfold num;rw[e0];exact IntWalk.i8_in _ (by omega)
 ·unfold num;rw[e1];exact IntWalk.i8_in _ (by omega)
def repA(A C:Array Value)(t k:Nat):Array Value:=spl A (3+t*180+k*5) (C.extract (3+t*180+k*5) (3+t*180+k*5+5)).toList
theorem Yof{A C:Array Value}(hA:A.size=363)(hC:C.size=363){t k:Nat}(ht:t<2)(hk:k<36)(i:Nat):(repA A C t k)[i]?=if 3+t*180+k*5<=i/\i<3+t*180+k*5+5 then C[i]? else A[i]?:=by
 have hl:(C.extract (3+t*180+k*5) (3+t*180+k*5+5)).toList.length=5:=by rw[Array.length_toList,Array.size_extract];omega
 unfold repA;rw[Zhd _ _ _ (by rw[hl];omega),hl]
 by_cases h:3+t*180+k*5<=i/\i<3+t*180+k*5+5
 ·rw[if_pos h,if_pos h,Array.getElem?_toList,jA,if_pos (by omega)];rw[show 3+t*180+k*5+(i - (3+t*180+k*5))=i by omega]
 ·rw[if_neg h,if_neg h]
theorem Ycm{A C:Array Value}(hA:A.size=363)(hC:C.size=363){t k:Nat}(ht:t<2)(hk:k<36){i:Nat}(hi:i<3):num (repA A C t k) i=num A i:=by unfold num;rw[Yof hA hC ht hk,if_neg (by omega)]
theorem rep_row{A C:Array Value}(hA:A.size=363)(hC:C.size=363){t k t' k':Nat}(ht:t<2)(hk:k<36)(ht':t'<2)(hk':k'<36):chR (repA A C t k) t' k'=if t'=t/\k'=k then chR C t' k' else chR A t' k':=by
 have hz:(repA A C t k).size=363:=by unfold repA;rw[Zif];exact hA
 refine Array.ext_getElem? λi=> ?_
 unfold chR;rw[jA,hz]
 by_cases h:t'=t/\k'=k
 ·rw[if_pos h,jA,hC];obtain⟨rfl,rfl⟩:=h;split
  ·rw[Yof hA hC ht hk,if_pos (by omega)]
  ·rfl
 ·rw[if_neg h,jA,hA];split
  ·rw[Yof hA hC ht hk,if_neg (by omega)]
  ·rfl
theorem rep_ok{A C:Array Value}(hA:A.size=363)(hC:C.size=363)(oA:okS A=true)(oC:okS C=true)(h0:num C 0=num A 0)(h1:num C 1=num A 1)(h2:num C 2=num A 2){t k:Nat}(ht:t<2)(hk:k<36):okS (repA A C t k)=true:=by
 have n0:=Ycm hA hC ht hk (i:=0) (by omega);have n1:=Ycm hA hC ht hk (i:=1) (by omega);have n2:=Ycm hA hC ht hk (i:=2) (by omega);unfold okS okD at oA oC|-
 rw[n0,n1,n2];simp only[Q7,List.all_eq_true]at oA oC|-
 refine⟨oA.1,oA.2.1,λk' hk'=> ?_⟩;have a:=oA.2.2 k' hk';have c:=oC.2.2 k' hk';have hk2:=List.mem_range.1 hk';have key:∀t',t'<2->fitS A t' k'=true->fitS C t' k'=true->fitS (repA A C t k) t' k'=true:=λt' ht' fa fc=>by
  unfold fitS at fa fc|-
  rw[n0,n1,n2,rep_row hA hC ht hk ht' hk2];rw[h0,h1,h2]at fc;split
  ·exact fc
  ·exact fa
 exact⟨key 0 (by omega) a.1 c.1,key 1 (by omega) a.2 c.2⟩
theorem rep_vf{A C D:Array Value}{n:Nat}(hA:A.size=363)(hC:C.size=363)(hv:vf A n D=true)(oC:okS C=true)(hl:Zah A C=true){t k:Nat}(ht:t<2)(hk:k<36)(c:Int):vf (repA A C t k) n D=true/\Zab c (repA A C t k)=Zab c A:=by
 have n0:=Ycm hA hC ht hk (i:=0) (by omega);have n1:=Ycm hA hC ht hk (i:=1) (by omega);have n2:=Ycm hA hC ht hk (i:=2) (by omega);obtain⟨h0,h1,h2⟩:=Yn2 hl;have hi:∀c,Zab c (repA A C t k)=Zab c A:=λc=>by unfold Zab;rw[n0,n1]
 have hd:∀c,Zaf c (repA A C t k)=Zaf c A:=λc=>by unfold Zaf;rw[n2]
 refine⟨?_,hi c⟩;unfold vf at hv|-
 rw[Q7,Q7]at hv;have hf:Ubb (repA A C t k) n D=Ubb A n D:=by unfold Ubb;exact congrArg (λp=>(List.range n).all p) (funext λj=>by unfold fndB;rw[hi,hd])
 rw[rep_ok hA hC hv.1 oC h0 h1 h2 ht hk,hf,hv.2.1,hv.2.2];rfl
def beB(z' z:Bool)(x' x:Int):Bool:= !z'&&(z||decide (x' > x))
def bsR(A C:Array Value)(j:Nat):Array Value:=Zai (sptA A C j) A C
def bst(P:Program)(A C:Array Value)(c b:Int)(D:Array Value)(n:Nat):Nat->Array Value×Bool×Int×Bool
 |0=>(#[.int .i8 0,.int .i8 0],finZ P A c b D n,finS P A c b D n,false)
 |j+1=>bif beB (finZ P (bsR A C j) c b D n) (bst P A C c b D n j).2.1 (finS P (bsR A C j) c b D n) (bst P A C c b D n j).2.2.1 then (sptA A C j,false,finS P (bsR A C j) c b D n,true) else bst P A C c b D n j
theorem bst_f(A C:Array Value)(c b:Int)(D:Array Value)(n:Nat):∀j,(bst PZ A C c b D n j).2.2.2=true->(bst PZ A C c b D n j).2.1=false
 |0,h=>by cases h
 |j+1,h=>by
  rw[bst]at h|-
  cases hb:beB (finZ PZ (bsR A C j) c b D n) (bst PZ A C c b D n j).2.1 (finS PZ (bsR A C j) c b D n) (bst PZ A C c b D n j).2.2.1 with|true=>rfl|false=>rw[hb,Q2]at h;exact bst_f A C c b D n j h
theorem Yqs(A C:Array Value)(c b:Int)(D:Array Value)(n:Nat):∀j,IntKind.i64.min<=(bst PZ A C c b D n j).2.2.1/\(bst PZ A C c b D n j).2.2.1<=IntKind.i64.max
 |0=>Yo2 A c b D n
 |j+1=>by
  rw[bst];cases beB (finZ PZ (bsR A C j) c b D n) (bst PZ A C c b D n j).2.1 (finS PZ (bsR A C j) c b D n) (bst PZ A C c b D n j).2.2.1 with|true=>exact Yo2 _ c b D n|false=>exact Yqs A C c b D n j
theorem bet_be(z' z:Bool)(x' x:Int):decide (betV z' z x' x<=(0:Int))=!beB z' z x' x:=by
 unfold betV beB;cases z'<;>cases z
 ·by_cases h:x' > x
  ·simp only[Q3 h,Q1,Q2,Bool.not_false,Bool.false_or,Bool.and_self];rfl
  ·by_cases h2:x'<x
   ·simp only[Q4 h,Q3 h2,Q1,Q2,Bool.not_false,Bool.false_or,Bool.and_false];rfl
   ·simp only[Q4 h,Q4 h2,Q2,Bool.not_false,Bool.false_or,Bool.and_false];rfl
 ·rfl
 ·rfl
 ·rfl
theorem bsR_ok{A C D:Array Value}{n:Nat}(hA:A.size=363)(hC:C.size=363)(hv:vf A n D=true)(oC:okS C=true)(hl:Zah A C=true){j:Nat}(hj:j<(dfT A C 2).length)(c:Int):vf (bsR A C j) n D=true/\Zab c (bsR A C j)=Zab c A/\Zcv (sptA A C j) A C=true:=by
 obtain⟨t,k,ht,hk,e0,e1⟩:=spt_num hj;obtain⟨h1,h2⟩:=rep_vf hA hC hv oC hl ht hk c;have e:bsR A C j=repA A C t k:=by unfold bsR Zai repA;rw[e0,e1,Q9,Q9]
 refine⟨by rw[e];exact h1,by rw[e];exact h2,?_⟩;unfold Zcv;rw[e0,e1,Q3 (show 0<=(t:Int) by omega),Q3 (show (t:Int)<2 by omega),Q3 (show 0<=(k:Int) by omega),Q3 (show (k:Int)<36 by omega)];rfl
end
end Go.Proofs.YtdfefaanfiheoaaGreatDoor
