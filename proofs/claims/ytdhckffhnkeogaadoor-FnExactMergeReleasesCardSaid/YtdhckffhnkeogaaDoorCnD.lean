/- MergeReleases, both sides. -/
import Derived.Test.YtdhckffhnkeogaaDoorProg
import Derived.Test.YtdhckffhnkeogaaDoorCnC
set_option linter.unusedVariables false
set_option linter.unusedSimpArgs false
namespace Go.Proofs.YtdhckffhnkeogaaDoor
open Tryd (f6 f9 f23)
open Go.ChangeShapes Go.WideShapes Go.ChangeAt Go.RowKit Ve Vc
open Tryd (prog)
open IntKind (i64)
set_option maxRecDepth 100000
noncomputable section
variable {mn:Md}
theorem Ztx {p:Array Value} (hp:WT prog 35 p):i64.wrap (num p 0)=num p 0∧i64.wrap (num p 1)=num p 1:=by
 obtain ⟨-,b0⟩:=hp.int (o:=0) (k:=.i8) (by kernel_rfl)
 obtain ⟨-,b1⟩:=hp.int (o:=1) (k:=.i8) (by kernel_rfl)
 have m8:IntKind.i8.min = -128∧IntKind.i8.max=127:=⟨rfl,rfl⟩
 exact ⟨IntWalk.i64_in _ (by omega),IntWalk.i64_in _ (by omega)⟩
theorem Ydz {S p A:Array Value} {n:Nat} (hp:WT prog 35 p) (h:Ua0 S p n A=true):(0≤num p 0∧num p 0≤1)∧1≤num p 1∧num p 1≤8:=by
 unfold Ua0 at h
 rw [(Ztx hp).1,(Ztx hp).2] at h
 simp only [Q7] at h
 exact ⟨Zxh h.1,Zxh h.2.1⟩
theorem Ycl {S p:Array Value} (hS:WT prog 42 S) (hp:WT prog 35 p):(voyV prog S p).extract 2 (2+363)=S∧num (voyV prog S p) 0=num p 0∧num (voyV prog S p) 1=num p 1:=by
 obtain ⟨h1,h2⟩:=Zza (S:=S) (p:=p) (Yed hS)
 have e0:∀ i,i<2→num (voyV prog S p) i=num ((voyV prog S p).extract 0 (0+2)) i:=fun i hi=>by rw [Zpx (by omega),Nat.zero_add]
 refine ⟨h1, ?_, ?_⟩
 ·rw [e0 0 (by omega)]
  show num ((voyV prog S p).extract 0 (0+2)) 0=_
  unfold voyV
  rw [h2]
  exact (Ztx hp).1
 ·rw [e0 1 (by omega)]
  unfold voyV
  rw [h2]
  exact (Ztx hp).2
theorem Zrw {S p A:Array Value} {n:Nat} (hp:WT prog 35 p) (hA:∀ k,k<n→WT prog 57 (A.extract (k*3) (k*3+3))) (h:Ua0 S p n A=true):n≤12∧wsum A n≤1000∧∀ k,k<n→(Zaq (i64.wrap (rt A k).1) S=true∧Zab (i64.wrap (rt A k).2.1) 0 (i64.wrap (i64.wrap (num p 1) - 1))=true)∧1≤(rt A k).2.2∧(rt A k).2.2≤200:=by
 unfold Ua0 at h
 simp only [Q7,Bool.not_eq_true',decide_eq_false_iff_not,decide_eq_true_eq] at h
 obtain ⟨-,-,hn,hr,hs⟩:=h
 refine ⟨by omega,hs,fun k hk=> ?_⟩
 have hb:relB S (i64.wrap (num p 1)) (A.extract (k*3) (k*3+3))=true:=(Zn8 S _ n A).1 hr k hk
 obtain ⟨-,b2⟩:=(hA k hk).int (o:=2) (k:=.i16) (by kernel_rfl)
 have m16:IntKind.i16.min = -32768∧IntKind.i16.max=32767:=⟨rfl,rfl⟩
 unfold relB at hb
 rw [IntWalk.i64_in (num (A.extract (k*3) (k*3+3)) 2) (by omega)] at hb
 simp only [Q7] at hb
 exact ⟨⟨hb.1,hb.2.1⟩,Zxh hb.2.2⟩
theorem Yd4 {A:Array Value} {n:Nat} (hn:n≤12) (hr:∀ k,k<n→1≤(rt A k).2.2∧(rt A k).2.2≤200):∀ j,j≤n→wsum A j=sumB (mgL (rt A) j)
 | 0,_=>rfl
 | j+1,hj=>by
  have ih:=Yd4 hn hr j (by omega)
  have b1:=Zyw hr j (by omega)
  have b2:=hr j (by omega)
  have e:num (A.extract (j*3) (j*3+3)) 2=(rt A j).2.2:=rfl
  show _=sumB (addL (mgL (rt A) j) (rt A j))
  rw [wsum,ih,e,Yfb,IntWalk.i64_in (rt A j).2.2 (by omega),IntWalk.i64_in _ (by omega)]
theorem planM {S p p' A:Array Value} {n:Nat} (hp:WT prog 35 p) (hA:∀ k,k<n→WT prog 57 (A.extract (k*3) (k*3+3))) (h:Ua0 S p n A=true) (e0:num p' 0=num p 0) (e1:num p' 1=num p 1):Ua0 S p' (mgL (rt A) n).length (arrL (mgL (rt A) n)) = !bdL (rt A) n:=by
 obtain ⟨hn,hs,hr⟩:=Zrw hp hA h
 have hb:=fun k hk=>(hr k hk).2
 have hq:=mg_all (r:=rt A) (Q:=fun a b=>Zaq (i64.wrap a) S=true∧Zab (i64.wrap b) 0 (i64.wrap (i64.wrap (num p 1) - 1))=true) (fun k hk=>(hr k hk).1) n (Nat.le_refl _)
 have hpos:=Zzw (r:=rt A) (fun k hk=>(hb k hk).1) n (Nat.le_refl _)
 have hmx:=mx_bd (r:=rt A) (n:=n) (fun k hk=>by have:=hb k hk;omega) n (Nat.le_refl _)
 have hw:=Yd4 hn hb n (Nat.le_refl _)
 have hlen:=Zwb (rt A) n
 rw [← hmx]
 generalize mgL (rt A) n=L at hq hpos hw hlen⊢
 have hsum:wsum (arrL L) L.length≤1000:=by
  rw [Yb9 hpos (by omega) _ (Nat.le_refl _),List.take_length]
  omega
 have hrel:Ucc S (i64.wrap (num p 1)) L.length (arrL L) = !mxL L:=by
  rw [Bool.eq_iff_iff,Zn8,Bool.not_eq_true',← Bool.not_eq_true,Ye6]
  have key:∀ (i:Nat) (x:R3),L[i]? = some x→relB S (i64.wrap (num p 1)) ((arrL L).extract (i*3) (i*3+3))=decide (x.2.2≤200):=fun i x hx=>by
   obtain ⟨n0,n1,n2⟩:=Zr2 hx
   have f0:num ((arrL L).extract (i*3) (i*3+3)) 0=x.1:=(Zpx (by omega)).trans n0
   have f1:num ((arrL L).extract (i*3) (i*3+3)) 1=x.2.1:=(Zpx (by omega)).trans n1
   have f2:num ((arrL L).extract (i*3) (i*3+3)) 2=x.2.2:=(Zpx (by omega)).trans n2
   have p1:=hpos i x hx
   have p2:=(Yby hpos hx).1
   unfold relB
   rw [f0,f1,f2,(hq i x hx).1,(hq i x hx).2,in_eq,IntWalk.i64_in x.2.2 (by omega),Bool.true_and,Bool.true_and]
   exact decide_eq_decide.2 ⟨fun h=>h.2,fun h=>⟨p1,h⟩⟩
  constructor
  ·rintro hall ⟨i,x,hx,hg⟩
   obtain ⟨hi,-⟩:=List.getElem?_eq_some_iff.1 hx
   have:=of_decide_eq_true ((key i x hx).symm.trans (hall i hi))
   omega
  ·intro hno i hi
   have hx:=List.getElem?_eq_getElem hi
   refine (key i _ hx).trans (Q3 ?_)
   by_cases hc:L[i].2.2≤200
   ·exact hc
   ·exact absurd ⟨i,_,hx,by omega⟩ hno
 unfold Ua0 at h⊢
 simp only [Q7] at h
 have e12:decide ((L.length:Int) > 12)=false:=Q4 (by omega)
 rw [e0,e1,h.1,h.2.1,e12,hrel,Q3 hsum,Bool.and_true]
 rfl
def codM (S p:Array Value) (n:Nat) (A:Array Value):Int:=bif okS S&&Ua0 S p n A then 3 else 1
def okM (S p:Array Value) (n:Nat) (A:Array Value):Bool:=(okS S&&Ua0 S p n A) && !bdL (rt A) n
def Zat:Cons:=(mkΓ [(16,con Zh5),(17,con Zib)])
def Zcl (a0 a1:Array Value) (bQ:Option (Option Addr)) (nQ:Nat) (aQ:Array Value) (y0_8:Int) (m0_b:Nat) (y0_b:Array Value):St:=(⟨.a (.g a0 42) :: .a (.r a1 35 [(2,0)]) :: .a (.w 1) :: .a (.w 2) :: .a (.w 3) :: .a (.i .i64 (0:Int)) :: .a (.i .i64 (Zao (0:Int) a0 a1 bQ nQ aQ)) :: .a (.w 10) :: .a (.i .i64 (y0_8)) :: .a (.w 18) :: .a (.i .i64 (-1:Int)) :: .a (.i .i64 (0:Int)) :: .a (.i .i64 (Zao (0:Int) a0 a1 bQ nQ aQ)) :: .a (.i .i64 (Zao (0:Int) a0 a1 bQ nQ aQ)) :: .a (.b (((Zao (0:Int) a0 a1 bQ nQ aQ) != (0:Int)))) :: .a (.u) :: .a (.u) :: .a (.p 2 (0) 22) :: .a (.i .i8 (num a1 0)) :: .a (.p 2 (1) 22) :: .a (.i .i8 (num a1 1)) :: .a (.r #[.int .i8 (num a1 0),.int .i8 (num a1 1),.slice none 0 0] 35 []) :: .a (.i .i64 (y0_8)) :: .a (.p 2 (2) 33) :: .a (.l 0) :: .a (.i .i64 (nQ:Int)) :: .a (.b (decide (y0_8<(nQ:Int)))) :: .a (.x) :: .a (.x) :: .a (.p 2 (2) 33) :: .a (.l 0) :: .a (.i .i64 (y0_8)) :: .a (.q 0 (((y0_8).toNat*3)) 57) :: .a (.g (aQ.extract ((y0_8).toNat*3) (((y0_8).toNat*3)+3)) 57)::xs 47 (us 4 ([])),[.sl (.came bQ) nQ aQ 57,.row a0 42,.one (.r a1 35 [(2,0)]) 35,.one (.r #[.int .i8 (0:Int),.int .i8 (0:Int),.slice none 0 0] 35 []) 35,.no,.no,.no,.no,.no,.no,.one (.r #[.int .i8 (num a1 0),.int .i8 (num a1 1),.slice none 0 0] 35 [(2,12)]) 35,.no,.sl .own m0_b y0_b 57,.no,.no,.no,.no,.no,.row (aQ.extract ((y0_8).toNat*3) (((y0_8).toNat*3)+3)) 57,.no],[18,12]⟩:St)
def Zbw:Int×Int→LS
 | (y1_10,y1_11)=>([.a (.i .i64 (y1_10)),.a (.i .i64 (y1_11))],[])
def Zdc:Int×Int→Exit×LS
 | t=>((.exit 2),Zbw t)
def Zbe (P : Program) (a0 a1 : Array Value) (bQ : Option (Option Addr)) (nQ : Nat) (aQ : Array Value) (y0_8 : Int) (m0_b : Nat) (y0_b : Array Value) : Int × Int → Option (Stp (Int × Int) (Int × Int))
 | (y1_10, y1_11) => bif decide (y1_11 < (m0_b : Int)) then (bif (decide (0 ≤ y1_11) && decide (y1_11 < (m0_b : Int))) then (bif ((num y0_b (((y1_11).toNat * 3) + 0)) == (num (aQ.extract ((y0_8).toNat * 3) (((y0_8).toNat * 3) + 3)) 0)) then (bif (decide (0 ≤ y1_11) && decide (y1_11 < (m0_b : Int))) then (bif ((num y0_b (((y1_11).toNat * 3) + 1)) == (num (aQ.extract ((y0_8).toNat * 3) (((y0_8).toNat * 3) + 3)) 1)) then (some (.more (y1_11, (i64.wrap (y1_11 + (1 : Int))))))
      else (some (.more (y1_10, (i64.wrap (y1_11 + (1 : Int)))))))
     else (none))
    else (some (.more (y1_10, (i64.wrap (y1_11 + (1 : Int)))))))
   else (none))
  else (some (.done (y1_10, y1_11)))
noncomputable abbrev cKCnD6:=codeOf f6
def Ubj:=(Uaf cKCnD6 [([8],[2000010,57]),([10,11],[])]).1
theorem Zfz (N:Nat) (a0 a1:Array Value) (bQ:Option (Option Addr)) (nQ:Nat) (aQ:Array Value) (y0_8:Int) (m0_b:Nat) (y0_b:Array Value):∀ t:Int×Int,Uam prog Zat N (cAt cKCnD6 [1,1,1,0,1,0,0,1,0,0,1,1,0,1,0,0]) (pAt Ubj [1,1,1,0,1,0,1,0,1,1,0,1,0]) [10,11] [] (Zcl a0 a1 bQ nQ aQ y0_8 m0_b y0_b) (Zbw t)=mapS Zbw Zdc (Zbe prog a0 a1 bQ nQ aQ y0_8 m0_b y0_b t):=by
 rintro ⟨y1_10,y1_11⟩
 refine Eq.trans (b:=(bif decide (y1_11<(m0_b:Int)) then (bif (decide (0≤y1_11)&&decide (y1_11<(m0_b:Int))) then (bif ((num y0_b (((y1_11).toNat*3)+0))==(num (aQ.extract ((y0_8).toNat*3) (((y0_8).toNat*3)+3)) 0)) then (bif (decide (0≤y1_11)&&decide (y1_11<(m0_b:Int))) then (bif ((num y0_b (((y1_11).toNat*3)+1))==(num (aQ.extract ((y0_8).toNat*3) (((y0_8).toNat*3)+3)) 1)) then (some (.more ([.a (.i .i64 (y1_11)),.a (.i .i64 (i64.wrap (y1_11+(1:Int))))],[])))
      else (some (.more ([.a (.i .i64 (y1_10)),.a (.i .i64 (i64.wrap (y1_11+(1:Int))))],[]))))
     else (none))
    else (some (.more ([.a (.i .i64 (y1_10)),.a (.i .i64 (i64.wrap (y1_11+(1:Int))))],[]))))
   else (none))
  else (some (.done ((.exit 2),([.a (.i .i64 (y1_10)),.a (.i .i64 (y1_11))],[])))))) (by kernel_rfl) ?_
 simp only [Zbe,Zbp,Zbo,Zbm,Zbn,Zbw,Zdc]
def Zcj (a0 a1:Array Value) (bQ:Option (Option Addr)) (nQ:Nat) (aQ:Array Value):St:=(⟨.a (.g a0 42) :: .a (.r a1 35 [(2,0)]) :: .a (.w 1) :: .a (.w 2) :: .a (.w 3) :: .a (.i .i64 (0:Int)) :: .a (.i .i64 (Zao (0:Int) a0 a1 bQ nQ aQ)) :: .a (.w 10) :: .a (.i .i64 (0:Int))::us 3 (.a (.i .i64 (Zao (0:Int) a0 a1 bQ nQ aQ)) :: .a (.i .i64 (Zao (0:Int) a0 a1 bQ nQ aQ)) :: .a (.b (((Zao (0:Int) a0 a1 bQ nQ aQ) != (0:Int)))) :: .a (.u) :: .a (.u) :: .a (.p 2 (0) 22) :: .a (.i .i8 (num a1 0)) :: .a (.p 2 (1) 22) :: .a (.i .i8 (num a1 1)) :: .a (.r #[.int .i8 (num a1 0),.int .i8 (num a1 1),.slice none 0 0] 35 [])::us 63 ([])),[.sl (.came bQ) nQ aQ 57,.row a0 42,.one (.r a1 35 [(2,0)]) 35,.one (.r #[.int .i8 (0:Int),.int .i8 (0:Int),.slice none 0 0] 35 []) 35,.no,.no,.no,.no,.no,.no,.one (.r #[.int .i8 (num a1 0),.int .i8 (num a1 1),.slice none 0 0] 35 [(2,12)]) 35,.no,.sl .own 0 (#[]:Array Value) 57],[10,10]⟩:St)
def Za1:Int×Nat×Array Value→LS
 | (y0_8,m0_b,y0_b)=>([.a (.i .i64 (y0_8))],[.sl .own m0_b y0_b 57])
def Zbx:Int×Nat×Array Value→Exit×LS
 | t=>((.exit 0),Za1 t)
def Zb0 (P:Program) (N:Nat) (a0 a1:Array Value) (bQ:Option (Option Addr)) (nQ:Nat) (aQ:Array Value) (y0_8:Int) (m0_b:Nat) (y0_b:Array Value) (z1_10:Int) (z1_11:Int):Option (Stp (Int×Nat×Array Value) (Int×Nat×Array Value)):=bif decide (z1_10<(0:Int)) then (bif (Nat.ble ((m0_b+1)*bytesOf prog 57) 140737488355328) then (bif (Uas (#[.int .i8 (num a1 0),.int .i8 (num a1 1),.slice none 0 0]:Array Value) (#[.int .i8 (num a1 0),.int .i8 (num a1 1),.slice none 0 0]:Array Value)) then (some (.more ((i64.wrap (y0_8+(1:Int))),(m0_b+1),(y0_b++(spl (#[.int .i8 (0:Int),.int .i8 (0:Int),.int .i16 (0:Int)]:Array Value) 0 (aQ.extract ((y0_8).toNat*3) (((y0_8).toNat*3)+3)).toList)))))
        else (none))
      else (none))
    else (bif (decide (0≤z1_10)&&decide (z1_10<(m0_b:Int))) then (bif (decide (0≤z1_10)&&decide (z1_10<(m0_b:Int))) then (bif (Uas (#[.int .i8 (num a1 0),.int .i8 (num a1 1),.slice none 0 0]:Array Value) (#[.int .i8 (num a1 0),.int .i8 (num a1 1),.slice none 0 0]:Array Value)) then (some (.more ((i64.wrap (y0_8+(1:Int))),m0_b,(y0_b.setIfInBounds (((z1_10).toNat*3)+2) (.int .i16 (IntKind.i16.wrap ((num y0_b (((z1_10).toNat*3)+2))+(num (aQ.extract ((y0_8).toNat*3) (((y0_8).toNat*3)+3)) 2))))))))
          else (none))
        else (none))
      else (none))
def Ues (N:Nat) (a1:Array Value):=(Uaz 2 (kSeq (veC prog Zat N (cAt cKCnD6 [1,1,1,0,1,0,0,1,0,0,1,1,1]) (pAt Ubj [1,1,1,0,1,0,1,0,1,1,1]) (Stp LS (Exit×LS))) (Uaz 1 (kSeq (veC prog Zat N (cAt cKCnD6 [1,1,1,0,1,0,0,1,1]) (pAt Ubj [1,1,1,0,1,0,1,1]) (Stp LS (Exit×LS))) (Ub2 Uas (.r #[.int .i8 (num a1 0),.int .i8 (num a1 1),.slice none 0 0] 35 [(2,12)]) 12 [8] [] 10 57)))))
theorem Zjs (N:Nat) (a0 a1:Array Value) (bQ:Option (Option Addr)) (nQ:Nat) (aQ:Array Value) (y0_8:Int) (m0_b:Nat) (y0_b:Array Value) (z1_10:Int) (z1_11:Int):(Ues N a1) (.exit 2) (left (writes (cAt cKCnD6 [1,1,1,0,1,0,0,1,0,0,1,1,0,1,0,0])) [10,11] [] (Zcl a0 a1 bQ nQ aQ y0_8 m0_b y0_b) ([.a (.i .i64 (z1_10)),.a (.i .i64 (z1_11))],[]))=mapS Za1 Zbx (Zb0 prog N a0 a1 bQ nQ aQ y0_8 m0_b y0_b z1_10 z1_11):=by
  refine Eq.trans (b:=(bif decide (z1_10<(0:Int)) then (bif (Nat.ble ((m0_b+1)*bytesOf prog 57) 140737488355328) then (bif (Uas (#[.int .i8 (num a1 0),.int .i8 (num a1 1),.slice none 0 0]:Array Value) (#[.int .i8 (num a1 0),.int .i8 (num a1 1),.slice none 0 0]:Array Value)) then (some (.more ([.a (.i .i64 (i64.wrap (y0_8+(1:Int))))],[.sl .own (m0_b+1) (y0_b++(spl (#[.int .i8 (0:Int),.int .i8 (0:Int),.int .i16 (0:Int)]:Array Value) 0 (aQ.extract ((y0_8).toNat*3) (((y0_8).toNat*3)+3)).toList)) 57])))
        else (none))
      else (none))
    else (bif (decide (0≤z1_10)&&decide (z1_10<(m0_b:Int))) then (bif (decide (0≤z1_10)&&decide (z1_10<(m0_b:Int))) then (bif (Uas (#[.int .i8 (num a1 0),.int .i8 (num a1 1),.slice none 0 0]:Array Value) (#[.int .i8 (num a1 0),.int .i8 (num a1 1),.slice none 0 0]:Array Value)) then (some (.more ([.a (.i .i64 (i64.wrap (y0_8+(1:Int))))],[.sl .own m0_b (y0_b.setIfInBounds (((z1_10).toNat*3)+2) (.int .i16 (IntKind.i16.wrap ((num y0_b (((z1_10).toNat*3)+2))+(num (aQ.extract ((y0_8).toNat*3) (((y0_8).toNat*3)+3)) 2))))) 57])))
          else (none))
        else (none))
      else (none)))) (by kernel_rfl) ?_
  simp only [Zb0,Zbp,Zbo,Zbm,Zbn,Za1,Zbx]
theorem Znz (N:Nat) (a0 a1:Array Value) (bQ:Option (Option Addr)) (nQ:Nat) (aQ:Array Value) (y0_8:Int) (m0_b:Nat) (y0_b:Array Value):Uak (Uaa (Uam prog Zat N (cAt cKCnD6 [1,1,1,0,1,0,0,1,0,0,1,1,0,1,0,0]) (pAt Ubj [1,1,1,0,1,0,1,0,1,1,0,1,0]) [10,11] [] (Zcl a0 a1 bQ nQ aQ y0_8 m0_b y0_b)) N ([.a (.i .i64 (-1:Int)),.a (.i .i64 (0:Int))],[])) (fun e s=>(Ues N a1) e (left (writes (cAt cKCnD6 [1,1,1,0,1,0,0,1,0,0,1,1,0,1,0,0])) [10,11] [] (Zcl a0 a1 bQ nQ aQ y0_8 m0_b y0_b) s))=mapS Za1 Zbx (Uan (Uaa (Zbe prog a0 a1 bQ nQ aQ y0_8 m0_b y0_b) N ((-1:Int),(0:Int))) (fun x=>Zb0 prog N a0 a1 bQ nQ aQ y0_8 m0_b y0_b x.1 x.2)):=by
 rw [Zwg Za1 Zbx]
 first
 | (have h:=Zby (α:=Stp LS (Exit×LS)) Zbw Zdc _ _ (Zfz N a0 a1 bQ nQ aQ y0_8 m0_b y0_b) N ((-1:Int),(0:Int));refine h _ _ ?_)
 | (have h:=Zby (α:=Stp BS (Exit×BS)) Zbw Zdc _ _ (Zfz N a0 a1 bQ nQ aQ y0_8 m0_b y0_b) N ((-1:Int),(0:Int));refine h _ _ ?_)
 | (have h:=Zby (α:=Stp LS ((Exit×LS) ⊕ (SV×Eff×Bool))) Zbw Zdc _ _ (Zfz N a0 a1 bQ nQ aQ y0_8 m0_b y0_b) N ((-1:Int),(0:Int));refine h _ _ ?_)
 intro x;exact Zjs N a0 a1 bQ nQ aQ y0_8 m0_b y0_b x.1 x.2
def Za0 (P:Program) (N:Nat) (a0 a1:Array Value) (bQ:Option (Option Addr)) (nQ:Nat) (aQ:Array Value):Int×Nat×Array Value→Option (Stp (Int×Nat×Array Value) (Int×Nat×Array Value))
 | (y0_8,m0_b,y0_b)=>bif decide (y0_8<(nQ:Int)) then (bif (decide (0≤y0_8)&&decide (y0_8<(nQ:Int))) then (Uan (Uaa (Zbe P a0 a1 bQ nQ aQ y0_8 m0_b y0_b) N ((-1:Int),(0:Int))) (fun x=>Zb0 P N a0 a1 bQ nQ aQ y0_8 m0_b y0_b x.1 x.2))
   else (none))
  else (bif (Uas (#[.int .i8 (num a1 0),.int .i8 (num a1 1),.slice none 0 0]:Array Value) (#[.int .i8 (num a1 0),.int .i8 (num a1 1),.slice none 0 0]:Array Value)) then (some (.done (y0_8,m0_b,y0_b)))
   else (none))
theorem Zn0 (N:Nat) (a0 a1:Array Value) (bQ:Option (Option Addr)) (nQ:Nat) (aQ:Array Value):∀ t:Int×Nat×Array Value,Ufs prog Zat N (cAt cKCnD6 [1,1,1,0,1,0,0]) (pAt Ubj [1,1,1,0,1,0]) [8] [] 10 57 12 (Zcj a0 a1 bQ nQ aQ) (Za1 t)=mapS Za1 Zbx (Za0 prog N a0 a1 bQ nQ aQ t):=by
 rintro ⟨y0_8,m0_b,y0_b⟩
 refine Eq.trans (b:=(bif decide (y0_8<(nQ:Int)) then (bif (decide (0≤y0_8)&&decide (y0_8<(nQ:Int))) then (Uak (Uaa (Uam prog Zat N (cAt cKCnD6 [1,1,1,0,1,0,0,1,0,0,1,1,0,1,0,0]) (pAt Ubj [1,1,1,0,1,0,1,0,1,1,0,1,0]) [10,11] [] (Zcl a0 a1 bQ nQ aQ y0_8 m0_b y0_b)) N ([.a (.i .i64 (-1:Int)),.a (.i .i64 (0:Int))],[])) (fun e s=>(Ues N a1) e (left (writes (cAt cKCnD6 [1,1,1,0,1,0,0,1,0,0,1,1,0,1,0,0])) [10,11] [] (Zcl a0 a1 bQ nQ aQ y0_8 m0_b y0_b) s)))
   else (none))
  else (bif (Uas (#[.int .i8 (num a1 0),.int .i8 (num a1 1),.slice none 0 0]:Array Value) (#[.int .i8 (num a1 0),.int .i8 (num a1 1),.slice none 0 0]:Array Value)) then (some (.done ((.exit 0),([.a (.i .i64 (y0_8))],[.sl .own m0_b y0_b 57]))))
   else (none)))) (by kernel_rfl) ?_
 simp only [Znz N a0 a1 bQ nQ aQ y0_8 m0_b y0_b,Za0,Zbp,Zbo,Zbm,Zbn,Za1,Zbx]
def Zco (P:Program) (N:Nat) (a0 a1:Array Value) (bQ:Option (Option Addr)) (nQ:Nat) (aQ:Array Value) (z0_8:Int) (p0_b:Nat) (z0_b:Array Value):Option (SV×Eff×Bool):=bif (!((Ua0 a0 (#[.int .i8 (num a1 0),.int .i8 (num a1 1),.slice none 0 0]:Array Value) p0_b z0_b))) then (some (.t [.r #[.int .i8 (0:Int),.int .i8 (0:Int),.slice none 0 0] 35 [],.i .i64 (3:Int)],.none,true))
  else (some (.t [.r #[.int .i8 (num a1 0),.int .i8 (num a1 1),.slice none 0 0] 35 [(2,HOLE)],.i .i64 (0:Int)],.newS (some 1000000) p0_b z0_b 57,true))
def Uem (N:Nat) (bQ:Option (Option Addr)) (nQ:Nat) (aQ:Array Value):=(Uaz 0 (kSeq (veC prog Zat N (cAt cKCnD6 [1,1,1,1]) (pAt Ubj [1,1,1,1]) (SV×Eff×Bool)) (finK prog [.sl (.came bQ) nQ aQ 57] [.cell 4 35,.tmp 5])))
theorem Zjr (N:Nat) (a0 a1:Array Value) (bQ:Option (Option Addr)) (nQ:Nat) (aQ:Array Value) (z0_8:Int) (p0_b:Nat) (z0_b:Array Value):(Uem N bQ nQ aQ) (.exit 0) (left (writes (cAt cKCnD6 [1,1,1,0,1,0,0])) [8] [12] (Zcj a0 a1 bQ nQ aQ) ([.a (.i .i64 (z0_8))],[.sl .own p0_b z0_b 57]))=Zco prog N a0 a1 bQ nQ aQ z0_8 p0_b z0_b:=by
 refine Eq.trans (b:=(bif (!((Ua0 a0 (#[.int .i8 (num a1 0),.int .i8 (num a1 1),.slice none 0 0]:Array Value) p0_b z0_b))) then (some (.t [.r #[.int .i8 (0:Int),.int .i8 (0:Int),.slice none 0 0] 35 [],.i .i64 (3:Int)],.none,true))
  else (some (.t [.r #[.int .i8 (num a1 0),.int .i8 (num a1 1),.slice none 0 0] 35 [(2,HOLE)],.i .i64 (0:Int)],.newS (some 1000000) p0_b z0_b 57,true)))) (by kernel_rfl) ?_
 rfl
theorem Zmy (N:Nat) (a0 a1:Array Value) (bQ:Option (Option Addr)) (nQ:Nat) (aQ:Array Value):Uak (Uaa (Ufs prog Zat N (cAt cKCnD6 [1,1,1,0,1,0,0]) (pAt Ubj [1,1,1,0,1,0]) [8] [] 10 57 12 (Zcj a0 a1 bQ nQ aQ)) N ([.a (.i .i64 (0:Int))],[.sl .own 0 (#[]:Array Value) 57])) (fun e s=>(Uem N bQ nQ aQ) e (left (writes (cAt cKCnD6 [1,1,1,0,1,0,0])) [8] [12] (Zcj a0 a1 bQ nQ aQ) s))=Uan (Uaa (Za0 prog N a0 a1 bQ nQ aQ) N ((0:Int),0,(#[]:Array Value))) (fun x=>Zco prog N a0 a1 bQ nQ aQ x.1 x.2.1 x.2.2):=by
 refine Zby Za1 Zbx _ _ (Zn0 N a0 a1 bQ nQ aQ) N ((0:Int),0,(#[]:Array Value)) _ _ ?_
 intro x;exact Zjr N a0 a1 bQ nQ aQ x.1 x.2.1 x.2.2
theorem Zhz (N:Nat) (a0 a1:Array Value) (bQ:Option (Option Addr)) (nQ:Nat) (aQ:Array Value):ansV prog Zat N f6 [([8],[2000010,57]),([10,11],[])] [.g a0 42,.r a1 35 [(2,0)]] [.sl (.came bQ) nQ aQ 57]=(bif ((Zao (0:Int) a0 a1 bQ nQ aQ) != (0:Int)) then (some (.t [.r #[.int .i8 (0:Int),.int .i8 (0:Int),.slice none 0 0] 35 [],.i .i64 (Zao (0:Int) a0 a1 bQ nQ aQ)],.none,true))
  else (Uan (Uaa (Za0 prog N a0 a1 bQ nQ aQ) N ((0:Int),0,(#[]:Array Value))) (fun x=>Zco prog N a0 a1 bQ nQ aQ x.1 x.2.1 x.2.2))):=by
 refine Eq.trans (b:=(bif ((Zao (0:Int) a0 a1 bQ nQ aQ) != (0:Int)) then (some (.t [.r #[.int .i8 (0:Int),.int .i8 (0:Int),.slice none 0 0] 35 [],.i .i64 (Zao (0:Int) a0 a1 bQ nQ aQ)],.none,true))
  else (Uak (Uaa (Ufs prog Zat N (cAt cKCnD6 [1,1,1,0,1,0,0]) (pAt Ubj [1,1,1,0,1,0]) [8] [] 10 57 12 (Zcj a0 a1 bQ nQ aQ)) N ([.a (.i .i64 (0:Int))],[.sl .own 0 (#[]:Array Value) 57])) (fun e s=>(Uem N bQ nQ aQ) e (left (writes (cAt cKCnD6 [1,1,1,0,1,0,0])) [8] [12] (Zcj a0 a1 bQ nQ aQ) s))))) (by kernel_rfl) ?_
 simp only [Zmy N a0 a1 bQ nQ aQ]
theorem Zlj (a0 a1:Array Value) (bQ:Option (Option Addr)) (nQ:Nat) (aQ:Array Value) (k:Nat) (L:List R3) (hL:L.length≤12):Uaa (Zbe prog a0 a1 bQ nQ aQ (k:Int) L.length (arrL L)) 18446744073709551616 ((-1:Int),(0:Int))=some (Uct L (rt aQ k) L.length,(L.length:Int)):=
 Zeo (g:=Zbe prog a0 a1 bQ nQ aQ (k:Int) L.length (arrL L)) (fun i=>(Uct L (rt aQ k) i,(i:Int))) (m:=L.length) (x:=(Uct L (rt aQ k) L.length,(L.length:Int))) (N:=18446744073709551616) (fun i hi=>by
  have g1:decide ((i:Int)<(L.length:Int))=true:=Q3 (by omega)
  have g0:decide (0≤(i:Int))=true:=Q3 (by omega)
  have g3:i64.wrap ((i:Int)+1)=((i+1:Nat):Int):=by rw [IntWalk.i64_in _ (by omega)];omega
  have hx:=List.getElem?_eq_getElem hi
  obtain ⟨n0,n1,-⟩:=Zr2 hx
  have f0:num (arrL L) (i*3+0)=L[i].1:=n0
  have q0:num (aQ.extract (k*3) (k*3+3)) 0=(rt aQ k).1:=rfl
  have q1:num (aQ.extract (k*3) (k*3+3)) 1=(rt aQ k).2.1:=rfl
  have ha:atQ L (rt aQ k) i=((L[i].1==(rt aQ k).1)&&(L[i].2.1==(rt aQ k).2.1)):=by unfold atQ;rw [hx];rfl
  rw [Uct,ha]
  simp only [Zbe,g1,g0,g3,Q9,f0,n1,q0,q1,Bool.and_self,Q1]
  cases (L[i].1==(rt aQ k).1)<;>cases (L[i].2.1==(rt aQ k).2.1)<;>rfl) (by
  have g1:decide ((L.length:Int)<(L.length:Int))=false:=Q4 (by omega)
  simp only [Zbe,g1,Q2]) (by omega)
theorem Zho (a0 a1:Array Value) (bQ:Option (Option Addr)) (nQ:Nat) (aQ:Array Value) (hA:∀ k,k<nQ→WT prog 57 (aQ.extract (k*3) (k*3+3))) (hn:nQ≤12) (hr:∀ k,k<nQ→1≤(rt aQ k).2.2∧(rt aQ k).2.2≤200):Uaa (Za0 prog 18446744073709551616 a0 a1 bQ nQ aQ) 18446744073709551616 ((0:Int),0,(#[]:Array Value))=some ((nQ:Int),(mgL (rt aQ) nQ).length,arrL (mgL (rt aQ) nQ)):=by
 have hby:bytesOf prog 57≤1000:=Nat.le_of_ble_eq_true (by kernel_rfl)
 exact Zeo (g:=Za0 prog 18446744073709551616 a0 a1 bQ nQ aQ) (fun k=>((k:Int),(mgL (rt aQ) k).length,arrL (mgL (rt aQ) k))) (m:=nQ) (x:=((nQ:Int),(mgL (rt aQ) nQ).length,arrL (mgL (rt aQ) nQ))) (N:=18446744073709551616) (fun k hk=>by
  have g1:decide ((k:Int)<(nQ:Int))=true:=Q3 (by omega)
  have g0:decide (0≤(k:Int))=true:=Q3 (by omega)
  have g3:i64.wrap ((k:Int)+1)=((k+1:Nat):Int):=by rw [IntWalk.i64_in _ (by omega)];omega
  have hlen:=Zwb (rt aQ) k
  have hb:Nat.ble (((mgL (rt aQ) k).length+1)*bytesOf prog 57) 140737488355328=true:=Nat.ble_eq_true_of_le (Nat.le_trans (Nat.mul_le_mul (show _≤13 by omega) hby) (by decide))
  have hsum:=Zyw hr k (by omega)
  have hsucc:mgL (rt aQ) (k+1)=addL (mgL (rt aQ) k) (rt aQ k):=rfl
  have hl:=Zlj a0 a1 bQ nQ aQ k (mgL (rt aQ) k) (by omega)
  have hdis:=last_ix (r:=rt aQ k) (mg_dis (rt aQ) k)
  rw [hdis] at hl
  rw [hsucc]
  cases hi:ixL (mgL (rt aQ) k) (rt aQ k) with
  | none=>
   rw [hi] at hl
   have hle:(addL (mgL (rt aQ) k) (rt aQ k)).length=(mgL (rt aQ) k).length+1:=by rw [Zlz hi,List.length_append];rfl
   have hneg:decide ((-1:Int)<0)=true:=rfl
   simp only [Za0,g1,g0,hl,Uan,Zb0,hneg,hb,hle,g3,Yew (hA k hk) hi,Zha,Q9,Bool.and_self,Q1]
  | some j=>
   rw [hi] at hl
   obtain ⟨x,hx,-,hj,-⟩:=Znp hi
   have hpos:=Zzw (r:=rt aQ) (n:=nQ) (fun k hk=>(hr k hk).1) k (by omega)
   have hx1:=hpos j x hx
   have hx2:=(Yby hpos hx).1
   have hrk:=hr k hk
   obtain ⟨e1,-⟩:=Yah (A:=aQ) hi hx ⟨by omega,by omega⟩ ⟨by omega,by omega⟩
   have hle:(addL (mgL (rt aQ) k) (rt aQ k)).length=(mgL (rt aQ) k).length:=by rw [Zlp hi hx,List.length_set]
   have hneg:decide ((j:Int)<0)=false:=Q4 (by omega)
   have hj0:decide (0≤(j:Int))=true:=Q3 (by omega)
   have hj1:decide ((j:Int)<((mgL (rt aQ) k).length:Int))=true:=Q3 (by omega)
   simp only [Za0,g1,g0,hl,Uan,Zb0,hneg,hj0,hj1,hle,g3,e1,Zha,Q9,Bool.and_self,Q1,Q2]) (by
  have g1:decide ((nQ:Int)<(nQ:Int))=false:=Q4 (by omega)
  simp only [Za0,g1,Zha,Q1,Q2]) (by omega)
theorem Yce (a0 a1:Array Value) (b:Option (Option Addr)) (n:Nat) (A:Array Value):Zao 0 a0 a1 b n A=bif okS a0&&Ua0 a0 a1 n A then 0 else 1:=by
 rw [ask_eq]
 unfold askC
 rw [no_cells,Q1]
theorem Zku (a0 a1:Array Value) (bQ:Option (Option Addr)) (nQ:Nat) (aQ:Array Value) (h_a0:WT prog 42 a0) (h_a1:WT prog 35 a1) (h_a1x2:aQ.size=nQ*(lay prog 57).length∧(∀ k,k<nQ→WT prog 57 (aQ.extract (k*(lay prog 57).length) (k*(lay prog 57).length+(lay prog 57).length)))∧nQ≤9223372036854775807) (hc0:((okM a0 a1 nQ aQ))=false) (hg:(true)=true):ansV prog Zat 18446744073709551616 f6 [([8],[2000010,57]),([10,11],[])] [.g a0 42,.r a1 35 [(2,0)]] [.sl (.came bQ) nQ aQ 57]=some (.t [.r #[.int .i8 (0:Int),.int .i8 (0:Int),.slice none 0 0] 35 [],.i .i64 (codM a0 a1 nQ aQ)],.none,true):=by
 have hl3:(lay prog 57).length=3:=by kernel_rfl
 have hA:∀ k,k<nQ→WT prog 57 (aQ.extract (k*3) (k*3+3)):=fun k hk=>by
  have:=h_a1x2.2.1 k hk
  rw [hl3] at this
  exact this
 refine (Zhz 18446744073709551616 a0 a1 bQ nQ aQ).trans ?_
 rw [Yce]
 cases hP:(okS a0&&Ua0 a0 a1 nQ aQ) with
 | false=>
  unfold codM;rw [hP];rfl
 | true=>
  have hP2:=hP
  rw [Q7] at hP2
  obtain ⟨hn,-,hr⟩:=Zrw h_a1 hA hP2.2
  have hz:((0:Int) != 0)=false:=rfl
  have hM:=planM (p':=(#[.int .i8 (num a1 0),.int .i8 (num a1 1),.slice none 0 0]:Array Value)) h_a1 hA hP2.2 rfl rfl
  have hb:bdL (rt aQ) nQ=true:=by
   unfold okM at hc0
   rw [hP,Bool.true_and] at hc0
   simpa using hc0
  rw [hb] at hM
  simp only [Q1,hz,Q2]
  rw [Zho a0 a1 bQ nQ aQ hA hn (fun k hk=>(hr k hk).2)]
  simp only [Uan,Zco,hM,codM,hP,BQ9,Q1,Q2]
theorem Zkt (a0 a1:Array Value) (bQ:Option (Option Addr)) (nQ:Nat) (aQ:Array Value) (h_a0:WT prog 42 a0) (h_a1:WT prog 35 a1) (h_a1x2:aQ.size=nQ*(lay prog 57).length∧(∀ k,k<nQ→WT prog 57 (aQ.extract (k*(lay prog 57).length) (k*(lay prog 57).length+(lay prog 57).length)))∧nQ≤9223372036854775807) (hc0:((okM a0 a1 nQ aQ))=true) (hg:(true)=true):ansV prog Zat 18446744073709551616 f6 [([8],[2000010,57]),([10,11],[])] [.g a0 42,.r a1 35 [(2,0)]] [.sl (.came bQ) nQ aQ 57]=some (.t [.r #[.int .i8 (num a1 0),.int .i8 (num a1 1),.slice none 0 0] 35 [(2,HOLE)],.i .i64 (0:Int)],.newS (some 1000000) (mgL (rt aQ) nQ).length (arrL (mgL (rt aQ) nQ)) 57,true):=by
 have hl3:(lay prog 57).length=3:=by kernel_rfl
 have hA:∀ k,k<nQ→WT prog 57 (aQ.extract (k*3) (k*3+3)):=fun k hk=>by
  have:=h_a1x2.2.1 k hk
  rw [hl3] at this
  exact this
 refine (Zhz 18446744073709551616 a0 a1 bQ nQ aQ).trans ?_
 rw [Yce]
 cases hP:(okS a0&&Ua0 a0 a1 nQ aQ) with
 | false=>
  exfalso;unfold okM at hc0;rw [hP] at hc0;cases hc0
 | true=>
  have hP2:=hP
  rw [Q7] at hP2
  obtain ⟨hn,-,hr⟩:=Zrw h_a1 hA hP2.2
  have hz:((0:Int) != 0)=false:=rfl
  have hM:=planM (p':=(#[.int .i8 (num a1 0),.int .i8 (num a1 1),.slice none 0 0]:Array Value)) h_a1 hA hP2.2 rfl rfl
  have hb:bdL (rt aQ) nQ=false:=by
   unfold okM at hc0
   rw [hP,Bool.true_and] at hc0
   simpa using hc0
  rw [hb] at hM
  simp only [Q1,hz,Q2]
  rw [Zho a0 a1 bQ nQ aQ hA hn (fun k hk=>(hr k hk).2)]
  simp only [Uan,Zco,hM,codM,hP,BQ9,Q1,Q2]
def Zdq:SCon:=fun args h=>match args,h with
 | [.g a0 42,.r a1 35 [(2,0)]],[.sl (.came bQ) nQ aQ 57]=>.two ((okM a0 a1 nQ aQ)) (.one (some (.t [.r #[.int .i8 (num a1 0),.int .i8 (num a1 1),.slice none 0 0] 35 [(2,HOLE)],.i .i64 (0:Int)],.newS (some 1000000) (mgL (rt aQ) nQ).length (arrL (mgL (rt aQ) nQ)) 57,true))) (.one (some (.t [.r #[.int .i8 (0:Int),.int .i8 (0:Int),.slice none 0 0] 35 [(2,HOLE)],.i .i64 (codM a0 a1 nQ aQ)],.newS (some 1000000) 0 (#[]:Array Value) 57,true)))
 | _,_=>.one none
theorem Zks:EntX prog 6:=Zap (fn:=f6)
theorem Zmo:Uab mn prog 6 (fun args h=>Uae (Zdq args h)):=by
 intro ρ h w args vals r e hn hr hA hH
 dsimp only at hr
 unfold Zdq at hr
 split at hr
 ·rename_i a0 a1 bQ nQ aQ
  simp only [Uae] at hr
  cases hc0:((okM a0 a1 nQ aQ))
  ·rw [hc0] at hr
   simp only [Uae,Q1,Q2] at hr
   obtain ⟨rfl,rfl,hg2⟩:=BQi hr
   exact (Uab.nilR (ansY (N:=18446744073709551616) (mkΓ_consX (Zam Zma) Zi4 (mkΓ_consX (Zam Zlu) Zih mkΓ_nilX)) f6 [([8],[2000010,57]),([10,11],[])]) 2 57) ρ _ w _ vals _ _ hn (congrArg (Vc.nilR 2 57) (Zku a0 a1 bQ nQ aQ (hA.wt 0 rfl) (hA.wtr 1 rfl) (hH.slw 0 rfl) hc0 hg2)) hA hH
  ·rw [hc0] at hr
   simp only [Uae,Q1,Q2] at hr
   obtain ⟨rfl,rfl,hg2⟩:=BQi hr
   exact ((ansY (N:=18446744073709551616) (mkΓ_consX (Zam Zma) Zi4 (mkΓ_consX (Zam Zlu) Zih mkΓ_nilX)) f6 [([8],[2000010,57]),([10,11],[])])) ρ _ w _ vals _ _ hn ((Zkt a0 a1 bQ nQ aQ (hA.wt 0 rfl) (hA.wtr 1 rfl) (hH.slw 0 rfl) hc0 hg2)) hA hH
 ·simp only [Uae] at hr
  cases hr
def mrgI (S p:Array Value) (n:Nat) (A:Array Value) (i:Nat):Int:=bif okM S p n A then num p i else 0
def mrgV (S p:Array Value) (n:Nat) (A:Array Value):Array Value:=#[.int .i8 (mrgI S p n A 0),.int .i8 (mrgI S p n A 1),.slice none 0 0]
def mrgC (S p:Array Value) (n:Nat) (A:Array Value):Int:=bif okM S p n A then 0 else codM S p n A
def mrgN (S p:Array Value) (n:Nat) (A:Array Value):Nat:=bif okM S p n A then (mgL (rt A) n).length else 0
def mrgA (S p:Array Value) (n:Nat) (A:Array Value):Array Value:=bif okM S p n A then arrL (mgL (rt A) n) else #[]
def Zft:Con:=fun args h=>match args,h with
 | [.g a0 42,.r a1 35 [(2,0)]],[.sl (.came bQ) nQ aQ 57]=>some (.t [.r (mrgV a0 a1 nQ aQ) 35 [(2,HOLE)],.i .i64 (mrgC a0 a1 nQ aQ)],.newS (some 1000000) (mrgN a0 a1 nQ aQ) (mrgA a0 a1 nQ aQ) 57,true)
 | _,_=>none
theorem Znb:Uab mn prog 6 Zft:=Uab.of Zmo (by
 intro ρ h w args vals r e hA hH hr
 unfold Zft at hr
 split at hr
 ·rename_i a0 a1 bQ nQ aQ
  obtain ⟨rfl,rfl,hg2⟩:=BQi hr
  show Uae (Zdq _ _)=_
  unfold Zdq
  simp only [Uae]
  unfold mrgV mrgI mrgC mrgN mrgA
  cases (okM a0 a1 nQ aQ)<;>rfl
 ·cases hr)
theorem Zol (N:Nat) (a0:Array Value) (bS:Option (Option Addr)) (n_a0x365:Nat) (aS:Array Value) (b_a1:Option (Option Addr)) (n_a1:Nat) (a1:Array Value):ansV prog (mkΓ []) N f23 [] [.r a0 64 [(365,0)],.l 1] [.sl (.came bS) n_a0x365 aS 57,.sl (.came b_a1) n_a1 a1 57]=(some (.a (.r #[.int .i8 (IntKind.i8.wrap (num a0 0)),.int .i8 (IntKind.i8.wrap (num a0 1)),.slice none 0 0] 35 [(2,1)]),.none,true)):=by kernel_rfl
theorem Zm0 (a0:Array Value) (bS:Option (Option Addr)) (n_a0x365:Nat) (aS:Array Value) (b_a1:Option (Option Addr)) (n_a1:Nat) (a1:Array Value) (h_a0:WT prog 64 a0) (h_a0x365:aS.size=n_a0x365*(lay prog 57).length∧(∀ k,k<n_a0x365→WT prog 57 (aS.extract (k*(lay prog 57).length) (k*(lay prog 57).length+(lay prog 57).length)))∧n_a0x365≤9223372036854775807) (h_a1:a1.size=n_a1*(lay prog 57).length∧(∀ k,k<n_a1→WT prog 57 (a1.extract (k*(lay prog 57).length) (k*(lay prog 57).length+(lay prog 57).length)))∧n_a1≤9223372036854775807) (hg:(true)=true):ansV prog (mkΓ []) 1000 f23 [] [.r a0 64 [(365,0)],.l 1] [.sl (.came bS) n_a0x365 aS 57,.sl (.came b_a1) n_a1 a1 57]=some (.a (.r #[.int .i8 (IntKind.i8.wrap (num a0 0)),.int .i8 (IntKind.i8.wrap (num a0 1)),.slice none 0 0] 35 [(2,1)]),.none,true):=by
 refine (Zol 1000 a0 bS n_a0x365 aS b_a1 n_a1 a1).trans ?_
 rfl
def Zep:Con:=fun args h=>match args,h with
 | [.r a0 64 [(365,0)],.l 1],[.sl (.came bS) n_a0x365 aS 57,.sl (.came b_a1) n_a1 a1 57]=>some (.a (.r #[.int .i8 (IntKind.i8.wrap (num a0 0)),.int .i8 (IntKind.i8.wrap (num a0 1)),.slice none 0 0] 35 [(2,1)]),.none,true)
 | _,_=>none
theorem Zfs:EntX prog 23:=Zap (fn:=f23)
theorem Zgy:Uab mn prog 23 Zep:=(ansY (N:=1000) mkΓ_nilX f23 []).of (by
 intro ρ h w args vals r e hA hH hr
 unfold Zep at hr
 split at hr
 ·rename_i a0 bS n_a0x365 aS b_a1 n_a1 a1
  obtain ⟨rfl,rfl,hg2⟩:=BQi hr
  exact Zm0 a0 bS n_a0x365 aS b_a1 n_a1 a1 (hA.wtr 0 rfl) (hH.slw 0 rfl) (hH.slw 1 rfl) hg2
 ·cases hr)
def Zh0:Cons:=(mkΓw [(20,conS Zf9)] [(21,conG Zh3),(22,con Zeq),(23,con Zep)] [] [])
theorem Zk9 (N:Nat) (a0 a1:Array Value) (g_et:Addr) (bQ:Option (Option Addr)) (nQ:Nat) (aQ:Array Value):ansV prog Zh0 N f9 [] [.g a0 42,.r a1 35 [(2,1)]] [.gl 0 142 g_et 3000066,.sl (.came bQ) nQ aQ 57]=(bif (okS a0&&Ua0 a0 a1 nQ aQ) then (bif ((bdL (rt aQ) nQ)&&(Ub0 nQ aQ)) then (some (.t [.r #[.int .i8 (0:Int),.int .i8 (0:Int),.slice none 0 0] 35 [],.i .i64 (3:Int)],.none,true))
   else (none))
  else (some (.t [.r #[.int .i8 (0:Int),.int .i8 (0:Int),.slice none 0 0] 35 [],.i .i64 (1:Int)],.none,true))):=by kernel_rfl
def Zfg:Cons:=(mkΓw [(20,conS Zf9)] [(21,conG Zh3),(22,con Zey),(23,con Zep)] [] [])
theorem Zg9 (N:Nat) (a0 a1:Array Value) (g_et:Addr) (bQ:Option (Option Addr)) (nQ:Nat) (aQ:Array Value):ansV prog Zfg N f9 [] [.g a0 42,.r a1 35 [(2,1)]] [.gl 0 142 g_et 3000066,.sl (.came bQ) nQ aQ 57]=(bif (okS a0&&Ua0 a0 a1 nQ aQ) then (bif ((!((bdL (rt aQ) nQ)))&&(Ub0 nQ aQ)) then (some (.t [.r #[.int .i8 (IntKind.i8.wrap (num (voyV prog a0 a1) 0)),.int .i8 (IntKind.i8.wrap (num (voyV prog a0 a1) 1)),.slice none 0 0] 35 [(2,HOLE)],.i .i64 (0:Int)],.newS (some 1000000) ((mgL (rt aQ) nQ).length) (arrL (mgL (rt aQ) nQ)) 57,true))
   else (none))
  else (some (.t [.r #[.int .i8 (0:Int),.int .i8 (0:Int),.slice none 0 0] 35 [],.i .i64 (1:Int)],.none,true))):=by kernel_rfl
theorem Zk3 (a0 a1:Array Value) (g_et:Addr) (bQ:Option (Option Addr)) (nQ:Nat) (aQ:Array Value) (h_a0:WT prog 42 a0) (h_a1:WT prog 35 a1) (h_a1x2:aQ.size=nQ*(lay prog 57).length∧(∀ k,k<nQ→WT prog 57 (aQ.extract (k*(lay prog 57).length) (k*(lay prog 57).length+(lay prog 57).length)))∧nQ≤9223372036854775807) (hc0:((okM a0 a1 nQ aQ))=false) (hc1:((bdL (rt aQ) nQ))=false) (hg:(true)=true):ansV prog Zfg 1000 f9 [] [.g a0 42,.r a1 35 [(2,1)]] [.gl 0 142 g_et 3000066,.sl (.came bQ) nQ aQ 57]=some (.t [.r #[.int .i8 (0:Int),.int .i8 (0:Int),.slice none 0 0] 35 [],.i .i64 (codM a0 a1 nQ aQ)],.none,true):=by
 have hl3:(lay prog 57).length=3:=by kernel_rfl
 have hA:∀ k,k<nQ→WT prog 57 (aQ.extract (k*3) (k*3+3)):=fun k hk=>by
  have:=h_a1x2.2.1 k hk
  rw [hl3] at this
  exact this
 refine (Zg9 1000 a0 a1 g_et bQ nQ aQ).trans ?_
 cases hP:(okS a0&&Ua0 a0 a1 nQ aQ) with
 | false=>
  unfold codM;rw [hP];rfl
 | true=>
  have hP2:=hP
  rw [Q7] at hP2
  obtain ⟨hn,-,hr⟩:=Zrw h_a1 hA hP2.2
  have hrel:Ub0 nQ aQ=true:=Zty.2 ⟨hn,fun k hk=>(hr k hk).2⟩
  exfalso
  unfold okM at hc0
  rw [hP,hc1] at hc0
  cases hc0
theorem Zkq (a0 a1:Array Value) (g_et:Addr) (bQ:Option (Option Addr)) (nQ:Nat) (aQ:Array Value) (h_a0:WT prog 42 a0) (h_a1:WT prog 35 a1) (h_a1x2:aQ.size=nQ*(lay prog 57).length∧(∀ k,k<nQ→WT prog 57 (aQ.extract (k*(lay prog 57).length) (k*(lay prog 57).length+(lay prog 57).length)))∧nQ≤9223372036854775807) (hc0:((okM a0 a1 nQ aQ))=false) (hc1:((bdL (rt aQ) nQ))=true) (hg:(true)=true):ansV prog Zh0 1000 f9 [] [.g a0 42,.r a1 35 [(2,1)]] [.gl 0 142 g_et 3000066,.sl (.came bQ) nQ aQ 57]=some (.t [.r #[.int .i8 (0:Int),.int .i8 (0:Int),.slice none 0 0] 35 [],.i .i64 (codM a0 a1 nQ aQ)],.none,true):=by
 have hl3:(lay prog 57).length=3:=by kernel_rfl
 have hA:∀ k,k<nQ→WT prog 57 (aQ.extract (k*3) (k*3+3)):=fun k hk=>by
  have:=h_a1x2.2.1 k hk
  rw [hl3] at this
  exact this
 refine (Zk9 1000 a0 a1 g_et bQ nQ aQ).trans ?_
 cases hP:(okS a0&&Ua0 a0 a1 nQ aQ) with
 | false=>
  unfold codM;rw [hP];rfl
 | true=>
  have hP2:=hP
  rw [Q7] at hP2
  obtain ⟨hn,-,hr⟩:=Zrw h_a1 hA hP2.2
  have hrel:Ub0 nQ aQ=true:=Zty.2 ⟨hn,fun k hk=>(hr k hk).2⟩
  unfold codM
  simp only [hP,hc1,hrel,BQ9,Q1,Q2]
theorem Zk5 (a0 a1:Array Value) (g_et:Addr) (bQ:Option (Option Addr)) (nQ:Nat) (aQ:Array Value) (h_a0:WT prog 42 a0) (h_a1:WT prog 35 a1) (h_a1x2:aQ.size=nQ*(lay prog 57).length∧(∀ k,k<nQ→WT prog 57 (aQ.extract (k*(lay prog 57).length) (k*(lay prog 57).length+(lay prog 57).length)))∧nQ≤9223372036854775807) (hc0:((okM a0 a1 nQ aQ))=true) (hg:(true)=true):ansV prog Zfg 1000 f9 [] [.g a0 42,.r a1 35 [(2,1)]] [.gl 0 142 g_et 3000066,.sl (.came bQ) nQ aQ 57]=some (.t [.r #[.int .i8 (num a1 0),.int .i8 (num a1 1),.slice none 0 0] 35 [(2,HOLE)],.i .i64 (0:Int)],.newS (some 1000000) (mgL (rt aQ) nQ).length (arrL (mgL (rt aQ) nQ)) 57,true):=by
 have hl3:(lay prog 57).length=3:=by kernel_rfl
 have hA:∀ k,k<nQ→WT prog 57 (aQ.extract (k*3) (k*3+3)):=fun k hk=>by
  have:=h_a1x2.2.1 k hk
  rw [hl3] at this
  exact this
 refine (Zg9 1000 a0 a1 g_et bQ nQ aQ).trans ?_
 cases hP:(okS a0&&Ua0 a0 a1 nQ aQ) with
 | false=>
  exfalso;unfold okM at hc0;rw [hP] at hc0;cases hc0
 | true=>
  have hP2:=hP
  rw [Q7] at hP2
  obtain ⟨hn,-,hr⟩:=Zrw h_a1 hA hP2.2
  have hrel:Ub0 nQ aQ=true:=Zty.2 ⟨hn,fun k hk=>(hr k hk).2⟩
  have hb:bdL (rt aQ) nQ=false:=by
   unfold okM at hc0
   rw [hP,Bool.true_and] at hc0
   simpa using hc0
  obtain ⟨-,e2,e3⟩:=Ycl h_a0 h_a1
  obtain ⟨g0,g1⟩:=Ydz h_a1 hP2.2
  rw [e2,e3,IntWalk.i8_in (num a1 0) (by omega),IntWalk.i8_in (num a1 1) (by omega)]
  simp only [hb,hrel,BQ9,Q1,Q2]
def Zds:SCon:=fun args h=>match args,h with
 | [.g a0 42,.r a1 35 [(2,1)]],[.gl 0 142 g_et 3000066,.sl (.came bQ) nQ aQ 57]=>.two ((okM a0 a1 nQ aQ)) (.one (some (.t [.r #[.int .i8 (num a1 0),.int .i8 (num a1 1),.slice none 0 0] 35 [(2,HOLE)],.i .i64 (0:Int)],.newS (some 1000000) (mgL (rt aQ) nQ).length (arrL (mgL (rt aQ) nQ)) 57,true))) (.two ((bdL (rt aQ) nQ)) (.one (some (.t [.r #[.int .i8 (0:Int),.int .i8 (0:Int),.slice none 0 0] 35 [(2,HOLE)],.i .i64 (codM a0 a1 nQ aQ)],.newS (some 1000000) 0 (#[]:Array Value) 57,true))) (.one (some (.t [.r #[.int .i8 (0:Int),.int .i8 (0:Int),.slice none 0 0] 35 [(2,HOLE)],.i .i64 (codM a0 a1 nQ aQ)],.newS (some 1000000) 0 (#[]:Array Value) 57,true))))
 | _,_=>.one none
theorem Zkj:EntX prog 9:=Zap (fn:=f9)
theorem Zmf:Uab mn prog 9 (fun args h=>Uae (Zds args h)):=by
 intro ρ h w args vals r e hn hr hA hH
 dsimp only at hr
 unfold Zds at hr
 split at hr
 ·rename_i a0 a1 g_et bQ nQ aQ
  simp only [Uae] at hr
  cases hc0:((okM a0 a1 nQ aQ))
  ·rw [hc0] at hr
   simp only [Uae,Q1,Q2] at hr
   cases hc1:((bdL (rt aQ) nQ))
   ·rw [hc1] at hr
    simp only [Uae,Q1,Q2] at hr
    obtain ⟨rfl,rfl,hg2⟩:=BQi hr
    exact (Uab.nilR (ansY (N:=1000) (mkΓw_sX (Zxk Zio) Zhs (mkΓw_cX (Zt0 Zip) Zgw (mkΓw_cX (Zam Zhq) Zei (mkΓw_cX (Zam Zgy) Zfs mkΓx_nilX)))) f9 []) 2 57) ρ _ w _ vals _ _ hn (congrArg (Vc.nilR 2 57) (Zk3 a0 a1 g_et bQ nQ aQ (hA.wt 0 rfl) (hA.wtr 1 rfl) (hH.slw 1 rfl) hc0 hc1 hg2)) hA hH
   ·rw [hc1] at hr
    simp only [Uae,Q1,Q2] at hr
    obtain ⟨rfl,rfl,hg2⟩:=BQi hr
    exact (Uab.nilR (ansY (N:=1000) (mkΓw_sX (Zxk Zio) Zhs (mkΓw_cX (Zt0 Zip) Zgw (mkΓw_cX (Zam Zlv) Zei (mkΓw_cX (Zam Zgy) Zfs mkΓx_nilX)))) f9 []) 2 57) ρ _ w _ vals _ _ hn (congrArg (Vc.nilR 2 57) (Zkq a0 a1 g_et bQ nQ aQ (hA.wt 0 rfl) (hA.wtr 1 rfl) (hH.slw 1 rfl) hc0 hc1 hg2)) hA hH
  ·rw [hc0] at hr
   simp only [Uae,Q1,Q2] at hr
   obtain ⟨rfl,rfl,hg2⟩:=BQi hr
   exact ((ansY (N:=1000) (mkΓw_sX (Zxk Zio) Zhs (mkΓw_cX (Zt0 Zip) Zgw (mkΓw_cX (Zam Zhq) Zei (mkΓw_cX (Zam Zgy) Zfs mkΓx_nilX)))) f9 [])) ρ _ w _ vals _ _ hn ((Zk5 a0 a1 g_et bQ nQ aQ (hA.wt 0 rfl) (hA.wtr 1 rfl) (hH.slw 1 rfl) hc0 hg2)) hA hH
 ·simp only [Uae] at hr
  cases hr
def Zfl:Con:=fun args h=>match args,h with
 | [.g a0 42,.r a1 35 [(2,1)]],[.gl 0 142 g_et 3000066,.sl (.came bQ) nQ aQ 57]=>some (.t [.r (mrgV a0 a1 nQ aQ) 35 [(2,HOLE)],.i .i64 (mrgC a0 a1 nQ aQ)],.newS (some 1000000) (mrgN a0 a1 nQ aQ) (mrgA a0 a1 nQ aQ) 57,true)
 | _,_=>none
theorem Zm2:Uab mn prog 9 Zfl:=Uab.of Zmf (by
 intro ρ h w args vals r e hA hH hr
 unfold Zfl at hr
 split at hr
 ·rename_i a0 a1 g_et bQ nQ aQ
  obtain ⟨rfl,rfl,hg2⟩:=BQi hr
  show Uae (Zds _ _)=_
  unfold Zds
  simp only [Uae]
  unfold mrgV mrgI mrgC mrgN mrgA
  cases (okM a0 a1 nQ aQ)<;>cases (bdL (rt aQ) nQ)<;>rfl
 ·cases hr)
end
end Go.Proofs.YtdhckffhnkeogaaDoor
