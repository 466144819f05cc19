/- What one release of many is, as the program finds it. -/
import Derived.Test.YtdhckffhnkeogaaDoorProg
import Derived.Test.YtdhckffhnkeogaaDoorCnB
set_option linter.unusedVariables false
set_option linter.unusedSimpArgs false
namespace Go.Proofs.YtdhckffhnkeogaaDoor
open Tryd (f22)
open Go.ChangeShapes Go.WideShapes Go.ChangeAt Go.RowKit Ve Vc
open Tryd (prog)
open IntKind (i64)
set_option maxRecDepth 100000
noncomputable section
variable {mn:Md}
def Zbu:Cons:=(mkΓ [(41,con Za7)])
def Zcc (b_a0:Option (Option Addr)) (n_a0:Nat) (a0:Array Value):St:=(⟨.a (.l 0) :: .a (.u) :: .a (.v (.slice none 0 0)) :: .a (.v (.nilIface)) :: .a (.l 1)::us 3 (.a (.l 0) :: .a (.i .i64 (n_a0:Int)) :: .a (.i .i64 (0:Int))::us 31 ([])),[.sl (.came b_a0) n_a0 a0 57,.sl .own 0 (#[]:Array Value) 57],[]⟩:St)
def Zc0:Int×Nat×Array Value→LS
 | (y0_10,m0_4,y0_4)=>([.a (.i .i64 (y0_10)),.a (.l 1)],[.sl .own m0_4 y0_4 57])
def Zfi:Int×Nat×Array Value→Exit×LS
 | t=>((.exit 0),Zc0 t)
def Zaw (P:Program) (b_a0:Option (Option Addr)) (n_a0:Nat) (a0:Array Value):Int×Nat×Array Value→Option (Stp (Int×Nat×Array Value) ((Int×Nat×Array Value) ⊕ (SV×Eff×Bool)))
  | (y0_10,m0_4,y0_4)=>bif decide (y0_10<(n_a0:Int)) then (bif (decide (0≤y0_10)&&decide (y0_10<(n_a0:Int))) then (bif (Nat.ble m0_4 2000000) then (bif decide ((idxR m0_4 y0_4 (a0.extract ((y0_10).toNat*3) (((y0_10).toNat*3)+3)))<(0:Int)) then (bif (Nat.ble ((m0_4+1)*bytesOf prog 57) 140737488355328) then (some (.more ((i64.wrap (y0_10+(1:Int))),(m0_4+1),(y0_4++(spl (#[.int .i8 (0:Int),.int .i8 (0:Int),.int .i16 (0:Int)]:Array Value) 0 (a0.extract ((y0_10).toNat*3) (((y0_10).toNat*3)+3)).toList)))))
            else (none))
          else (bif (decide (0≤(idxR m0_4 y0_4 (a0.extract ((y0_10).toNat*3) (((y0_10).toNat*3)+3))))&&decide ((idxR m0_4 y0_4 (a0.extract ((y0_10).toNat*3) (((y0_10).toNat*3)+3)))<(m0_4:Int))) then (bif (decide (0≤(idxR m0_4 y0_4 (a0.extract ((y0_10).toNat*3) (((y0_10).toNat*3)+3))))&&decide ((idxR m0_4 y0_4 (a0.extract ((y0_10).toNat*3) (((y0_10).toNat*3)+3)))<(m0_4:Int))) then (bif (decide (0≤(idxR m0_4 y0_4 (a0.extract ((y0_10).toNat*3) (((y0_10).toNat*3)+3))))&&decide ((idxR m0_4 y0_4 (a0.extract ((y0_10).toNat*3) (((y0_10).toNat*3)+3)))<(m0_4:Int))) then (bif decide ((num (y0_4.setIfInBounds (((idxR m0_4 y0_4 (a0.extract ((y0_10).toNat*3) (((y0_10).toNat*3)+3))).toNat*3)+2) (.int .i16 (IntKind.i16.wrap ((num y0_4 (((idxR m0_4 y0_4 (a0.extract ((y0_10).toNat*3) (((y0_10).toNat*3)+3))).toNat*3)+2))+(num (a0.extract ((y0_10).toNat*3) (((y0_10).toNat*3)+3)) 2))))) (((idxR m0_4 y0_4 (a0.extract ((y0_10).toNat*3) (((y0_10).toNat*3)+3))).toNat*3)+2)) > (200:Int)) then (some (.done (.inr (.t [.v (.slice none 0 0),.v (.iface 89 (.int .i64 (3:Int)))],.none,true))))
                  else (some (.more ((i64.wrap (y0_10+(1:Int))),m0_4,(y0_4.setIfInBounds (((idxR m0_4 y0_4 (a0.extract ((y0_10).toNat*3) (((y0_10).toNat*3)+3))).toNat*3)+2) (.int .i16 (IntKind.i16.wrap ((num y0_4 (((idxR m0_4 y0_4 (a0.extract ((y0_10).toNat*3) (((y0_10).toNat*3)+3))).toNat*3)+2))+(num (a0.extract ((y0_10).toNat*3) (((y0_10).toNat*3)+3)) 2)))))))))
                else (none))
              else (none))
            else (none)))
        else (none))
      else (none))
    else (some (.done (.inl (y0_10,m0_4,y0_4))))
noncomputable abbrev cKCnC22:=codeOf f22
def Udm:=(Uaf cKCnC22 [([4000000000,10],[1000004,57])]).1
def Ub5 (N:Nat) (b_a0:Option (Option Addr)) (n_a0:Nat) (a0:Array Value):=(Uaz 0 (kSeq (veC prog Zbu N (cAt cKCnC22 [1,1,1]) (pAt Udm [1,1,1]) (SV×Eff×Bool)) (finK prog [.sl (.came b_a0) n_a0 a0 57] [.tmp 2,.tmp 3])))
theorem Zmt (N:Nat) (b_a0:Option (Option Addr)) (n_a0:Nat) (a0:Array Value):∀ t:Int×Nat×Array Value,Ued prog Zbu N (cAt cKCnC22 [1,1,0,1,0,0]) (pAt Udm [1,1,0,1,0]) [10] [] 4 57 1 (Zcc b_a0 n_a0 a0) (Ub5 N b_a0 n_a0 a0) (Zc0 t)=mapS Zc0 (eR Zfi) (Zaw prog b_a0 n_a0 a0 t):=by
  rintro ⟨y0_10,m0_4,y0_4⟩
  refine Eq.trans (b:=(bif decide (y0_10<(n_a0:Int)) then (bif (decide (0≤y0_10)&&decide (y0_10<(n_a0:Int))) then (bif (Nat.ble m0_4 2000000) then (bif decide ((idxR m0_4 y0_4 (a0.extract ((y0_10).toNat*3) (((y0_10).toNat*3)+3)))<(0:Int)) then (bif (Nat.ble ((m0_4+1)*bytesOf prog 57) 140737488355328) then (some (.more ([.a (.i .i64 (i64.wrap (y0_10+(1:Int)))),.a (.l 1)],[.sl .own (m0_4+1) (y0_4++(spl (#[.int .i8 (0:Int),.int .i8 (0:Int),.int .i16 (0:Int)]:Array Value) 0 (a0.extract ((y0_10).toNat*3) (((y0_10).toNat*3)+3)).toList)) 57])))
            else (none))
          else (bif (decide (0≤(idxR m0_4 y0_4 (a0.extract ((y0_10).toNat*3) (((y0_10).toNat*3)+3))))&&decide ((idxR m0_4 y0_4 (a0.extract ((y0_10).toNat*3) (((y0_10).toNat*3)+3)))<(m0_4:Int))) then (bif (decide (0≤(idxR m0_4 y0_4 (a0.extract ((y0_10).toNat*3) (((y0_10).toNat*3)+3))))&&decide ((idxR m0_4 y0_4 (a0.extract ((y0_10).toNat*3) (((y0_10).toNat*3)+3)))<(m0_4:Int))) then (bif (decide (0≤(idxR m0_4 y0_4 (a0.extract ((y0_10).toNat*3) (((y0_10).toNat*3)+3))))&&decide ((idxR m0_4 y0_4 (a0.extract ((y0_10).toNat*3) (((y0_10).toNat*3)+3)))<(m0_4:Int))) then (bif decide ((num (y0_4.setIfInBounds (((idxR m0_4 y0_4 (a0.extract ((y0_10).toNat*3) (((y0_10).toNat*3)+3))).toNat*3)+2) (.int .i16 (IntKind.i16.wrap ((num y0_4 (((idxR m0_4 y0_4 (a0.extract ((y0_10).toNat*3) (((y0_10).toNat*3)+3))).toNat*3)+2))+(num (a0.extract ((y0_10).toNat*3) (((y0_10).toNat*3)+3)) 2))))) (((idxR m0_4 y0_4 (a0.extract ((y0_10).toNat*3) (((y0_10).toNat*3)+3))).toNat*3)+2)) > (200:Int)) then (some (.done (.inr (.t [.v (.slice none 0 0),.v (.iface 89 (.int .i64 (3:Int)))],.none,true))))
                  else (some (.more ([.a (.i .i64 (i64.wrap (y0_10+(1:Int)))),.a (.l 1)],[.sl .own m0_4 (y0_4.setIfInBounds (((idxR m0_4 y0_4 (a0.extract ((y0_10).toNat*3) (((y0_10).toNat*3)+3))).toNat*3)+2) (.int .i16 (IntKind.i16.wrap ((num y0_4 (((idxR m0_4 y0_4 (a0.extract ((y0_10).toNat*3) (((y0_10).toNat*3)+3))).toNat*3)+2))+(num (a0.extract ((y0_10).toNat*3) (((y0_10).toNat*3)+3)) 2))))) 57]))))
                else (none))
              else (none))
            else (none)))
        else (none))
      else (none))
    else (some (.done (.inl ((.exit 0),([.a (.i .i64 (y0_10)),.a (.l 1)],[.sl .own m0_4 y0_4 57]))))))) (by kernel_rfl) ?_
  simp only [Zaw,Zbp,Zbo,Zbm,Zbn,Zc0,Zfi,eR]
def Zev (P:Program) (N:Nat) (b_a0:Option (Option Addr)) (n_a0:Nat) (a0:Array Value) (z0_10:Int) (p0_4:Nat) (z0_4:Array Value):Option (SV×Eff×Bool):=some (.t [.x,.v (.nilIface)],.newS (some 0) p0_4 z0_4 57,true)
theorem Zjf (N:Nat) (b_a0:Option (Option Addr)) (n_a0:Nat) (a0:Array Value) (z0_10:Int) (p0_4:Nat) (z0_4:Array Value):(Ub5 N b_a0 n_a0 a0) (.exit 0) (left (writes (cAt cKCnC22 [1,1,0,1,0,0])) [10,4] [1] (Zcc b_a0 n_a0 a0) ([.a (.i .i64 (z0_10)),.a (.l 1)],[.sl .own p0_4 z0_4 57]))=Zev prog N b_a0 n_a0 a0 z0_10 p0_4 z0_4:=by
 refine Eq.trans (b:=(some (.t [.x,.v (.nilIface)],.newS (some 0) p0_4 z0_4 57,true))) (by kernel_rfl) ?_
 rfl
theorem Zmv (N:Nat) (b_a0:Option (Option Addr)) (n_a0:Nat) (a0:Array Value):Ubx (Uaa (Ued prog Zbu N (cAt cKCnC22 [1,1,0,1,0,0]) (pAt Udm [1,1,0,1,0]) [10] [] 4 57 1 (Zcc b_a0 n_a0 a0) (Ub5 N b_a0 n_a0 a0)) N ([.a (.i .i64 (0:Int)),.a (.l 1)],[.sl .own 0 (#[]:Array Value) 57])) (fun e s=>(Ub5 N b_a0 n_a0 a0) e (left (writes (cAt cKCnC22 [1,1,0,1,0,0])) [10,4] [1] (Zcc b_a0 n_a0 a0) s))=nodeR (Uaa (Zaw prog b_a0 n_a0 a0) N ((0:Int),0,(#[]:Array Value))) (fun x=>Zev prog N b_a0 n_a0 a0 x.1 x.2.1 x.2.2):=by
 refine Ydb Zc0 Zfi _ _ (Zmt N b_a0 n_a0 a0) N ((0:Int),0,(#[]:Array Value)) _ _ ?_
 intro x;exact Zjf N b_a0 n_a0 a0 x.1 x.2.1 x.2.2
theorem Zhg (N:Nat) (b_a0:Option (Option Addr)) (n_a0:Nat) (a0:Array Value):ansV prog Zbu N f22 [([4000000000,10],[1000004,57])] [.l 0] [.sl (.came b_a0) n_a0 a0 57]=(nodeR (Uaa (Zaw prog b_a0 n_a0 a0) N ((0:Int),0,(#[]:Array Value))) (fun x=>Zev prog N b_a0 n_a0 a0 x.1 x.2.1 x.2.2)):=by
 refine Eq.trans (b:=(Ubx (Uaa (Ued prog Zbu N (cAt cKCnC22 [1,1,0,1,0,0]) (pAt Udm [1,1,0,1,0]) [10] [] 4 57 1 (Zcc b_a0 n_a0 a0) (Ub5 N b_a0 n_a0 a0)) N ([.a (.i .i64 (0:Int)),.a (.l 1)],[.sl .own 0 (#[]:Array Value) 57])) (fun e s=>(Ub5 N b_a0 n_a0 a0) e (left (writes (cAt cKCnC22 [1,1,0,1,0,0])) [10,4] [1] (Zcc b_a0 n_a0 a0) s)))) (by kernel_rfl) ?_
 simp only [Zmv N b_a0 n_a0 a0]
theorem Zhb (b_a0:Option (Option Addr)) (n_a0:Nat) (a0:Array Value) (h_a0:a0.size=n_a0*(lay prog 57).length∧(∀ k,k<n_a0→WT prog 57 (a0.extract (k*(lay prog 57).length) (k*(lay prog 57).length+(lay prog 57).length)))∧n_a0≤9223372036854775807) (hg:Ub0 n_a0 a0=true):Uaa (Zaw prog b_a0 n_a0 a0) 1000 ((0:Int),0,(#[]:Array Value))=some (match (List.range n_a0).find? (fun k=>badR (mgL (rt a0) k) (rt a0 k)) with | some _=>.inr (.t [.v (.slice none 0 0),.v (.iface 89 (.int .i64 (3:Int)))],.none,true) | none=>.inl (((n_a0:Nat):Int),(mgL (rt a0) n_a0).length,arrL (mgL (rt a0) n_a0))):=by
 obtain ⟨hn,hr⟩:=Zty.1 hg
 have hl3:(lay prog 57).length=3:=by kernel_rfl
 have hA:∀ k,k<n_a0→WT prog 57 (a0.extract (k*3) (k*3+3)):=fun k hk=>by
  have:=h_a0.2.1 k hk
  rw [hl3] at this
  exact this
 have hby:bytesOf prog 57≤1000:=Nat.le_of_ble_eq_true (by kernel_rfl)
 exact Zn3 (g:=Zaw prog b_a0 n_a0 a0) (fun k=>(((k:Nat):Int),(mgL (rt a0) k).length,arrL (mgL (rt a0) k))) (fun k=>badR (mgL (rt a0) k) (rt a0 k)) n_a0 (N:=1000) (xd:=.inl (((n_a0:Nat):Int),(mgL (rt a0) n_a0).length,arrL (mgL (rt a0) n_a0))) (by omega) (fun _=>.inr (.t [.v (.slice none 0 0),.v (.iface 89 (.int .i64 (3:Int)))],.none,true)) (fun k hk hp=>by
  have g1:decide ((k:Int)<(n_a0:Int))=true:=Q3 (by omega)
  have g0:decide (0≤(k:Int))=true:=Q3 (by omega)
  have g3:i64.wrap ((k:Int)+1)=((k+1:Nat):Int):=by rw [IntWalk.i64_in _ (by omega)];omega
  have hlen:=Zwb (rt a0) k
  have g4:Nat.ble (mgL (rt a0) k).length 2000000=true:=Nat.ble_eq_true_of_le (by omega)
  have hsum:=Zyw hr k (by omega)
  have hsucc:mgL (rt a0) (k+1)=addL (mgL (rt a0) k) (rt a0 k):=rfl
  have hb:Nat.ble (((mgL (rt a0) k).length+1)*bytesOf prog 57) 140737488355328=true:=Nat.ble_eq_true_of_le (Nat.le_trans (Nat.mul_le_mul (show _≤13 by omega) hby) (by decide))
  rw [hsucc]
  cases hi:ixL (mgL (rt a0) k) (rt a0 k) with
  | none=>
   have hix:idxR (mgL (rt a0) k).length (arrL (mgL (rt a0) k)) (a0.extract (k*3) (k*3+3)) = -1:=by rw [Yeh,hi]
   have hl:(addL (mgL (rt a0) k) (rt a0 k)).length=(mgL (rt a0) k).length+1:=by rw [Zlz hi,List.length_append];rfl
   have hneg:decide ((-1:Int)<0)=true:=rfl
   simp only [Zaw,g1,g0,g3,g4,hb,hix,hneg,hl,Yew (hA k hk) hi,Q9,Bool.and_self,Q1]
  | some j=>
   have hix:idxR (mgL (rt a0) k).length (arrL (mgL (rt a0) k)) (a0.extract (k*3) (k*3+3))=(j:Int):=by rw [Yeh,hi]
   obtain ⟨x,hx,-,hj,-⟩:=Znp hi
   have hpos:=Zzw (r:=rt a0) (n:=n_a0) (fun k hk=>(hr k hk).1) k (by omega)
   have hx1:=hpos j x hx
   have hx2:=(Yby hpos hx).1
   have hrk:=hr k hk
   obtain ⟨e1,e2⟩:=Yah (A:=a0) hi hx ⟨by omega,by omega⟩ ⟨by omega,by omega⟩
   have hl:(addL (mgL (rt a0) k) (rt a0 k)).length=(mgL (rt a0) k).length:=by rw [Zlp hi hx,List.length_set]
   have hneg:decide ((j:Int)<0)=false:=Q4 (by omega)
   have hj0:decide (0≤(j:Int))=true:=Q3 (by omega)
   have hj1:decide ((j:Int)<((mgL (rt a0) k).length:Int))=true:=Q3 (by omega)
   have hbd:decide (x.2.2+(rt a0 k).2.2 > 200)=false:=by
    have h2:badR (mgL (rt a0) k) (rt a0 k)=decide (x.2.2+(rt a0 k).2.2 > 200):=by unfold badR;rw [hi];dsimp only;rw [hx]
    rw [← h2];exact hp
   simp only [Zaw,g1,g0,g3,g4,hix,hneg,hj0,hj1,hl,Q9,e1,e2,hbd,Bool.and_self,Q1,Q2]) (fun k hk hp=>by
  have g1:decide ((k:Int)<(n_a0:Int))=true:=Q3 (by omega)
  have g0:decide (0≤(k:Int))=true:=Q3 (by omega)
  have g3:i64.wrap ((k:Int)+1)=((k+1:Nat):Int):=by rw [IntWalk.i64_in _ (by omega)];omega
  have hlen:=Zwb (rt a0) k
  have g4:Nat.ble (mgL (rt a0) k).length 2000000=true:=Nat.ble_eq_true_of_le (by omega)
  have hsum:=Zyw hr k (by omega)
  have hsucc:mgL (rt a0) (k+1)=addL (mgL (rt a0) k) (rt a0 k):=rfl
  cases hi:ixL (mgL (rt a0) k) (rt a0 k) with
  | none=>
   exfalso
   unfold badR at hp
   rw [hi] at hp
   cases hp
  | some j=>
   have hix:idxR (mgL (rt a0) k).length (arrL (mgL (rt a0) k)) (a0.extract (k*3) (k*3+3))=(j:Int):=by rw [Yeh,hi]
   obtain ⟨x,hx,-,hj,-⟩:=Znp hi
   have hpos:=Zzw (r:=rt a0) (n:=n_a0) (fun k hk=>(hr k hk).1) k (by omega)
   have hx1:=hpos j x hx
   have hx2:=(Yby hpos hx).1
   have hrk:=hr k hk
   obtain ⟨e1,e2⟩:=Yah (A:=a0) hi hx ⟨by omega,by omega⟩ ⟨by omega,by omega⟩
   have hneg:decide ((j:Int)<0)=false:=Q4 (by omega)
   have hj0:decide (0≤(j:Int))=true:=Q3 (by omega)
   have hj1:decide ((j:Int)<((mgL (rt a0) k).length:Int))=true:=Q3 (by omega)
   have hbd:decide (x.2.2+(rt a0 k).2.2 > 200)=true:=by
    have h2:badR (mgL (rt a0) k) (rt a0 k)=decide (x.2.2+(rt a0 k).2.2 > 200):=by unfold badR;rw [hi];dsimp only;rw [hx]
    rw [← h2];exact hp
   simp only [Zaw,g1,g0,g4,hix,hneg,hj0,hj1,Q9,e1,e2,hbd,Bool.and_self,Q1,Q2]) (by
  have g1:decide ((n_a0:Int)<(n_a0:Int))=false:=Q4 (by omega)
  simp only [Zaw,g1,Q2])
theorem Zkf (b_a0:Option (Option Addr)) (n_a0:Nat) (a0:Array Value) (h_a0:a0.size=n_a0*(lay prog 57).length∧(∀ k,k<n_a0→WT prog 57 (a0.extract (k*(lay prog 57).length) (k*(lay prog 57).length+(lay prog 57).length)))∧n_a0≤9223372036854775807) (hc0:((bdL (rt a0) n_a0))=false) (hg:(Ub0 n_a0 a0)=true):ansV prog Zbu 1000 f22 [([4000000000,10],[1000004,57])] [.l 0] [.sl (.came b_a0) n_a0 a0 57]=some (.t [.x,.v (.nilIface)],.newS (some 0) (mgL (rt a0) n_a0).length (arrL (mgL (rt a0) n_a0)) 57,true):=by
 refine (Zhg 1000 b_a0 n_a0 a0).trans ?_
 rw [Zhb b_a0 n_a0 a0 h_a0 hg]
 unfold bdL at hc0
 revert hc0
 cases (List.range n_a0).find? (fun k=>badR (mgL (rt a0) k) (rt a0 k)) with
 | none=>intro hc0;rfl
 | some j=>intro hc0;cases hc0
theorem Zj9 (b_a0:Option (Option Addr)) (n_a0:Nat) (a0:Array Value) (h_a0:a0.size=n_a0*(lay prog 57).length∧(∀ k,k<n_a0→WT prog 57 (a0.extract (k*(lay prog 57).length) (k*(lay prog 57).length+(lay prog 57).length)))∧n_a0≤9223372036854775807) (hc0:((bdL (rt a0) n_a0))=true) (hg:(Ub0 n_a0 a0)=true):ansV prog Zbu 1000 f22 [([4000000000,10],[1000004,57])] [.l 0] [.sl (.came b_a0) n_a0 a0 57]=some (.t [.v (.slice none 0 0),.v (.iface 89 (.int .i64 (3:Int)))],.none,true):=by
 refine (Zhg 1000 b_a0 n_a0 a0).trans ?_
 rw [Zhb b_a0 n_a0 a0 h_a0 hg]
 unfold bdL at hc0
 revert hc0
 cases (List.range n_a0).find? (fun k=>badR (mgL (rt a0) k) (rt a0 k)) with
 | none=>intro hc0;cases hc0
 | some j=>intro hc0;rfl
def Zbs:SCon:=fun args h=>match args,h with
 | [.l 0],[.sl (.came b_a0) n_a0 a0 57]=>.two ((bdL (rt a0) n_a0)) (.one (some (.t [.x,.v (.iface 89 (.int .i64 (3:Int)))],.newS (some 0) 0 (#[]:Array Value) 57,Ub0 n_a0 a0))) (.one (some (.t [.x,.v (.nilIface)],.newS (some 0) (mgL (rt a0) n_a0).length (arrL (mgL (rt a0) n_a0)) 57,Ub0 n_a0 a0)))
 | _,_=>.one none
theorem Zei:EntX prog 22:=Zap (fn:=f22)
theorem Zhw:Uab mn prog 22 (fun args h=>Uae (Zbs args h)):=by
 intro ρ h w args vals r e hn hr hA hH
 dsimp only at hr
 unfold Zbs at hr
 split at hr
 ·rename_i b_a0 n_a0 a0
  simp only [Uae] at hr
  cases hc0:((bdL (rt a0) n_a0))
  ·rw [hc0] at hr
   simp only [Uae,Q1,Q2] at hr
   obtain ⟨rfl,rfl,hg2⟩:=BQi hr
   exact ((ansY (N:=1000) (mkΓ_consX (Zam Zcg) Zb1 mkΓ_nilX) f22 [([4000000000,10],[1000004,57])])) ρ _ w _ vals _ _ hn ((Zkf b_a0 n_a0 a0 (hH.slw 0 rfl) hc0 hg2)) hA hH
  ·rw [hc0] at hr
   simp only [Uae,Q1,Q2] at hr
   obtain ⟨rfl,rfl,hg2⟩:=BQi hr
   exact (Uab.nil (ansY (N:=1000) (mkΓ_consX (Zam Zcg) Zb1 mkΓ_nilX) f22 [([4000000000,10],[1000004,57])]) 0 57) ρ _ w _ vals _ _ hn (congrArg (nilN 0 57) (Zj9 b_a0 n_a0 a0 (hH.slw 0 rfl) hc0 hg2)) hA hH
 ·simp only [Uae] at hr
  cases hr
def Zeq:Con:=fun args h=>match args,h with
 | [.l 0],[.sl (.came b_a0) n_a0 a0 57]=>some (.t [.x,.v (.iface 89 (.int .i64 (3:Int)))],.newS (some 0) 0 (#[]:Array Value) 57,((bdL (rt a0) n_a0)&&(Ub0 n_a0 a0)))
 | _,_=>none
theorem Zlv:Uab mn prog 22 Zeq:=Uab.of Zhw (by
 intro ρ h w args vals r e hA hH hr
 unfold Zeq at hr
 split at hr
 ·rename_i b_a0 n_a0 a0
  obtain ⟨rfl,rfl,hg2⟩:=BQi hr
  try simp only [Q7,Bool.not_eq_true'] at hg2
  obtain ⟨q0,q1⟩:=hg2
  show Uae (Zbs _ _)=_
  unfold Zbs
  simp only [Uae,q0,q1,Q1,Q2,Bool.and_self]
 ·cases hr)
def Zey:Con:=fun args h=>match args,h with
 | [.l 0],[.sl (.came b_a0) n_a0 a0 57]=>some (.t [.x,.v (.nilIface)],.newS (some 0) (mgL (rt a0) n_a0).length (arrL (mgL (rt a0) n_a0)) 57,((!((bdL (rt a0) n_a0)))&&(Ub0 n_a0 a0)))
 | _,_=>none
theorem Zhq:Uab mn prog 22 Zey:=Uab.of Zhw (by
 intro ρ h w args vals r e hA hH hr
 unfold Zey at hr
 split at hr
 ·rename_i b_a0 n_a0 a0
  obtain ⟨rfl,rfl,hg2⟩:=BQi hr
  try simp only [Q7,Bool.not_eq_true'] at hg2
  obtain ⟨q0,q1⟩:=hg2
  show Uae (Zbs _ _)=_
  unfold Zbs
  simp only [Uae,q0,q1,Q1,Q2,Bool.and_self]
 ·cases hr)
end
end Go.Proofs.YtdhckffhnkeogaaDoor
