/- Lists of releases compared, marked and looked at again. -/
import Derived.Test.YtdhckffhnkeogaaDoorProg
import Derived.Test.YtdhckffhnkeogaaDoorCnD
set_option linter.unusedVariables false
set_option linter.unusedSimpArgs false
namespace Go.Proofs.YtdhckffhnkeogaaDoor
open Tryd (f25 f26)
open Go.ChangeShapes Go.WideShapes Go.ChangeAt Go.RowKit Ve Vc
open Tryd (prog)
open IntKind (i64)
set_option maxRecDepth 100000
noncomputable section
variable {mn:Md}
def celR (k:Int) (i:Nat):Value:=bif Nat.beq (i % 3) 2 then .int .i16 (IntKind.i16.wrap (k+(i:Int))) else .int .i8 (IntKind.i8.wrap (k+(i:Int)))
def mkR (n:Nat) (k:Int):Array Value:=⟨(List.range n).map (celR k)⟩
theorem Ybu (n:Nat) (k:Int):(mkR n k).size=n:=by simp [mkR]
theorem Zwy {n:Nat} {k:Int} {i:Nat} (h:i<n):(mkR n k)[i]? = some (celR k i):=by
 unfold mkR;simp [h]
theorem Yd5 (k:Int) (i:Nat):celR k (i*3) = .int .i8 (IntKind.i8.wrap (k+((i*3:Nat):Int)))∧celR k (i*3+1) = .int .i8 (IntKind.i8.wrap (k+((i*3+1:Nat):Int)))∧celR k (i*3+2) = .int .i16 (IntKind.i16.wrap (k+((i*3+2:Nat):Int))):=by
 unfold celR
 rw [show (i*3) % 3=0 by omega,show (i*3+1) % 3=1 by omega,show (i*3+2) % 3=2 by omega]
 exact ⟨rfl,rfl,rfl⟩
theorem mkR_num {n:Nat} {k:Int} {i:Nat} (h:i*3+2<n):num (mkR n k) (i*3)=IntKind.i8.wrap (k+((i*3:Nat):Int))∧num (mkR n k) (i*3+1)=IntKind.i8.wrap (k+((i*3+1:Nat):Int))∧num (mkR n k) (i*3+2)=IntKind.i16.wrap (k+((i*3+2:Nat):Int)):=by
 obtain ⟨c0,c1,c2⟩:=Yd5 k i
 unfold num
 rw [Zwy (show i*3<n by omega),Zwy (show i*3+1<n by omega),Zwy h,c0,c1,c2]
 exact ⟨rfl,rfl,rfl⟩
def Zcw (a1:Int) (n_a0:Nat) (a0:Array Value):St:=(⟨.a (.l 0) :: .a (.i .i64 (a1)) :: .a (.u) :: .a (.u) :: .a (.i .i64 (0:Int)) :: .a (.i .i64 (0:Int))::us 31 ([]),[.sl .lent n_a0 a0 57],[]⟩:St)
def Zdm (n_a0:Nat):Int×Int×Array Value→LS
 | (y0_1,y0_5,r0_0)=>([.a (.i .i64 (y0_1)),.a (.i .i64 (y0_5))],[.sl .lent n_a0 r0_0 57])
def Zga (n_a0:Nat):Int×Int×Array Value→Exit×LS
 | t=>((.exit 0),(Zdm n_a0) t)
def Zbk (P : Program) (a1 : Int) (n_a0 : Nat) (a0 : Array Value) : Int × Int × Array Value → Option (Stp (Int × Int × Array Value) (Int × Int × Array Value))
 | (y0_1, y0_5, r0_0) => bif decide (y0_5 < (n_a0 : Int)) then (bif (decide (0 ≤ y0_5) && decide (y0_5 < (n_a0 : Int))) then (bif (decide (0 ≤ y0_5) && decide (y0_5 < (n_a0 : Int))) then (bif (decide (0 ≤ y0_5) && decide (y0_5 < (n_a0 : Int))) then (some (.more ((i64.wrap ((i64.wrap ((i64.wrap (y0_1 + (1 : Int))) + (1 : Int))) + (1 : Int))), (i64.wrap (y0_5 + (1 : Int))), (((r0_0.setIfInBounds (((y0_5).toNat * 3) + 0) (.int .i8 (IntKind.i8.wrap y0_1))).setIfInBounds (((y0_5).toNat * 3) + 1) (.int .i8 (IntKind.i8.wrap (i64.wrap (y0_1 + (1 : Int)))))).setIfInBounds (((y0_5).toNat * 3) + 2) (.int .i16 (IntKind.i16.wrap (i64.wrap ((i64.wrap (y0_1 + (1 : Int))) + (1 : Int)))))))))
     else (none))
    else (none))
   else (none))
  else (some (.done (y0_1, y0_5, r0_0)))
noncomputable abbrev cKCnE25:=codeOf f25
def Ude:=(Uaf cKCnE25 [([1,5],[0])]).1
theorem Zow (N:Nat) (a1:Int) (n_a0:Nat) (a0:Array Value):∀ t:Int×Int×Array Value,Uam prog (mkΓ []) N (cAt cKCnE25 [1,0,1,0,0]) (pAt Ude [1,0,1,0]) [1,5] [0] (Zcw a1 n_a0 a0) ((Zdm n_a0) t)=mapS (Zdm n_a0) (Zga n_a0) (Zbk prog a1 n_a0 a0 t):=by
 rintro ⟨y0_1,y0_5,r0_0⟩
 refine Eq.trans (b:=(bif decide (y0_5<(n_a0:Int)) then (bif (decide (0≤y0_5)&&decide (y0_5<(n_a0:Int))) then (bif (decide (0≤y0_5)&&decide (y0_5<(n_a0:Int))) then (bif (decide (0≤y0_5)&&decide (y0_5<(n_a0:Int))) then (some (.more ([.a (.i .i64 (i64.wrap ((i64.wrap ((i64.wrap (y0_1+(1:Int)))+(1:Int)))+(1:Int)))),.a (.i .i64 (i64.wrap (y0_5+(1:Int))))],[.sl .lent n_a0 (((r0_0.setIfInBounds (((y0_5).toNat*3)+0) (.int .i8 (IntKind.i8.wrap y0_1))).setIfInBounds (((y0_5).toNat*3)+1) (.int .i8 (IntKind.i8.wrap (i64.wrap (y0_1+(1:Int)))))).setIfInBounds (((y0_5).toNat*3)+2) (.int .i16 (IntKind.i16.wrap (i64.wrap ((i64.wrap (y0_1+(1:Int)))+(1:Int)))))) 57])))
     else (none))
    else (none))
   else (none))
  else (some (.done ((.exit 0),([.a (.i .i64 (y0_1)),.a (.i .i64 (y0_5))],[.sl .lent n_a0 r0_0 57])))))) (by kernel_rfl) ?_
 simp only [Zbk,Zbp,Zbo,Zbm,Zbn,Zdm,Zga]
def Zd3 (P:Program) (N:Nat) (a1:Int) (n_a0:Nat) (a0:Array Value) (z0_1:Int) (z0_5:Int) (q0_0:Array Value):Option (SV×Eff×Bool):=bif (Nat.blt 0 n_a0) then (some (.a (.i .i64 (z0_1)),.set 0 (.sl .lent n_a0 q0_0 57),true))
  else (none)
def Uej (N n_a0:Nat) (a0:Array Value):=(Uaz 0 (kSeq (veC prog (mkΓ []) N (cAt cKCnE25 [1,1]) (pAt Ude [1,1]) (SV×Eff×Bool)) (finK prog [.sl .lent n_a0 a0 57] [.tmp 4])))
theorem Zke (N:Nat) (a1:Int) (n_a0:Nat) (a0:Array Value) (z0_1:Int) (z0_5:Int) (q0_0:Array Value):(Uej N n_a0 a0) (.exit 0) (left (writes (cAt cKCnE25 [1,0,1,0,0])) [1,5] [0] (Zcw a1 n_a0 a0) ([.a (.i .i64 (z0_1)),.a (.i .i64 (z0_5))],[.sl .lent n_a0 q0_0 57]))=Zd3 prog N a1 n_a0 a0 z0_1 z0_5 q0_0:=by
 refine Eq.trans (b:=(bif (Nat.blt 0 n_a0) then (some (.a (.i .i64 (z0_1)),.set 0 (.sl .lent n_a0 q0_0 57),true))
  else (none))) (by kernel_rfl) ?_
 rfl
theorem Zov (N:Nat) (a1:Int) (n_a0:Nat) (a0:Array Value):Uak (Uaa (Uam prog (mkΓ []) N (cAt cKCnE25 [1,0,1,0,0]) (pAt Ude [1,0,1,0]) [1,5] [0] (Zcw a1 n_a0 a0)) N ([.a (.i .i64 (a1)),.a (.i .i64 (0:Int))],[.sl .lent n_a0 a0 57])) (fun e s=>(Uej N n_a0 a0) e (left (writes (cAt cKCnE25 [1,0,1,0,0])) [1,5] [0] (Zcw a1 n_a0 a0) s))=Uan (Uaa (Zbk prog a1 n_a0 a0) N (a1,(0:Int),a0)) (fun x=>Zd3 prog N a1 n_a0 a0 x.1 x.2.1 x.2.2):=by
 refine Zby (Zdm n_a0) (Zga n_a0) _ _ (Zow N a1 n_a0 a0) N (a1,(0:Int),a0) _ _ ?_
 intro x;exact Zke N a1 n_a0 a0 x.1 x.2.1 x.2.2
theorem Zni (N:Nat) (a1:Int) (n_a0:Nat) (a0:Array Value):ansV prog (mkΓ []) N f25 [([1,5],[0])] [.l 0,.i .i64 (a1)] [.sl .lent n_a0 a0 57]=(Uan (Uaa (Zbk prog a1 n_a0 a0) N (a1,(0:Int),a0)) (fun x=>Zd3 prog N a1 n_a0 a0 x.1 x.2.1 x.2.2)):=by
 refine Eq.trans (b:=(Uak (Uaa (Uam prog (mkΓ []) N (cAt cKCnE25 [1,0,1,0,0]) (pAt Ude [1,0,1,0]) [1,5] [0] (Zcw a1 n_a0 a0)) N ([.a (.i .i64 (a1)),.a (.i .i64 (0:Int))],[.sl .lent n_a0 a0 57])) (fun e s=>(Uej N n_a0 a0) e (left (writes (cAt cKCnE25 [1,0,1,0,0])) [1,5] [0] (Zcw a1 n_a0 a0) s)))) (by kernel_rfl) ?_
 simp only [Zov N a1 n_a0 a0]
theorem Zlt (a1:Int) (n_a0:Nat) (a0:Array Value) (h_a1:i64.min≤a1∧a1≤i64.max) (h_a0:a0.size=n_a0*(lay prog 57).length∧(∀ k,k<n_a0→WT prog 57 (a0.extract (k*(lay prog 57).length) (k*(lay prog 57).length+(lay prog 57).length)))∧n_a0≤9223372036854775807) (hc0:(Nat.beq n_a0 0)=false) (hg:(((Nat.ble n_a0 2000000)&&(decide (0≤a1)&&decide (a1≤1000000))))=true):ansV prog (mkΓ []) 18446744073709551616 f25 [([1,5],[0])] [.l 0,.i .i64 (a1)] [.sl .lent n_a0 a0 57]=some (.a (.i .i64 (a1+((n_a0*3:Nat):Int))),.set 0 (.sl .lent n_a0 (mkR (n_a0*3) a1) 57),true):=by
 rw [Q7,Q7] at hg
 have hn:n_a0≤2000000:=Nat.le_of_ble_eq_true hg.1
 have hk0:0≤a1∧a1≤1000000:=⟨of_decide_eq_true hg.2.1,of_decide_eq_true hg.2.2⟩
 have hm:(lay prog 57).length=3:=by kernel_rfl
 obtain ⟨s1,-,-⟩:=h_a0
 rw [hm] at s1
 have hs:(mkR (n_a0*3) a1).size=a0.size:=by rw [Ybu,s1]
 have hpos:Nat.blt 0 n_a0=true:=by
  have:n_a0≠0:=fun h=>by rw [h] at hc0;cases hc0
  simp [Nat.blt];omega
 have h:=Zeo (g:=Zbk prog a1 n_a0 a0) (fun i=>(a1+((i*3:Nat):Int),(i:Int),upto (mkR (n_a0*3) a1) a0 (i*3))) (m:=n_a0) (x:=(a1+((n_a0*3:Nat):Int),(n_a0:Int),upto (mkR (n_a0*3) a1) a0 (n_a0*3))) (N:=18446744073709551616) (fun i hi=>by
  have h1:decide ((i:Int)<(n_a0:Int))=true:=Q3 (by omega)
  have h2:decide (0≤(i:Int))=true:=Q3 (by omega)
  have h3:i64.wrap (a1+((i*3:Nat):Int)+1)=a1+((i*3+1:Nat):Int):=by rw [IntWalk.i64_in _ (by omega)];omega
  have h4:i64.wrap (a1+((i*3+1:Nat):Int)+1)=a1+((i*3+2:Nat):Int):=by rw [IntWalk.i64_in _ (by omega)];omega
  have h9:i64.wrap (a1+((i*3+2:Nat):Int)+1)=a1+(((i+1)*3:Nat):Int):=by rw [IntWalk.i64_in _ (by omega)];omega
  have h5:i64.wrap ((i:Int)+1)=((i+1:Nat):Int):=by rw [IntWalk.i64_in _ (by omega)];omega
  obtain ⟨c0,c1,c2⟩:=Yd5 a1 i
  have h6:(upto (mkR (n_a0*3) a1) a0 (i*3)).setIfInBounds (i*3+0) (.int .i8 (IntKind.i8.wrap (a1+((i*3:Nat):Int))))=upto (mkR (n_a0*3) a1) a0 (i*3+1):=Zli hs (by rw [Zwy (by omega),c0])
  have h7:(upto (mkR (n_a0*3) a1) a0 (i*3+1)).setIfInBounds (i*3+1) (.int .i8 (IntKind.i8.wrap (a1+((i*3+1:Nat):Int))))=upto (mkR (n_a0*3) a1) a0 (i*3+2):=Zli hs (by rw [Zwy (by omega),c1])
  have h8:(upto (mkR (n_a0*3) a1) a0 (i*3+2)).setIfInBounds (i*3+2) (.int .i16 (IntKind.i16.wrap (a1+((i*3+2:Nat):Int))))=upto (mkR (n_a0*3) a1) a0 ((i+1)*3):=by
   rw [show (i+1)*3=i*3+2+1 by omega]
   exact Zli hs (by rw [Zwy (by omega),c2])
  simp only [Zbk,h1,h2,h3,h4,h9,h5,h6,h7,h8,Q9,Bool.and_self,Q1]) (by
  have h1:decide ((n_a0:Int)<(n_a0:Int))=false:=Q4 (by omega)
  simp only [Zbk,h1,Q2]) (by omega)
 refine (Zni 18446744073709551616 a1 n_a0 a0).trans ?_
 have hz:upto (mkR (n_a0*3) a1) a0 0=a0:=Zko hs
 have hl:upto (mkR (n_a0*3) a1) a0 (n_a0*3)=mkR (n_a0*3) a1:=Zoc hs (Ybu _ _)
 have h':Uaa (Zbk prog a1 n_a0 a0) 18446744073709551616 (a1,(0:Int),a0)=some (a1+((n_a0*3:Nat):Int),(n_a0:Int),mkR (n_a0*3) a1):=by
  have h2:=h
  simp only [Nat.zero_mul,hz,hl] at h2
  have e:a1+((0:Nat):Int)=a1:=by omega
  rw [e] at h2
  exact h2
 rw [h']
 simp only [Uan,Zd3,hpos,Q1]
theorem Zlb (a1:Int) (n_a0:Nat) (a0:Array Value) (h_a1:i64.min≤a1∧a1≤i64.max) (h_a0:a0.size=n_a0*(lay prog 57).length∧(∀ k,k<n_a0→WT prog 57 (a0.extract (k*(lay prog 57).length) (k*(lay prog 57).length+(lay prog 57).length)))∧n_a0≤9223372036854775807) (hc0:(Nat.beq n_a0 0)=true) (hg:(true)=true):ansV prog (mkΓ []) 1000 f25 [([1,5],[])] [.l 0,.i .i64 (a1)] [.sl .lent n_a0 a0 57]=some (.a (.i .i64 (a1)),.none,true):=by
 obtain rfl:n_a0=0:=Nat.eq_of_beq_eq_true hc0
 kernel_rfl
def Zfo:SCon:=fun args h=>match args,h with
 | [.l 0,.i .i64 a1],[.sl .lent n_a0 a0 57]=>.two (Nat.beq n_a0 0) (.one (some (.a (.i .i64 (a1)),.none,true))) (.one (some (.a (.i .i64 (a1+((n_a0*3:Nat):Int))),.set 0 (.sl .lent n_a0 (mkR (n_a0*3) a1) 57),((Nat.ble n_a0 2000000)&&(decide (0≤a1)&&decide (a1≤1000000))))))
 | _,_=>.one none
theorem Zhy:EntX prog 25:=Zap (fn:=f25)
theorem Zid:Uab mn prog 25 (fun args h=>Uae (Zfo args h)):=by
 intro ρ h w args vals r e hn hr hA hH
 dsimp only at hr
 unfold Zfo at hr
 split at hr
 ·rename_i a1 n_a0 a0
  simp only [Uae] at hr
  cases hc0:(Nat.beq n_a0 0)
  ·rw [hc0] at hr
   simp only [Uae,Q1,Q2] at hr
   obtain ⟨rfl,rfl,hg2⟩:=BQi hr
   exact ((ansY (N:=18446744073709551616) mkΓ_nilX f25 [([1,5],[0])])) ρ _ w _ vals _ _ hn ((Zlt a1 n_a0 a0 (hA.rng 1 rfl) (hH.slw 0 rfl) hc0 hg2)) hA hH
  ·rw [hc0] at hr
   simp only [Uae,Q1,Q2] at hr
   obtain ⟨rfl,rfl,hg2⟩:=BQi hr
   exact ((ansY (N:=1000) mkΓ_nilX f25 [([1,5],[])])) ρ _ w _ vals _ _ hn ((Zlb a1 n_a0 a0 (hA.rng 1 rfl) (hH.slw 0 rfl) hc0 hg2)) hA hH
 ·simp only [Uae] at hr
  cases hr
def Zb4 (a1:Int) (b_a0:Option (Option Addr)) (n_a0:Nat) (a0:Array Value):St:=(⟨.a (.l 0) :: .a (.i .i64 (a1)) :: .a (.u) :: .a (.u) :: .a (.i .i64 (0:Int)) :: .a (.i .i64 (0:Int))::us 37 ([]),[.sl (.came b_a0) n_a0 a0 57],[]⟩:St)
def Zcu:Int×Int×Int→LS
 | (y0_1,y0_4,y0_5)=>([.a (.i .i64 (y0_1)),.a (.i .i64 (y0_4)),.a (.i .i64 (y0_5))],[])
def Zge:(Stp (Int×Int×Int) (Int×Int×Int))→Exit×LS
 | .more t=>(.ret,Zcu t)
 | .done t=>((.exit 0),Zcu t)
def Zbj (P:Program) (a1:Int) (b_a0:Option (Option Addr)) (n_a0:Nat) (a0:Array Value):Int×Int×Int→Option (Stp (Int×Int×Int) (Stp (Int×Int×Int) (Int×Int×Int)))
  | (y0_1,y0_4,y0_5)=>bif decide (y0_5<(n_a0:Int)) then (bif (decide (0≤y0_5)&&decide (y0_5<(n_a0:Int))) then (bif ((num a0 (((y0_5).toNat*3)+0)) != (IntKind.i8.wrap y0_1)) then (some (.done (.more (y0_1,(-1:Int),y0_5))))
        else (bif (decide (0≤y0_5)&&decide (y0_5<(n_a0:Int))) then (bif ((num a0 (((y0_5).toNat*3)+1)) != (IntKind.i8.wrap (i64.wrap (y0_1+(1:Int))))) then (some (.done (.more ((i64.wrap (y0_1+(1:Int))),(-1:Int),y0_5))))
            else (bif (decide (0≤y0_5)&&decide (y0_5<(n_a0:Int))) then (bif ((num a0 (((y0_5).toNat*3)+2)) != (IntKind.i16.wrap (i64.wrap ((i64.wrap (y0_1+(1:Int)))+(1:Int))))) then (some (.done (.more ((i64.wrap ((i64.wrap (y0_1+(1:Int)))+(1:Int))),(-1:Int),y0_5))))
                else (some (.more ((i64.wrap ((i64.wrap ((i64.wrap (y0_1+(1:Int)))+(1:Int)))+(1:Int))),y0_4,(i64.wrap (y0_5+(1:Int)))))))
              else (none)))
          else (none)))
      else (none))
    else (some (.done (.done (y0_1,y0_4,y0_5))))
noncomputable abbrev cKCnE26:=codeOf f26
def Udr:=(Uaf cKCnE26 [([1,4,5],[])]).1
theorem Zom (N:Nat) (a1:Int) (b_a0:Option (Option Addr)) (n_a0:Nat) (a0:Array Value):∀ t:Int×Int×Int,Uam prog (mkΓ []) N (cAt cKCnE26 [1,0,1,0,0]) (pAt Udr [1,0,1,0]) [1,4,5] [] (Zb4 a1 b_a0 n_a0 a0) (Zcu t)=mapS Zcu Zge (Zbj prog a1 b_a0 n_a0 a0 t):=by
  rintro ⟨y0_1,y0_4,y0_5⟩
  refine Eq.trans (b:=(bif decide (y0_5<(n_a0:Int)) then (bif (decide (0≤y0_5)&&decide (y0_5<(n_a0:Int))) then (bif ((num a0 (((y0_5).toNat*3)+0)) != (IntKind.i8.wrap y0_1)) then (some (.done (.ret,([.a (.i .i64 (y0_1)),.a (.i .i64 (-1:Int)),.a (.i .i64 (y0_5))],[]))))
        else (bif (decide (0≤y0_5)&&decide (y0_5<(n_a0:Int))) then (bif ((num a0 (((y0_5).toNat*3)+1)) != (IntKind.i8.wrap (i64.wrap (y0_1+(1:Int))))) then (some (.done (.ret,([.a (.i .i64 (i64.wrap (y0_1+(1:Int)))),.a (.i .i64 (-1:Int)),.a (.i .i64 (y0_5))],[]))))
            else (bif (decide (0≤y0_5)&&decide (y0_5<(n_a0:Int))) then (bif ((num a0 (((y0_5).toNat*3)+2)) != (IntKind.i16.wrap (i64.wrap ((i64.wrap (y0_1+(1:Int)))+(1:Int))))) then (some (.done (.ret,([.a (.i .i64 (i64.wrap ((i64.wrap (y0_1+(1:Int)))+(1:Int)))),.a (.i .i64 (-1:Int)),.a (.i .i64 (y0_5))],[]))))
                else (some (.more ([.a (.i .i64 (i64.wrap ((i64.wrap ((i64.wrap (y0_1+(1:Int)))+(1:Int)))+(1:Int)))),.a (.i .i64 (y0_4)),.a (.i .i64 (i64.wrap (y0_5+(1:Int))))],[]))))
              else (none)))
          else (none)))
      else (none))
    else (some (.done ((.exit 0),([.a (.i .i64 (y0_1)),.a (.i .i64 (y0_4)),.a (.i .i64 (y0_5))],[])))))) (by kernel_rfl) ?_
  simp only [Zbj,Zbp,Zbo,Zbm,Zbn,Zcu,Zge]
def Zfp (P:Program) (N:Nat) (a1:Int) (b_a0:Option (Option Addr)) (n_a0:Nat) (a0:Array Value) (z0_1:Int) (z0_4:Int) (z0_5:Int):Option (SV×Eff×Bool):=some (.a (.i .i64 (z0_4)),.none,true)
def Udd (N:Nat) (b_a0:Option (Option Addr)) (n_a0:Nat) (a0:Array Value):=(Uaz 0 (kSeq (veC prog (mkΓ []) N (cAt cKCnE26 [1,1]) (pAt Udr [1,1]) (SV×Eff×Bool)) (finK prog [.sl (.came b_a0) n_a0 a0 57] [.tmp 4])))
theorem Zka (N:Nat) (a1:Int) (b_a0:Option (Option Addr)) (n_a0:Nat) (a0:Array Value) (z0_1:Int) (z0_4:Int) (z0_5:Int):(Udd N b_a0 n_a0 a0) .ret (left (writes (cAt cKCnE26 [1,0,1,0,0])) [1,4,5] [] (Zb4 a1 b_a0 n_a0 a0) ([.a (.i .i64 (z0_1)),.a (.i .i64 (z0_4)),.a (.i .i64 (z0_5))],[]))=Zfp prog N a1 b_a0 n_a0 a0 z0_1 z0_4 z0_5:=by
 refine Eq.trans (b:=(some (.a (.i .i64 (z0_4)),.none,true))) (by kernel_rfl) ?_
 rfl
def Zfh (P:Program) (N:Nat) (a1:Int) (b_a0:Option (Option Addr)) (n_a0:Nat) (a0:Array Value) (z0_1:Int) (z0_4:Int) (z0_5:Int):Option (SV×Eff×Bool):=some (.a (.i .i64 (z0_1)),.none,true)
theorem Zj6 (N:Nat) (a1:Int) (b_a0:Option (Option Addr)) (n_a0:Nat) (a0:Array Value) (z0_1:Int) (z0_4:Int) (z0_5:Int):(Udd N b_a0 n_a0 a0) (.exit 0) (left (writes (cAt cKCnE26 [1,0,1,0,0])) [1,4,5] [] (Zb4 a1 b_a0 n_a0 a0) ([.a (.i .i64 (z0_1)),.a (.i .i64 (z0_4)),.a (.i .i64 (z0_5))],[]))=Zfh prog N a1 b_a0 n_a0 a0 z0_1 z0_4 z0_5:=by
 refine Eq.trans (b:=(some (.a (.i .i64 (z0_1)),.none,true))) (by kernel_rfl) ?_
 rfl
theorem Zor (N:Nat) (a1:Int) (b_a0:Option (Option Addr)) (n_a0:Nat) (a0:Array Value):Uak (Uaa (Uam prog (mkΓ []) N (cAt cKCnE26 [1,0,1,0,0]) (pAt Udr [1,0,1,0]) [1,4,5] [] (Zb4 a1 b_a0 n_a0 a0)) N ([.a (.i .i64 (a1)),.a (.i .i64 (0:Int)),.a (.i .i64 (0:Int))],[])) (fun e s=>(Udd N b_a0 n_a0 a0) e (left (writes (cAt cKCnE26 [1,0,1,0,0])) [1,4,5] [] (Zb4 a1 b_a0 n_a0 a0) s))=Uan (Uaa (Zbj prog a1 b_a0 n_a0 a0) N (a1,(0:Int),(0:Int))) (st2 (fun x=>Zfp prog N a1 b_a0 n_a0 a0 x.1 x.2.1 x.2.2) (fun x=>Zfh prog N a1 b_a0 n_a0 a0 x.1 x.2.1 x.2.2)):=by
 refine Zby Zcu Zge _ _ (Zom N a1 b_a0 n_a0 a0) N (a1,(0:Int),(0:Int)) _ _ ?_
 intro x
 cases x with
 | more x=>exact Zka N a1 b_a0 n_a0 a0 x.1 x.2.1 x.2.2
 | done x=>exact Zj6 N a1 b_a0 n_a0 a0 x.1 x.2.1 x.2.2
theorem Zm7 (N:Nat) (a1:Int) (b_a0:Option (Option Addr)) (n_a0:Nat) (a0:Array Value):ansV prog (mkΓ []) N f26 [([1,4,5],[])] [.l 0,.i .i64 (a1)] [.sl (.came b_a0) n_a0 a0 57]=(Uan (Uaa (Zbj prog a1 b_a0 n_a0 a0) N (a1,(0:Int),(0:Int))) (st2 (fun x=>Zfp prog N a1 b_a0 n_a0 a0 x.1 x.2.1 x.2.2) (fun x=>Zfh prog N a1 b_a0 n_a0 a0 x.1 x.2.1 x.2.2))):=by
 refine Eq.trans (b:=(Uak (Uaa (Uam prog (mkΓ []) N (cAt cKCnE26 [1,0,1,0,0]) (pAt Udr [1,0,1,0]) [1,4,5] [] (Zb4 a1 b_a0 n_a0 a0)) N ([.a (.i .i64 (a1)),.a (.i .i64 (0:Int)),.a (.i .i64 (0:Int))],[])) (fun e s=>(Udd N b_a0 n_a0 a0) e (left (writes (cAt cKCnE26 [1,0,1,0,0])) [1,4,5] [] (Zb4 a1 b_a0 n_a0 a0) s)))) (by kernel_rfl) ?_
 simp only [Zor N a1 b_a0 n_a0 a0]
theorem Zmh (a1:Int) (b_a0:Option (Option Addr)) (n_a0:Nat) (a0:Array Value) (h_a1:i64.min≤a1∧a1≤i64.max) (h_a0:a0.size=n_a0*(lay prog 57).length∧(∀ k,k<n_a0→WT prog 57 (a0.extract (k*(lay prog 57).length) (k*(lay prog 57).length+(lay prog 57).length)))∧n_a0≤9223372036854775807) (hg:(((Nat.ble n_a0 2000000)&&((decide (0≤a1)&&decide (a1≤1000000))&&Uas a0 (mkR (n_a0*3) a1))))=true):ansV prog (mkΓ []) 18446744073709551616 f26 [([1,4,5],[])] [.l 0,.i .i64 (a1)] [.sl (.came b_a0) n_a0 a0 57]=some (.a (.i .i64 (a1+((n_a0*3:Nat):Int))),.none,true):=by
 rw [Q7,Q7,Q7] at hg
 have hn:n_a0≤2000000:=Nat.le_of_ble_eq_true hg.1
 have hk0:0≤a1∧a1≤1000000:=⟨of_decide_eq_true hg.2.1.1,of_decide_eq_true hg.2.1.2⟩
 have hA:=Zif.1 hg.2.2
 have h:=Zeo (g:=Zbj prog a1 b_a0 n_a0 a0) (fun i=>(a1+((i*3:Nat):Int),(0:Int),(i:Int))) (m:=n_a0) (x:=.done (a1+((n_a0*3:Nat):Int),(0:Int),(n_a0:Int))) (N:=18446744073709551616) (fun i hi=>by
  have h1:decide ((i:Int)<(n_a0:Int))=true:=Q3 (by omega)
  have h2:decide (0≤(i:Int))=true:=Q3 (by omega)
  have h3:i64.wrap (a1+((i*3:Nat):Int)+1)=a1+((i*3+1:Nat):Int):=by rw [IntWalk.i64_in _ (by omega)];omega
  have h4:i64.wrap (a1+((i*3+1:Nat):Int)+1)=a1+((i*3+2:Nat):Int):=by rw [IntWalk.i64_in _ (by omega)];omega
  have h9:i64.wrap (a1+((i*3+2:Nat):Int)+1)=a1+(((i+1)*3:Nat):Int):=by rw [IntWalk.i64_in _ (by omega)];omega
  have h5:i64.wrap ((i:Int)+1)=((i+1:Nat):Int):=by rw [IntWalk.i64_in _ (by omega)];omega
  obtain ⟨m0,m1,m2⟩:=mkR_num (n:=n_a0*3) (k:=a1) (i:=i) (by omega)
  have h6:(num a0 (i*3) != IntKind.i8.wrap (a1+((i*3:Nat):Int)))=false:=by rw [hA,m0];exact bne_self_eq_false _
  have h7:(num a0 (i*3+1) != IntKind.i8.wrap (a1+((i*3+1:Nat):Int)))=false:=by rw [hA,m1];exact bne_self_eq_false _
  have h8:(num a0 (i*3+2) != IntKind.i16.wrap (a1+((i*3+2:Nat):Int)))=false:=by rw [hA,m2];exact bne_self_eq_false _
  simp only [Zbj,h1,h2,h3,h4,h9,h5,h6,h7,h8,Nat.add_zero,Q9,Bool.and_self,Q1,Q2]) (by
  have h1:decide ((n_a0:Int)<(n_a0:Int))=false:=Q4 (by omega)
  simp only [Zbj,h1,Q2]) (by omega)
 refine (Zm7 18446744073709551616 a1 b_a0 n_a0 a0).trans ?_
 have h':Uaa (Zbj prog a1 b_a0 n_a0 a0) 18446744073709551616 (a1,(0:Int),(0:Int))=some (.done (a1+((n_a0*3:Nat):Int),(0:Int),(n_a0:Int))):=by
  have h2:=h
  have e:a1+((0*3:Nat):Int)=a1:=by omega
  simp only [e] at h2
  exact h2
 rw [h']
 rfl
def Zeh:Con:=fun args h=>match args,h with
 | [.l 0,.i .i64 a1],[.sl (.came b_a0) n_a0 a0 57]=>some (.a (.i .i64 (a1+((n_a0*3:Nat):Int))),.none,((Nat.ble n_a0 2000000)&&((decide (0≤a1)&&decide (a1≤1000000))&&Uas a0 (mkR (n_a0*3) a1))))
 | _,_=>none
theorem Zlw:EntX prog 26:=Zap (fn:=f26)
theorem Zo0:Uab mn prog 26 Zeh:=(ansY (N:=18446744073709551616) mkΓ_nilX f26 [([1,4,5],[])]).of (by
 intro ρ h w args vals r e hA hH hr
 unfold Zeh at hr
 split at hr
 ·rename_i a1 b_a0 n_a0 a0
  obtain ⟨rfl,rfl,hg2⟩:=BQi hr
  exact Zmh a1 b_a0 n_a0 a0 (hA.rng 1 rfl) (hH.slw 0 rfl) hg2
 ·cases hr)
end
end Go.Proofs.YtdhckffhnkeogaaDoor
