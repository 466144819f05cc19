/- For every sea and some cells spec and program tell the same plan with the fewest cells. -/
import Derived.Lib.LaidTab
import Derived.Test.YtgllknjdblkhnaaGreatDoorRows
import Derived.Test.YtgllknjdblkhnaaGreatDoorChecked
import Derived.Test.YtgllknjdblkhnaaGreatDoorCfH
import Derived.Test.YtgllknjdblkhnaaGreatDoorVcG
import Derived.Test.YtgllknjdblkhnaaGreatDoorLoX
import Derived.Test.YtgllknjdblkhnaaGreatDoorCards
import Derived.Test.YtgllknjdblkhnaaGreatDoorTie
set_option linter.unusedVariables false
set_option linter.unusedSimpArgs false
namespace Go.Proofs.YtgllknjdblkhnaaGreatDoor
open Go.ChangeShapes Go.WideShapes Go.ChangeAt Go.RowKit Ve Vc
open IntKind (i64)
set_option maxRecDepth 100000
noncomputable section
open Pop
variable {mn:Md}
def Znc:Cons:=(mkΓw [(18,conSW Zht)] [] [] [])
theorem Zpj(N:Nat)(a0:Array Value)(a1:Int)(nR:Nat)(aR:Array Value):ansV Tryz.prog Znc N Tryz.f8 [] [.r a0 31 [(2,0)],.i .i64 a1] [.sl .lent nR aR 48]=(bif Nat.beq nR 0 then (some (.a (.i .i64 a1),.none,true)) else (bif ((Nat.ble nR 2000000)&&(decide (0<=a1)&&decide (a1<=1000000))) then (bif (Nat.blt 0 nR) then (some (.a (.i .i64 (a1+((nR*3:Nat):Int))),.set 0 (.sl .lent nR (mkR (nR*3) a1) 48),true)) else (none)) else (none))):=by kernel_rfl
theorem Zvq(a0:Array Value)(a1:Int)(nR:Nat)(aR:Array Value)(h_a0:WT Tryz.prog 31 a0)(h_a1:i64.min<=a1/\a1<=i64.max)(h_a0x2:SlT 48 nR aR)(hc0:(Nat.beq nR 0)=false)(hg:(((Nat.ble nR 2000000)&&(decide (0<=a1)&&decide (a1<=1000000))))=true):ansV Tryz.prog Znc 1000 Tryz.f8 [] [.r a0 31 [(2,0)],.i .i64 a1] [.sl .lent nR aR 48]=some (.a (.i .i64 (a1+((nR*3:Nat):Int))),.set 0 (.sl .lent nR (mkR (nR*3) a1) 48),true):=by
 have hpos:Nat.blt 0 nR=true:=by
  have:nR≠0:=λh=>by rw[h]at hc0;cases hc0
  simp[Nat.blt];omega
 refine(Zpj 1000 a0 a1 nR aR).trans ?_;simp only[hc0,hg,hpos,Q1,Q2]
theorem Zvg(a0:Array Value)(a1:Int)(nR:Nat)(aR:Array Value)(h_a0:WT Tryz.prog 31 a0)(h_a1:i64.min<=a1/\a1<=i64.max)(h_a0x2:SlT 48 nR aR)(hc0:(Nat.beq nR 0)=true)(hg:(true)=true):ansV Tryz.prog Znc 1000 Tryz.f8 [] [.r a0 31 [(2,0)],.i .i64 a1] [.sl .lent nR aR 48]=some (.a (.i .i64 a1),.none,true):=by refine(Zpj 1000 a0 a1 nR aR).trans ?_;simp only[hc0,Q1]
def Zkv:SCon:=λargs h=>match args,h with|[.r a0 31 [(2,0)],.i .i64 a1],[.sl .lent nR aR 48]=>.two (Nat.beq nR 0) (.one (some (.a (.i .i64 a1),.none,true))) (.one (some (.a (.i .i64 (a1+((nR*3:Nat):Int))),.set 0 (.sl .lent nR (mkR (nR*3) a1) 48),((Nat.ble nR 2000000)&&(decide (0<=a1)&&decide (a1<=1000000))))))|_,_=>.one none
theorem Zvx:EntX Tryz.prog 8:=Zak (fn:=Tryz.f8)
theorem Yaf:Uac mn Tryz.prog 8 (λargs h=>Uag (Zkv args h)):=by
 intro ρ h w args vals r e hn hr hA hH;dsimp only at hr;unfold Zkv at hr;split at hr
 ·rename_i a0 a1 nR aR;simp only[Uag]at hr;cases hc0:(Nat.beq nR 0)
  ·rw[hc0]at hr;simp only[Uag,Q1,Q2]at hr;obtain⟨rfl,rfl,hg2⟩:=BQi hr;exact((ansY (N:=1000) (mkΓw_sX (Ydv Zl7) Zkp mkΓx_nilX) Tryz.f8 [])) ρ _ w _ vals _ _ hn ((Zvq a0 a1 nR aR (hA.wtr 0 rfl) (hA.rng 1 rfl) (hH.slw 0 rfl) hc0 hg2)) hA hH
  ·rw[hc0]at hr;simp only[Uag,Q1,Q2]at hr;obtain⟨rfl,rfl,hg2⟩:=BQi hr;exact((ansY (N:=1000) (mkΓw_sX (Ydv Zl7) Zkp mkΓx_nilX) Tryz.f8 [])) ρ _ w _ vals _ _ hn ((Zvg a0 a1 nR aR (hA.wtr 0 rfl) (hA.rng 1 rfl) (hH.slw 0 rfl) hc0 hg2)) hA hH
 ·simp only[Uag]at hr;cases hr
theorem Zz9(N:Nat)(a0:Array Value)(a1:Int)(bR:Option (Option Addr))(nR:Nat)(aR:Array Value):ansV Tryz.prog (mkΓ [(19,con Zf7)]) N Tryz.f9 [] [.r a0 31 [(2,0)],.i .i64 a1] [.sl (.came bR) nR aR 48]=(bif ((Nat.ble nR 2000000)&&((decide (0<=a1)&&decide (a1<=1000000))&&Ua2 aR (mkR (nR*3) a1))) then (bif decide ((a1+((nR*3:Nat):Int))<(0:Int)) then (some (.a (.i .i64 (-1:Int)),.none,true)) else (some (.a (.i .i64 (a1+((nR*3:Nat):Int))),.none,true))) else (none)):=by kernel_rfl
def Zah(a0:Array Value)(a1:Int)(bR:Option (Option Addr))(nR:Nat)(aR:Array Value):Int:=(bif decide ((a1+((nR*3:Nat):Int))<(0:Int)) then (-1:Int) else (a1+((nR*3:Nat):Int)))
def Zbd(a0:Array Value)(a1:Int)(bR:Option (Option Addr))(nR:Nat)(aR:Array Value):Bool:=((Nat.ble nR 2000000)&&((decide (0<=a1)&&decide (a1<=1000000))&&Ua2 aR (mkR (nR*3) a1)))
theorem Zwy(a0:Array Value)(a1:Int)(bR:Option (Option Addr))(nR:Nat)(aR:Array Value)(h_a0:WT Tryz.prog 31 a0)(h_a1:i64.min<=a1/\a1<=i64.max)(h_a0x2:SlT 48 nR aR)(hg:((Zbd a0 a1 bR nR aR))=true):ansV Tryz.prog (mkΓ [(19,con Zf7)]) 1000 Tryz.f9 [] [.r a0 31 [(2,0)],.i .i64 a1] [.sl (.came bR) nR aR 48]=some (.a (.i .i64 (Zah a0 a1 bR nR aR)),.none,true):=by
 refine(Zz9 1000 a0 a1 bR nR aR).trans ?_;unfold Zbd at hg;unfold Zah;revert hg;generalize (((Nat.ble nR 2000000)&&((decide (0<=a1)&&decide (a1<=1000000))&&Ua2 aR (mkR (nR*3) a1))))=b2;intro hg;cases b2
 ·skip
  first|exact(nomatch (hg:false=true))|rfl
 ·skip
  revert hg;generalize (decide ((a1+((nR*3:Nat):Int))<(0:Int)))=b4;intro hg;cases b4
  ·skip
   first|rfl|exact(nomatch (hg:false=true))
  ·skip
   first|rfl|exact(nomatch (hg:false=true))
def Zlu:Con:=λargs h=>match args,h with|[.r a0 31 [(2,0)],.i .i64 a1],[.sl (.came bR) nR aR 48]=>some (.a (.i .i64 (Zah a0 a1 bR nR aR)),.none,(Zbd a0 a1 bR nR aR))|_,_=>none
theorem Zvu:EntX Tryz.prog 9:=Zak (fn:=Tryz.f9)
theorem Ybs:Uac mn Tryz.prog 9 Zlu:=(ansY (N:=1000) (mKc (Zag Zt2) Zp5 mKn) Tryz.f9 []).of (by
 intro ρ h w args vals r e hA hH hr;unfold Zlu at hr;split at hr
 ·rename_i a0 a1 bR nR aR;obtain⟨rfl,rfl,hg2⟩:=BQi hr;exact Zwy a0 a1 bR nR aR (hA.wtr 0 rfl) (hA.rng 1 rfl) (hH.slw 0 rfl) hg2
 ·cases hr)
theorem pfN_le{S:Array Value}{b h c:Int}:pfN Tryz.prog S b h c<=36:=by unfold pfN;cases (fcC Tryz.prog S b h c==(0:Int)) with|false=>exact Nat.zero_le _|true=>have:=Yhz (fcV Tryz.prog S b h c) 1 36;rw[Q1];omega
theorem pfA_nil{S:Array Value}{b h c:Int}(h0:pfN Tryz.prog S b h c=0):pfA Tryz.prog S b h c=#[]:=by unfold pfN at h0;unfold pfA;cases hq:(fcC Tryz.prog S b h c==(0:Int)) with|false=>rfl|true=>rw[hq,Q1]at h0;rw[Q1,List.eq_nil_of_length_eq_zero h0];rfl
def Zkh:Cons:=(mkΓw [(8,conSW Zkv)] [(4,con Zjz),(5,con Zow),(6,conG Zka),(7,con Zm8),(9,con Zlu)] [] [])
theorem Zn2(N:Nat)(a0:Array Value)(a1 a2 a3:Int)(g_et:Addr)(g_tb:Addr):ansV Tryz.prog Zkh N Tryz.f3 [] [.g a0 28,.i .i64 a1,.i .i64 a2,.i .u64 a3] [.gl 0 124 g_et 3000055,.gl 1 0 g_tb 1000000000]=(bif (!((Zbp (pfV Tryz.prog a0 a1 a2 a3) (pfV Tryz.prog a0 a1 a2 a3) none ((pfN Tryz.prog a0 a1 a2 a3)) (pfA Tryz.prog a0 a1 a2 a3) none ((pfN Tryz.prog a0 a1 a2 a3)) (pfA Tryz.prog a0 a1 a2 a3)))) then (some (.a (.b false),.none,true)) else (bif ((fcC Tryz.prog a0 a1 a2 a3) != (fcC Tryz.prog a0 a1 a2 a3)) then (some (.a (.b false),.none,true)) else (bif Nat.beq ((pfN Tryz.prog a0 a1 a2 a3)) 0 then (bif (Zbd (pfV Tryz.prog a0 a1 a2 a3) (1:Int) none ((pfN Tryz.prog a0 a1 a2 a3)) (pfA Tryz.prog a0 a1 a2 a3)) then (bif decide ((Zah (pfV Tryz.prog a0 a1 a2 a3) (1:Int) none ((pfN Tryz.prog a0 a1 a2 a3)) (pfA Tryz.prog a0 a1 a2 a3))<(0:Int)) then (some (.a (.b false),.none,true)) else (bif ((Zah (pfV Tryz.prog a0 a1 a2 a3) (1:Int) none ((pfN Tryz.prog a0 a1 a2 a3)) (pfA Tryz.prog a0 a1 a2 a3)) != (1:Int)) then (some (.a (.b false),.none,true)) else (bif (!((Zbp (pfV Tryz.prog a0 a1 a2 a3) (pfV Tryz.prog a0 a1 a2 a3) none ((pfN Tryz.prog a0 a1 a2 a3)) (pfA Tryz.prog a0 a1 a2 a3) none ((pfN Tryz.prog a0 a1 a2 a3)) (pfA Tryz.prog a0 a1 a2 a3)))) then (some (.a (.b false),.none,true)) else (bif ((fcC Tryz.prog a0 a1 a2 a3) != (fcC Tryz.prog a0 a1 a2 a3)) then (some (.a (.b false),.none,true)) else (bif (Zbd (pfV Tryz.prog a0 a1 a2 a3) (1:Int) none ((pfN Tryz.prog a0 a1 a2 a3)) (pfA Tryz.prog a0 a1 a2 a3)) then (bif decide ((Zah (pfV Tryz.prog a0 a1 a2 a3) (1:Int) none ((pfN Tryz.prog a0 a1 a2 a3)) (pfA Tryz.prog a0 a1 a2 a3))<(0:Int)) then (some (.a (.b false),.none,true)) else (bif ((Zah (pfV Tryz.prog a0 a1 a2 a3) (1:Int) none ((pfN Tryz.prog a0 a1 a2 a3)) (pfA Tryz.prog a0 a1 a2 a3)) != (1:Int)) then (some (.a (.b false),.none,true)) else (some (.a (.b true),.none,true)))) else (none)))))) else (none)) else (bif ((Nat.ble ((pfN Tryz.prog a0 a1 a2 a3)) 2000000)&&(decide (0<=(1:Int))&&decide ((1:Int)<=1000000))) then (bif (Zbd (pfV Tryz.prog a0 a1 a2 a3) (1:Int) none ((pfN Tryz.prog a0 a1 a2 a3)) (mkR (((pfN Tryz.prog a0 a1 a2 a3))*3) (1:Int))) then (bif decide ((Zah (pfV Tryz.prog a0 a1 a2 a3) (1:Int) none ((pfN Tryz.prog a0 a1 a2 a3)) (mkR (((pfN Tryz.prog a0 a1 a2 a3))*3) (1:Int)))<(0:Int)) then (some (.a (.b false),.none,true)) else (bif ((Zah (pfV Tryz.prog a0 a1 a2 a3) (1:Int) none ((pfN Tryz.prog a0 a1 a2 a3)) (mkR (((pfN Tryz.prog a0 a1 a2 a3))*3) (1:Int))) != ((1:Int)+((((pfN Tryz.prog a0 a1 a2 a3))*3:Nat):Int))) then (some (.a (.b false),.none,true)) else (bif (!((Zbp (pfV Tryz.prog a0 a1 a2 a3) (pfV Tryz.prog a0 a1 a2 a3) none ((pfN Tryz.prog a0 a1 a2 a3)) (pfA Tryz.prog a0 a1 a2 a3) none ((pfN Tryz.prog a0 a1 a2 a3)) (pfA Tryz.prog a0 a1 a2 a3)))) then (some (.a (.b false),.none,true)) else (bif ((fcC Tryz.prog a0 a1 a2 a3) != (fcC Tryz.prog a0 a1 a2 a3)) then (some (.a (.b false),.none,true)) else (bif (Zbd (pfV Tryz.prog a0 a1 a2 a3) (1:Int) none ((pfN Tryz.prog a0 a1 a2 a3)) (mkR (((pfN Tryz.prog a0 a1 a2 a3))*3) (1:Int))) then (bif decide ((Zah (pfV Tryz.prog a0 a1 a2 a3) (1:Int) none ((pfN Tryz.prog a0 a1 a2 a3)) (mkR (((pfN Tryz.prog a0 a1 a2 a3))*3) (1:Int)))<(0:Int)) then (some (.a (.b false),.none,true))
                        else (bif ((Zah (pfV Tryz.prog a0 a1 a2 a3) (1:Int) none ((pfN Tryz.prog a0 a1 a2 a3)) (mkR (((pfN Tryz.prog a0 a1 a2 a3))*3) (1:Int))) != ((1:Int)+((((pfN Tryz.prog a0 a1 a2 a3))*3:Nat):Int))) then (some (.a (.b false),.none,true)) else (some (.a (.b true),.none,true)))) else (none)))))) else (none)) else (none))))):=by kernel_rfl
def Zb3(P:Program)(a0:Array Value)(a1 a2 a3:Int)(g_et:Addr)(g_tb:Addr):Bool:=(bif (!((Zbp (pfV P a0 a1 a2 a3) (pfV P a0 a1 a2 a3) none ((pfN P a0 a1 a2 a3)) (pfA P a0 a1 a2 a3) none ((pfN P a0 a1 a2 a3)) (pfA P a0 a1 a2 a3)))) then false else (bif ((fcC P a0 a1 a2 a3) != (fcC P a0 a1 a2 a3)) then false else (bif Nat.beq ((pfN P a0 a1 a2 a3)) 0 then (bif decide ((Zah (pfV P a0 a1 a2 a3) (1:Int) none ((pfN P a0 a1 a2 a3)) (pfA P a0 a1 a2 a3))<(0:Int)) then false else (bif ((Zah (pfV P a0 a1 a2 a3) (1:Int) none ((pfN P a0 a1 a2 a3)) (pfA P a0 a1 a2 a3)) != (1:Int)) then false else (bif (!((Zbp (pfV P a0 a1 a2 a3) (pfV P a0 a1 a2 a3) none ((pfN P a0 a1 a2 a3)) (pfA P a0 a1 a2 a3) none ((pfN P a0 a1 a2 a3)) (pfA P a0 a1 a2 a3)))) then false else (bif ((fcC P a0 a1 a2 a3) != (fcC P a0 a1 a2 a3)) then false else (bif decide ((Zah (pfV P a0 a1 a2 a3) (1:Int) none ((pfN P a0 a1 a2 a3)) (pfA P a0 a1 a2 a3))<(0:Int)) then false else (bif ((Zah (pfV P a0 a1 a2 a3) (1:Int) none ((pfN P a0 a1 a2 a3)) (pfA P a0 a1 a2 a3)) != (1:Int)) then false else true)))))) else (bif decide ((Zah (pfV P a0 a1 a2 a3) (1:Int) none ((pfN P a0 a1 a2 a3)) (mkR (((pfN P a0 a1 a2 a3))*3) (1:Int)))<(0:Int)) then false else (bif ((Zah (pfV P a0 a1 a2 a3) (1:Int) none ((pfN P a0 a1 a2 a3)) (mkR (((pfN P a0 a1 a2 a3))*3) (1:Int))) != ((1:Int)+((((pfN P a0 a1 a2 a3))*3:Nat):Int))) then false else (bif (!((Zbp (pfV P a0 a1 a2 a3) (pfV P a0 a1 a2 a3) none ((pfN P a0 a1 a2 a3)) (pfA P a0 a1 a2 a3) none ((pfN P a0 a1 a2 a3)) (pfA P a0 a1 a2 a3)))) then false else (bif ((fcC P a0 a1 a2 a3) != (fcC P a0 a1 a2 a3)) then false else (bif decide ((Zah (pfV P a0 a1 a2 a3) (1:Int) none ((pfN P a0 a1 a2 a3)) (mkR (((pfN P a0 a1 a2 a3))*3) (1:Int)))<(0:Int)) then false else (bif ((Zah (pfV P a0 a1 a2 a3) (1:Int) none ((pfN P a0 a1 a2 a3)) (mkR (((pfN P a0 a1 a2 a3))*3) (1:Int))) != ((1:Int)+((((pfN P a0 a1 a2 a3))*3:Nat):Int))) then false else true)))))))))
def Zb4(a0:Array Value)(a1 a2 a3:Int)(g_et:Addr)(g_tb:Addr):Bool:=(bif (!((Zbp (pfV Tryz.prog a0 a1 a2 a3) (pfV Tryz.prog a0 a1 a2 a3) none ((pfN Tryz.prog a0 a1 a2 a3)) (pfA Tryz.prog a0 a1 a2 a3) none ((pfN Tryz.prog a0 a1 a2 a3)) (pfA Tryz.prog a0 a1 a2 a3)))) then true else (bif ((fcC Tryz.prog a0 a1 a2 a3) != (fcC Tryz.prog a0 a1 a2 a3)) then true else (bif Nat.beq ((pfN Tryz.prog a0 a1 a2 a3)) 0 then (bif (Zbd (pfV Tryz.prog a0 a1 a2 a3) (1:Int) none ((pfN Tryz.prog a0 a1 a2 a3)) (pfA Tryz.prog a0 a1 a2 a3)) then (bif decide ((Zah (pfV Tryz.prog a0 a1 a2 a3) (1:Int) none ((pfN Tryz.prog a0 a1 a2 a3)) (pfA Tryz.prog a0 a1 a2 a3))<(0:Int)) then true else (bif ((Zah (pfV Tryz.prog a0 a1 a2 a3) (1:Int) none ((pfN Tryz.prog a0 a1 a2 a3)) (pfA Tryz.prog a0 a1 a2 a3)) != (1:Int)) then true else (bif (!((Zbp (pfV Tryz.prog a0 a1 a2 a3) (pfV Tryz.prog a0 a1 a2 a3) none ((pfN Tryz.prog a0 a1 a2 a3)) (pfA Tryz.prog a0 a1 a2 a3) none ((pfN Tryz.prog a0 a1 a2 a3)) (pfA Tryz.prog a0 a1 a2 a3)))) then true else (bif ((fcC Tryz.prog a0 a1 a2 a3) != (fcC Tryz.prog a0 a1 a2 a3)) then true else (Zbd (pfV Tryz.prog a0 a1 a2 a3) (1:Int) none ((pfN Tryz.prog a0 a1 a2 a3)) (pfA Tryz.prog a0 a1 a2 a3)))))) else false) else (bif ((Nat.ble ((pfN Tryz.prog a0 a1 a2 a3)) 2000000)&&(decide (0<=(1:Int))&&decide ((1:Int)<=1000000))) then (bif (Zbd (pfV Tryz.prog a0 a1 a2 a3) (1:Int) none ((pfN Tryz.prog a0 a1 a2 a3)) (mkR (((pfN Tryz.prog a0 a1 a2 a3))*3) (1:Int))) then (bif decide ((Zah (pfV Tryz.prog a0 a1 a2 a3) (1:Int) none ((pfN Tryz.prog a0 a1 a2 a3)) (mkR (((pfN Tryz.prog a0 a1 a2 a3))*3) (1:Int)))<(0:Int)) then true else (bif ((Zah (pfV Tryz.prog a0 a1 a2 a3) (1:Int) none ((pfN Tryz.prog a0 a1 a2 a3)) (mkR (((pfN Tryz.prog a0 a1 a2 a3))*3) (1:Int))) != ((1:Int)+((((pfN Tryz.prog a0 a1 a2 a3))*3:Nat):Int))) then true else (bif (!((Zbp (pfV Tryz.prog a0 a1 a2 a3) (pfV Tryz.prog a0 a1 a2 a3) none ((pfN Tryz.prog a0 a1 a2 a3)) (pfA Tryz.prog a0 a1 a2 a3) none ((pfN Tryz.prog a0 a1 a2 a3)) (pfA Tryz.prog a0 a1 a2 a3)))) then true else (bif ((fcC Tryz.prog a0 a1 a2 a3) != (fcC Tryz.prog a0 a1 a2 a3)) then true else (Zbd (pfV Tryz.prog a0 a1 a2 a3) (1:Int) none ((pfN Tryz.prog a0 a1 a2 a3)) (mkR (((pfN Tryz.prog a0 a1 a2 a3))*3) (1:Int))))))) else false) else false))))
theorem Znu (a0:Array Value) (a1 a2 a3:Int) (g_et:Addr) (g_tb:Addr) (h_a0:WT Tryz.prog 28 a0) (h_a1:i64.min≤a1∧a1≤i64.max) (h_a2:i64.min≤a2∧a2≤i64.max) (h_a3:IntKind.u64.min≤a3∧a3≤IntKind.u64.max) (hg:((Zb4 a0 a1 a2 a3 g_et g_tb))=true):ansV Tryz.prog Zkh 1000 Tryz.f3 [] [.g a0 28,.i .i64 (a1),.i .i64 (a2),.i .u64 (a3)] [.gl 0 124 g_et 3000055,.gl 1 0 g_tb 1000000000]=some (.a (.b ((Zb3 Tryz.prog a0 a1 a2 a3 g_et g_tb))),.none,true):=by
 refine(Zn2 1000 a0 a1 a2 a3 g_et g_tb).trans ?_;unfold Zb4 at hg;unfold Zb3;revert hg;generalize ((!((Zbp (pfV Tryz.prog a0 a1 a2 a3) (pfV Tryz.prog a0 a1 a2 a3) none ((pfN Tryz.prog a0 a1 a2 a3)) (pfA Tryz.prog a0 a1 a2 a3) none ((pfN Tryz.prog a0 a1 a2 a3)) (pfA Tryz.prog a0 a1 a2 a3)))))=b2;intro hg;cases b2
 ·skip
  revert hg;generalize (((fcC Tryz.prog a0 a1 a2 a3) != (fcC Tryz.prog a0 a1 a2 a3)))=b4;intro hg;cases b4
  ·skip
   revert hg;generalize (Nat.beq ((pfN Tryz.prog a0 a1 a2 a3)) 0)=b6;intro hg;cases b6
   ·skip
    revert hg;generalize (((Nat.ble ((pfN Tryz.prog a0 a1 a2 a3)) 2000000)&&(decide (0<=(1:Int))&&decide ((1:Int)<=1000000))))=b8;intro hg;cases b8
    ·skip
     first|exact(nomatch (hg:false=true))|rfl
    ·skip
     revert hg;generalize ((Zbd (pfV Tryz.prog a0 a1 a2 a3) (1:Int) none ((pfN Tryz.prog a0 a1 a2 a3)) (mkR (((pfN Tryz.prog a0 a1 a2 a3))*3) (1:Int))))=b10;intro hg;cases b10
     ·skip
      first|exact(nomatch (hg:false=true))|rfl
     ·skip
      revert hg;generalize (decide ((Zah (pfV Tryz.prog a0 a1 a2 a3) (1:Int) none ((pfN Tryz.prog a0 a1 a2 a3)) (mkR (((pfN Tryz.prog a0 a1 a2 a3))*3) (1:Int)))<(0:Int)))=b12;intro hg;cases b12
      ·skip
       revert hg;generalize (((Zah (pfV Tryz.prog a0 a1 a2 a3) (1:Int) none ((pfN Tryz.prog a0 a1 a2 a3)) (mkR (((pfN Tryz.prog a0 a1 a2 a3))*3) (1:Int))) != ((1:Int)+((((pfN Tryz.prog a0 a1 a2 a3))*3:Nat):Int))))=b14;intro hg;cases b14
       ·skip
        first|rfl|exact(nomatch (hg:false=true))
       ·skip
        first|rfl|exact(nomatch (hg:false=true))
      ·skip
       first|rfl|exact(nomatch (hg:false=true))
   ·skip
    revert hg;generalize ((Zbd (pfV Tryz.prog a0 a1 a2 a3) (1:Int) none ((pfN Tryz.prog a0 a1 a2 a3)) (pfA Tryz.prog a0 a1 a2 a3)))=b8;intro hg;cases b8
    ·skip
     first|exact(nomatch (hg:false=true))|rfl
    ·skip
     revert hg;generalize (decide ((Zah (pfV Tryz.prog a0 a1 a2 a3) (1:Int) none ((pfN Tryz.prog a0 a1 a2 a3)) (pfA Tryz.prog a0 a1 a2 a3))<(0:Int)))=b10;intro hg;cases b10
     ·skip
      revert hg;generalize (((Zah (pfV Tryz.prog a0 a1 a2 a3) (1:Int) none ((pfN Tryz.prog a0 a1 a2 a3)) (pfA Tryz.prog a0 a1 a2 a3)) != (1:Int)))=b12;intro hg;cases b12
      ·skip
       first|rfl|exact(nomatch (hg:false=true))
      ·skip
       first|rfl|exact(nomatch (hg:false=true))
     ·skip
      first|rfl|exact(nomatch (hg:false=true))
  ·skip
   first|rfl|exact(nomatch (hg:false=true))
 ·skip
  first|rfl|exact(nomatch (hg:false=true))
def Zfp:Con:=λargs h=>match args,h with|[.g a0 28,.i .i64 a1,.i .i64 a2,.i .u64 a3],[.gl 0 124 g_et 3000055,.gl 1 0 g_tb 1000000000]=>some (.a (.b ((Zb3 Tryz.prog a0 a1 a2 a3 g_et g_tb))),.none,(Zb4 a0 a1 a2 a3 g_et g_tb))|_,_=>none
theorem Zot:Uac mn Tryz.prog 3 Zfp:=(ansY (N:=1000) (mkΓw_sX (Ydv Yaf) Zvx (mKw (Zag Zw5) Zs9 (mKw (Zag Yh4) Yby (mKw (Zmx Zxv) Zsl (mKw (Zag Yey) Zz0 (mKw (Zag Ybs) Zvu mkΓx_nilX)))))) Tryz.f3 []).of (by
 intro ρ h w args vals r e hA hH hr;unfold Zfp at hr;split at hr
 ·rename_i a0 a1 a2 a3 g_et g_tb;obtain⟨rfl,rfl,hg2⟩:=BQi hr;exact Znu a0 a1 a2 a3 g_et g_tb (hA.wt 0 rfl) (hA.rng 1 rfl) (hA.rng 2 rfl) (hA.rng 3 rfl) hg2
 ·cases hr)
theorem eqP(p:Array Value)(n:Nat)(A:Array Value):Zbp p p none n A none n A=true:=by unfold Zbp;simp only[bne_self_eq_false,Q2,Zke,decide_true,Bool.and_self,Bool.not_true]
theorem Zm6(a0:Array Value)(a1 a2 a3:Int)(g_et:Addr)(g_tb:Addr)(h_a0:WT Tryz.prog 28 a0)(h_a1:i64.min<=a1/\a1<=i64.max)(h_a2:i64.min<=a2/\a2<=i64.max)(h_a3:IntKind.u64.min<=a3/\a3<=IntKind.u64.max):((Zb4 a0 a1 a2 a3 g_et g_tb))=true/\((Zb3 Tryz.prog a0 a1 a2 a3 g_et g_tb))=true:=by
 have hN:pfN Tryz.prog a0 a1 a2 a3<=36:=pfN_le;have hD:pfN Tryz.prog a0 a1 a2 a3=0->pfA Tryz.prog a0 a1 a2 a3=#[]:=pfA_nil;unfold Zb4 Zb3;generalize pfV Tryz.prog a0 a1 a2 a3=V;generalize pfN Tryz.prog a0 a1 a2 a3=n at hN hD|-
 generalize pfA Tryz.prog a0 a1 a2 a3=D at hD|-
 generalize fcC Tryz.prog a0 a1 a2 a3=c;have b3:Nat.ble n 2000000=true:=Nat.ble_eq_true_of_le (by omega);have c1:decide (((1:Int)+((n*3:Nat):Int))<(0:Int))=false:=Q4 (by omega);have c2:decide (0<=(1:Int))=true:=rfl;have c3:decide ((1:Int)<=1000000)=true:=rfl;have c6:decide ((1:Int)<0)=false:=rfl;unfold Zbd Zah;cases hz:Nat.beq n 0
 case true=>
  obtain rfl:=Nat.eq_of_beq_eq_true hz;obtain rfl:D=#[]:=hD rfl;have c4:((1:Int)+((0*3:Nat):Int) != (1:Int))=false:=rfl;have c5:mkR (0*3) (1:Int)=(#[]:Array Value):=rfl;simp only[eqP,c4,c5,b3,c1,c2,c3,c6,hz,Bool.and_self,Zke,bne_self_eq_false,Bool.not_true,Q2,Q1,and_self]
 all_goals simp only[eqP,b3,c1,c2,c3,c6,hz,Bool.and_self,Zke,bne_self_eq_false,Bool.not_true,Q2,Q1,and_self]
namespace lawFnExactPlanFewest
theorem own:ownKnob Tryz.prog.godebug=none:=by kernel_rfl
theorem laid_all{W:World}(h:laidMetH Tryz.prog Rows.fnExactPlanFewestRow.laid W):BIs Tryz.prog idA [] W ⟨0,0⟩ (.gl 0 124 ⟨0,0,none⟩ 3000055)/\BIs Tryz.prog idA [] W ⟨0,0⟩ (.gl 1 0 ⟨1,0,none⟩ 1000000000):=by
 have h' : laidMet Tryz.prog [("math/bits.deBruijn64tab", Rows.laid_math_bits_deBruijn64tab)] W /\ handlesMet Tryz.prog [("errors.errorType", Rows.laid_errors_errorType)] W := h
 refine⟨(Ylg (nm:=[101,114,114,111,114]) (E:=55) (NG:=2) h'.2 (List.Mem.head _) (by kernel_rfl) (by kernel_rfl) (by kernel_rfl) (by kernel_rfl) (by kernel_rfl) (by kernel_rfl) (by decide) (by decide)),.inr ⟨by omega,rfl,.inr ⟨by omega,λi hi=> ?_⟩⟩⟩;have e:(Rows.laid_math_bits_deBruijn64tab:DataW Unit)=Lib.tabData .u8 Ugy:=by kernel_rfl
 have h1 : laidMet Tryz.prog (("math/bits.deBruijn64tab", Lib.tabData .u8 Ugy) :: []) W := by rw [<- e]; exact h'.1
 have h2 : Lib.TabIs Tryz.prog W "math/bits.deBruijn64tab" .u8 Ugy := Lib.tabIs_of_head (g := 1) (t := 151) (e := 5) (n := 64) (by kernel_rfl) (by kernel_rfl) Tryz.underlying151 Tryz.underlying5 (by kernel_rfl) (by kernel_rfl) h1
 exact h2.cell (by kernel_rfl) i hi
def Udq(os:Os):World:=
 let w0:=World.holding Tryz.prog os ⟨#[],#[],[]⟩
 { w0 with heap:=(w0.heap.modify 0 fun
   |.cells _ t frozen=>.cells #[.iface 124 (.agg #[typeHandle Tryz.prog 55])] t frozen
   |o=>o).modify 1 fun
   |.cells _ t frozen=>.cells (Ugy.map λz=>Value.int .u8 z).toArray t frozen
   |o=>o }
theorem laid_met(os:Os)(args:Array Value):laidMetH Tryz.prog Rows.fnExactPlanFewestRow.laid ((Udq os).forCall (λ_ _=>0) ⟨#[],args,[]⟩).memory:=
 laidMetH_of_parts (laidMet_of_run' 8 (by kernel_rfl) (by kernel_rfl)) (by kernel_rfl)
theorem reads(os:Os){H:Type}(enc:TypeId×Value->H):∃x,DataW.whole enc Tryz.prog ((Udq os).forCall (λ_ _=>0) ⟨#[],#[.agg (zc Tryz.prog 28),.int .i64 0,.int .i64 0,.int .u64 0],[]⟩).memory Tryz.f3.params.toList Rows.fnExactPlanFewestSpec.vars false (#[.agg (zc Tryz.prog 28),.int .i64 0,.int .i64 0,.int .u64 0]:Array Value).toList 8=some x:=
 Option.isSome_iff_exists.1 (by kernel_rfl)
set_option maxRecDepth 100000 in
theorem lifted(os:Os)(started:os.Started)(H:Type)(enc:TypeId×Value->H):
  ReturnsInHanded {} Tryz.checked os 3 .any ((OpenSpec.ofChange Rows.fnExactPlanFewestSpec).preRow enc Tryz.prog Tryz.f3 Rows.fnExactPlanFewestRow.domain false Rows.fnExactPlanFewestRow.laid) (Rows.fnExactPlanFewestSpec.post enc Tryz.prog Tryz.f3 false true false false):=by
 obtain⟨x,hx⟩:=reads os enc;refine Yfd (C:=Tryz.checked) (tb:=4) own (by kernel_rfl) Tryz.func3 (by kernel_rfl) Tryz.underlying4 (of_decide_eq_true (by kernel_rfl)) (by kernel_rfl) ?_ os started H enc
  (witness_row_at (enc:=enc) (C:=Tryz.checked) false (Udq os) #[.agg (zc Tryz.prog 28),.int .i64 0,.int .i64 0,.int .u64 0] rfl (by kernel_rfl) (by kernel_rfl) (by kernel_rfl)
   (OpenSpec.preRow_of_cond 8 hx (by kernel_rfl) (λk hk=>by cases hk) (by kernel_rfl) (laid_met os _))) ?_
 ·intro H ds gs hds hgs;rw[show Tryz.f3.params.toList.length=4 by kernel_rfl]at hds;rw[show Rows.fnExactPlanFewestSpec.vars.length=0 by kernel_rfl]at hgs
  match ds,hds,gs,hgs with|[_,_,_,_],_,[],_=>rfl
 ·intro W base args ds ps hval hA hL;obtain⟨k0,k1⟩:=laid_all hL;rw[Tryz.params3]at hA hval;obtain⟨v0,vs0,d0,ds0,p0,q0,ha0,rfl,rfl,h0,r0⟩:=trodAll_cons hA;obtain⟨v1,vs1,d1,ds1,p1,q1,rfl,rfl,rfl,h1,r1⟩:=trodAll_cons r0;obtain⟨v2,vs2,d2,ds2,p2,q2,rfl,rfl,rfl,h2,r2⟩:=trodAll_cons r1;obtain⟨v3,vs3,d3,ds3,p3,q3,rfl,rfl,rfl,h3,r3⟩:=trodAll_cons r2;obtain⟨rfl,rfl,rfl⟩:=trodAll_nil r3;have hargs:args=#[v0,v1,v2,v3]:=by cases args;simp_all
  obtain⟨a0,e0,w0⟩:=Yo5 (t:=28) 8 (by kernel_rfl) (by kernel_rfl) (hval 0 28 v0 rfl (by rw[hargs];rfl)) h0;obtain⟨a1,e1,_,_,w1⟩:=open_int Tryz.underlying2 (hval 1 2 v1 rfl (by rw[hargs];rfl)) h1;obtain⟨a2,e2,_,_,w2⟩:=open_int Tryz.underlying2 (hval 2 2 v2 rfl (by rw[hargs];rfl)) h2;obtain⟨a3,e3,_,_,w3⟩:=open_int Tryz.underlying23 (hval 3 23 v3 rfl (by rw[hargs];rfl)) h3;obtain rfl:args=#[.agg a0,.int .i64 a1,.int .i64 a2,.int .u64 a3]:=by rw[hargs,e0,e1,e2,e3]
  obtain⟨hg,hv⟩:=Zm6 a0 a1 a2 a3 ⟨0,0,none⟩ ⟨1,0,none⟩  w0 (wfb w1) (wfb w2) (wfb w3);have hr:Zfp [.g a0 28,.i .i64 a1,.i .i64 a2,.i .u64 a3] [.gl 0 124 ⟨0,0,none⟩ 3000055,.gl 1 0 ⟨1,0,none⟩ 1000000000]=some (.a (.b true),.none,true):=by
   show (some (SV.a (SA.b ((Zb3 Tryz.prog a0 a1 a2 a3 ⟨0,0,none⟩ ⟨1,0,none⟩))),Eff.none,(Zb4 a0 a1 a2 a3 ⟨0,0,none⟩ ⟨1,0,none⟩)):Option (SV×Eff×Bool))=_
   rw[hg,hv]
  exact Yn1 (by kernel_rfl) Zot (hh:=[.gl 0 124 ⟨0,0,none⟩ 3000055,.gl 1 0 ⟨1,0,none⟩ 1000000000]) (by kernel_rfl) hr W (vals:=[.agg a0,.int .i64 a1,.int .i64 a2,.int .u64 a3]) (.gl k0 (.gl k1 .nil)) (Udb ⟨rfl,w0⟩ (Udb ⟨rfl,wfb w1⟩ (Udb ⟨rfl,wfb w2⟩ (Udb ⟨rfl,wfb w3⟩ (allNil2 _)))))
theorem said:Rows.FnExactPlanFewestSaid:=
 OpenClaim.holds_of_wide 3 Tryz.f3 rfl rfl rfl rfl rfl rfl rfl ⟨rfl,rfl,rfl,rfl,rfl⟩ rfl rfl rfl rfl rfl (by kernel_rfl) Tryz.func3 (by kernel_rfl)
  (of_decide_eq_true (by kernel_rfl)) (by unfold Func.isWrapper;first | (rw[if_pos (by decide +kernel)];kernel_rfl) | (rw[if_neg (by decide +kernel)];exact⟨rfl,rfl⟩))
  (λos started H enc _=>by rw[OpenClaim.pre_eq_preRow];exact lifted os started H enc)
theorem plain(f:FuncId)(fn:Func)(hf:Tryz.pinned.checked.prog.funcNamed Rows.fnExactPlanFewestRow.func=some f)(hfn:Tryz.pinned.checked.prog.funcs[f]?=some fn):
  Rows.fnExactPlanFewestCard.stood.looks=Tryz.pinned.checked.prog.looks []/\∀(j:Nat) t,fn.params[j]?=some t->Tryz.pinned.checked.prog.wantsStandIn t=false:=by
 obtain rfl:f=3:=Q5 ((show Tryz.prog.funcNamed Rows.fnExactPlanFewestRow.func=some 3 by kernel_rfl).symm.trans hf) |>.symm
 obtain rfl:fn=Tryz.f3:=(Q5 (Tryz.func3.symm.trans hfn)).symm;refine⟨by kernel_rfl,λj t ht=> ?_⟩;have hall:∀t∈Tryz.f3.params.toList,Tryz.prog.wantsStandIn t=false:=of_decide_eq_true (by kernel_rfl);exact hall t (by simpa using Array.mem_of_getElem? ht)
theorem proved:Rows.FnExactPlanFewestCardSaid:=
 Claim7.holds_tied_plain_at .later [] _ _ _ _ said (λ_ h=>by cases h) (by kernel_rfl) (λ_ h=>by cases h) fnExactPlanFewest_row_tie rfl ⟨rfl,rfl⟩ (by kernel_rfl) rfl plain (by kernel_rfl)
#print axioms proved
end lawFnExactPlanFewest
end
end Go.Proofs.YtgllknjdblkhnaaGreatDoor
