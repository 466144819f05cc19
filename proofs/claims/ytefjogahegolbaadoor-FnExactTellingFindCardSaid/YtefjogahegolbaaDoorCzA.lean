/- The code of two seas and a bottle: both sides. -/
import Derived.Test.YtefjogahegolbaaDoorProg
import Derived.Test.YtefjogahegolbaaDoorCyR
set_option linter.unusedVariables false
set_option linter.unusedSimpArgs false
open _root_.Nat renaming beq->jA,eq_of_beq_eq_true->jE
open _root_.Bool renaming and_self->jB,not_false->jC,not_true->jD
namespace Go.Proofs.YtefjogahegolbaaDoor
open Tryd (f18 f23 f42 f43 f46 f65 f67 f68)
open Go.ChangeShapes Go.WideShapes Go.ChangeAt Go.RowKit Ve Vc
open Tryd (prog)
open IntKind (i64)
set_option maxRecDepth 100000
noncomputable section
variable {F:Vc.Fd}
def Zcl:Cons:=(mkΓ [(24,con Zie),(34,con Zgh),(35,con Zev),(52,con Zhl)])
def Zdt(a0:Array Value):St:=(⟨.a (.g a0 35)::.a (.v (.slice none 0 0))::.a (.w 0)::.a (.u)::.a (.b false)::us 3 (.a (.g a0 35)::.a (.b ((okS a0)))::.a (.b ((!((okS a0)))))::.a (.b false)::.a (.v (.slice none 0 0))::.a (.i .i64 0)::.a (.b false)::.a (.b false)::.a (.v (.slice none 0 0))::.a (.i .i64 0)::.a (.i .i64 0)::us 23 ([])),[.row a0 35,.no],[]⟩:St)
def Ze4:Bool×Int->LS
 |(y0_4,y0_18)=>([.a (.b y0_4),.a (.i .i64 y0_18)],[])
def Zjl:Bool×Int->Exit×LS
 |t=>((.exit 0),Ze4 t)
def Zgz(P:Program)(a0:Array Value):Bool×Int->Option (Stp (Bool×Int) (Bool×Int))
 |(y0_4,y0_18)=>bif decide (y0_18<(0:Int)) then (none) else (some (.done (y0_4,y0_18)))
noncomputable abbrev cKCzA67:=codeOf f67
theorem Zu3(N:Nat)(a0:Array Value):∀t:Bool×Int,Ual prog Zcl N (cAt cKCzA67 [1,1,0,1,0,0]) (pAt (Uaa cKCzA67 [([4,18],[])]).1 [1,1,0,1,0]) [4,18] [] (Zdt a0) (Ze4 t)=mapS Ze4 Zjl (Zgz prog a0 t):=by
 rintro⟨y0_4,y0_18⟩
 conv=>rhs;simp only[Zgz,Zax,Zav,Zaw,Zay,Ze4,Zjl]
 kernel_rfl
def Zhu(P:Program)(N:Nat)(a0:Array Value)(z0_4:Bool)(z0_18:Int):Option (SV×Eff×Bool):=some (.a (.b true),.none,true)
theorem Zoi(N:Nat)(a0:Array Value)(z0_4:Bool)(z0_18:Int):(Uab 0 (kSeq (veC prog Zcl N (cAt cKCzA67 [1,1,1]) (pAt (Uaa cKCzA67 [([4,18],[])]).1 [1,1,1]) (SV×Eff×Bool)) (finK prog [] [.tmp 4]))) (.exit 0) (left (writes (cAt cKCzA67 [1,1,0,1,0,0])) [4,18] [] (Zdt a0) ([.a (.b z0_4),.a (.i .i64 z0_18)],[]))=Zhu prog N a0 z0_4 z0_18:=by kernel_rfl
theorem Zvn(N:Nat)(a0:Array Value):Uah (Uac (Ual prog Zcl N (cAt cKCzA67 [1,1,0,1,0,0]) (pAt (Uaa cKCzA67 [([4,18],[])]).1 [1,1,0,1,0]) [4,18] [] (Zdt a0)) N ([.a (.b false),.a (.i .i64 0)],[])) (λe s=>(Uab 0 (kSeq (veC prog Zcl N (cAt cKCzA67 [1,1,1]) (pAt (Uaa cKCzA67 [([4,18],[])]).1 [1,1,1]) (SV×Eff×Bool)) (finK prog [] [.tmp 4]))) e (left (writes (cAt cKCzA67 [1,1,0,1,0,0])) [4,18] [] (Zdt a0) s))=Uan (Uac (Zgz prog a0) N (false,(0:Int))) (λx=>Zhu prog N a0 x.1 x.2):=by refine Za5 Ze4 Zjl _ _ (Zu3 N a0) N (false,(0:Int)) _ _ ?_;intro x;exact Zoi N a0 x.1 x.2
theorem Zs6(N:Nat)(a0:Array Value):ansV prog Zcl N f67 [([4,18],[])] [.g a0 35,.v (.slice none 0 0)] []=(bif (!((okS a0))) then (some (.a (.b false),.none,true)) else (Uan (Uac (Zgz prog a0) N (false,(0:Int))) (λx=>Zhu prog N a0 x.1 x.2))):=by
 conv=>rhs;simp only[<- Zvn N a0]
 kernel_rfl
theorem Zra(a0:Array Value)(h_a0:WT prog 35 a0)(hg:(true)=true):ansV prog Zcl 1000 f67 [([4,18],[])] [.g a0 35,.v (.slice none 0 0)] []=some (.a (.b ((okS a0))),.none,true):=by refine(Zs6 1000 a0).trans ?_;cases okS a0<;>rfl
def Zio:Con:=λargs h=>match args,h with|[.g a0 35,.v (.slice none 0 0)],[]=>some (.a (.b ((okS a0))),.none,true)|_,_=>none
theorem Zpz:EntX prog 67:=Zam (fn:=f67)
theorem Zvw:Uad (md F) prog 67 Zio:=(ansY (N:=1000) (mKc (Zah Zpe) Zmt (mKc (Zah Zfr) Zdu (mKc (Zah Zi9) Zgy (mKc (Zah Zf9) Zeg mKn)))) f67 [([4,18],[])]).of (by
 intro ρ h w args vals r e hA hH hr;unfold Zio at hr;split at hr
 ·rename_i a0;obtain⟨rfl,rfl,hg2⟩:=BQi hr;exact Zra a0 (hA.wt 0 rfl) hg2
 ·cases hr)
theorem Zs8(N:Nat)(a0 a1:Array Value):ansV prog (mkΓ []) N f68 [] [.g a0 35,.g a1 35] []=(bif ((num a0 0)==(num a1 0)) then (bif ((num a0 1)==(num a1 1)) then (some (.a (.b (((num a0 2)==(num a1 2)))),.none,true)) else (some (.a (.b false),.none,true))) else (some (.a (.b false),.none,true))):=by kernel_rfl
def Za2(a0 a1:Array Value):Bool:=(bif ((num a0 0)==(num a1 0)) then (bif ((num a0 1)==(num a1 1)) then ((num a0 2)==(num a1 2)) else false) else false)
theorem Zq8(a0 a1:Array Value)(h_a0:WT prog 35 a0)(h_a1:WT prog 35 a1)(hg:(true)=true):ansV prog (mkΓ []) 1000 f68 [] [.g a0 35,.g a1 35] []=some (.a (.b ((Za2 a0 a1))),.none,true):=by
 refine(Zs8 1000 a0 a1).trans ?_;unfold Za2;revert hg;generalize (((num a0 0)==(num a1 0)))=b2;intro hg;cases b2
 ·skip
  first|rfl|exact(nomatch (hg:false=true))
 ·skip
  revert hg;generalize (((num a0 1)==(num a1 1)))=b4;intro hg;cases b4
  ·skip
   first|rfl|exact(nomatch (hg:false=true))
  ·skip
   first|rfl|exact(nomatch (hg:false=true))
def Zih:Con:=λargs h=>match args,h with|[.g a0 35,.g a1 35],[]=>some (.a (.b ((Za2 a0 a1))),.none,true)|_,_=>none
theorem Zo5:EntX prog 68:=Zam (fn:=f68)
theorem Ztl:Uad (md F) prog 68 Zih:=(ansY (N:=1000) mKn f68 []).of (by
 intro ρ h w args vals r e hA hH hr;unfold Zih at hr;split at hr
 ·rename_i a0 a1;obtain⟨rfl,rfl,hg2⟩:=BQi hr;exact Zq8 a0 a1 (hA.wt 0 rfl) (hA.wt 1 rfl) hg2
 ·cases hr)
theorem Zw8(N:Nat)(a0 a1:Array Value):ansV prog (mkΓ []) N f65 [] [.w 0,.w 1] [.row a0 35,.row a1 35]=(bif ((num a0 0)==(num a1 0)) then (bif ((num a0 1)==(num a1 1)) then (some (.a (.b (((num a0 2)==(num a1 2)))),.none,true)) else (some (.a (.b false),.none,true))) else (some (.a (.b false),.none,true))):=by kernel_rfl
def Za4(a0 a1:Array Value):Bool:=(bif ((num a0 0)==(num a1 0)) then (bif ((num a0 1)==(num a1 1)) then ((num a0 2)==(num a1 2)) else false) else false)
theorem Zux(a0 a1:Array Value)(h_a0:WT prog 35 a0)(h_a1:WT prog 35 a1)(hg:(true)=true):ansV prog (mkΓ []) 1000 f65 [] [.w 0,.w 1] [.row a0 35,.row a1 35]=some (.a (.b ((Za4 a0 a1))),.none,true):=by
 refine(Zw8 1000 a0 a1).trans ?_;unfold Za4;revert hg;generalize (((num a0 0)==(num a1 0)))=b2;intro hg;cases b2
 ·skip
  first|rfl|exact(nomatch (hg:false=true))
 ·skip
  revert hg;generalize (((num a0 1)==(num a1 1)))=b4;intro hg;cases b4
  ·skip
   first|rfl|exact(nomatch (hg:false=true))
  ·skip
   first|rfl|exact(nomatch (hg:false=true))
def Zjz:Con:=λargs h=>match args,h with|[.w 0,.w 1],[.row a0 35,.row a1 35]=>some (.a (.b ((Za4 a0 a1))),.none,true)|_,_=>none
theorem Zs7:EntX prog 65:=Zam (fn:=f65)
theorem Zx2:Uad (md F) prog 65 Zjz:=(ansY (N:=1000) mKn f65 []).of (by
 intro ρ h w args vals r e hA hH hr;unfold Zjz at hr;split at hr
 ·rename_i a0 a1;obtain⟨rfl,rfl,hg2⟩:=BQi hr;exact Zux a0 a1 (hH.wt 0 rfl) (hH.wt 1 rfl) hg2
 ·cases hr)
def Zsa:Cons:=(mkΓ [(41,con Zh7),(65,con Zjz)])
theorem Zzk(N:Nat)(a0 a1:Array Value):ansV prog Zsa N f43 [] [.w 0,.w 1] [.row a0 35,.row a1 35]=(bif (!((okS a0))) then (some (.a (.i .i64 1),.none,true)) else (bif (!((okS a1))) then (some (.a (.i .i64 1),.none,true)) else (bif (!((Za4 a0 a1))) then (some (.a (.i .i64 4),.none,true)) else (some (.a (.i .i64 0),.none,true))))):=by kernel_rfl
def Zbj(a0 a1:Array Value):Int:=(bif (!((okS a0))) then (1:Int) else (bif (!((okS a1))) then (1:Int) else (bif (!((Za4 a0 a1))) then (4:Int) else (0:Int))))
theorem Zxb(a0 a1:Array Value)(h_a0:WT prog 35 a0)(h_a1:WT prog 35 a1)(hg:(true)=true):ansV prog Zsa 1000 f43 [] [.w 0,.w 1] [.row a0 35,.row a1 35]=some (.a (.i .i64 (Zbj a0 a1)),.none,true):=by
 refine(Zzk 1000 a0 a1).trans ?_;unfold Zbj;revert hg;generalize ((!((okS a0))))=b2;intro hg;cases b2
 ·skip
  revert hg;generalize ((!((okS a1))))=b4;intro hg;cases b4
  ·skip
   revert hg;generalize ((!((Za4 a0 a1))))=b6;intro hg;cases b6
   ·skip
    first|rfl|exact(nomatch (hg:false=true))
   ·skip
    first|rfl|exact(nomatch (hg:false=true))
  ·skip
   first|rfl|exact(nomatch (hg:false=true))
 ·skip
  first|rfl|exact(nomatch (hg:false=true))
def Zk7:Con:=λargs h=>match args,h with|[.w 0,.w 1],[.row a0 35,.row a1 35]=>some (.a (.i .i64 (Zbj a0 a1)),.none,true)|_,_=>none
theorem Zt7:EntX prog 43:=Zam (fn:=f43)
theorem Zz8:Uad (md F) prog 43 Zk7:=(ansY (N:=1000) (mKc (Zah Zoj) Zk9 (mKc (Zah Zx2) Zs7 mKn)) f43 []).of (by
 intro ρ h w args vals r e hA hH hr;unfold Zk7 at hr;split at hr
 ·rename_i a0 a1;obtain⟨rfl,rfl,hg2⟩:=BQi hr;exact Zxb a0 a1 (hH.wt 0 rfl) (hH.wt 1 rfl) hg2
 ·cases hr)
def Za6:Cons:=(mkΓ [(67,con Zio),(68,con Zih)])
def Zdv(b_a0:Option (Option Addr))(n_a0:Nat)(a0:Array Value):St:=(⟨.a (.l 0)::.a (.v (.slice none 0 0))::.a (.u)::.a (.u)::.a (.i .i64 0)::us 4 (.a (.l 0)::.a (.i .i64 (n_a0:Int))::.a (.i .i64 0)::us 24 ([])),[.sl (.came b_a0) n_a0 a0 35],[]⟩:St)
def Zet:Int×Int->LS
 |(y0_4,y0_11)=>([.a (.i .i64 y0_4),.a (.i .i64 y0_11)],[])
def Zkz:(Stp (Int×Int) (Int×Int))->Exit×LS
 |.more t=>(.ret,Zet t)
 |.done t=>((.exit 0),Zet t)
def Zao(P:Program)(b_a0:Option (Option Addr))(n_a0:Nat)(a0:Array Value):Int×Int->Option (Stp (Int×Int) (Stp (Int×Int) (Int×Int)))
 |(y0_4,y0_11)=>bif decide (y0_11<(n_a0:Int)) then (bif (decide (0<=y0_11)&&decide (y0_11<(n_a0:Int))) then (bif (!((okS (a0.extract ((y0_11).toNat*363) (((y0_11).toNat*363)+363))))) then (some (.done (.more ((1:Int),y0_11)))) else (some (.more (y0_4,(i64.wrap (y0_11+(1:Int))))))) else (none)) else (some (.done (.done (y0_4,y0_11))))
noncomputable abbrev cKCzA46:=codeOf f46
theorem Zzi(N:Nat)(b_a0:Option (Option Addr))(n_a0:Nat)(a0:Array Value):∀t:Int×Int,Ual prog Za6 N (cAt cKCzA46 [1,0,1,0,0]) (pAt (Uaa cKCzA46 [([4,11],[]),([4,25],[])]).1 [1,0,1,0]) [4,11] [] (Zdv b_a0 n_a0 a0) (Zet t)=mapS Zet Zkz (Zao prog b_a0 n_a0 a0 t):=by
 rintro⟨y0_4,y0_11⟩
 conv=>rhs;simp only[Zao,Zax,Zav,Zaw,Zay,Zet,Zkz]
 kernel_rfl
def Zdw(b_a0:Option (Option Addr))(n_a0:Nat)(a0:Array Value)(z0_4:Int)(z0_11:Int):St:=(⟨.a (.l 0)::.a (.v (.slice none 0 0))::.a (.u)::.a (.u)::.a (.i .i64 z0_4)::.a (.u)::.a (.x)::.a (.u)::.a (.u)::.a (.l 0)::.a (.i .i64 (n_a0:Int))::.a (.i .i64 z0_11)::xs 8 (.a (.l 0)::.a (.i .i64 (n_a0:Int))::.a (.b (decide ((n_a0:Int) > (8:Int))))::.a (.l 0)::.a (.i .i64 (n_a0:Int))::.a (.i .i64 0)::us 10 ([])),[.sl (.came b_a0) n_a0 a0 35],[]⟩:St)
def Zey:Int×Int->LS
 |(y1_4,y1_25)=>([.a (.i .i64 y1_4),.a (.i .i64 y1_25)],[])
def Zld:(Stp (Int×Int) (Int×Int))->Exit×LS
 |.more t=>(.ret,Zey t)
 |.done t=>((.exit 2),Zey t)
def Zap(P:Program)(b_a0:Option (Option Addr))(n_a0:Nat)(a0:Array Value)(z0_4:Int)(z0_11:Int):Int×Int->Option (Stp (Int×Int) (Stp (Int×Int) (Int×Int)))
 |(y1_4,y1_25)=>bif decide (y1_25<(n_a0:Int)) then (bif (decide (0<=y1_25)&&decide (y1_25<(n_a0:Int))) then (bif (decide (0<=(0:Int))&&decide ((0:Int)<(n_a0:Int))) then (bif (!((Za2 (a0.extract ((y1_25).toNat*363) (((y1_25).toNat*363)+363)) (a0.extract ((0:Int).toNat*363) (((0:Int).toNat*363)+363))))) then (some (.done (.more ((4:Int),y1_25)))) else (some (.more (y1_4,(i64.wrap (y1_25+(1:Int))))))) else (none)) else (none)) else (some (.done (.done (y1_4,y1_25))))
theorem Zxz(N:Nat)(b_a0:Option (Option Addr))(n_a0:Nat)(a0:Array Value)(z0_4:Int)(z0_11:Int):∀t:Int×Int,Ual prog Za6 N (cAt cKCzA46 [1,1,1,0,1,0,0]) (pAt (Uaa cKCzA46 [([4,11],[]),([4,25],[])]).1 [1,1,1,0,1,0]) [4,25] [] (Zdw b_a0 n_a0 a0 z0_4 z0_11) (Zey t)=mapS Zey Zld (Zap prog b_a0 n_a0 a0 z0_4 z0_11 t):=by
 rintro⟨y1_4,y1_25⟩
 conv=>rhs;simp only[Zap,Zax,Zav,Zaw,Zay,Zey,Zld]
 kernel_rfl
def Zi6(P:Program)(N:Nat)(b_a0:Option (Option Addr))(n_a0:Nat)(a0:Array Value)(z0_4:Int)(z0_11:Int)(z1_4:Int)(z1_25:Int):Option (SV×Eff×Bool):=some (.a (.i .i64 z1_4),.none,true)
theorem Zqg(N:Nat)(b_a0:Option (Option Addr))(n_a0:Nat)(a0:Array Value)(z0_4:Int)(z0_11:Int)(z1_4:Int)(z1_25:Int):(Uab 2 (kSeq (veC prog Za6 N (cAt cKCzA46 [1,1,1,1]) (pAt (Uaa cKCzA46 [([4,11],[]),([4,25],[])]).1 [1,1,1,1]) (SV×Eff×Bool)) (finK prog [.sl (.came b_a0) n_a0 a0 35] [.tmp 4]))) .ret (left (writes (cAt cKCzA46 [1,1,1,0,1,0,0])) [4,25] [] (Zdw b_a0 n_a0 a0 z0_4 z0_11) ([.a (.i .i64 z1_4),.a (.i .i64 z1_25)],[]))=Zi6 prog N b_a0 n_a0 a0 z0_4 z0_11 z1_4 z1_25:=by kernel_rfl
def Zjc(P:Program)(N:Nat)(b_a0:Option (Option Addr))(n_a0:Nat)(a0:Array Value)(z0_4:Int)(z0_11:Int)(z1_4:Int)(z1_25:Int):Option (SV×Eff×Bool):=some (.a (.i .i64 0),.none,true)
theorem Zpf(N:Nat)(b_a0:Option (Option Addr))(n_a0:Nat)(a0:Array Value)(z0_4:Int)(z0_11:Int)(z1_4:Int)(z1_25:Int):(Uab 2 (kSeq (veC prog Za6 N (cAt cKCzA46 [1,1,1,1]) (pAt (Uaa cKCzA46 [([4,11],[]),([4,25],[])]).1 [1,1,1,1]) (SV×Eff×Bool)) (finK prog [.sl (.came b_a0) n_a0 a0 35] [.tmp 4]))) (.exit 2) (left (writes (cAt cKCzA46 [1,1,1,0,1,0,0])) [4,25] [] (Zdw b_a0 n_a0 a0 z0_4 z0_11) ([.a (.i .i64 z1_4),.a (.i .i64 z1_25)],[]))=Zjc prog N b_a0 n_a0 a0 z0_4 z0_11 z1_4 z1_25:=by kernel_rfl
theorem Zzh(N:Nat)(b_a0:Option (Option Addr))(n_a0:Nat)(a0:Array Value)(z0_4:Int)(z0_11:Int):Uah (Uac (Ual prog Za6 N (cAt cKCzA46 [1,1,1,0,1,0,0]) (pAt (Uaa cKCzA46 [([4,11],[]),([4,25],[])]).1 [1,1,1,0,1,0]) [4,25] [] (Zdw b_a0 n_a0 a0 z0_4 z0_11)) N ([.a (.i .i64 z0_4),.a (.i .i64 0)],[])) (λe s=>(Uab 2 (kSeq (veC prog Za6 N (cAt cKCzA46 [1,1,1,1]) (pAt (Uaa cKCzA46 [([4,11],[]),([4,25],[])]).1 [1,1,1,1]) (SV×Eff×Bool)) (finK prog [.sl (.came b_a0) n_a0 a0 35] [.tmp 4]))) e (left (writes (cAt cKCzA46 [1,1,1,0,1,0,0])) [4,25] [] (Zdw b_a0 n_a0 a0 z0_4 z0_11) s))=Uan (Uac (Zap prog b_a0 n_a0 a0 z0_4 z0_11) N (z0_4,(0:Int))) (st2 (λx=>Zi6 prog N b_a0 n_a0 a0 z0_4 z0_11 x.1 x.2) (λx=>Zjc prog N b_a0 n_a0 a0 z0_4 z0_11 x.1 x.2)):=by refine Za5 Zey Zld _ _ (Zxz N b_a0 n_a0 a0 z0_4 z0_11) N (z0_4,(0:Int)) _ _ ?_;intro x;cases x with|more x=>exact Zqg N b_a0 n_a0 a0 z0_4 z0_11 x.1 x.2|done x=>exact Zpf N b_a0 n_a0 a0 z0_4 z0_11 x.1 x.2
def Zjg(P:Program)(N:Nat)(b_a0:Option (Option Addr))(n_a0:Nat)(a0:Array Value)(z0_4:Int)(z0_11:Int):Option (SV×Eff×Bool):=some (.a (.i .i64 z0_4),.none,true)
theorem Zpd(N:Nat)(b_a0:Option (Option Addr))(n_a0:Nat)(a0:Array Value)(z0_4:Int)(z0_11:Int):(Uab 0 (kSeq (veC prog Za6 N (cAt cKCzA46 [1,1]) (pAt (Uaa cKCzA46 [([4,11],[]),([4,25],[])]).1 [1,1]) (SV×Eff×Bool)) (finK prog [.sl (.came b_a0) n_a0 a0 35] [.tmp 4]))) .ret (left (writes (cAt cKCzA46 [1,0,1,0,0])) [4,11] [] (Zdv b_a0 n_a0 a0) ([.a (.i .i64 z0_4),.a (.i .i64 z0_11)],[]))=Zjg prog N b_a0 n_a0 a0 z0_4 z0_11:=by kernel_rfl
def Ze8(P:Program)(N:Nat)(b_a0:Option (Option Addr))(n_a0:Nat)(a0:Array Value)(z0_4:Int)(z0_11:Int):Option (SV×Eff×Bool):=bif decide ((n_a0:Int) > (8:Int)) then (some (.a (.i .i64 3),.none,true)) else (Uan (Uac (Zap P b_a0 n_a0 a0 z0_4 z0_11) N (z0_4,(0:Int))) (st2 (λx=>Zi6 P N b_a0 n_a0 a0 z0_4 z0_11 x.1 x.2) (λx=>Zjc P N b_a0 n_a0 a0 z0_4 z0_11 x.1 x.2)))
theorem Zqd(N:Nat)(b_a0:Option (Option Addr))(n_a0:Nat)(a0:Array Value)(z0_4:Int)(z0_11:Int):(Uab 0 (kSeq (veC prog Za6 N (cAt cKCzA46 [1,1]) (pAt (Uaa cKCzA46 [([4,11],[]),([4,25],[])]).1 [1,1]) (SV×Eff×Bool)) (finK prog [.sl (.came b_a0) n_a0 a0 35] [.tmp 4]))) (.exit 0) (left (writes (cAt cKCzA46 [1,0,1,0,0])) [4,11] [] (Zdv b_a0 n_a0 a0) ([.a (.i .i64 z0_4),.a (.i .i64 z0_11)],[]))=Ze8 prog N b_a0 n_a0 a0 z0_4 z0_11:=by
 conv=>rhs;simp only[<- Zzh N b_a0 n_a0 a0 z0_4 z0_11,Ze8]
 kernel_rfl
theorem Zzm(N:Nat)(b_a0:Option (Option Addr))(n_a0:Nat)(a0:Array Value):Uah (Uac (Ual prog Za6 N (cAt cKCzA46 [1,0,1,0,0]) (pAt (Uaa cKCzA46 [([4,11],[]),([4,25],[])]).1 [1,0,1,0]) [4,11] [] (Zdv b_a0 n_a0 a0)) N ([.a (.i .i64 0),.a (.i .i64 0)],[])) (λe s=>(Uab 0 (kSeq (veC prog Za6 N (cAt cKCzA46 [1,1]) (pAt (Uaa cKCzA46 [([4,11],[]),([4,25],[])]).1 [1,1]) (SV×Eff×Bool)) (finK prog [.sl (.came b_a0) n_a0 a0 35] [.tmp 4]))) e (left (writes (cAt cKCzA46 [1,0,1,0,0])) [4,11] [] (Zdv b_a0 n_a0 a0) s))=Uan (Uac (Zao prog b_a0 n_a0 a0) N ((0:Int),(0:Int))) (st2 (λx=>Zjg prog N b_a0 n_a0 a0 x.1 x.2) (λx=>Ze8 prog N b_a0 n_a0 a0 x.1 x.2)):=by refine Za5 Zet Zkz _ _ (Zzi N b_a0 n_a0 a0) N ((0:Int),(0:Int)) _ _ ?_;intro x;cases x with|more x=>exact Zpd N b_a0 n_a0 a0 x.1 x.2|done x=>exact Zqd N b_a0 n_a0 a0 x.1 x.2
theorem Zwr(N:Nat)(b_a0:Option (Option Addr))(n_a0:Nat)(a0:Array Value):ansV prog Za6 N f46 [([4,11],[]),([4,25],[])] [.l 0,.v (.slice none 0 0)] [.sl (.came b_a0) n_a0 a0 35]=(Uan (Uac (Zao prog b_a0 n_a0 a0) N ((0:Int),(0:Int))) (st2 (λx=>Zjg prog N b_a0 n_a0 a0 x.1 x.2) (λx=>Ze8 prog N b_a0 n_a0 a0 x.1 x.2))):=by
 conv=>rhs;simp only[<- Zzm N b_a0 n_a0 a0]
 kernel_rfl
def Ua3(A C:Array Value):Int:=bif okS A then (bif okS C then (bif (Za2 A A&&Za2 C A) then 0 else 4) else 1) else 1
theorem Ztp(b_a0:Option (Option Addr))(n_a0:Nat)(a0:Array Value)(h_a0:a0.size=n_a0*(lay prog 35).length/\(∀k,k<n_a0->WT prog 35 (a0.extract (k*(lay prog 35).length) (k*(lay prog 35).length+(lay prog 35).length)))/\n_a0<=9223372036854775807)(hg:(jA n_a0 2)=true):ansV prog Za6 1000 f46 [([4,11],[]),([4,25],[])] [.l 0,.v (.slice none 0 0)] [.sl (.came b_a0) n_a0 a0 35]=some (.a (.i .i64 (Ua3 (a0.extract 0 363) (a0.extract 363 726))),.none,true):=by
 obtain rfl:n_a0=2:=jE hg;refine(Zwr 1000 b_a0 2 a0).trans ?_;have d1:decide ((0:Int)<((2:Nat):Int))=true:=rfl;have d2:decide (0<=(0:Int))=true:=rfl;have d3:decide ((1:Int)<((2:Nat):Int))=true:=rfl;have d4:decide (0<=(1:Int))=true:=rfl;have d5:decide ((2:Int)<((2:Nat):Int))=false:=rfl;have d6:decide ((((2:Nat):Int)) > (8:Int))=false:=rfl;have w1:i64.wrap ((0:Int)+1)=1:=by decide
 have w2:i64.wrap ((1:Int)+1)=2:=by decide
 have e0:a0.extract ((0:Int).toNat*363) ((0:Int).toNat*363+363)=(a0.extract 0 363):=rfl;have e1:a0.extract ((1:Int).toNat*363) ((1:Int).toNat*363+363)=(a0.extract 363 726):=rfl;generalize hA:(a0.extract 0 363)=A at e0|-
 generalize hC:(a0.extract 363 726)=C at e1|-
 unfold Ua3;have two:∀{m:Nat} {Q:Nat->Prop},m<=2->(0<m->Q 0)->(1<m->Q 1)->∀k,k<m->Q k:=λhm q0 q1 k hk=>by
  match k,hk with|0,hk=>exact q0 hk|1,hk=>exact q1 hk|k+2,hk=>omega
 cases hk0:okS A with
 | false=>
  have h:=Zdb (g:=Zao prog b_a0 2 a0) (λk=>((0:Int),(k:Int))) (m:=0) (x:=.more ((1:Int),(0:Int))) (N:=1000) (λk hk=>absurd hk (Nat.not_lt_zero k)) (by
   show Zao prog b_a0 2 a0 ((0:Int),(0:Int))=_
   simp only[Zao,d1,d2,e0,hk0,jB,jC,Q1]) (by omega)
  have h':Uac (Zao prog b_a0 2 a0) 1000 ((0:Int),(0:Int))=some (.more ((1:Int),(0:Int))):=h;rw[h'];rfl
 | true=>
  have s0:Zao prog b_a0 2 a0 ((0:Int),(0:Int))=some (.more ((0:Int),(1:Int))):=by simp only[Zao,d1,d2,e0,hk0,w1,jB,jD,Q1,Q2]
  cases hk1:okS C with
  | false=>
   have h:=Zdb (g:=Zao prog b_a0 2 a0) (λk=>((0:Int),(k:Int))) (m:=1) (x:=.more ((1:Int),(1:Int))) (N:=1000) (two (by omega) (λ_=>s0) (λh=>absurd h (by omega))) (by
    show Zao prog b_a0 2 a0 ((0:Int),(1:Int))=_
    simp only[Zao,d3,d4,e1,hk1,jB,jC,Q1]) (by omega)
   have h':Uac (Zao prog b_a0 2 a0) 1000 ((0:Int),(0:Int))=some (.more ((1:Int),(1:Int))):=h;rw[h'];rfl
  | true=>
   have s1:Zao prog b_a0 2 a0 ((0:Int),(1:Int))=some (.more ((0:Int),(2:Int))):=by simp only[Zao,d3,d4,e1,hk1,w2,jB,jD,Q1,Q2]
   have h:=Zdb (g:=Zao prog b_a0 2 a0) (λk=>((0:Int),(k:Int))) (m:=2) (x:=.done ((0:Int),(2:Int))) (N:=1000) (two (by omega) (λ_=>s0) (λ_=>s1)) (by
    show Zao prog b_a0 2 a0 ((0:Int),(2:Int))=_
    simp only[Zao,d5,Q2]) (by omega)
   have h':Uac (Zao prog b_a0 2 a0) 1000 ((0:Int),(0:Int))=some (.done ((0:Int),(2:Int))):=h;rw[h'];simp only[Uan,st2,Ze8,d6,Q2];cases hc0:Za2 A A with
   | false=>
    have h:=Zdb (g:=Zap prog b_a0 2 a0 0 2) (λk=>((0:Int),(k:Int))) (m:=0) (x:=.more ((4:Int),(0:Int))) (N:=1000) (λk hk=>absurd hk (Nat.not_lt_zero k)) (by
     show Zap prog b_a0 2 a0 0 2 ((0:Int),(0:Int))=_
     simp only[Zap,d1,d2,e0,hc0,jB,jC,Q1]) (by omega)
    have h':Uac (Zap prog b_a0 2 a0 0 2) 1000 ((0:Int),(0:Int))=some (.more ((4:Int),(0:Int))):=h;rw[h'];rfl
   | true=>
    have t0:Zap prog b_a0 2 a0 0 2 ((0:Int),(0:Int))=some (.more ((0:Int),(1:Int))):=by simp only[Zap,d1,d2,e0,hc0,w1,jB,jD,Q1,Q2]
    cases hc1:Za2 C A with
    | false=>
     have h:=Zdb (g:=Zap prog b_a0 2 a0 0 2) (λk=>((0:Int),(k:Int))) (m:=1) (x:=.more ((4:Int),(1:Int))) (N:=1000) (two (by omega) (λ_=>t0) (λh=>absurd h (by omega))) (by
      show Zap prog b_a0 2 a0 0 2 ((0:Int),(1:Int))=_
      simp only[Zap,d1,d2,d3,d4,e0,e1,hc1,jB,jC,Q1]) (by omega)
     have h':Uac (Zap prog b_a0 2 a0 0 2) 1000 ((0:Int),(0:Int))=some (.more ((4:Int),(1:Int))):=h;rw[h'];rfl
    | true=>
     have t1:Zap prog b_a0 2 a0 0 2 ((0:Int),(1:Int))=some (.more ((0:Int),(2:Int))):=by simp only[Zap,d1,d2,d3,d4,e0,e1,hc1,w2,jB,jD,Q1,Q2]
     have h:=Zdb (g:=Zap prog b_a0 2 a0 0 2) (λk=>((0:Int),(k:Int))) (m:=2) (x:=.done ((0:Int),(2:Int))) (N:=1000) (two (by omega) (λ_=>t0) (λ_=>t1)) (by
      show Zap prog b_a0 2 a0 0 2 ((0:Int),(2:Int))=_
      simp only[Zap,d5,Q2]) (by omega)
     have h':Uac (Zap prog b_a0 2 a0 0 2) 1000 ((0:Int),(0:Int))=some (.done ((0:Int),(2:Int))):=h;rw[h'];rfl
def Zeb:Con:=λargs h=>match args,h with|[.l 0,.v (.slice none 0 0)],[.sl (.came b_a0) n_a0 a0 35]=>some (.a (.i .i64 (Ua3 (a0.extract 0 363) (a0.extract 363 726))),.none,jA n_a0 2)|_,_=>none
theorem Zfz:EntX prog 46:=Zam (fn:=f46)
theorem Zib:Uad (md F) prog 46 Zeb:=(ansY (N:=1000) (mKc (Zah Zvw) Zpz (mKc (Zah Ztl) Zo5 mKn)) f46 [([4,11],[]),([4,25],[])]).of (by
 intro ρ h w args vals r e hA hH hr;unfold Zeb at hr;split at hr
 ·rename_i b_a0 n_a0 a0;obtain⟨rfl,rfl,hg2⟩:=BQi hr;exact Ztp b_a0 n_a0 a0 (hH.slw 0 rfl) hg2
 ·cases hr)
theorem Yf3(A C:Array Value):Ua3 A C=Zbj A C:=by
 have bc:∀x y:Int,(x==y)=(y==x):=λx y=>by rw[Bool.eq_iff_iff,beq_iff_eq,beq_iff_eq];exact eq_comm
 have e1:Za2 A A=true:=by unfold Za2;simp only[beq_self_eq_true,Q1]
 have e2:Za2 C A=Za4 A C:=by unfold Za2 Za4;rw[bc (num C 0),bc (num C 1),bc (num C 2)]
 unfold Ua3 Zbj;rw[e1,e2,Bool.true_and];cases okS A<;>cases okS C<;>cases Za4 A C<;>rfl
def Uas(A C:Array Value)(c b:Int)(f:Bool):Int:=bif (Ua3 A C==(0:Int)) then Zcd c b f A else Ua3 A C
def Zco:Cons:=(mkΓ [(19,con Zic),(30,con Zbn),(31,con Zfl)])
def Zdx(a0:Array Value)(b_a1:Option (Option Addr))(n_a1:Nat)(a1:Array Value):St:=(⟨.a (.w 0)::.a (.l 1)::.a (.u)::.a (.u)::.a (.b false)::.a (.i .i64 0)::us 36 ([]),[.row a0 35,.sl (.came b_a1) n_a1 a1 39],[]⟩:St)
def Zes:Bool×Int->LS
 |(y0_4,y0_5)=>([.a (.b y0_4),.a (.i .i64 y0_5)],[])
def Zlf:(Stp (Bool×Int) (Bool×Int))->Exit×LS
 |.more t=>(.ret,Zes t)
 |.done t=>((.exit 0),Zes t)
def Zc4(P:Program)(a0:Array Value)(b_a1:Option (Option Addr))(n_a1:Nat)(a1:Array Value):Bool×Int->Option (Stp (Bool×Int) (Stp (Bool×Int) (Bool×Int)))
  |(y0_4,y0_5)=>bif decide (y0_5<(n_a1:Int)) then (bif (decide (0<=y0_5)&&decide (y0_5<(n_a1:Int))) then (bif (!((Zac (i64.wrap (num a1 (((y0_5).toNat*2)+0))) a0))) then (some (.done (.more (false,y0_5)))) else (bif decide (0<=(IntKind.u64.wrap (i64.wrap (num a1 (((y0_5).toNat*2)+0))))) then (bif (!((Zak (i64.wrap (num a1 (((y0_5).toNat*2)+0))) a0))) then (some (.done (.more (false,y0_5)))) else (bif (decide (0<=y0_5)&&decide (y0_5<(n_a1:Int))) then (bif (!((Zaa (i64.wrap (num a1 (((y0_5).toNat*2)+1))) (1:Int) (14:Int)))) then (some (.done (.more (false,y0_5)))) else (some (.more (y0_4,(i64.wrap (y0_5+(1:Int))))))) else (none))) else (none))) else (none)) else (some (.done (.done (y0_4,y0_5))))
noncomputable abbrev cKCzA42:=codeOf f42
theorem Zzp(N:Nat)(a0:Array Value)(b_a1:Option (Option Addr))(n_a1:Nat)(a1:Array Value):∀t:Bool×Int,Ual prog Zco N (cAt cKCzA42 [1,0,1,0,0]) (pAt (Uaa cKCzA42 [([4,5],[])]).1 [1,0,1,0]) [4,5] [] (Zdx a0 b_a1 n_a1 a1) (Zes t)=mapS Zes Zlf (Zc4 prog a0 b_a1 n_a1 a1 t):=by
  rintro⟨y0_4,y0_5⟩
  conv=>rhs;simp only[Zc4,Zax,Zav,Zaw,Zay,Zes,Zlf]
  kernel_rfl
def Ziy(P:Program)(N:Nat)(a0:Array Value)(b_a1:Option (Option Addr))(n_a1:Nat)(a1:Array Value)(z0_4:Bool)(z0_5:Int):Option (SV×Eff×Bool):=some (.a (.b z0_4),.none,true)
theorem Zp2(N:Nat)(a0:Array Value)(b_a1:Option (Option Addr))(n_a1:Nat)(a1:Array Value)(z0_4:Bool)(z0_5:Int):(Uab 0 (kSeq (veC prog Zco N (cAt cKCzA42 [1,1]) (pAt (Uaa cKCzA42 [([4,5],[])]).1 [1,1]) (SV×Eff×Bool)) (finK prog [.row a0 35,.sl (.came b_a1) n_a1 a1 39] [.tmp 4]))) .ret (left (writes (cAt cKCzA42 [1,0,1,0,0])) [4,5] [] (Zdx a0 b_a1 n_a1 a1) ([.a (.b z0_4),.a (.i .i64 z0_5)],[]))=Ziy prog N a0 b_a1 n_a1 a1 z0_4 z0_5:=by kernel_rfl
def Zi1(P:Program)(N:Nat)(a0:Array Value)(b_a1:Option (Option Addr))(n_a1:Nat)(a1:Array Value)(z0_4:Bool)(z0_5:Int):Option (SV×Eff×Bool):=some (.a (.b (decide ((n_a1:Int)<=(60:Int)))),.none,true)
theorem Zpw(N:Nat)(a0:Array Value)(b_a1:Option (Option Addr))(n_a1:Nat)(a1:Array Value)(z0_4:Bool)(z0_5:Int):(Uab 0 (kSeq (veC prog Zco N (cAt cKCzA42 [1,1]) (pAt (Uaa cKCzA42 [([4,5],[])]).1 [1,1]) (SV×Eff×Bool)) (finK prog [.row a0 35,.sl (.came b_a1) n_a1 a1 39] [.tmp 4]))) (.exit 0) (left (writes (cAt cKCzA42 [1,0,1,0,0])) [4,5] [] (Zdx a0 b_a1 n_a1 a1) ([.a (.b z0_4),.a (.i .i64 z0_5)],[]))=Zi1 prog N a0 b_a1 n_a1 a1 z0_4 z0_5:=by kernel_rfl
theorem Zy5(N:Nat)(a0:Array Value)(b_a1:Option (Option Addr))(n_a1:Nat)(a1:Array Value):Uah (Uac (Ual prog Zco N (cAt cKCzA42 [1,0,1,0,0]) (pAt (Uaa cKCzA42 [([4,5],[])]).1 [1,0,1,0]) [4,5] [] (Zdx a0 b_a1 n_a1 a1)) N ([.a (.b false),.a (.i .i64 0)],[])) (λe s=>(Uab 0 (kSeq (veC prog Zco N (cAt cKCzA42 [1,1]) (pAt (Uaa cKCzA42 [([4,5],[])]).1 [1,1]) (SV×Eff×Bool)) (finK prog [.row a0 35,.sl (.came b_a1) n_a1 a1 39] [.tmp 4]))) e (left (writes (cAt cKCzA42 [1,0,1,0,0])) [4,5] [] (Zdx a0 b_a1 n_a1 a1) s))=Uan (Uac (Zc4 prog a0 b_a1 n_a1 a1) N (false,(0:Int))) (st2 (λx=>Ziy prog N a0 b_a1 n_a1 a1 x.1 x.2) (λx=>Zi1 prog N a0 b_a1 n_a1 a1 x.1 x.2)):=by refine Za5 Zes Zlf _ _ (Zzp N a0 b_a1 n_a1 a1) N (false,(0:Int)) _ _ ?_;intro x;cases x with|more x=>exact Zp2 N a0 b_a1 n_a1 a1 x.1 x.2|done x=>exact Zpw N a0 b_a1 n_a1 a1 x.1 x.2
theorem Zwe(N:Nat)(a0:Array Value)(b_a1:Option (Option Addr))(n_a1:Nat)(a1:Array Value):ansV prog Zco N f42 [([4,5],[])] [.w 0,.l 1] [.row a0 35,.sl (.came b_a1) n_a1 a1 39]=(Uan (Uac (Zc4 prog a0 b_a1 n_a1 a1) N (false,(0:Int))) (st2 (λx=>Ziy prog N a0 b_a1 n_a1 a1 x.1 x.2) (λx=>Zi1 prog N a0 b_a1 n_a1 a1 x.1 x.2))):=by
 conv=>rhs;simp only[<- Zy5 N a0 b_a1 n_a1 a1]
 kernel_rfl
theorem Zup(a0:Array Value)(b_a1:Option (Option Addr))(n_a1:Nat)(a1:Array Value)(h_a0:WT prog 35 a0)(h_a1:a1.size=n_a1*(lay prog 39).length/\(∀k,k<n_a1->WT prog 39 (a1.extract (k*(lay prog 39).length) (k*(lay prog 39).length+(lay prog 39).length)))/\n_a1<=9223372036854775807)(hg:(jA n_a1 0)=true):ansV prog Zco 1000 f42 [([4,5],[])] [.w 0,.l 1] [.row a0 35,.sl (.came b_a1) n_a1 a1 39]=some (.a (.b true),.none,true):=by
 obtain rfl:n_a1=0:=jE hg;refine(Zwe 1000 a0 b_a1 0 a1).trans ?_;have h:=Zdb (g:=Zc4 prog a0 b_a1 0 a1) (λk=>(false,(k:Int))) (m:=0) (x:=.done (false,(0:Int))) (N:=1000) (λk hk=>absurd hk (Nat.not_lt_zero k)) (by
  have h0:decide ((0:Int)<((0:Nat):Int))=false:=by decide
  show Zc4 prog a0 b_a1 0 a1 (false,(0:Int))=_
  simp only[Zc4,h0,Q2]) (by omega)
 have h':Uac (Zc4 prog a0 b_a1 0 a1) 1000 (false,(0:Int))=some (.done (false,(0:Int))):=h;rw[h'];rfl
def Zj6:Con:=λargs h=>match args,h with|[.w 0,.l 1],[.row a0 35,.sl (.came b_a1) n_a1 a1 39]=>some (.a (.b true),.none,jA n_a1 0)|_,_=>none
theorem Zso:EntX prog 42:=Zam (fn:=f42)
theorem Zx1:Uad (md F) prog 42 Zj6:=(ansY (N:=1000) (mKc (Zah Zo9) Zmu (mKc (Zah Zi3) Zf7 (mKc (Zah Zkj) Zhj mKn))) f42 [([4,5],[])]).of (by
 intro ρ h w args vals r e hA hH hr;unfold Zj6 at hr;split at hr
 ·rename_i a0 b_a1 n_a1 a1;obtain⟨rfl,rfl,hg2⟩:=BQi hr;exact Zup a0 b_a1 n_a1 a1 (hH.wt 0 rfl) (hH.slw 1 rfl) hg2
 ·cases hr)
def Zr7:Cons:=(mkΓ [(29,con Zlg),(41,con Zh7),(42,con Zj6),(43,con Zk7)])
theorem Zzn(N:Nat)(a2 a3:Int)(a5:Bool)(a0 a1:Array Value)(b_a4:Option (Option Addr))(n_a4:Nat)(a4:Array Value):ansV prog Zr7 N f18 [] [.w 0,.w 1,.i .i64 a2,.i .i64 a3,.l 2,.b a5] [.row a0 35,.row a1 35,.sl (.came b_a4) n_a4 a4 39]=(bif (okS a0) then (bif (okS a1) then (bif jA n_a4 0 then (bif jA n_a4 0 then (bif ((Zbj a0 a1) != (0:Int)) then (some (.a (.i .i64 (Zbj a0 a1)),.none,true)) else (bif (Zdn a2 a3 a5 a0) then (some (.a (.i .i64 (Zcd a2 a3 a5 a0)),.none,true)) else (none))) else (none)) else (none)) else (bif ((Zbj a0 a1) != (0:Int)) then (some (.a (.i .i64 (Zbj a0 a1)),.none,true)) else (bif (Zdn a2 a3 a5 a0) then (some (.a (.i .i64 (Zcd a2 a3 a5 a0)),.none,true)) else (none)))) else (bif ((Zbj a0 a1) != (0:Int)) then (some (.a (.i .i64 (Zbj a0 a1)),.none,true)) else (bif (Zdn a2 a3 a5 a0) then (some (.a (.i .i64 (Zcd a2 a3 a5 a0)),.none,true)) else (none)))):=by kernel_rfl
theorem Zv2(a2 a3:Int)(a5:Bool)(a0 a1:Array Value)(b_a4:Option (Option Addr))(n_a4:Nat)(a4:Array Value)(h_a2:i64.min<=a2/\a2<=i64.max)(h_a3:i64.min<=a3/\a3<=i64.max)(h_a0:WT prog 35 a0)(h_a1:WT prog 35 a1)(h_a4:a4.size=n_a4*(lay prog 39).length/\(∀k,k<n_a4->WT prog 39 (a4.extract (k*(lay prog 39).length) (k*(lay prog 39).length+(lay prog 39).length)))/\n_a4<=9223372036854775807)(hg:(jA n_a4 0)=true):ansV prog Zr7 1000 f18 [] [.w 0,.w 1,.i .i64 a2,.i .i64 a3,.l 2,.b a5] [.row a0 35,.row a1 35,.sl (.came b_a4) n_a4 a4 39]=some (.a (.i .i64 (Uas a0 a1 a2 a3 a5)),.none,true):=by obtain rfl:n_a4=0:=jE hg;refine(Zzn 1000 a2 a3 a5 a0 a1 b_a4 0 a4).trans ?_;have hb:jA 0 0=true:=rfl;unfold Uas;rw[hb,from_gd,Yf3];cases hz:(Zbj a0 a1==(0:Int))<;>simp only[bne,hz,jD,jC,Q1,Q2,Bool.cond_self]
def Zlb:Con:=λargs h=>match args,h with|[.w 0,.w 1,.i .i64 a2,.i .i64 a3,.l 2,.b a5],[.row a0 35,.row a1 35,.sl (.came b_a4) n_a4 a4 39]=>some (.a (.i .i64 (Uas a0 a1 a2 a3 a5)),.none,jA n_a4 0)|_,_=>none
theorem Ztv:EntX prog 18:=Zam (fn:=f18)
theorem Zz6:Uad (md F) prog 18 Zlb:=(ansY (N:=1000) (mKc (Zah Ya9) Zvu (mKc (Zah Zoj) Zk9 (mKc (Zah Zx1) Zso (mKc (Zah Zz8) Zt7 mKn)))) f18 []).of (by
 intro ρ h w args vals r e hA hH hr;unfold Zlb at hr;split at hr
 ·rename_i a2 a3 a5 a0 a1 b_a4 n_a4 a4;obtain⟨rfl,rfl,hg2⟩:=BQi hr;exact Zv2 a2 a3 a5 a0 a1 b_a4 n_a4 a4 (hA.rng 2 rfl) (hA.rng 3 rfl) (hH.wt 0 rfl) (hH.wt 1 rfl) (hH.slw 2 rfl) hg2
 ·cases hr)
def Zho:Cons:=(mkΓ [(15,conG Zg9),(33,conG Zgp),(46,con Zeb)])
theorem Zls(N:Nat)(a0:Array Value)(a1:Bool)(g_e0 g_e1 g_e2 g_e3 g_e4:Addr)(b_a2:Option (Option Addr))(n_a2:Nat)(a2:Array Value):ansV prog Zho N f23 [] [.r a0 64 [],.b a1,.l 5] [.gl 1 140 g_e0 101973,.gl 2 140 g_e1 93330,.gl 0 140 g_e2 124718,.gl 3 140 g_e3 112315,.gl 4 140 g_e4 94254,.sl (.came b_a2) n_a2 a2 35]=(bif jA n_a2 2 then (bif ((Ua3 (a2.extract 0 363) (a2.extract 363 726))==(0:Int)) then (bif decide ((n_a2:Int) > (0:Int)) then (bif (decide (0<=(0:Int))&&decide ((0:Int)<(n_a2:Int))) then (bif (okS (a2.extract ((0:Int).toNat*363) (((0:Int).toNat*363)+363))&&(rl (a2.extract ((0:Int).toNat*363) (((0:Int).toNat*363)+363)) (num a0 0) (num a0 1) a1&&(Zak (num a0 0) (a2.extract ((0:Int).toNat*363) (((0:Int).toNat*363)+363))))) then (some (.a (.i .i64 4),.none,true)) else (none)) else (none)) else (some (.a (.i .i64 (Ua3 (a2.extract 0 363) (a2.extract 363 726))),.none,true))) else (some (.a (.i .i64 (Ua3 (a2.extract 0 363) (a2.extract 363 726))),.none,true))) else (none)):=by kernel_rfl
def Zhq:Cons:=(mkΓ [(15,conG Zg9),(33,conG Zgu),(46,con Zeb)])
theorem Zlp(N:Nat)(a0:Array Value)(a1:Bool)(g_e0 g_e1 g_e2 g_e3 g_e4:Addr)(b_a2:Option (Option Addr))(n_a2:Nat)(a2:Array Value):ansV prog Zhq N f23 [] [.r a0 64 [],.b a1,.l 5] [.gl 1 140 g_e0 101973,.gl 2 140 g_e1 93330,.gl 0 140 g_e2 124718,.gl 3 140 g_e3 112315,.gl 4 140 g_e4 94254,.sl (.came b_a2) n_a2 a2 35]=(bif jA n_a2 2 then (bif ((Ua3 (a2.extract 0 363) (a2.extract 363 726))==(0:Int)) then (bif decide ((n_a2:Int) > (0:Int)) then (bif (decide (0<=(0:Int))&&decide ((0:Int)<(n_a2:Int))) then (bif (okS (a2.extract ((0:Int).toNat*363) (((0:Int).toNat*363)+363))&&(rl (a2.extract ((0:Int).toNat*363) (((0:Int).toNat*363)+363)) (num a0 0) (num a0 1) a1&&((!(Zak (num a0 0) (a2.extract ((0:Int).toNat*363) (((0:Int).toNat*363)+363))))))) then (some (.a (.i .i64 0),.none,true)) else (none)) else (none)) else (some (.a (.i .i64 (Ua3 (a2.extract 0 363) (a2.extract 363 726))),.none,true))) else (some (.a (.i .i64 (Ua3 (a2.extract 0 363) (a2.extract 363 726))),.none,true))) else (none)):=by kernel_rfl
def Zhp:Cons:=(mkΓ [(15,conG Zg9),(33,conG Zgw),(46,con Zeb)])
theorem Zlv(N:Nat)(a0:Array Value)(a1:Bool)(g_e0 g_e1 g_e2 g_e3 g_e4:Addr)(b_a2:Option (Option Addr))(n_a2:Nat)(a2:Array Value):ansV prog Zhp N f23 [] [.r a0 64 [],.b a1,.l 5] [.gl 1 140 g_e0 101973,.gl 2 140 g_e1 93330,.gl 0 140 g_e2 124718,.gl 3 140 g_e3 112315,.gl 4 140 g_e4 94254,.sl (.came b_a2) n_a2 a2 35]=(bif jA n_a2 2 then (bif ((Ua3 (a2.extract 0 363) (a2.extract 363 726))==(0:Int)) then (bif decide ((n_a2:Int) > (0:Int)) then (bif (decide (0<=(0:Int))&&decide ((0:Int)<(n_a2:Int))) then (bif (okS (a2.extract ((0:Int).toNat*363) (((0:Int).toNat*363)+363))&&((!(rl (a2.extract ((0:Int).toNat*363) (((0:Int).toNat*363)+363)) (num a0 0) (num a0 1) a1)))) then (some (.a (.i .i64 2),.none,true)) else (none)) else (none)) else (some (.a (.i .i64 (Ua3 (a2.extract 0 363) (a2.extract 363 726))),.none,true))) else (some (.a (.i .i64 (Ua3 (a2.extract 0 363) (a2.extract 363 726))),.none,true))) else (none)):=by kernel_rfl
def Zhr:Cons:=(mkΓ [(15,conG Zg9),(33,conG Zgo),(46,con Zeb)])
theorem Zlj(N:Nat)(a0:Array Value)(a1:Bool)(g_e0 g_e1 g_e2 g_e3 g_e4:Addr)(b_a2:Option (Option Addr))(n_a2:Nat)(a2:Array Value):ansV prog Zhr N f23 [] [.r a0 64 [],.b a1,.l 5] [.gl 1 140 g_e0 101973,.gl 2 140 g_e1 93330,.gl 0 140 g_e2 124718,.gl 3 140 g_e3 112315,.gl 4 140 g_e4 94254,.sl (.came b_a2) n_a2 a2 35]=(bif jA n_a2 2 then (bif ((Ua3 (a2.extract 0 363) (a2.extract 363 726))==(0:Int)) then (bif decide ((n_a2:Int) > (0:Int)) then (bif (decide (0<=(0:Int))&&decide ((0:Int)<(n_a2:Int))) then (bif (!(okS (a2.extract ((0:Int).toNat*363) (((0:Int).toNat*363)+363)))) then (some (.a (.i .i64 1),.none,true)) else (none)) else (none)) else (some (.a (.i .i64 (Ua3 (a2.extract 0 363) (a2.extract 363 726))),.none,true))) else (some (.a (.i .i64 (Ua3 (a2.extract 0 363) (a2.extract 363 726))),.none,true))) else (none)):=by kernel_rfl
theorem Zlm(a0:Array Value)(a1:Bool)(g_e0 g_e1 g_e2 g_e3 g_e4:Addr)(b_a2:Option (Option Addr))(n_a2:Nat)(a2:Array Value)(h_a0:WT prog 64 a0)(h_a2:a2.size=n_a2*(lay prog 35).length/\(∀k,k<n_a2->WT prog 35 (a2.extract (k*(lay prog 35).length) (k*(lay prog 35).length+(lay prog 35).length)))/\n_a2<=9223372036854775807)(hc0:(okS (a2.extract 0 363))=false)(hg:(jA n_a2 2)=true):ansV prog Zhr 1000 f23 [] [.r a0 64 [],.b a1,.l 5] [.gl 1 140 g_e0 101973,.gl 2 140 g_e1 93330,.gl 0 140 g_e2 124718,.gl 3 140 g_e3 112315,.gl 4 140 g_e4 94254,.sl (.came b_a2) n_a2 a2 35]=some (.a (.i .i64 (bif (Ua3 (a2.extract 0 363) (a2.extract 363 726)==(0:Int)) then (1:Int) else Ua3 (a2.extract 0 363) (a2.extract 363 726))),.none,true):=by
 obtain rfl:n_a2=2:=jE hg;refine(Zlj 1000 a0 a1 g_e0 g_e1 g_e2 g_e3 g_e4 b_a2 2 a2).trans ?_;have x0:a2.extract ((0:Int).toNat*363) ((0:Int).toNat*363+363)=(a2.extract 0 363):=rfl;have b2:jA 2 2=true:=rfl;have d2:decide (((2:Nat):Int) > 0)=true:=rfl;have d3:(decide ((0:Int)<=0)&&true)=true:=rfl;rw[x0,b2,d2,d3];cases hz:(Ua3 (a2.extract 0 363) (a2.extract 363 726)==(0:Int))<;>simp only[hc0,jB,Bool.and_true,Bool.true_and,jC,jD,Q1,Q2]
 all_goals rfl
theorem Zlu(a0:Array Value)(a1:Bool)(g_e0 g_e1 g_e2 g_e3 g_e4:Addr)(b_a2:Option (Option Addr))(n_a2:Nat)(a2:Array Value)(h_a0:WT prog 64 a0)(h_a2:a2.size=n_a2*(lay prog 35).length/\(∀k,k<n_a2->WT prog 35 (a2.extract (k*(lay prog 35).length) (k*(lay prog 35).length+(lay prog 35).length)))/\n_a2<=9223372036854775807)(hc0:(okS (a2.extract 0 363))=true)(hc1:(rl (a2.extract 0 363) (num a0 0) (num a0 1) a1)=false)(hg:(jA n_a2 2)=true):ansV prog Zhp 1000 f23 [] [.r a0 64 [],.b a1,.l 5] [.gl 1 140 g_e0 101973,.gl 2 140 g_e1 93330,.gl 0 140 g_e2 124718,.gl 3 140 g_e3 112315,.gl 4 140 g_e4 94254,.sl (.came b_a2) n_a2 a2 35]=some (.a (.i .i64 (bif (Ua3 (a2.extract 0 363) (a2.extract 363 726)==(0:Int)) then (2:Int) else Ua3 (a2.extract 0 363) (a2.extract 363 726))),.none,true):=by
 obtain rfl:n_a2=2:=jE hg;refine(Zlv 1000 a0 a1 g_e0 g_e1 g_e2 g_e3 g_e4 b_a2 2 a2).trans ?_;have x0:a2.extract ((0:Int).toNat*363) ((0:Int).toNat*363+363)=(a2.extract 0 363):=rfl;have b2:jA 2 2=true:=rfl;have d2:decide (((2:Nat):Int) > 0)=true:=rfl;have d3:(decide ((0:Int)<=0)&&true)=true:=rfl;rw[x0,b2,d2,d3];cases hz:(Ua3 (a2.extract 0 363) (a2.extract 363 726)==(0:Int))<;>simp only[hc0,hc1,jB,Bool.and_true,Bool.true_and,jC,jD,Q1,Q2]
 all_goals rfl
theorem Zlk(a0:Array Value)(a1:Bool)(g_e0 g_e1 g_e2 g_e3 g_e4:Addr)(b_a2:Option (Option Addr))(n_a2:Nat)(a2:Array Value)(h_a0:WT prog 64 a0)(h_a2:a2.size=n_a2*(lay prog 35).length/\(∀k,k<n_a2->WT prog 35 (a2.extract (k*(lay prog 35).length) (k*(lay prog 35).length+(lay prog 35).length)))/\n_a2<=9223372036854775807)(hc0:(okS (a2.extract 0 363))=true)(hc1:(rl (a2.extract 0 363) (num a0 0) (num a0 1) a1)=true)(hc2:(Zak (num a0 0) (a2.extract 0 363))=false)(hg:(jA n_a2 2)=true):ansV prog Zhq 1000 f23 [] [.r a0 64 [],.b a1,.l 5] [.gl 1 140 g_e0 101973,.gl 2 140 g_e1 93330,.gl 0 140 g_e2 124718,.gl 3 140 g_e3 112315,.gl 4 140 g_e4 94254,.sl (.came b_a2) n_a2 a2 35]=some (.a (.i .i64 (bif (Ua3 (a2.extract 0 363) (a2.extract 363 726)==(0:Int)) then (0:Int) else Ua3 (a2.extract 0 363) (a2.extract 363 726))),.none,true):=by
 obtain rfl:n_a2=2:=jE hg;refine(Zlp 1000 a0 a1 g_e0 g_e1 g_e2 g_e3 g_e4 b_a2 2 a2).trans ?_;have x0:a2.extract ((0:Int).toNat*363) ((0:Int).toNat*363+363)=(a2.extract 0 363):=rfl;have b2:jA 2 2=true:=rfl;have d2:decide (((2:Nat):Int) > 0)=true:=rfl;have d3:(decide ((0:Int)<=0)&&true)=true:=rfl;rw[x0,b2,d2,d3];cases hz:(Ua3 (a2.extract 0 363) (a2.extract 363 726)==(0:Int))<;>simp only[hc0,hc1,hc2,jB,Bool.and_true,Bool.true_and,jC,jD,Q1,Q2]
 all_goals rfl
theorem Zln(a0:Array Value)(a1:Bool)(g_e0 g_e1 g_e2 g_e3 g_e4:Addr)(b_a2:Option (Option Addr))(n_a2:Nat)(a2:Array Value)(h_a0:WT prog 64 a0)(h_a2:a2.size=n_a2*(lay prog 35).length/\(∀k,k<n_a2->WT prog 35 (a2.extract (k*(lay prog 35).length) (k*(lay prog 35).length+(lay prog 35).length)))/\n_a2<=9223372036854775807)(hc0:(okS (a2.extract 0 363))=true)(hc1:(rl (a2.extract 0 363) (num a0 0) (num a0 1) a1)=true)(hc2:(Zak (num a0 0) (a2.extract 0 363))=true)(hg:(jA n_a2 2)=true):ansV prog Zho 1000 f23 [] [.r a0 64 [],.b a1,.l 5] [.gl 1 140 g_e0 101973,.gl 2 140 g_e1 93330,.gl 0 140 g_e2 124718,.gl 3 140 g_e3 112315,.gl 4 140 g_e4 94254,.sl (.came b_a2) n_a2 a2 35]=some (.a (.i .i64 (bif (Ua3 (a2.extract 0 363) (a2.extract 363 726)==(0:Int)) then (4:Int) else Ua3 (a2.extract 0 363) (a2.extract 363 726))),.none,true):=by
 obtain rfl:n_a2=2:=jE hg;refine(Zls 1000 a0 a1 g_e0 g_e1 g_e2 g_e3 g_e4 b_a2 2 a2).trans ?_;have x0:a2.extract ((0:Int).toNat*363) ((0:Int).toNat*363+363)=(a2.extract 0 363):=rfl;have b2:jA 2 2=true:=rfl;have d2:decide (((2:Nat):Int) > 0)=true:=rfl;have d3:(decide ((0:Int)<=0)&&true)=true:=rfl;rw[x0,b2,d2,d3];cases hz:(Ua3 (a2.extract 0 363) (a2.extract 363 726)==(0:Int))<;>simp only[hc0,hc1,hc2,jB,Bool.and_true,Bool.true_and,jC,jD,Q1,Q2]
 all_goals rfl
def Zcx:SCon:=λargs h=>match args,h with|[.r a0 64 [],.b a1,.l 5],[.gl 1 140 g_e0 101973,.gl 2 140 g_e1 93330,.gl 0 140 g_e2 124718,.gl 3 140 g_e3 112315,.gl 4 140 g_e4 94254,.sl (.came b_a2) n_a2 a2 35]=>.two (okS (a2.extract 0 363)) (.two (rl (a2.extract 0 363) (num a0 0) (num a0 1) a1) (.two (Zak (num a0 0) (a2.extract 0 363)) (.one (some (.a (.i .i64 (bif (Ua3 (a2.extract 0 363) (a2.extract 363 726)==(0:Int)) then (4:Int) else Ua3 (a2.extract 0 363) (a2.extract 363 726))),.none,jA n_a2 2))) (.one (some (.a (.i .i64 (bif (Ua3 (a2.extract 0 363) (a2.extract 363 726)==(0:Int)) then (0:Int) else Ua3 (a2.extract 0 363) (a2.extract 363 726))),.none,jA n_a2 2)))) (.one (some (.a (.i .i64 (bif (Ua3 (a2.extract 0 363) (a2.extract 363 726)==(0:Int)) then (2:Int) else Ua3 (a2.extract 0 363) (a2.extract 363 726))),.none,jA n_a2 2)))) (.one (some (.a (.i .i64 (bif (Ua3 (a2.extract 0 363) (a2.extract 363 726)==(0:Int)) then (1:Int) else Ua3 (a2.extract 0 363) (a2.extract 363 726))),.none,jA n_a2 2)))|_,_=>.one none
theorem Zlt:EntX prog 23:=Zam (fn:=f23)
theorem Zmm:Uad (md F) prog 23 (λargs h=>Uay (Zcx args h)):=by
 intro ρ h w args vals r e hn hr hA hH;dsimp only at hr;unfold Zcx at hr;split at hr
 ·rename_i a0 a1 g_e0 g_e1 g_e2 g_e3 g_e4 b_a2 n_a2 a2;simp only[Uay]at hr;cases hc0:(okS (a2.extract 0 363))
  ·rw[hc0]at hr;simp only[Uay,Q1,Q2]at hr;obtain⟨rfl,rfl,hg2⟩:=BQi hr;exact((ansY (N:=1000) (mKc (Zjw Zke) Zhi (mKc (Zjw Zo2) Zd2 (mKc (Zah Zib) Zfz mKn))) f23 [])) ρ _ w _ vals _ _ hn ((Zlm a0 a1 g_e0 g_e1 g_e2 g_e3 g_e4 b_a2 n_a2 a2 (hA.wtr 0 rfl) (hH.slw 5 rfl) hc0 hg2)) hA hH
  ·rw[hc0]at hr;simp only[Uay,Q1,Q2]at hr;cases hc1:(rl (a2.extract 0 363) (num a0 0) (num a0 1) a1)
   ·rw[hc1]at hr;simp only[Uay,Q1,Q2]at hr;obtain⟨rfl,rfl,hg2⟩:=BQi hr;exact((ansY (N:=1000) (mKc (Zjw Zke) Zhi (mKc (Zjw Zp8) Zd2 (mKc (Zah Zib) Zfz mKn))) f23 [])) ρ _ w _ vals _ _ hn ((Zlu a0 a1 g_e0 g_e1 g_e2 g_e3 g_e4 b_a2 n_a2 a2 (hA.wtr 0 rfl) (hH.slw 5 rfl) hc0 hc1 hg2)) hA hH
   ·rw[hc1]at hr;simp only[Uay,Q1,Q2]at hr;cases hc2:(Zak (num a0 0) (a2.extract 0 363))
    ·rw[hc2]at hr;simp only[Uay,Q1,Q2]at hr;obtain⟨rfl,rfl,hg2⟩:=BQi hr;exact((ansY (N:=1000) (mKc (Zjw Zke) Zhi (mKc (Zjw Zp3) Zd2 (mKc (Zah Zib) Zfz mKn))) f23 [])) ρ _ w _ vals _ _ hn ((Zlk a0 a1 g_e0 g_e1 g_e2 g_e3 g_e4 b_a2 n_a2 a2 (hA.wtr 0 rfl) (hH.slw 5 rfl) hc0 hc1 hc2 hg2)) hA hH
    ·rw[hc2]at hr;simp only[Uay,Q1,Q2]at hr;obtain⟨rfl,rfl,hg2⟩:=BQi hr;exact((ansY (N:=1000) (mKc (Zjw Zke) Zhi (mKc (Zjw Zpl) Zd2 (mKc (Zah Zib) Zfz mKn))) f23 [])) ρ _ w _ vals _ _ hn ((Zln a0 a1 g_e0 g_e1 g_e2 g_e3 g_e4 b_a2 n_a2 a2 (hA.wtr 0 rfl) (hH.slw 5 rfl) hc0 hc1 hc2 hg2)) hA hH
 ·simp only[Uay]at hr;cases hr
def Zen:Con:=λargs h=>match args,h with|[.r a0 64 [],.b a1,.l 5],[.gl 1 140 g_e0 101973,.gl 2 140 g_e1 93330,.gl 0 140 g_e2 124718,.gl 3 140 g_e3 112315,.gl 4 140 g_e4 94254,.sl (.came b_a2) n_a2 a2 35]=>some (.a (.i .i64 (Uas (a2.extract 0 363) (a2.extract 363 726) (num a0 0) (num a0 1) a1)),.none,jA n_a2 2)|_,_=>none
theorem Zm2:Uad (md F) prog 23 Zen:=Uad.of Zmm (by
 intro ρ h w args vals r e hA hH hr;unfold Zen at hr;split at hr
 ·rename_i a0 a1 g_e0 g_e1 g_e2 g_e3 g_e4 b_a2 n_a2 a2;obtain⟨rfl,rfl,hg2⟩:=BQi hr
  show Uay (Zcx _ _)=_
  unfold Zcx;simp only[Uay];rw[hg2];unfold Uas;rw[Ym3];cases (okS (a2.extract 0 363))<;>cases (rl (a2.extract 0 363) (num a0 0) (num a0 1) a1)<;>cases (Zak (num a0 0) (a2.extract 0 363))<;>simp only[Q1,Q2]
 ·cases hr)
theorem pair_ext{A C:Array Value}(hA:A.size=363)(hC:C.size=363):(spl (spl (repC (zc prog 35) 2) 0 A.toList) 363 C.toList).extract 0 363=A/\(spl (spl (repC (zc prog 35) 2) 0 A.toList) 363 C.toList).extract 363 726=C:=by
 have hz:(repC (zc prog 35) 2).size=726:=by kernel_rfl
 have hl:A.toList.length=363:=by rw[Array.length_toList,hA]
 have hm:C.toList.length=363:=by rw[Array.length_toList,hC]
 constructor
 ·refine Array.ext_getElem? λi=> ?_
  rw[Array.getElem?_extract,Zgr _ _ _ (by rw[Zhh,hz,hm];omega),Zgr _ _ _ (by rw[hz,hl];omega),Zhh,Zhh,hz,hl,hm]
  by_cases hi:i<363
  ·rw[if_pos (by omega),if_neg (by omega),if_pos (by omega)];simp
  ·rw[if_neg (by omega),Array.getElem?_eq_none (by omega)]
 ·refine Array.ext_getElem? λi=> ?_
  rw[Array.getElem?_extract,Zgr _ _ _ (by rw[Zhh,hz,hm];omega),Zhh,Zhh,hz,hm]
  by_cases hi:i<363
  ·rw[if_pos (by omega),if_pos (by omega),show 363+i - 363=i by omega];simp
  ·rw[if_neg (by omega),Array.getElem?_eq_none (by omega)]
theorem Yj6{A C:Array Value}(h:Za4 A C=true):num A 0=num C 0/\num A 1=num C 1/\num A 2=num C 2:=by unfold Za4 at h;cases h0:(num A 0==num C 0)<;>cases h1:(num A 1==num C 1)<;>cases h2:(num A 2==num C 2)<;>rw[h0,h1,h2]at h<;>first|exact⟨eq_of_beq h0,eq_of_beq h1,eq_of_beq h2⟩|cases h
theorem Yni{A C:Array Value}(h:(Ua3 A C==(0:Int))=true):okS A=true/\okS C=true/\Za4 A C=true:=by rw[Yf3]at h;unfold Zbj at h;cases h0:okS A<;>cases h1:okS C<;>cases h2:Za4 A C<;>rw[h0,h1,h2]at h<;>first|exact⟨rfl,rfl,rfl⟩ | (exfalso;revert h;decide)
theorem Ygb{A C:Array Value}{c b:Int}{f:Bool}(h:(Uas A C c b f != (0:Int))=false):okS A=true/\okS C=true/\Za4 A C=true/\Zac c A=true/\Zac c C=true/\Zaa b 0 1=true/\f=true/\Zak c A=false:=by
 unfold Uas at h;cases hz:(Ua3 A C==(0:Int)) with
 |false=>rw[hz,Q2]at h;rw[bne,hz]at h;cases h
 | true=>
  rw[hz,Q1]at h;obtain⟨o0,o1,al⟩:=Yni hz;obtain⟨_,i0,t0,f0,d0⟩:=Yms h;obtain⟨e0,e1,_⟩:=Yj6 al;have i1:Zac c C=true:=by
   unfold Zac at i0|-
   rw[<- e0,<- e1];exact i0
  exact⟨o0,o1,al,i0,i1,t0,f0,d0⟩
end
end Go.Proofs.YtefjogahegolbaaDoor
