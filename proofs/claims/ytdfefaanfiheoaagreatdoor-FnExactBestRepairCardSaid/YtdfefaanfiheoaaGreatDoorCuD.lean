/- The score of finds: both sides. -/
import Derived.Test.YtdfefaanfiheoaaGreatDoorProg
import Derived.Test.YtdfefaanfiheoaaGreatDoorCuC
set_option linter.unusedVariables false
set_option linter.unusedSimpArgs false
namespace Go.Proofs.YtdfefaanfiheoaaGreatDoor
open Tryz (f35 f41)
open Go.ChangeShapes Go.WideShapes Go.ChangeAt Go.RowKit Ve Vc
open Tryz renaming prog -> PZ
open IntKind (i64)
set_option maxRecDepth 100000
noncomputable section
variable {F:Vc.Fd}
def Zzc:Cons:=(mkΓ [(59,con Zp2),(60,con Zou)])
theorem Ygn(N:Nat)(a1 a2:Int)(a3 a0:Array Value):ansV PZ Zzc N f41 [] [.w 0,.i .i64 a1,.i .i64 a2,.g a3 70] [.row a0 37]=(bif (okS a0&&((Zab a1 a0&&Zaa a2 0 1)&&Zaa (i64.wrap (num a3 1)) 1 14)) then (bif (decide (0<=(num a3 0))&&decide ((num a3 0)<36)) then (bif ((num (subV (byV PZ a0 a1 a2 (i64.wrap (num a3 1)).toNat) (byV PZ a0 a1 a2 ((i64.wrap (num a3 1)).toNat - 1)) 12) ((num a3 0).toNat*1))==(0:Int)) then (some (.t [.i .i64 0,.b false],.none,true)) else (bif (decide (0<=(num a3 0))&&decide ((num a3 0)<36)) then (bif decide (1<=(num (subV (byV PZ a0 a1 a2 (i64.wrap (num a3 1)).toNat) (byV PZ a0 a1 a2 ((i64.wrap (num a3 1)).toNat - 1)) 12) ((num a3 0).toNat*1))) then (bif decide (1<=(12:Int)) then (some (.t [.i .i64 (i64.wrap ((lg (num (subV (byV PZ a0 a1 a2 (i64.wrap (num a3 1)).toNat) (byV PZ a0 a1 a2 ((i64.wrap (num a3 1)).toNat - 1)) 12) ((num a3 0).toNat*1))) - (i64.wrap ((i64.wrap (num a3 1))*(lg (12:Int)))))),.b true],.none,true)) else (none)) else (none)) else (none))) else (none)) else (none)):=by kernel_rfl
theorem Ydv(a1 a2:Int)(a3 a0:Array Value)(h_a1:i64.min<=a1/\a1<=i64.max)(h_a2:i64.min<=a2/\a2<=i64.max)(h_a3:WT PZ 70 a3)(h_a0:WT PZ 37 a0)(hg:(((okS a0&&(Zab a1 a0&&Zaa a2 0 1))&&(Zaa (num a3 1) 1 14&&(decide (0<=num a3 0)&&decide (num a3 0<36)))))=true):ansV PZ Zzc 1000 f41 [] [.w 0,.i .i64 a1,.i .i64 a2,.g a3 70] [.row a0 37]=some (.t [.i .i64 (bif ((num (inH PZ a0 a1 a2 (num a3 1).toNat) (num a3 0).toNat)==(0:Int)) then 0 else scN (num (inH PZ a0 a1 a2 (num a3 1).toNat) (num a3 0).toNat) (num a3 1)),.b ((!((num (inH PZ a0 a1 a2 (num a3 1).toNat) (num a3 0).toNat)==(0:Int))))],.none,true):=by
 obtain⟨z,e0,e1,_,_⟩:=Zte h_a3;simp only[Q7,decide_eq_true_eq]at hg;obtain⟨⟨o0,i0,t0⟩,q3,q4,q5⟩:=hg;have r3:=Zj2 q3;have hp:=(Ysj h_a0 o0 i0 t0 (k:=(num a3 0).toNat) (n:=(num a3 1).toNat) (by omega) (by omega)).2.1;have eI:subV (byV PZ a0 a1 a2 (num a3 1).toNat) (byV PZ a0 a1 a2 ((num a3 1).toNat - 1)) 12=inH PZ a0 a1 a2 (num a3 1).toNat:=rfl;refine(Ygn 1000 a1 a2 a3 a0).trans ?_;simp only[e1,o0,i0,t0,q3,Q3 q4,Q3 q5,Nat.mul_one,Bool.and_self,Q1]
 try rw[eI]
 generalize (num (inH PZ a0 a1 a2 (num a3 1).toNat) (num a3 0).toNat)=p at hp|-
 cases h0:(p==(0:Int)) with|true=>rfl|false=>have h1:=one_le hp h0;simp only[h1,Q1,Q2,Bool.not_false];rfl
def Zb6:Con:=λargs h=>match args,h with|[.w 0,.i .i64 a1,.i .i64 a2,.g a3 70],[.row a0 37]=>some (.t [.i .i64 (bif ((num (inH PZ a0 a1 a2 (num a3 1).toNat) (num a3 0).toNat)==(0:Int)) then 0 else scN (num (inH PZ a0 a1 a2 (num a3 1).toNat) (num a3 0).toNat) (num a3 1)),.b ((!((num (inH PZ a0 a1 a2 (num a3 1).toNat) (num a3 0).toNat)==(0:Int))))],.none,((okS a0&&(Zab a1 a0&&Zaa a2 0 1))&&(Zaa (num a3 1) 1 14&&(decide (0<=num a3 0)&&decide (num a3 0<36)))))|_,_=>none
theorem Yb8:EntX PZ 41:=Zaj (fn:=f41)
theorem Yiu:Uac (md F) PZ 41 Zb6:=(ansY (N:=1000) (mKc (Zae Yk2) Yeo (mKc (Zae Yio) Ycj mKn)) f41 []).of (by
 intro ρ h w args vals r e hA hH hr;unfold Zb6 at hr;split at hr
 ·rename_i a1 a2 a3 a0;obtain⟨rfl,rfl,hg2⟩:=BQi hr;exact Ydv a1 a2 a3 a0 (hA.rng 1 rfl) (hA.rng 2 rfl) (hA.wt 3 rfl) (hH.wt 0 rfl) hg2
 ·cases hr)
theorem Yo2(S:Array Value)(c b:Int)(D:Array Value):∀n,i64.min<=finS PZ S c b D n/\finS PZ S c b D n<=i64.max
 |0=>by
  have e:finS PZ S c b D 0=0:=rfl;rw[e];exact Yoz .i64
 |n+1=>by
  have e:finS PZ S c b D (n+1)=finF PZ S c b D (finS PZ S c b D n) n:=Zdg _ _ _;rw[e];exact Zgw .i64 _
theorem Ybn(z:Bool)(n:Int):Ufk (scV z n)=(bif z then 0 else n)/\Ucz (scV z n)=(bif z then 6 else 0):=by cases z<;>exact⟨rfl,rfl⟩
theorem ev_num(a b:Int):num (#[.int .i64 a,.int .i64 b,.slice none 0 0]:Array Value) 0=a/\num (#[.int .i64 a,.int .i64 b,.slice none 0 0]:Array Value) 1=b:=⟨rfl,rfl⟩
def Zed(a1 a2:Int)(a0:Array Value)(b_a3:Option (Option Addr))(n_a3:Nat)(a3:Array Value):St:=(⟨.a (.w 0)::.a (.i .i64 a1)::.a (.i .i64 a2)::.a (.l 1)::us 4 (.a (.i .i64 0)::.a (.b false)::.a (.i .i64 0)::.a (.i .i64 0)::us 25 ([])),[.row a0 37,.sl (.came b_a3) n_a3 a3 70],[]⟩:St)
def Zfv:Int×Bool×Int×Int->LS
 |(y0_8,y0_9,y0_10,y0_11)=>([.a (.i .i64 y0_8),.a (.b y0_9),.a (.i .i64 y0_10),.a (.i .i64 y0_11)],[])
def Zm1:(Stp (Int×Bool×Int×Int) (Int×Bool×Int×Int))->Exit×LS
 |.more t=>(.ret,Zfv t)
 |.done t=>((.exit 0),Zfv t)
def Zcu(P:Program)(a1 a2:Int)(a0:Array Value)(b_a3:Option (Option Addr))(n_a3:Nat)(a3:Array Value):Int×Bool×Int×Int->Option (Stp (Int×Bool×Int×Int) (Stp (Int×Bool×Int×Int) (Int×Bool×Int×Int)))
 |(y0_8,y0_9,y0_10,y0_11)=>bif decide (y0_11<(n_a3:Int)) then (bif (decide (0<=y0_11)&&decide (y0_11<(n_a3:Int))) then (bif ((okS a0&&(Zab a1 a0&&Zaa a2 0 1))&&(Zaa (num (a3.extract ((y0_11).toNat*2) (((y0_11).toNat*2)+2)) 1) 1 14&&(decide (0<=num (a3.extract ((y0_11).toNat*2) (((y0_11).toNat*2)+2)) 0)&&decide (num (a3.extract ((y0_11).toNat*2) (((y0_11).toNat*2)+2)) 0<36)))) then (bif (!((!((num (inH PZ a0 a1 a2 (num (a3.extract ((y0_11).toNat*2) (((y0_11).toNat*2)+2)) 1).toNat) (num (a3.extract ((y0_11).toNat*2) (((y0_11).toNat*2)+2)) 0).toNat)==(0:Int))))) then (some (.done (.more ((0:Int),false,y0_10,y0_11)))) else (some (.more (y0_8,y0_9,(i64.wrap (y0_10+(bif ((num (inH PZ a0 a1 a2 (num (a3.extract ((y0_11).toNat*2) (((y0_11).toNat*2)+2)) 1).toNat) (num (a3.extract ((y0_11).toNat*2) (((y0_11).toNat*2)+2)) 0).toNat)==(0:Int)) then 0 else scN (num (inH PZ a0 a1 a2 (num (a3.extract ((y0_11).toNat*2) (((y0_11).toNat*2)+2)) 1).toNat) (num (a3.extract ((y0_11).toNat*2) (((y0_11).toNat*2)+2)) 0).toNat) (num (a3.extract ((y0_11).toNat*2) (((y0_11).toNat*2)+2)) 1)))),(i64.wrap (y0_11+(1:Int))))))) else (none)) else (none)) else (some (.done (.done (y0_8,y0_9,y0_10,y0_11))))
noncomputable abbrev cKCuD35:=codeOf f35
theorem Ydb(N:Nat)(a1 a2:Int)(a0:Array Value)(b_a3:Option (Option Addr))(n_a3:Nat)(a3:Array Value):∀t:Int×Bool×Int×Int,Uah PZ (mkΓ [(41,con Zb6)]) N (cAt cKCuD35 [1,1,0,1,0,0]) (pAt (Uaa cKCuD35 [([8,9,10,11],[])]).1 [1,1,0,1,0]) [8,9,10,11] [] (Zed a1 a2 a0 b_a3 n_a3 a3) (Zfv t)=mapS Zfv Zm1 (Zcu PZ a1 a2 a0 b_a3 n_a3 a3 t):=by
 rintro⟨y0_8,y0_9,y0_10,y0_11⟩
 conv=>rhs;simp only[Zcu,Zao,Zam,Zan,Zap,Zfv,Zm1]
 kernel_rfl
def Zlg(P:Program)(N:Nat)(a1 a2:Int)(a0:Array Value)(b_a3:Option (Option Addr))(n_a3:Nat)(a3:Array Value)(z0_8:Int)(z0_9:Bool)(z0_10:Int)(z0_11:Int):Option (SV×Eff×Bool):=some (.t [.i .i64 z0_8,.b z0_9],.none,true)
theorem Zue(N:Nat)(a1 a2:Int)(a0:Array Value)(b_a3:Option (Option Addr))(n_a3:Nat)(a3:Array Value)(z0_8:Int)(z0_9:Bool)(z0_10:Int)(z0_11:Int):(Uad 0 (kSeq (veC PZ (mkΓ [(41,con Zb6)]) N (cAt cKCuD35 [1,1,1]) (pAt (Uaa cKCuD35 [([8,9,10,11],[])]).1 [1,1,1]) (SV×Eff×Bool)) (finK PZ [.row a0 37,.sl (.came b_a3) n_a3 a3 70] [.tmp 8,.tmp 9]))) .ret (left (writes (cAt cKCuD35 [1,1,0,1,0,0])) [8,9,10,11] [] (Zed a1 a2 a0 b_a3 n_a3 a3) ([.a (.i .i64 z0_8),.a (.b z0_9),.a (.i .i64 z0_10),.a (.i .i64 z0_11)],[]))=Zlg PZ N a1 a2 a0 b_a3 n_a3 a3 z0_8 z0_9 z0_10 z0_11:=by kernel_rfl
def Zk1(P:Program)(N:Nat)(a1 a2:Int)(a0:Array Value)(b_a3:Option (Option Addr))(n_a3:Nat)(a3:Array Value)(z0_8:Int)(z0_9:Bool)(z0_10:Int)(z0_11:Int):Option (SV×Eff×Bool):=some (.t [.i .i64 z0_10,.b true],.none,true)
theorem Ztn(N:Nat)(a1 a2:Int)(a0:Array Value)(b_a3:Option (Option Addr))(n_a3:Nat)(a3:Array Value)(z0_8:Int)(z0_9:Bool)(z0_10:Int)(z0_11:Int):(Uad 0 (kSeq (veC PZ (mkΓ [(41,con Zb6)]) N (cAt cKCuD35 [1,1,1]) (pAt (Uaa cKCuD35 [([8,9,10,11],[])]).1 [1,1,1]) (SV×Eff×Bool)) (finK PZ [.row a0 37,.sl (.came b_a3) n_a3 a3 70] [.tmp 8,.tmp 9]))) (.exit 0) (left (writes (cAt cKCuD35 [1,1,0,1,0,0])) [8,9,10,11] [] (Zed a1 a2 a0 b_a3 n_a3 a3) ([.a (.i .i64 z0_8),.a (.b z0_9),.a (.i .i64 z0_10),.a (.i .i64 z0_11)],[]))=Zk1 PZ N a1 a2 a0 b_a3 n_a3 a3 z0_8 z0_9 z0_10 z0_11:=by kernel_rfl
theorem Ydx(N:Nat)(a1 a2:Int)(a0:Array Value)(b_a3:Option (Option Addr))(n_a3:Nat)(a3:Array Value):Uag (Uab (Uah PZ (mkΓ [(41,con Zb6)]) N (cAt cKCuD35 [1,1,0,1,0,0]) (pAt (Uaa cKCuD35 [([8,9,10,11],[])]).1 [1,1,0,1,0]) [8,9,10,11] [] (Zed a1 a2 a0 b_a3 n_a3 a3)) N ([.a (.i .i64 0),.a (.b false),.a (.i .i64 0),.a (.i .i64 0)],[])) (λe s=>(Uad 0 (kSeq (veC PZ (mkΓ [(41,con Zb6)]) N (cAt cKCuD35 [1,1,1]) (pAt (Uaa cKCuD35 [([8,9,10,11],[])]).1 [1,1,1]) (SV×Eff×Bool)) (finK PZ [.row a0 37,.sl (.came b_a3) n_a3 a3 70] [.tmp 8,.tmp 9]))) e (left (writes (cAt cKCuD35 [1,1,0,1,0,0])) [8,9,10,11] [] (Zed a1 a2 a0 b_a3 n_a3 a3) s))=Uai (Uab (Zcu PZ a1 a2 a0 b_a3 n_a3 a3) N ((0:Int),false,(0:Int),(0:Int))) (st2 (λx=>Zlg PZ N a1 a2 a0 b_a3 n_a3 a3 x.1 x.2.1 x.2.2.1 x.2.2.2) (λx=>Zk1 PZ N a1 a2 a0 b_a3 n_a3 a3 x.1 x.2.1 x.2.2.1 x.2.2.2)):=by refine Zar Zfv Zm1 _ _ (Ydb N a1 a2 a0 b_a3 n_a3 a3) N ((0:Int),false,(0:Int),(0:Int)) _ _ ?_;intro x;cases x with|more x=>exact Zue N a1 a2 a0 b_a3 n_a3 a3 x.1 x.2.1 x.2.2.1 x.2.2.2|done x=>exact Ztn N a1 a2 a0 b_a3 n_a3 a3 x.1 x.2.1 x.2.2.1 x.2.2.2
theorem Yb7(N:Nat)(a1 a2:Int)(a0:Array Value)(b_a3:Option (Option Addr))(n_a3:Nat)(a3:Array Value):ansV PZ (mkΓ [(41,con Zb6)]) N f35 [([8,9,10,11],[])] [.w 0,.i .i64 a1,.i .i64 a2,.l 1] [.row a0 37,.sl (.came b_a3) n_a3 a3 70]=(Uai (Uab (Zcu PZ a1 a2 a0 b_a3 n_a3 a3) N ((0:Int),false,(0:Int),(0:Int))) (st2 (λx=>Zlg PZ N a1 a2 a0 b_a3 n_a3 a3 x.1 x.2.1 x.2.2.1 x.2.2.2) (λx=>Zk1 PZ N a1 a2 a0 b_a3 n_a3 a3 x.1 x.2.1 x.2.2.1 x.2.2.2))):=by
 conv=>rhs;simp only[<- Ydx N a1 a2 a0 b_a3 n_a3 a3]
 kernel_rfl
theorem Zy0(a1 a2:Int)(a0:Array Value)(b_a3:Option (Option Addr))(n_a3:Nat)(a3:Array Value)(h_a1:i64.min<=a1/\a1<=i64.max)(h_a2:i64.min<=a2/\a2<=i64.max)(h_a0:WT PZ 37 a0)(h_a3:a3.size=n_a3*(lay PZ 70).length/\(∀k,k<n_a3->WT PZ 70 (a3.extract (k*(lay PZ 70).length) (k*(lay PZ 70).length+(lay PZ 70).length)))/\n_a3<=9223372036854775807)(hg:((vf a0 n_a3 a3&&(Zab a1 a0&&Zaa a2 0 1)))=true):ansV PZ (mkΓ [(41,con Zb6)]) 1000 f35 [([8,9,10,11],[])] [.w 0,.i .i64 a1,.i .i64 a2,.l 1] [.row a0 37,.sl (.came b_a3) n_a3 a3 70]=some (.t [.i .i64 (bif (finZ PZ a0 a1 a2 a3 n_a3) then 0 else (finS PZ a0 a1 a2 a3 n_a3)),.b ((!(finZ PZ a0 a1 a2 a3 n_a3)))],.none,true):=by
 have hl:(lay PZ 70).length=2:=by kernel_rfl
 rw[hl]at h_a3;obtain⟨s1,s2,s3⟩:=h_a3;simp only[Q7]at hg;obtain⟨hv,i0,t0⟩:=hg;obtain⟨o0,hn,_⟩:=Ud6 hv;have hh:=Yku hv s2;refine(Yb7 1000 a1 a2 a0 b_a3 n_a3 a3).trans ?_;have l0:=Zor (g:=Zcu PZ a1 a2 a0 b_a3 n_a3 a3) (λk=>((0:Int),false,finS PZ a0 a1 a2 a3 k,(k:Int))) (noK PZ a0 a1 a2 a3) n_a3 (N:=1000) (xd:=.done ((0:Int),false,(finS PZ a0 a1 a2 a3 n_a3),(n_a3:Int))) (by omega) (λk=>.more ((0:Int),false,finS PZ a0 a1 a2 a3 k,(k:Int))) (λk hk hp=>by
  obtain⟨p3,p4,p5,p6⟩:=hh k hk;have h1:decide ((k:Int)<(n_a3:Int))=true:=Q3 (by omega);have h2:decide (0<=(k:Int))=true:=Q3 (by omega);have h3:i64.wrap ((k:Int)+1)=((k+1:Nat):Int):=by rw[w64 (by omega)];omega
  have g4:=Q3 p4;have g5:=Q3 p5;have ef:finS PZ a0 a1 a2 a3 (k+1)=finF PZ a0 a1 a2 a3 (finS PZ a0 a1 a2 a3 k) k:=Zdg _ _ _;rw[ef];generalize finS PZ a0 a1 a2 a3 k=s;unfold noK ptK at hp;simp only[Zcu,h1,h2,h3,o0,i0,t0,p3,g4,g5,hp,finF,nuK,ptK,Q9,Bool.and_self,Bool.not_true,Bool.not_false,Q1,Q2]) (λk hk hp=>by
  obtain⟨p3,p4,p5,p6⟩:=hh k hk;have h1:decide ((k:Int)<(n_a3:Int))=true:=Q3 (by omega);have h2:decide (0<=(k:Int))=true:=Q3 (by omega);have h3:i64.wrap ((k:Int)+1)=((k+1:Nat):Int):=by rw[w64 (by omega)];omega
  have g4:=Q3 p4;have g5:=Q3 p5;unfold noK ptK at hp;generalize finS PZ a0 a1 a2 a3 k=s;simp only[Zcu,h1,h2,o0,i0,t0,p3,g4,g5,hp,Q9,Bool.and_self,Bool.not_true,Bool.not_false,Q1,Q2]) (by
  have h1:decide ((n_a3:Int)<(n_a3:Int))=false:=Q4 (by omega);generalize (finS PZ a0 a1 a2 a3 n_a3)=s;simp only[Zcu,h1,Q2])
 have l0':Uab (Zcu PZ a1 a2 a0 b_a3 n_a3 a3) 1000 ((0:Int),false,(0:Int),(0:Int))=some (match (List.range n_a3).find? (noK PZ a0 a1 a2 a3) with|some k=>.more ((0:Int),false,finS PZ a0 a1 a2 a3 k,(k:Int))|none=>.done ((0:Int),false,(finS PZ a0 a1 a2 a3 n_a3),(n_a3:Int))):=l0;rw[l0'];unfold finZ;cases (List.range n_a3).find? (noK PZ a0 a1 a2 a3)<;>rfl
def Zl0:Con:=λargs h=>match args,h with|[.w 0,.i .i64 a1,.i .i64 a2,.l 1],[.row a0 37,.sl (.came b_a3) n_a3 a3 70]=>some (.t [.i .i64 (bif (finZ PZ a0 a1 a2 a3 n_a3) then 0 else (finS PZ a0 a1 a2 a3 n_a3)),.b ((!(finZ PZ a0 a1 a2 a3 n_a3)))],.none,(vf a0 n_a3 a3&&(Zab a1 a0&&Zaa a2 0 1)))|_,_=>none
theorem Zxg:EntX PZ 35:=Zaj (fn:=f35)
theorem Yd1:Uac (md F) PZ 35 Zl0:=(ansY (N:=1000) (mKc (Zae Yiu) Yb8 mKn) f35 [([8,9,10,11],[])]).of (by
 intro ρ h w args vals r e hA hH hr;unfold Zl0 at hr;split at hr
 ·rename_i a1 a2 a0 b_a3 n_a3 a3;obtain⟨rfl,rfl,hg2⟩:=BQi hr;exact Zy0 a1 a2 a0 b_a3 n_a3 a3 (hA.rng 1 rfl) (hA.rng 2 rfl) (hH.wt 0 rfl) (hH.slw 1 rfl) hg2
 ·cases hr)
end
end Go.Proofs.YtdfefaanfiheoaaGreatDoor
