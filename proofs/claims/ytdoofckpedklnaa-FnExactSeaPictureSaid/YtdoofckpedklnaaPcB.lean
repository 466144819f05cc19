/- Pictures, both sides. -/
import Derived.Test.YtdoofckpedklnaaProg
import Derived.Test.YtdoofckpedklnaaPcA
namespace Go.Proofs.Ytdoofckpedklnaa
open Go.ChangeShapes Go.WideShapes Go.ChangeAt Go.RowKit Ve Vc
open IntKind (i64)
set_option linter.unusedVariables false
set_option linter.unusedSimpArgs false
set_option maxRecDepth 100000
noncomputable section
variable {mn:Md}
theorem foldI_gridF {T X:Type} {g:Int→T→Option (Stp T X)} (F:Nat→T) {wd hi:Int} (hg:∀ k,k<36→inC wd hi k=true→g (k:Int) (F k)=some (.more (F (k+1)))) (hs:∀ k,k<36→inC wd hi k=false→F (k+1)=F k) :
  foldI g (cellsL wd hi 36) (F 0)=some (.more (F 36)):=by
 have key:∀ n,n≤36→foldI g (cellsL wd hi n) (F 0)=some (.more (F n)):=by
  intro n
  induction n with
  | zero=>intro _;rfl
  | succ n ih=>
   intro hn
   have ih:=ih (by omega)
   cases hb:inC wd hi n with
   | false=>rw [cellsL_no hb,ih,hs n (by omega) hb]
   | true=>
    rw [cellsL_yes hb,foldI_app,ih]
    simp only [foldI,hg n (by omega) hb]
 exact key 36 (Nat.le_refl _)
theorem be_u64 (S:Array Value) (a o:Int) (n:Nat):U64 (beI S a o n):=
 folds_inv (f:=beF S a o) (fun _ b=>U64 b) (n:=n) ⟨by decide,by decide⟩ (fun k s _ hs=>by
  unfold beF
  split
  ·cases bitI a k&&hbB S k o with
   | false=>exact hs
   | true=>exact wrap_in .u64 _
  ·exact hs) n (Nat.le_refl n)
noncomputable def coI (S:Array Value):Int:=beI S (impl_waterBits_v0 S) (num S 2) 36
noncomputable def sgB (S:Array Value) (k:Nat):ByteArray:=bif bitI (num S 2) k then ⟨#[35]⟩ else bif bitI (coI S) k then ⟨#[44]⟩ else ⟨#[46]⟩
noncomputable def rwT (S:Array Value) (y:Nat):Nat→ByteArray
 | 0=>⟨#[]⟩
 | x+1=>rwT S y x++sgB S (6*y+x)
noncomputable def piR (S:Array Value) (f:Nat→Nat) (n:Nat):Array Value:=⟨(List.range n).map fun y=>.string (rwT S y (f y))⟩
noncomputable def picA (S:Array Value):Array Value:=piR S (fun _=>(num S 0).toNat) (num S 1).toNat
theorem sg_size (S:Array Value) (k:Nat):(sgB S k).size=1:=by
 unfold sgB
 cases bitI (num S 2) k with
 | true=>rfl
 | false=>cases bitI (coI S) k<;>rfl
theorem rw_size (S:Array Value) (y:Nat):∀ x,(rwT S y x).size=x
 | 0=>rfl
 | x+1=>by rw [rwT,ByteArray.size_append,rw_size S y x,sg_size]
theorem piR_at {S:Array Value} {f:Nat→Nat} {n i:Nat} (h:i<n):(piR S f n)[i]? = some (.string (rwT S i (f i))):=by
 unfold piR;simp [h]
theorem piR_no {S:Array Value} {f:Nat→Nat} {n i:Nat} (h:¬ i<n):(piR S f n)[i]? = none:=by
 unfold piR;simp;omega
theorem piR_size (S:Array Value) (f:Nat→Nat) (n:Nat):(piR S f n).size=n:=by unfold piR;simp
theorem piR_congr {S:Array Value} {f g:Nat→Nat} {n:Nat} (h:∀ i,i<n→f i=g i):piR S f n=piR S g n:=arr_ext fun i=>by
 by_cases hi:i<n
 ·rw [piR_at hi,piR_at hi,h i hi]
 ·rw [piR_no hi,piR_no hi]
theorem piR_succ (S:Array Value) (f:Nat→Nat) (n:Nat):piR S f (n+1)=piR S f n++#[.string (rwT S n (f n))]:=by
 unfold piR
 rw [List.range_succ,List.map_append]
 simp
theorem piR_str {S:Array Value} {f:Nat→Nat} {n i:Nat} (h:i<n):str (piR S f n) i=rwT S i (f i):=by unfold str;rw [piR_at h]
theorem sign_is {S:Array Value} {k:Nat} (hk:k<36):impl_cellSign_gd S (k:Int) (coI S)=true∧impl_cellSign_v0 S (k:Int) (coI S)=sgB S k:=by
 have h0:decide (0≤(k:Int))=true:=decide_eq_true (by omega)
 have h1:=test_bit (a:=coI S) (X:=(k:Int)) (by omega)
 rw [Int.toNat_natCast] at h1
 constructor
 ·unfold impl_cellSign_gd
  simp only [h0,cond_true]
  cases impl_isLand_v0 S (k:Int)<;>rfl
 ·unfold impl_cellSign_v0 sgB
  rw [isLand_bit hk,h1]
noncomputable def impl_SeaPicture_G:Cons:=(mkΓx [(14,con impl_seaCode_con),(15,con impl_besideAny_con),(16,con impl_waterBits_con),(18,con impl_placeOf_con),(19,con impl_cellSign_con)] [(17,impl_eachCell_nc)] [(32,impl_eachCell_1_ic)])
noncomputable def impl_SeaPicture_t0 (a0:Array Value):St:=(⟨.a (.g a0 36) :: .a (.w 0) :: .a (.v (.slice none 0 0)) :: .a (.i .i64 (0:Int)) :: .a (.i .i64 (impl_seaCode_v0 a0)) :: .a (.w 9) :: .a (.w 14) :: .a (.u) :: .a (.g a0 36) :: .a (.i .i64 (impl_seaCode_v0 a0)) :: .a (.i .i64 (impl_seaCode_v0 a0)) :: .a (.b (((impl_seaCode_v0 a0) != (0:Int)))) :: .a (.u) :: .a (.g a0 36) :: .a (.g a0 36) :: .a (.i .u64 (impl_waterBits_v0 a0)) :: .a (.p 0 (2) 23) :: .a (.i .u64 (num a0 2)) :: .a (.i .u64 (beI a0 (impl_waterBits_v0 a0) (num a0 2) 36)) :: .a (.p 0 (1) 22) :: .a (.i .i8 (num a0 1)) :: .a (.l 13) :: .a (.g a0 36) :: .a (.c 32 [19,21])::us 14 ([]),[.row a0 36,.no,.no,.no,.no,.no,.no,.no,.no,.row #[.int .u64 (beI a0 (impl_waterBits_v0 a0) (num a0 2) 36)] 23,.no,.no,.no,.sl .own ((num a0 1).toNat) (madeCells (zc Try.prog 9) ((num a0 1).toNat*1)) 9,.one (.l 13) 29,.no,.no,.no,.no,.row #[.int .i64 (num a0 1)] 2,.no,.row #[.int .i64 (num a0 0)] 2,.no,.no],[14,9]⟩:St)
noncomputable def impl_SeaPicture_tl0 (a0:Array Value):St:=(⟨.a (.g a0 36) :: .a (.w 0) :: .a (.v (.slice none 0 0)) :: .a (.i .i64 (0:Int)) :: .a (.i .i64 (impl_seaCode_v0 a0)) :: .a (.w 9) :: .a (.w 14) :: .a (.u) :: .a (.g a0 36) :: .a (.i .i64 (impl_seaCode_v0 a0)) :: .a (.i .i64 (impl_seaCode_v0 a0)) :: .a (.b (((impl_seaCode_v0 a0) != (0:Int)))) :: .a (.u) :: .a (.g a0 36) :: .a (.g a0 36) :: .a (.i .u64 (impl_waterBits_v0 a0)) :: .a (.p 0 (2) 23) :: .a (.i .u64 (num a0 2)) :: .a (.i .u64 (beI a0 (impl_waterBits_v0 a0) (num a0 2) 36)) :: .a (.p 0 (1) 22) :: .a (.i .i8 (num a0 1)) :: .a (.l 13) :: .a (.g a0 36) :: .a (.c 32 [19,21])::us 14 ([]),[.row a0 36,.no,.no,.no,.no,.no,.no,.no,.no,.row #[.int .u64 (beI a0 (impl_waterBits_v0 a0) (num a0 2) 36)] 23,.no,.no,.no,.sl .lent ((num a0 1).toNat) (madeCells (zc Try.prog 9) ((num a0 1).toNat*1)) 9,.one (.l 13) 29,.no,.no,.no,.no,.row #[.int .i64 (num a0 1)] 2,.no,.row #[.int .i64 (num a0 0)] 2,.no,.no],[14,9]⟩:St)
noncomputable def impl_SeaPicture_e0 (a0:Array Value):Array Value→BS
 | r0_13=>([.sl .lent ((num a0 1).toNat) r0_13 9]:BS)
noncomputable def impl_SeaPicture_x0 (a0:Array Value):Empty→Exit×BS:=fun x=>nomatch x
noncomputable def impl_SeaPicture_g0 (P:Program) (a0:Array Value) (x0:Int):Array Value→Option (Stp (Array Value) Empty)
 | r0_13=>bif (decide (0≤(i64.wrap ((x0).tdiv (6:Int))))&&decide ((i64.wrap ((x0).tdiv (6:Int)))<(((num a0 1).toNat):Int))) then (bif (impl_cellSign_gd a0 x0 (beI a0 (impl_waterBits_v0 a0) (num a0 2) 36)) then (bif decide ((str r0_13 ((i64.wrap ((x0).tdiv (6:Int))).toNat*1)).size+((impl_cellSign_v0 a0 x0 (beI a0 (impl_waterBits_v0 a0) (num a0 2) 36))).size≤9223372036854775807) then (bif (decide (0≤(i64.wrap ((x0).tdiv (6:Int))))&&decide ((i64.wrap ((x0).tdiv (6:Int)))<(((num a0 1).toNat):Int))) then (some (.more (r0_13.setIfInBounds ((i64.wrap ((x0).tdiv (6:Int))).toNat*1) (.string ((str r0_13 ((i64.wrap ((x0).tdiv (6:Int))).toNat*1)++(impl_cellSign_v0 a0 x0 (beI a0 (impl_waterBits_v0 a0) (num a0 2) 36))))))))
     else (none))
    else (none))
   else (none))
  else (none)
theorem impl_SeaPicture_s0 (N:Nat) (a0:Array Value) (x0:Int):∀ t:Array Value,stepI Try.prog impl_SeaPicture_G N (cAt (codeOf Try.f6) [1,1,1,1,0,1,0,0]) (pAt (mkPlan (codeOf Try.f6) [([8000000000],[13])]).1 [1,1,1,1,0,1,0]) 24 [13] [24] [(7,24)] (impl_SeaPicture_tl0 a0) [.i .i64 (x0)] ((impl_SeaPicture_e0 a0) t)=mapS (impl_SeaPicture_e0 a0) (impl_SeaPicture_x0 a0) (impl_SeaPicture_g0 Try.prog a0 x0 t):=by
 rintro r0_13
 refine Eq.trans (b:=(bif (decide (0≤(i64.wrap ((x0).tdiv (6:Int))))&&decide ((i64.wrap ((x0).tdiv (6:Int)))<(((num a0 1).toNat):Int))) then (bif (impl_cellSign_gd a0 x0 (beI a0 (impl_waterBits_v0 a0) (num a0 2) 36)) then (bif decide ((str r0_13 ((i64.wrap ((x0).tdiv (6:Int))).toNat*1)).size+((impl_cellSign_v0 a0 x0 (beI a0 (impl_waterBits_v0 a0) (num a0 2) 36))).size≤9223372036854775807) then (bif (decide (0≤(i64.wrap ((x0).tdiv (6:Int))))&&decide ((i64.wrap ((x0).tdiv (6:Int)))<(((num a0 1).toNat):Int))) then (some (.more ([.sl .lent ((num a0 1).toNat) (r0_13.setIfInBounds ((i64.wrap ((x0).tdiv (6:Int))).toNat*1) (.string ((str r0_13 ((i64.wrap ((x0).tdiv (6:Int))).toNat*1)++(impl_cellSign_v0 a0 x0 (beI a0 (impl_waterBits_v0 a0) (num a0 2) 36)))))) 9]:BS)))
     else (none))
    else (none))
   else (none))
  else (none))) (by kernel_rfl) ?_
 simp only [impl_SeaPicture_g0,mapS_cond,mapS_more,mapS_done,mapS_none,impl_SeaPicture_e0,impl_SeaPicture_x0]
noncomputable def impl_SeaPicture_k0_n (P:Program) (N:Nat) (a0:Array Value) (q0_13:Array Value):Option (SV×Eff×Bool):=some (.t [.x,.i .i64 (0:Int)],.newS (some 0) ((num a0 1).toNat) q0_13 9,true)
theorem impl_SeaPicture_k0_n_eq (N:Nat) (a0:Array Value) (q0_13:Array Value):(kBlock 0 (kSeq (veC Try.prog impl_SeaPicture_G N (cAt (codeOf Try.f6) [1,1,1,1,1]) (pAt (mkPlan (codeOf Try.f6) [([8000000000],[13])]).1 [1,1,1,1,1]) (SV×Eff×Bool)) (finK Try.prog [] [.tmp 2,.tmp 3]))) .normal ((reS (impl_SeaPicture_t0 a0) (leftI [13] (impl_SeaPicture_tl0 a0) ([.sl .lent ((num a0 1).toNat) q0_13 9]:BS))))=impl_SeaPicture_k0_n Try.prog N a0 q0_13:=by
 refine Eq.trans (b:=(some (.t [.x,.i .i64 (0:Int)],.newS (some 0) ((num a0 1).toNat) q0_13 9,true))) (by kernel_rfl) ?_
 rfl
theorem impl_SeaPicture_n0 (N:Nat) (a0:Array Value):bindI (foldI (fun (x0:Int) (hb:BS)=>stepI Try.prog impl_SeaPicture_G N (cAt (codeOf Try.f6) [1,1,1,1,0,1,0,0]) (pAt (mkPlan (codeOf Try.f6) [([8000000000],[13])]).1 [1,1,1,1,0,1,0]) 24 [13] [24] [(7,24)] (impl_SeaPicture_tl0 a0) [.i .i64 (x0)] hb) (cellsL (num a0 0) (num a0 1) 36) ([.sl .lent ((num a0 1).toNat) (madeCells (zc Try.prog 9) ((num a0 1).toNat*1)) 9]:BS)) (fun hb=>(kBlock 0 (kSeq (veC Try.prog impl_SeaPicture_G N (cAt (codeOf Try.f6) [1,1,1,1,1]) (pAt (mkPlan (codeOf Try.f6) [([8000000000],[13])]).1 [1,1,1,1,1]) (SV×Eff×Bool)) (finK Try.prog [] [.tmp 2,.tmp 3]))) .normal (reS (impl_SeaPicture_t0 a0) (leftI [13] (impl_SeaPicture_tl0 a0) hb))) (fun e hb=>(kBlock 0 (kSeq (veC Try.prog impl_SeaPicture_G N (cAt (codeOf Try.f6) [1,1,1,1,1]) (pAt (mkPlan (codeOf Try.f6) [([8000000000],[13])]).1 [1,1,1,1,1]) (SV×Eff×Bool)) (finK Try.prog [] [.tmp 2,.tmp 3]))) e (reS (impl_SeaPicture_t0 a0) (leftI [13] (impl_SeaPicture_tl0 a0) hb)))=nodeI (foldI (impl_SeaPicture_g0 Try.prog a0) (cellsL (num a0 0) (num a0 1) 36) (madeCells (zc Try.prog 9) ((num a0 1).toNat*1))) (fun x=>impl_SeaPicture_k0_n Try.prog N a0 x) (fun x:Empty=>nomatch x):=by
 refine iter_node (impl_SeaPicture_e0 a0) (impl_SeaPicture_x0 a0) _ _ (fun y t=>impl_SeaPicture_s0 N a0 y t) _ (madeCells (zc Try.prog 9) ((num a0 1).toNat*1)) _ _ _ _ ?_ ?_
 ·intro x;exact impl_SeaPicture_k0_n_eq N a0 x
 ·intro x;exact nomatch x
theorem impl_SeaPicture_ans (N:Nat) (a0:Array Value):ansV Try.prog impl_SeaPicture_G N Try.f6 [([8000000000],[13])] [.g a0 36] []=(bif ((impl_seaCode_v0 a0) != (0:Int)) then (some (.t [.v (.slice none 0 0),.i .i64 (impl_seaCode_v0 a0)],.none,true))
    else (bif (impl_waterBits_gd a0) then (bif (okS a0) then (bif (decide (0≤(num a0 1))&&((num a0 1)==(num a0 1)&&decide ((bytesOf Try.prog 9:Int)*(num a0 1)≤281474976710656))) then (bif (decide (0≤(num a0 0))&&decide ((num a0 0)≤6)&&(decide (0≤(num a0 1))&&decide ((num a0 1)≤6))) then (bif (Nat.blt 0 ((num a0 1).toNat)&&true) then (nodeI (foldI (impl_SeaPicture_g0 Try.prog a0) (cellsL (num a0 0) (num a0 1) 36) (madeCells (zc Try.prog 9) ((num a0 1).toNat*1))) (fun x=>impl_SeaPicture_k0_n Try.prog N a0 x) (fun x:Empty=>nomatch x))
              else (none))
            else (none))
          else (none))
        else (none))
      else (none))):=by
  refine Eq.trans (b:=(bif ((impl_seaCode_v0 a0) != (0:Int)) then (some (.t [.v (.slice none 0 0),.i .i64 (impl_seaCode_v0 a0)],.none,true))
    else (bif (impl_waterBits_gd a0) then (bif (okS a0) then (bif (decide (0≤(num a0 1))&&((num a0 1)==(num a0 1)&&decide ((bytesOf Try.prog 9:Int)*(num a0 1)≤281474976710656))) then (bif (decide (0≤(num a0 0))&&decide ((num a0 0)≤6)&&(decide (0≤(num a0 1))&&decide ((num a0 1)≤6))) then (bif (Nat.blt 0 ((num a0 1).toNat)&&true) then (bindI (foldI (fun (x0:Int) (hb:BS)=>stepI Try.prog impl_SeaPicture_G N (cAt (codeOf Try.f6) [1,1,1,1,0,1,0,0]) (pAt (mkPlan (codeOf Try.f6) [([8000000000],[13])]).1 [1,1,1,1,0,1,0]) 24 [13] [24] [(7,24)] (impl_SeaPicture_tl0 a0) [.i .i64 (x0)] hb) (cellsL (num a0 0) (num a0 1) 36) ([.sl .lent ((num a0 1).toNat) (madeCells (zc Try.prog 9) ((num a0 1).toNat*1)) 9]:BS)) (fun hb=>(kBlock 0 (kSeq (veC Try.prog impl_SeaPicture_G N (cAt (codeOf Try.f6) [1,1,1,1,1]) (pAt (mkPlan (codeOf Try.f6) [([8000000000],[13])]).1 [1,1,1,1,1]) (SV×Eff×Bool)) (finK Try.prog [] [.tmp 2,.tmp 3]))) .normal (reS (impl_SeaPicture_t0 a0) (leftI [13] (impl_SeaPicture_tl0 a0) hb))) (fun e hb=>(kBlock 0 (kSeq (veC Try.prog impl_SeaPicture_G N (cAt (codeOf Try.f6) [1,1,1,1,1]) (pAt (mkPlan (codeOf Try.f6) [([8000000000],[13])]).1 [1,1,1,1,1]) (SV×Eff×Bool)) (finK Try.prog [] [.tmp 2,.tmp 3]))) e (reS (impl_SeaPicture_t0 a0) (leftI [13] (impl_SeaPicture_tl0 a0) hb))))
              else (none))
            else (none))
          else (none))
        else (none))
      else (none)))) (by kernel_rfl) ?_
  simp only [impl_SeaPicture_n0 N a0]
theorem impl_SeaPicture_main0 (a0:Array Value) (h_a0:WT Try.prog 36 a0) (hc0:((okS a0))=false) (hg:(true)=true):ansV Try.prog impl_SeaPicture_G 1000 Try.f6 [([8000000000],[13])] [.g a0 36] []=some (.t [.v (.slice none 0 0),.i .i64 (1:Int)],.none,true):=by
 refine (impl_SeaPicture_ans 1000 a0).trans ?_
 have hcd:impl_seaCode_v0 a0=(1:Int):=by unfold impl_seaCode_v0;rw [hc0];rfl
 rw [hcd]
 rfl
theorem impl_SeaPicture_main1 (a0:Array Value) (h_a0:WT Try.prog 36 a0) (hc0:((okS a0))=true) (hg:(true)=true):ansV Try.prog impl_SeaPicture_G 1000 Try.f6 [([8000000000],[13])] [.g a0 36] []=some (.t [.x,.i .i64 (0:Int)],.newS (some 0) (num a0 1).toNat (picA a0) 9,true):=by
 have h0:=okS_dims hc0
 obtain ⟨hw0,hw1,hh0,hh1⟩:=h0
 have hcd:(impl_seaCode_v0 a0 != (0:Int))=false:=by unfold impl_seaCode_v0;rw [hc0];rfl
 have hwb:impl_waterBits_gd a0=true:=by unfold impl_waterBits_gd;exact okS_iter hc0
 have hbe:bytesOf Try.prog 9=16:=by kernel_rfl
 have hmk:(decide (0≤(num a0 1))&&((num a0 1)==(num a0 1)&&decide ((bytesOf Try.prog 9:Int)*(num a0 1)≤281474976710656)))=true:=by
  rw [hbe,decide_eq_true (show (0:Int)≤num a0 1 by omega),beq_self_eq_true,decide_eq_true (show (((16:Nat):Int))*(num a0 1)≤281474976710656 by omega)];rfl
 obtain ⟨W,hW⟩:=Int.eq_ofNat_of_zero_le (show 0≤num a0 0 by omega)
 obtain ⟨H,hH⟩:=Int.eq_ofNat_of_zero_le (show 0≤num a0 1 by omega)
 rw [hW] at hw0 hw1
 rw [hH] at hh0 hh1
 refine (impl_SeaPicture_ans 1000 a0).trans ?_
 have hpo:(Nat.blt 0 (num a0 1).toNat&&true)=true:=by rw [hH,Int.toNat_natCast,Bool.and_true];exact Nat.ble_eq_true_of_le (by omega)
 simp only [hcd,hwb,hc0,hmk,okS_iter hc0,hpo,cond_true,cond_false]
 have hF0:madeCells (zc Try.prog 9) ((num a0 1).toNat*1)=piR a0 (fun y=>min W (0 - 6*y)) H:=by
  have hz:zc Try.prog 9=#[.string ⟨#[]⟩]:=by kernel_rfl
  rw [hz,hH,Int.toNat_natCast,Nat.mul_one]
  refine arr_ext fun i=> ?_
  by_cases hi:i<H
  ·rw [made_get (by decide) hi,piR_at hi]
   have e:min W (0 - 6*i)=0:=by omega
   rw [e]
   have:i % (#[Value.string ⟨#[]⟩]:Array Value).size=0:=Nat.mod_one i
   rw [this]
   rfl
  ·rw [piR_no hi,Array.getElem?_eq_none (by rw [size_madeCells];omega)]
 have h:=foldI_gridF (X:=Empty) (g:=impl_SeaPicture_g0 Try.prog a0) (fun k=>piR a0 (fun y=>min W (k - 6*y)) H) (wd:=num a0 0) (hi:=num a0 1) (fun k hk hi=>by
  obtain ⟨hx,hy⟩:=inC_lt hi
  rw [hW] at hx
  rw [hH] at hy
  have hyl:k / 6<H:=by omega
  obtain ⟨-,ey⟩:=xy hk
  have ew:i64.wrap (((k / 6:Nat):Int))=((k / 6:Nat):Int):=w64 (by omega)
  have e1:decide (0≤(((k / 6:Nat):Int)))=true:=decide_eq_true (by omega)
  have e2:decide ((((k / 6:Nat):Int))<((H:Nat):Int))=true:=decide_eq_true (by omega)
  obtain ⟨s1,s2⟩:=sign_is (S:=a0) hk
  have e3:min W (k - 6*(k / 6))=k % 6:=by omega
  have e4:decide ((rwT a0 (k / 6) (k % 6)).size+(sgB a0 k).size≤9223372036854775807)=true:=by
   rw [rw_size,sg_size];exact decide_eq_true (by omega)
  have e5:str (piR a0 (fun y=>min W (k - 6*y)) H) (k / 6)=rwT a0 (k / 6) (k % 6):=by rw [piR_str hyl,e3]
  have e6:(piR a0 (fun y=>min W (k - 6*y)) H).setIfInBounds (k / 6) (.string (rwT a0 (k / 6) (k % 6)++sgB a0 k))=piR a0 (fun y=>min W (k+1 - 6*y)) H:=arr_ext fun i=>by
   rw [Array.getElem?_setIfInBounds,piR_size]
   by_cases hik:k / 6=i
   ·rw [if_pos hik,if_pos (by omega),← hik,piR_at hyl]
    have e7:min W (k+1 - 6*(k / 6))=k % 6+1:=by omega
    have e8:6*(k / 6)+k % 6=k:=by omega
    rw [e7,rwT,e8]
   ·rw [if_neg hik]
    by_cases hiH:i<H
    ·rw [piR_at hiH,piR_at hiH]
     have e7:min W (k - 6*i)=min W (k+1 - 6*i):=by omega
     rw [e7]
    ·rw [piR_no hiH,piR_no hiH]
  have s1':impl_cellSign_gd a0 (k:Int) (beI a0 (impl_waterBits_v0 a0) (num a0 2) 36)=true:=s1
  have s2':impl_cellSign_v0 a0 (k:Int) (beI a0 (impl_waterBits_v0 a0) (num a0 2) 36)=sgB a0 k:=s2
  simp only [impl_SeaPicture_g0,ey,ew,hH,Int.toNat_natCast,Nat.mul_one,e1,e2,s1',s2',e5,e4,e6,Bool.and_self,cond_true]) (fun k hk hi=>by
  refine piR_congr fun i hiH=> ?_
  unfold inC at hi
  rw [hW,hH] at hi
  simp only [Bool.and_eq_false_iff,decide_eq_false_iff_not] at hi
  omega)
 have h36:piR a0 (fun y=>min W (36 - 6*y)) H=picA a0:=by
  unfold picA
  rw [hW,hH,Int.toNat_natCast,Int.toNat_natCast]
  exact piR_congr fun i hi=>by omega
 rw [hF0,h,h36]
 rfl
noncomputable def impl_SeaPicture_scon:SCon:=fun args h=>match args,h with
 | [.g a0 36],[]=>.two ((okS a0)) (.one (some (.t [.x,.i .i64 (0:Int)],.newS (some 0) (num a0 1).toNat (picA a0) 9,true))) (.one (some (.t [.x,.i .i64 (1:Int)],.newS (some 0) 0 (#[]:Array Value) 9,true)))
 | _,_=>.one none
theorem impl_SeaPicture_enter:EntX Try.prog 6:=entX_ok (fn:=Try.f6) (by kernel_rfl) (by kernel_rfl) (by kernel_rfl)
theorem impl_SeaPicture_sok:ConOkX mn Try.prog 6 (fun args h=>wayRes (impl_SeaPicture_scon args h)):=by
 intro ρ h w args vals r e hn hr hA hH
 dsimp only at hr
 unfold impl_SeaPicture_scon at hr
 split at hr
 ·rename_i a0
  simp only [wayRes] at hr
  cases hc0:((okS a0))
  ·rw [hc0] at hr
   simp only [wayRes,cond_true,cond_false] at hr
   obtain ⟨rfl,hg⟩:=Prod.mk.inj (Option.some.inj hr)
   obtain ⟨rfl,hg2⟩:=Prod.mk.inj hg
   exact (ConOkX.nil (ansX_ok (N:=1000) (by kernel_rfl) (mkΓx_cX (con_okX impl_seaCode_ok) impl_seaCode_enter (mkΓx_cX (con_okX impl_besideAny_ok) impl_besideAny_enter (mkΓx_cX (con_okX impl_waterBits_ok) impl_waterBits_enter (mkΓx_cX (con_okX impl_placeOf_ok) impl_placeOf_enter (mkΓx_cX (con_okX impl_cellSign_ok) impl_cellSign_enter (mkΓx_nX impl_eachCell_nok impl_eachCell_enter (mkΓx_iX impl_eachCell_1_iok impl_eachCell_1_enter mkΓx_nilX))))))) (fn:=Try.f6) (by kernel_rfl) (by kernel_rfl) [([8000000000],[13])]) 0 9) ρ _ w _ vals _ _ hn (congrArg (nilN 0 9) (impl_SeaPicture_main0 a0 (hA.wt 0 rfl) hc0 hg2)) hA hH
  ·rw [hc0] at hr
   simp only [wayRes,cond_true,cond_false] at hr
   obtain ⟨rfl,hg⟩:=Prod.mk.inj (Option.some.inj hr)
   obtain ⟨rfl,hg2⟩:=Prod.mk.inj hg
   exact ((ansX_ok (N:=1000) (by kernel_rfl) (mkΓx_cX (con_okX impl_seaCode_ok) impl_seaCode_enter (mkΓx_cX (con_okX impl_besideAny_ok) impl_besideAny_enter (mkΓx_cX (con_okX impl_waterBits_ok) impl_waterBits_enter (mkΓx_cX (con_okX impl_placeOf_ok) impl_placeOf_enter (mkΓx_cX (con_okX impl_cellSign_ok) impl_cellSign_enter (mkΓx_nX impl_eachCell_nok impl_eachCell_enter (mkΓx_iX impl_eachCell_1_iok impl_eachCell_1_enter mkΓx_nilX))))))) (fn:=Try.f6) (by kernel_rfl) (by kernel_rfl) [([8000000000],[13])])) ρ _ w _ vals _ _ hn ((impl_SeaPicture_main1 a0 (hA.wt 0 rfl) hc0 hg2)) hA hH
 ·simp only [wayRes] at hr
  cases hr
noncomputable def pcN (S:Array Value):Nat:=bif okS S then (num S 1).toNat else 0
noncomputable def pcA (S:Array Value):Array Value:=bif okS S then picA S else #[]
noncomputable def pcC (S:Array Value):Int:=bif okS S then 0 else 1
noncomputable def impl_SeaPicture_con:Con:=fun args h=>match args,h with
 | [.g a0 36],[]=>some (.t [.x,.i .i64 (pcC a0)],.newS (some 0) (pcN a0) (pcA a0) 9,true)
 | _,_=>none
theorem impl_SeaPicture_ok:ConOkX mn Try.prog 6 impl_SeaPicture_con:=ConOkX.of impl_SeaPicture_sok (by
 intro ρ h w args vals r e hA hH hr
 unfold impl_SeaPicture_con at hr
 split at hr
 ·rename_i a0
  obtain ⟨rfl,hg⟩:=Prod.mk.inj (Option.some.inj hr)
  obtain ⟨rfl,hg2⟩:=Prod.mk.inj hg
  show wayRes (impl_SeaPicture_scon _ _)=_
  unfold impl_SeaPicture_scon
  simp only [wayRes]
  unfold pcN pcA pcC
  cases hz:(okS a0)<;>rfl
 ·cases hr)
noncomputable def spec_SeaPicture_G:Cons:=(mkΓ [(10,con spec_l01Ok_con),(11,con spec_l01Beside_con),(12,con spec_l01Dry_con)])
noncomputable def spec_SeaPicture_t1 (a0:Array Value) (y0_6:Int) (m0_5:Nat) (y0_5:Array Value):St:=(⟨.a (.g a0 36) :: .a (.w 0) :: .a (.v (.slice none 0 0)) :: .a (.i .i64 (0:Int)) :: .a (.i .u64 (beI a0 (impl_waterBits_v0 a0) (num a0 2) 36)) :: .a (.l 5) :: .a (.i .i64 (y0_6)) :: .a (.s ((⟨#[]⟩:ByteArray))) :: .a (.i .i64 (0:Int)) :: .a (.x) :: .a (.b ((okS a0))) :: .a (.b ((!((okS a0))))) :: .a (.u) :: .a (.i .u64 (beI a0 (impl_waterBits_v0 a0) (num a0 2) 36)) :: .a (.l 3) :: .a (.i .i64 (y0_6)) :: .a (.p 0 (1) 22) :: .a (.i .i8 (num a0 1)) :: .a (.i .i64 (i64.wrap (num a0 1))) :: .a (.b (decide (y0_6<(i64.wrap (num a0 1)))))::xs 33 (.a (.u)::[]),[.row a0 36,.no,.no,.sp,.no,.sl .own m0_5 y0_5 9],[5]⟩:St)
noncomputable def spec_SeaPicture_e1:ByteArray×Int→LS
 | (y1_7,y1_8)=>([.a (.s (y1_7)),.a (.i .i64 (y1_8))],[])
noncomputable def spec_SeaPicture_x1:ByteArray×Int→Exit×LS
 | t=>((.exit 2),spec_SeaPicture_e1 t)
noncomputable def spec_SeaPicture_g1 (P:Program) (a0:Array Value) (y0_6:Int) (m0_5:Nat) (y0_5:Array Value):ByteArray×Int→Option (Stp (ByteArray×Int) (ByteArray×Int))
  | (y1_7,y1_8)=>bif decide (y1_8<(i64.wrap (num a0 0))) then (bif decide (0≤(IntKind.u64.wrap (i64.wrap (y1_8+(i64.wrap ((6:Int)*y0_6)))))) then (bif (spec_l01Dry_v0 (i64.wrap (y1_8+(i64.wrap ((6:Int)*y0_6)))) a0) then (bif decide ((y1_7).size+((⟨#[35]⟩:ByteArray)).size≤9223372036854775807) then (some (.more ((y1_7++(⟨#[35]⟩:ByteArray)),(i64.wrap (y1_8+(1:Int))))))
          else (none))
        else (bif decide (0≤(IntKind.u64.wrap (i64.wrap (y1_8+(i64.wrap ((6:Int)*y0_6)))))) then (bif ((((((beI a0 (impl_waterBits_v0 a0) (num a0 2) 36)).fdiv (2^(min ((IntKind.u64.wrap (i64.wrap (y1_8+(i64.wrap ((6:Int)*y0_6)))))).toNat IntKind.u64.bits)))).tmod (2:Int))==(1:Int)) then (bif decide ((y1_7).size+((⟨#[44]⟩:ByteArray)).size≤9223372036854775807) then (some (.more ((y1_7++(⟨#[44]⟩:ByteArray)),(i64.wrap (y1_8+(1:Int))))))
              else (none))
            else (bif decide ((y1_7).size+((⟨#[46]⟩:ByteArray)).size≤9223372036854775807) then (some (.more ((y1_7++(⟨#[46]⟩:ByteArray)),(i64.wrap (y1_8+(1:Int))))))
              else (none)))
          else (none)))
      else (none))
    else (some (.done (y1_7,y1_8)))
theorem spec_SeaPicture_s1 (N:Nat) (a0:Array Value) (y0_6:Int) (m0_5:Nat) (y0_5:Array Value):∀ t:ByteArray×Int,stepV Try.prog spec_SeaPicture_G N (cAt (codeOf Try.f4) [1,1,1,1,0,1,0,0,1,0,0,1,0,1,0,0]) (pAt (mkPlan (codeOf Try.f4) [([6],[1000005,9]),([7,8],[])]).1 [1,1,1,1,0,1,0,1,0,1,0,1,0]) [7,8] [] (spec_SeaPicture_t1 a0 y0_6 m0_5 y0_5) (spec_SeaPicture_e1 t)=mapS spec_SeaPicture_e1 spec_SeaPicture_x1 (spec_SeaPicture_g1 Try.prog a0 y0_6 m0_5 y0_5 t):=by
  rintro ⟨y1_7,y1_8⟩
  refine Eq.trans (b:=(bif decide (y1_8<(i64.wrap (num a0 0))) then (bif decide (0≤(IntKind.u64.wrap (i64.wrap (y1_8+(i64.wrap ((6:Int)*y0_6)))))) then (bif (spec_l01Dry_v0 (i64.wrap (y1_8+(i64.wrap ((6:Int)*y0_6)))) a0) then (bif decide ((y1_7).size+((⟨#[35]⟩:ByteArray)).size≤9223372036854775807) then (some (.more ([.a (.s ((y1_7++(⟨#[35]⟩:ByteArray)))),.a (.i .i64 (i64.wrap (y1_8+(1:Int))))],[])))
          else (none))
        else (bif decide (0≤(IntKind.u64.wrap (i64.wrap (y1_8+(i64.wrap ((6:Int)*y0_6)))))) then (bif ((((((beI a0 (impl_waterBits_v0 a0) (num a0 2) 36)).fdiv (2^(min ((IntKind.u64.wrap (i64.wrap (y1_8+(i64.wrap ((6:Int)*y0_6)))))).toNat IntKind.u64.bits)))).tmod (2:Int))==(1:Int)) then (bif decide ((y1_7).size+((⟨#[44]⟩:ByteArray)).size≤9223372036854775807) then (some (.more ([.a (.s ((y1_7++(⟨#[44]⟩:ByteArray)))),.a (.i .i64 (i64.wrap (y1_8+(1:Int))))],[])))
              else (none))
            else (bif decide ((y1_7).size+((⟨#[46]⟩:ByteArray)).size≤9223372036854775807) then (some (.more ([.a (.s ((y1_7++(⟨#[46]⟩:ByteArray)))),.a (.i .i64 (i64.wrap (y1_8+(1:Int))))],[])))
              else (none)))
          else (none)))
      else (none))
    else (some (.done ((.exit 2),([.a (.s (y1_7)),.a (.i .i64 (y1_8))],[])))))) (by kernel_rfl) ?_
  simp only [spec_SeaPicture_g1,mapS_cond,mapS_more,mapS_done,mapS_none,spec_SeaPicture_e1,spec_SeaPicture_x1]
noncomputable def spec_SeaPicture_t0 (a0:Array Value):St:=(⟨.a (.g a0 36) :: .a (.w 0) :: .a (.v (.slice none 0 0)) :: .a (.i .i64 (0:Int)) :: .a (.i .u64 (beI a0 (impl_waterBits_v0 a0) (num a0 2) 36)) :: .a (.l 5) :: .a (.i .i64 (0:Int))::us 3 (.a (.b ((okS a0))) :: .a (.b ((!((okS a0))))) :: .a (.u) :: .a (.i .u64 (beI a0 (impl_waterBits_v0 a0) (num a0 2) 36)) :: .a (.l 3)::us 39 ([])),[.row a0 36,.no,.no,.sp,.no,.sl .own 0 (#[]:Array Value) 9],[3]⟩:St)
noncomputable def spec_SeaPicture_e0:Int×Nat×Array Value→LS
 | (y0_6,m0_5,y0_5)=>([.a (.i .i64 (y0_6)),.a (.l 5)],[.sl .own m0_5 y0_5 9])
noncomputable def spec_SeaPicture_x0:Int×Nat×Array Value→Exit×LS
 | t=>((.exit 0),spec_SeaPicture_e0 t)
noncomputable def spec_SeaPicture_k1_0 (P:Program) (N:Nat) (a0:Array Value) (y0_6:Int) (m0_5:Nat) (y0_5:Array Value) (z1_7:ByteArray) (z1_8:Int):Option (Stp (Int×Nat×Array Value) (Int×Nat×Array Value)):=bif (Nat.ble ((m0_5+1)*bytesOf Try.prog 9) 140737488355328) then (some (.more ((i64.wrap (y0_6+(1:Int))),(m0_5+1),(y0_5++(#[.string (z1_7)]:Array Value)))))
  else (none)
theorem spec_SeaPicture_k1_0_eq (N:Nat) (a0:Array Value) (y0_6:Int) (m0_5:Nat) (y0_5:Array Value) (z1_7:ByteArray) (z1_8:Int):(kBlock 2 (kSeq (veC Try.prog spec_SeaPicture_G N (cAt (codeOf Try.f4) [1,1,1,1,0,1,0,0,1,0,0,1,1]) (pAt (mkPlan (codeOf Try.f4) [([6],[1000005,9]),([7,8],[])]).1 [1,1,1,1,0,1,0,1,0,1,1]) (Stp LS (Exit×LS))) (kBlock 1 (kSeq (veC Try.prog spec_SeaPicture_G N (cAt (codeOf Try.f4) [1,1,1,1,0,1,0,0,1,1]) (pAt (mkPlan (codeOf Try.f4) [([6],[1000005,9]),([7,8],[])]).1 [1,1,1,1,0,1,0,1,1]) (Stp LS (Exit×LS))) (kBodyG 5 [6] [] 5 9))))) (.exit 2) (left (writes (cAt (codeOf Try.f4) [1,1,1,1,0,1,0,0,1,0,0,1,0,1,0,0])) [7,8] [] (spec_SeaPicture_t1 a0 y0_6 m0_5 y0_5) ([.a (.s (z1_7)),.a (.i .i64 (z1_8))],[]))=mapS spec_SeaPicture_e0 spec_SeaPicture_x0 (spec_SeaPicture_k1_0 Try.prog N a0 y0_6 m0_5 y0_5 z1_7 z1_8):=by
 refine Eq.trans (b:=(bif (Nat.ble ((m0_5+1)*bytesOf Try.prog 9) 140737488355328) then (some (.more ([.a (.i .i64 (i64.wrap (y0_6+(1:Int)))),.a (.l 5)],[.sl .own (m0_5+1) (y0_5++(#[.string (z1_7)]:Array Value)) 9])))
  else (none))) (by kernel_rfl) ?_
 simp only [spec_SeaPicture_k1_0,mapS_cond,mapS_more,mapS_done,mapS_none,spec_SeaPicture_e0,spec_SeaPicture_x0]
theorem spec_SeaPicture_n1 (N:Nat) (a0:Array Value) (y0_6:Int) (m0_5:Nat) (y0_5:Array Value):bindX (iterO (stepV Try.prog spec_SeaPicture_G N (cAt (codeOf Try.f4) [1,1,1,1,0,1,0,0,1,0,0,1,0,1,0,0]) (pAt (mkPlan (codeOf Try.f4) [([6],[1000005,9]),([7,8],[])]).1 [1,1,1,1,0,1,0,1,0,1,0,1,0]) [7,8] [] (spec_SeaPicture_t1 a0 y0_6 m0_5 y0_5)) N ([.a (.s ((⟨#[]⟩:ByteArray))),.a (.i .i64 (0:Int))],[])) (fun e s=>(kBlock 2 (kSeq (veC Try.prog spec_SeaPicture_G N (cAt (codeOf Try.f4) [1,1,1,1,0,1,0,0,1,0,0,1,1]) (pAt (mkPlan (codeOf Try.f4) [([6],[1000005,9]),([7,8],[])]).1 [1,1,1,1,0,1,0,1,0,1,1]) (Stp LS (Exit×LS))) (kBlock 1 (kSeq (veC Try.prog spec_SeaPicture_G N (cAt (codeOf Try.f4) [1,1,1,1,0,1,0,0,1,1]) (pAt (mkPlan (codeOf Try.f4) [([6],[1000005,9]),([7,8],[])]).1 [1,1,1,1,0,1,0,1,1]) (Stp LS (Exit×LS))) (kBodyG 5 [6] [] 5 9))))) e (left (writes (cAt (codeOf Try.f4) [1,1,1,1,0,1,0,0,1,0,0,1,0,1,0,0])) [7,8] [] (spec_SeaPicture_t1 a0 y0_6 m0_5 y0_5) s))=mapS spec_SeaPicture_e0 spec_SeaPicture_x0 (nodeX (iterO (spec_SeaPicture_g1 Try.prog a0 y0_6 m0_5 y0_5) N ((⟨#[]⟩:ByteArray),(0:Int))) (fun x=>spec_SeaPicture_k1_0 Try.prog N a0 y0_6 m0_5 y0_5 x.1 x.2)):=by
 rw [mapS_nodeX spec_SeaPicture_e0 spec_SeaPicture_x0]
 first
 | (have h:=loop_node (α:=Stp LS (Exit×LS)) spec_SeaPicture_e1 spec_SeaPicture_x1 _ _ (spec_SeaPicture_s1 N a0 y0_6 m0_5 y0_5) N ((⟨#[]⟩:ByteArray),(0:Int));refine h _ _ ?_)
 | (have h:=loop_node (α:=Stp BS (Exit×BS)) spec_SeaPicture_e1 spec_SeaPicture_x1 _ _ (spec_SeaPicture_s1 N a0 y0_6 m0_5 y0_5) N ((⟨#[]⟩:ByteArray),(0:Int));refine h _ _ ?_)
 | (have h:=loop_node (α:=Stp LS ((Exit×LS) ⊕ (SV×Eff×Bool))) spec_SeaPicture_e1 spec_SeaPicture_x1 _ _ (spec_SeaPicture_s1 N a0 y0_6 m0_5 y0_5) N ((⟨#[]⟩:ByteArray),(0:Int));refine h _ _ ?_)
 intro x;exact spec_SeaPicture_k1_0_eq N a0 y0_6 m0_5 y0_5 x.1 x.2
noncomputable def spec_SeaPicture_g0 (P:Program) (N:Nat) (a0:Array Value):Int×Nat×Array Value→Option (Stp (Int×Nat×Array Value) (Int×Nat×Array Value))
 | (y0_6,m0_5,y0_5)=>bif decide (y0_6<(i64.wrap (num a0 1))) then (nodeX (iterO (spec_SeaPicture_g1 P a0 y0_6 m0_5 y0_5) N ((⟨#[]⟩:ByteArray),(0:Int))) (fun x=>spec_SeaPicture_k1_0 P N a0 y0_6 m0_5 y0_5 x.1 x.2))
  else (some (.done (y0_6,m0_5,y0_5)))
theorem spec_SeaPicture_s0 (N:Nat) (a0:Array Value):∀ t:Int×Nat×Array Value,stepVG Try.prog spec_SeaPicture_G N (cAt (codeOf Try.f4) [1,1,1,1,0,1,0,0]) (pAt (mkPlan (codeOf Try.f4) [([6],[1000005,9]),([7,8],[])]).1 [1,1,1,1,0,1,0]) [6] [] 5 9 5 (spec_SeaPicture_t0 a0) (spec_SeaPicture_e0 t)=mapS spec_SeaPicture_e0 spec_SeaPicture_x0 (spec_SeaPicture_g0 Try.prog N a0 t):=by
 rintro ⟨y0_6,m0_5,y0_5⟩
 refine Eq.trans (b:=(bif decide (y0_6<(i64.wrap (num a0 1))) then (bindX (iterO (stepV Try.prog spec_SeaPicture_G N (cAt (codeOf Try.f4) [1,1,1,1,0,1,0,0,1,0,0,1,0,1,0,0]) (pAt (mkPlan (codeOf Try.f4) [([6],[1000005,9]),([7,8],[])]).1 [1,1,1,1,0,1,0,1,0,1,0,1,0]) [7,8] [] (spec_SeaPicture_t1 a0 y0_6 m0_5 y0_5)) N ([.a (.s ((⟨#[]⟩:ByteArray))),.a (.i .i64 (0:Int))],[])) (fun e s=>(kBlock 2 (kSeq (veC Try.prog spec_SeaPicture_G N (cAt (codeOf Try.f4) [1,1,1,1,0,1,0,0,1,0,0,1,1]) (pAt (mkPlan (codeOf Try.f4) [([6],[1000005,9]),([7,8],[])]).1 [1,1,1,1,0,1,0,1,0,1,1]) (Stp LS (Exit×LS))) (kBlock 1 (kSeq (veC Try.prog spec_SeaPicture_G N (cAt (codeOf Try.f4) [1,1,1,1,0,1,0,0,1,1]) (pAt (mkPlan (codeOf Try.f4) [([6],[1000005,9]),([7,8],[])]).1 [1,1,1,1,0,1,0,1,1]) (Stp LS (Exit×LS))) (kBodyG 5 [6] [] 5 9))))) e (left (writes (cAt (codeOf Try.f4) [1,1,1,1,0,1,0,0,1,0,0,1,0,1,0,0])) [7,8] [] (spec_SeaPicture_t1 a0 y0_6 m0_5 y0_5) s)))
  else (some (.done ((.exit 0),([.a (.i .i64 (y0_6)),.a (.l 5)],[.sl .own m0_5 y0_5 9])))))) (by kernel_rfl) ?_
 simp only [spec_SeaPicture_n1 N a0 y0_6 m0_5 y0_5,spec_SeaPicture_g0,mapS_cond,mapS_more,mapS_done,mapS_none,spec_SeaPicture_e0,spec_SeaPicture_x0]
noncomputable def spec_SeaPicture_k0_0 (P:Program) (N:Nat) (a0:Array Value) (z0_6:Int) (p0_5:Nat) (z0_5:Array Value):Option (SV×Eff×Bool):=some (.t [.x,.i .i64 (0:Int)],.newS (some 0) p0_5 z0_5 9,true)
theorem spec_SeaPicture_k0_0_eq (N:Nat) (a0:Array Value) (z0_6:Int) (p0_5:Nat) (z0_5:Array Value):(kBlock 0 (kSeq (veC Try.prog spec_SeaPicture_G N (cAt (codeOf Try.f4) [1,1,1,1,1]) (pAt (mkPlan (codeOf Try.f4) [([6],[1000005,9]),([7,8],[])]).1 [1,1,1,1,1]) (SV×Eff×Bool)) (finK Try.prog [] [.tmp 2,.tmp 3]))) (.exit 0) (left (writes (cAt (codeOf Try.f4) [1,1,1,1,0,1,0,0])) [6,5] [5] (spec_SeaPicture_t0 a0) ([.a (.i .i64 (z0_6)),.a (.l 5)],[.sl .own p0_5 z0_5 9]))=spec_SeaPicture_k0_0 Try.prog N a0 z0_6 p0_5 z0_5:=by
 refine Eq.trans (b:=(some (.t [.x,.i .i64 (0:Int)],.newS (some 0) p0_5 z0_5 9,true))) (by kernel_rfl) ?_
 rfl
theorem spec_SeaPicture_n0 (N:Nat) (a0:Array Value):bindX (iterO (stepVG Try.prog spec_SeaPicture_G N (cAt (codeOf Try.f4) [1,1,1,1,0,1,0,0]) (pAt (mkPlan (codeOf Try.f4) [([6],[1000005,9]),([7,8],[])]).1 [1,1,1,1,0,1,0]) [6] [] 5 9 5 (spec_SeaPicture_t0 a0)) N ([.a (.i .i64 (0:Int)),.a (.l 5)],[.sl .own 0 (#[]:Array Value) 9])) (fun e s=>(kBlock 0 (kSeq (veC Try.prog spec_SeaPicture_G N (cAt (codeOf Try.f4) [1,1,1,1,1]) (pAt (mkPlan (codeOf Try.f4) [([6],[1000005,9]),([7,8],[])]).1 [1,1,1,1,1]) (SV×Eff×Bool)) (finK Try.prog [] [.tmp 2,.tmp 3]))) e (left (writes (cAt (codeOf Try.f4) [1,1,1,1,0,1,0,0])) [6,5] [5] (spec_SeaPicture_t0 a0) s))=nodeX (iterO (spec_SeaPicture_g0 Try.prog N a0) N ((0:Int),0,(#[]:Array Value))) (fun x=>spec_SeaPicture_k0_0 Try.prog N a0 x.1 x.2.1 x.2.2):=by
 refine loop_node spec_SeaPicture_e0 spec_SeaPicture_x0 _ _ (spec_SeaPicture_s0 N a0) N ((0:Int),0,(#[]:Array Value)) _ _ ?_
 intro x;exact spec_SeaPicture_k0_0_eq N a0 x.1 x.2.1 x.2.2
theorem spec_SeaPicture_ans (N:Nat) (a0:Array Value):ansV Try.prog spec_SeaPicture_G N Try.f4 [([6],[1000005,9]),([7,8],[])] [.g a0 36] []=(bif (!((okS a0))) then (some (.t [.x,.i .i64 (1:Int)],.newS (some 0) 0 (#[]:Array Value) 9,true))
  else (bif (okS a0 && !false) then (nodeX (iterO (spec_SeaPicture_g0 Try.prog N a0) N ((0:Int),0,(#[]:Array Value))) (fun x=>spec_SeaPicture_k0_0 Try.prog N a0 x.1 x.2.1 x.2.2))
   else (none))):=by
 refine Eq.trans (b:=(bif (!((okS a0))) then (some (.t [.x,.i .i64 (1:Int)],.newS (some 0) 0 (#[]:Array Value) 9,true))
  else (bif (okS a0 && !false) then (bindX (iterO (stepVG Try.prog spec_SeaPicture_G N (cAt (codeOf Try.f4) [1,1,1,1,0,1,0,0]) (pAt (mkPlan (codeOf Try.f4) [([6],[1000005,9]),([7,8],[])]).1 [1,1,1,1,0,1,0]) [6] [] 5 9 5 (spec_SeaPicture_t0 a0)) N ([.a (.i .i64 (0:Int)),.a (.l 5)],[.sl .own 0 (#[]:Array Value) 9])) (fun e s=>(kBlock 0 (kSeq (veC Try.prog spec_SeaPicture_G N (cAt (codeOf Try.f4) [1,1,1,1,1]) (pAt (mkPlan (codeOf Try.f4) [([6],[1000005,9]),([7,8],[])]).1 [1,1,1,1,1]) (SV×Eff×Bool)) (finK Try.prog [] [.tmp 2,.tmp 3]))) e (left (writes (cAt (codeOf Try.f4) [1,1,1,1,0,1,0,0])) [6,5] [5] (spec_SeaPicture_t0 a0) s)))
   else (none)))) (by kernel_rfl) ?_
 simp only [spec_SeaPicture_n0 N a0]
theorem spec_SeaPicture_main0 (a0:Array Value) (h_a0:WT Try.prog 36 a0) (hc0:((okS a0))=false) (hg:(true)=true):ansV Try.prog spec_SeaPicture_G 1000 Try.f4 [([6],[1000005,9]),([7,8],[])] [.g a0 36] []=some (.t [.x,.i .i64 (1:Int)],.newS (some 0) 0 (#[]:Array Value) 9,true):=by
 refine (spec_SeaPicture_ans 1000 a0).trans ?_
 rw [hc0]
 rfl
theorem spec_SeaPicture_main1 (a0:Array Value) (h_a0:WT Try.prog 36 a0) (hc0:((okS a0))=true) (hg:(true)=true):ansV Try.prog spec_SeaPicture_G 1000 Try.f4 [([6],[1000005,9]),([7,8],[])] [.g a0 36] []=some (.t [.x,.i .i64 (0:Int)],.newS (some 0) (num a0 1).toNat (picA a0) 9,true):=by
 have h0:=okS_dims hc0
 obtain ⟨hw0,hw1,hh0,hh1⟩:=h0
 have hcd:(impl_seaCode_v0 a0 != (0:Int))=false:=by unfold impl_seaCode_v0;rw [hc0];rfl
 have hwb:impl_waterBits_gd a0=true:=by unfold impl_waterBits_gd;exact okS_iter hc0
 have hbe:bytesOf Try.prog 9=16:=by kernel_rfl
 obtain ⟨W,hW⟩:=Int.eq_ofNat_of_zero_le (show 0≤num a0 0 by omega)
 obtain ⟨H,hH⟩:=Int.eq_ofNat_of_zero_le (show 0≤num a0 1 by omega)
 rw [hW] at hw0 hw1
 rw [hH] at hh0 hh1
 have hok:(okS a0 && !false)=true:=by rw [hc0];rfl
 have hd:=okS_dims hc0
 have hWb:=h_a0
 have inner:∀ (y:Nat) (m:Nat) (A:Array Value),y<H→iterO (spec_SeaPicture_g1 Try.prog a0 (y:Int) m A) 1000 ((⟨#[]⟩:ByteArray),(0:Int))=some (rwT a0 y W,((W:Nat):Int)):=fun y m A hy=>
  iter_all (g:=spec_SeaPicture_g1 Try.prog a0 (y:Int) m A) (fun x=>(rwT a0 y x,(x:Int))) (m:=W) (fun x hx=>by
   have hk:6*y+x<36:=by omega
   have e0:i64.wrap ((W:Nat):Int)=((W:Nat):Int):=w64 (by omega)
   have e1:decide ((x:Int)<((W:Nat):Int))=true:=decide_eq_true (by omega)
   have e2:i64.wrap ((x:Int)+i64.wrap ((6:Int)*(y:Int)))=((6*y+x:Nat):Int):=by
    rw [w64 (n:=(6:Int)*(y:Int)) (by omega),w64 (by omega)];omega
   have e3:∀ z:Int,decide (0≤IntKind.u64.wrap z)=true:=fun z=>decide_eq_true (wrap_in .u64 _).1
   have e4:=dry_bit h_a0 hk
   have e5:((((beI a0 (impl_waterBits_v0 a0) (num a0 2) 36)).fdiv (2^(min ((IntKind.u64.wrap ((6*y+x:Nat):Int))).toNat IntKind.u64.bits))).tmod (2:Int)==(1:Int))=bitI (coI a0) (6*y+x):=by
    rw [u64w hk,Int.toNat_natCast];exact bit_shr (be_u64 _ _ _ _) (by omega)
   have e6:i64.wrap ((x:Int)+1)=((x+1:Nat):Int):=by rw [w64 (by omega)];omega
   have e7:∀ b:UInt8,decide ((rwT a0 y x).size+(⟨#[b]⟩:ByteArray).size≤9223372036854775807)=true:=fun b=>by
    rw [rw_size];exact decide_eq_true (show x+1≤9223372036854775807 by omega)
   simp only [spec_SeaPicture_g1,hW,e0,e1,e2,e3,e4,e5,e6,e7,cond_true]
   rw [rwT]
   unfold sgB
   cases bitI (num a0 2) (6*y+x) with
   | true=>rfl
   | false=>cases bitI (coI a0) (6*y+x)<;>rfl) (by
   have e0:i64.wrap ((W:Nat):Int)=((W:Nat):Int):=w64 (by omega)
   have e1:decide (((W:Nat):Int)<((W:Nat):Int))=false:=decide_eq_false (by omega)
   simp only [spec_SeaPicture_g1,hW,e0,e1,cond_false]) (by omega)
 refine (spec_SeaPicture_ans 1000 a0).trans ?_
 rw [hok,hc0]
 have h:=iter_all (g:=spec_SeaPicture_g0 Try.prog 1000 a0) (fun y=>((y:Int),y,piR a0 (fun _=>W) y)) (m:=H) (x:=(((H:Nat):Int),H,piR a0 (fun _=>W) H)) (N:=1000) (fun y hy=>by
  have e0:i64.wrap ((H:Nat):Int)=((H:Nat):Int):=w64 (by omega)
  have e1:decide ((y:Int)<((H:Nat):Int))=true:=decide_eq_true (by omega)
  have e6:i64.wrap ((y:Int)+1)=((y+1:Nat):Int):=by rw [w64 (by omega)];omega
  have e7:Nat.ble ((y+1)*bytesOf Try.prog 9) 140737488355328=true:=by rw [hbe];exact Nat.ble_eq_true_of_le (by omega)
  simp only [spec_SeaPicture_g0,hH,e0,e1,inner y y _ hy,nodeX,spec_SeaPicture_k1_0,e6,e7,cond_true,piR_succ]) (by
  have e0:i64.wrap ((H:Nat):Int)=((H:Nat):Int):=w64 (by omega)
  have e1:decide (((H:Nat):Int)<((H:Nat):Int))=false:=decide_eq_false (by omega)
  simp only [spec_SeaPicture_g0,hH,e0,e1,cond_false]) (by omega)
 have h':iterO (spec_SeaPicture_g0 Try.prog 1000 a0) 1000 ((0:Int),0,(#[]:Array Value))=_:=h
 simp only [Bool.not_true,cond_true,cond_false,h']
 unfold picA
 rw [hW,hH,Int.toNat_natCast,Int.toNat_natCast]
 rfl
noncomputable def spec_SeaPicture_scon:SCon:=fun args h=>match args,h with
 | [.g a0 36],[]=>.two ((okS a0)) (.one (some (.t [.x,.i .i64 (0:Int)],.newS (some 0) (num a0 1).toNat (picA a0) 9,true))) (.one (some (.t [.x,.i .i64 (1:Int)],.newS (some 0) 0 (#[]:Array Value) 9,true)))
 | _,_=>.one none
theorem spec_SeaPicture_enter:EntX Try.prog 4:=entX_ok (fn:=Try.f4) (by kernel_rfl) (by kernel_rfl) (by kernel_rfl)
theorem spec_SeaPicture_sok:ConOkX mn Try.prog 4 (fun args h=>wayRes (spec_SeaPicture_scon args h)):=by
 intro ρ h w args vals r e hn hr hA hH
 dsimp only at hr
 unfold spec_SeaPicture_scon at hr
 split at hr
 ·rename_i a0
  simp only [wayRes] at hr
  cases hc0:((okS a0))
  ·rw [hc0] at hr
   simp only [wayRes,cond_true,cond_false] at hr
   obtain ⟨rfl,hg⟩:=Prod.mk.inj (Option.some.inj hr)
   obtain ⟨rfl,hg2⟩:=Prod.mk.inj hg
   exact ((ansX_ok (N:=1000) (by kernel_rfl) (mkΓ_consX (con_okX spec_l01Ok_ok) spec_l01Ok_enter (mkΓ_consX (con_okX spec_l01Beside_ok) spec_l01Beside_enter (mkΓ_consX (con_okX spec_l01Dry_ok) spec_l01Dry_enter mkΓ_nilX))) (fn:=Try.f4) (by kernel_rfl) (by kernel_rfl) [([6],[1000005,9]),([7,8],[])])) ρ _ w _ vals _ _ hn ((spec_SeaPicture_main0 a0 (hA.wt 0 rfl) hc0 hg2)) hA hH
  ·rw [hc0] at hr
   simp only [wayRes,cond_true,cond_false] at hr
   obtain ⟨rfl,hg⟩:=Prod.mk.inj (Option.some.inj hr)
   obtain ⟨rfl,hg2⟩:=Prod.mk.inj hg
   exact ((ansX_ok (N:=1000) (by kernel_rfl) (mkΓ_consX (con_okX spec_l01Ok_ok) spec_l01Ok_enter (mkΓ_consX (con_okX spec_l01Beside_ok) spec_l01Beside_enter (mkΓ_consX (con_okX spec_l01Dry_ok) spec_l01Dry_enter mkΓ_nilX))) (fn:=Try.f4) (by kernel_rfl) (by kernel_rfl) [([6],[1000005,9]),([7,8],[])])) ρ _ w _ vals _ _ hn ((spec_SeaPicture_main1 a0 (hA.wt 0 rfl) hc0 hg2)) hA hH
 ·simp only [wayRes] at hr
  cases hr
noncomputable def spec_SeaPicture_con:Con:=fun args h=>match args,h with
 | [.g a0 36],[]=>some (.t [.x,.i .i64 (pcC a0)],.newS (some 0) (pcN a0) (pcA a0) 9,true)
 | _,_=>none
theorem spec_SeaPicture_ok:ConOkX mn Try.prog 4 spec_SeaPicture_con:=ConOkX.of spec_SeaPicture_sok (by
 intro ρ h w args vals r e hA hH hr
 unfold spec_SeaPicture_con at hr
 split at hr
 ·rename_i a0
  obtain ⟨rfl,hg⟩:=Prod.mk.inj (Option.some.inj hr)
  obtain ⟨rfl,hg2⟩:=Prod.mk.inj hg
  show wayRes (spec_SeaPicture_scon _ _)=_
  unfold spec_SeaPicture_scon
  simp only [wayRes]
  unfold pcN pcA pcC
  cases hz:(okS a0)<;>rfl
 ·cases hr)
end
end Go.Proofs.Ytdoofckpedklnaa
