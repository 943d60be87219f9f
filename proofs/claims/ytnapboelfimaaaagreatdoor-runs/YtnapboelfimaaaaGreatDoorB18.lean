/- DmM, InO, Rdi, RoD: parts of the proof, one behind the other. -/
import Derived.Test.YtnapboelfimaaaaGreatDoorB00
import Derived.Test.YtnapboelfimaaaaGreatDoorB09
import Derived.Test.YtnapboelfimaaaaGreatDoorB10
import Derived.Test.YtnapboelfimaaaaGreatDoorB17
import Derived.Lib.TrailingZeros
namespace Go.Proofs.YtnapboelfimaaaaGreatDoor
def zerosN (n i:Nat):Nat:=min (Go.Lib.ctz 64 i) n
def begsN {R:Type} (gb:Nat→Nat→List R) (n i z k:Nat):List R:=(List.range k).flatMap fun j=>gb (n-z+j) (i/2^(z-j))
def outN {R:Type} (gb:Nat→Nat→List R) (ge:Nat→List R) (n i:Nat):List R:=begsN gb n i (zerosN n i) (zerosN n i)++ge i
theorem begs_next {R:Type} (gb:Nat→Nat→List R) (n i z k:Nat):begsN gb n i z (k+1)=begsN gb n i z k++gb (n-z+k) (i/2^(z-k)):=by
 unfold begsN
 rw[List.range_succ,List.flatMap_append]
 simp
theorem out_next {R:Type} {gb:Nat→Nat→List R} {ge:Nat→List R} {n i z:Nat} (h:z=zerosN n i):(List.range i).flatMap (outN gb ge n)++(begsN gb n i z z++ge i)=(List.range (i+1)).flatMap (outN gb ge n):=by
 rw[List.range_succ,List.flatMap_append,h]
 simp[outN]
theorem flat_len {R:Type} (f:Nat→List R) {a b:Nat} (h:a≤b):((List.range a).flatMap f).length≤((List.range b).flatMap f).length:=by
 obtain⟨k,rfl⟩:=Nat.exists_eq_add_of_le h
 induction k with
 | zero=>exact Nat.le_refl _
 | succ k ih =>
  have:=ih (by omega)
  rw[←Nat.add_assoc,List.range_succ,List.flatMap_append,List.length_append]
  omega
theorem way_len {R:Type} {gb:Nat→Nat→List R} {ge:Nat→List R} {n i z k N B:Nat} {L L1:List R} (h:z=zerosN n i) (hL:L1=L++(List.range i).flatMap (outN gb ge n)) (hk:k≤z) (hi:i<N) (hB:(L++(List.range N).flatMap (outN gb ge n)).length≤B):(L1++begsN gb n i z k).length≤B∧(L1++begsN gb n i z z++ge i).length≤B:=by
 have h1:=flat_len (outN gb ge n) (show i+1≤N by omega)
 rw[←out_next h] at h1
 have h2:=flat_len (fun j=>gb (n-z+j) (i/2^(z-j))) hk
 change (begsN gb n i z k).length≤(begsN gb n i z z).length at h2
 subst hL
 simp only[List.length_append] at *
 omega
theorem way_val {n fu i r:Nat} (h1:fu=n-r) (h2:i<2^n) (h3:r≤n):i/2^r<2^fu:=by
 rw[Nat.div_lt_iff_lt_mul (Nat.two_pow_pos _),←Nat.pow_add,h1,Nat.sub_add_cancel h3]
 exact h2
set_option maxRecDepth 100000 in
theorem zeros_small:∀i,i<256→∀k,k≤8→(i%2^k=0↔k≤Go.Lib.ctz 64 i):=by decide +kernel
theorem zeros_iff {n i k:Nat} (hn:n≤8) (hi:i<2^n) (hk:k≤n):i%2^k=0↔k≤zerosN n i:=by
 have h256:(2:Nat)^n≤2^8:=Nat.pow_le_pow_right (by decide) hn
 rw[zeros_small i (by omega) k (by omega)]
 unfold zerosN
 omega
theorem flat_congr {R:Type} {f g:Nat→List R} {n:Nat} (h:∀i,i<n→f i=g i):(List.range n).flatMap f=(List.range n).flatMap g:=by
 induction n with
 | zero=>rfl
 | succ n ih =>
  rw[List.range_succ,List.flatMap_append,List.flatMap_append,ih (fun i hi=>h i (by omega))]
  simp[h n (by omega)]
theorem begs_eq {R:Type} (gb:Nat→Nat→List R) {n i:Nat} (hn:n≤8) (hi:i<2^n):begsN gb n i (zerosN n i) (zerosN n i)=(List.range n).flatMap fun fu=>if i%2^(n-fu)=0 then gb fu (i/2^(n-fu)) else []:=by
 have hz:zerosN n i≤n:=by unfold zerosN;omega
 have hr:List.range n=List.range (n-zerosN n i)++(List.range (zerosN n i)).map (n-zerosN n i + ·):=by
  rw[←List.range_add]
  congr 1
  omega
 rw[hr,List.flatMap_append]
 have e1:((List.range (n-zerosN n i)).flatMap fun fu=>if i%2^(n-fu)=0 then gb fu (i/2^(n-fu)) else [])=[]:=by
  rw[List.flatMap_eq_nil_iff]
  intro fu hfu
  rw[List.mem_range] at hfu
  rw[if_neg]
  intro h0
  have:=(zeros_iff hn hi (show n-fu≤n by omega)).1 h0
  omega
 rw[e1,List.nil_append,List.flatMap_map]
 unfold begsN
 refine flat_congr fun j hj=>?_
 have e2:n-(n-zerosN n i+j)=zerosN n i-j:=by omega
 simp only[e2]
 rw[if_pos ((zeros_iff hn hi (by omega)).2 (by omega))]
def gbN (M:Tab) (len u fu v:Nat):List (Nat × Nat × Nat):=((M (len+fu) (u*2^fu+v)).map fun h=>(len+fu,u*2^fu+v,h)).toList
theorem begins_flat (M:Tab) (count len u value:Nat):begins M count len u value=(List.range count).flatMap fun fu=>if value%2^(count-fu)=0 then gbN M len u fu (value/2^(count-fu)) else []:=by
 unfold begins
 generalize List.range count=l
 induction l with
 | nil=>rfl
 | cons a l ih =>
  rw[List.filterMap_cons,List.flatMap_cons,←ih]
  unfold gbN
  split
  ·rename_i h0
   split at h0
   ·rw[if_pos (by assumption),h0];rfl
   ·rw[if_neg (by assumption)];rfl
  ·rename_i h0
   split at h0
   ·rw[if_pos (by assumption),h0];rfl
   ·cases h0
def geN (M:Tab) (len u:Nat):Nat→Nat→List (Nat × Nat × Nat)
 | 0,_=>[]
 | d+1,f=>if anyBelow M (len+4) (16*u+f) then dumpN M d (len+4) (16*u+f) else []
theorem dumpN_out (M:Tab) (d len u:Nat):dumpN M d len u=(List.range (2^4)).flatMap (outN (gbN M len u) (geN M len u d) 4):=by
 cases d with
 | zero =>
  unfold dumpN
  refine flat_congr fun i hi=>?_
  unfold outN geN
  rw[begs_eq _ (by decide) hi,begins_flat,List.append_nil]
 | succ d =>
  rw[dumpN]
  refine flat_congr fun i hi=>?_
  rw[outN,geN,begs_eq _ (by decide) hi,begins_flat]
theorem dumpR_out (M:Tab) (dm:Nat):dumpR M dm=(List.range (2^8)).flatMap (outN (gbN M 0 0) (fun b=>if anyBelow M 8 b then dumpN M dm 8 b else []) 8):=by
 unfold dumpR
 refine flat_congr fun i hi=>?_
 rw[outN,begs_eq _ (by decide) hi,begins_flat]
end Go.Proofs.YtnapboelfimaaaaGreatDoor
namespace Go.Proofs.YtnapboelfimaaaaGreatDoor
open Go.RowKit Go.Deep
set_option maxHeartbeats 2000000 in
set_option maxRecDepth 10000 in
theorem inOrder_any {R:Type} (P:List R→World→Prop) (gb:Nat→Nat→List R) (ge:Nat→List R) (n:Nat) (bf ef:FuncId) (bb bc eb ec:Array Value) (L:List R) (B:Nat) (w:World) (hn:n≤8) (hG:(L++(List.range (2^n)).flatMap (outN gb ge n)).length≤B) (hP:P L w) (hPT:∀L w,P L w→TzTab w)
  (hcB:∀(x:Array Value) (w:World),Sem.run Tryz.prog (callFunc bf x) w=.ok (.enter bf x) w) (hcE:∀(x:Array Value) (w:World),Sem.run Tryz.prog (callFunc ef x) w=.ok (.enter ef x) w)
  (hB:∀(fu v:Nat) (L:List R) (w:World),fu<n→v<2^fu→P L w→(L++gb fu v).length≤B→Calls Tryz.prog bf (bb++(#[.int .i64 (fu:Int),.int .i64 (v:Int)]++bc)) w fun e w'=>e=.returned (.tuple #[])∧P (L++gb fu v) w')
  (hE:∀(v:Nat) (L:List R) (w:World),v<2^n→P L w→(L++ge v).length≤B→Calls Tryz.prog ef (eb.push (.int .i64 (v:Int))++ec) w fun e w'=>e=.returned (.tuple #[])∧P (L++ge v) w') :
  Calls Tryz.prog 47 #[.int .i64 (n:Int),.func (.func bf) bb bc,.func (.func ef) eb ec] w fun e w'=>e=.returned (.tuple #[])∧P (L++(List.range (2^n)).flatMap (outN gb ge n)) w':=by
 have hn':(n:Int)≤8:=by omega
 have h256:(2:Nat)^n≤256:=Nat.pow_le_pow_right (n:=2) (by decide) hn
 have hp:(2:Int)^n=((2^n:Nat):Int):=by norm_cast
 obtain⟨N,hN⟩:∃N,N=2^n:=⟨_,rfl⟩
 have EW:wrap64 (2^n)=(N:Int):=by rw[hp,hN,IntWalk.wrap64_in _ ⟨by omega,by omega⟩]
 rw[←hN] at h256 hG
 have HG:=hide hG
 have HN:=hide hN
 have HP:=hide hP
 have HB:=hide hB
 have HE:=hide hE
 clear hp hN hP hB hE hG
 go_enter Tryz.func47,Tryz.ntmps47
 go_wp2
 rw[EW]
 clear EW
 go_loopw [11] (fun v wr=>∃i:Nat,v=.int .i64 (i:Int)∧i≤N∧P (L++(List.range i).flatMap (outN gb ge n)) wr) (fun v _=>N-(intOf v).toNat)
 case atStart=>exact⟨0,rfl,Nat.zero_le _,by simpa using HP.out⟩
 case round =>
  obtain⟨i,rfl,hi,hPw⟩:=hrel
  by_cases hin:i<N
  ·have hin':(i:Int)<N:=by omega
   have eu:IntKind.u64.wrap (i:Int)=(i:Int):=by rw[IntKind.wrap_u64];omega
   obtain⟨L1,hL1⟩:∃L1,L1=L++(List.range i).flatMap (outN gb ge n):=⟨_,rfl⟩
   rw[←hL1] at hPw
   have HTZ:=hide (tz_any i wr (by omega) (hPT _ _ hPw))
   obtain⟨c,hc⟩:∃c,c=Go.Lib.ctz 64 i:=⟨_,rfl⟩
   rw[←hc] at HTZ
   obtain⟨z,hz⟩:∃z,z=zerosN n i:=⟨_,rfl⟩
   have HZ:=hide hz
   have HL:=hide hL1
   have hzz:z=min c n:=by rw[hz,hc];rfl
   have HPW:=hide hPw
   clear hL1 hPw hz hc
   by_cases hcn:n<c
   ·obtain rfl:n=z:=by omega
    clear hzz
    go_wp2_with fail
    refine HTZ.out.mono ?_
    rintro e w2 ⟨rfl,rfl⟩
    go_wp2
    (go_loopw [8] (fun v wr=>∃r:Nat,v=.int .i64 (r:Int)∧r≤n∧P (L1++begsN gb n i n (n-r)) wr) (fun v _=>(intOf v).toNat))
    case atStart=>exact⟨n,rfl,Nat.le_refl _,by simpa [begsN] using HPW.out⟩
    case round =>
     obtain⟨r,rfl,hr,hPr⟩:=hrel
     by_cases hr0:0<r
     ·have hr0':(0:Int)<r:=by omega
      have hr1':(r:Int)≤n:=by omega
      have H1:=HB.out (n-n+(n-r)) (i/2^r) _ wr (by omega) (way_val (by omega) (HN.out ▸ hin) (by omega)) hPr (by rw[List.append_assoc,show i/2^r=i/2^(n-(n-r)) by rw[show n-(n-r)=r by omega],←begs_next];exact(way_len HZ.out HL.out (by omega) hin HG.out).1)
      rw[show i/2^r=i/2^(n-(n-r)) by rw[show n-(n-r)=r by omega],List.append_assoc,←begs_next] at H1
      rw[show n-(n-r)=r by omega,show n-n+(n-r)=n-r by omega,show n-r+1=n-(r-1) by omega] at H1
      have H1:=hide H1
      have ED:=hide (show (i:Int)/2^r=((i/2^r:Nat):Int) by norm_cast)
      have ES:=hide (show (n:Int)-r=((n-r:Nat):Int) by omega)
      clear hPr
      go_wp2_with fail
      rw[ED.out,ES.out]
      refine H1.out.mono ?_
      rintro e w3 ⟨rfl,hP3⟩
      go_wp2
      go_roundw
      case rel=>exact⟨r-1,by simp;omega,by omega,hP3⟩
      case measure=>simp[intOf];omega
     ·have hr0':(r:Int)≤0:=by omega
      rw[show n-r=n by omega] at hPr
      have H2:=HE.out i _ wr (by rw[←HN.out];exact hin) hPr (way_len (k:=0) HZ.out HL.out (Nat.zero_le _) hin HG.out).2
      rw[HL.out,List.append_assoc,List.append_assoc,out_next HZ.out] at H2
      have H2:=hide H2
      clear hPr
      go_wp2_with fail
      refine H2.out.mono ?_
      rintro e w3 ⟨rfl,hP3⟩
      go_wp2
      go_roundw
      case rel=>exact⟨i+1,by simp,by omega,hP3⟩
      case measure=>simp[intOf];omega
   ·obtain rfl:c=z:=by omega
    have hcn':(c:Int)≤n:=by omega
    clear hzz
    go_wp2_with fail
    refine HTZ.out.mono ?_
    rintro e w2 ⟨rfl,rfl⟩
    go_wp2
    (go_loopw [8] (fun v wr=>∃r:Nat,v=.int .i64 (r:Int)∧r≤c∧P (L1++begsN gb n i c (c-r)) wr) (fun v _=>(intOf v).toNat))
    case atStart=>exact⟨c,rfl,Nat.le_refl _,by simpa [begsN] using HPW.out⟩
    case round =>
     obtain⟨r,rfl,hr,hPr⟩:=hrel
     by_cases hr0:0<r
     ·have hr0':(0:Int)<r:=by omega
      have hr1':(r:Int)≤n:=by omega
      have H1:=HB.out (n-c+(c-r)) (i/2^r) _ wr (by omega) (way_val (by omega) (HN.out ▸ hin) (by omega)) hPr (by rw[List.append_assoc,show i/2^r=i/2^(c-(c-r)) by rw[show c-(c-r)=r by omega],←begs_next];exact(way_len HZ.out HL.out (by omega) hin HG.out).1)
      rw[show i/2^r=i/2^(c-(c-r)) by rw[show c-(c-r)=r by omega],List.append_assoc,←begs_next] at H1
      rw[show c-(c-r)=r by omega,show n-c+(c-r)=n-r by omega,show c-r+1=c-(r-1) by omega] at H1
      have H1:=hide H1
      have ED:=hide (show (i:Int)/2^r=((i/2^r:Nat):Int) by norm_cast)
      have ES:=hide (show (n:Int)-r=((n-r:Nat):Int) by omega)
      clear hPr
      go_wp2_with fail
      rw[ED.out,ES.out]
      refine H1.out.mono ?_
      rintro e w3 ⟨rfl,hP3⟩
      go_wp2
      go_roundw
      case rel=>exact⟨r-1,by simp;omega,by omega,hP3⟩
      case measure=>simp[intOf];omega
     ·have hr0':(r:Int)≤0:=by omega
      rw[show c-r=c by omega] at hPr
      have H2:=HE.out i _ wr (by rw[←HN.out];exact hin) hPr (way_len (k:=0) HZ.out HL.out (Nat.zero_le _) hin HG.out).2
      rw[HL.out,List.append_assoc,List.append_assoc,out_next HZ.out] at H2
      have H2:=hide H2
      clear hPr
      go_wp2_with fail
      refine H2.out.mono ?_
      rintro e w3 ⟨rfl,hP3⟩
      go_wp2
      go_roundw
      case rel=>exact⟨i+1,by simp,by omega,hP3⟩
      case measure=>simp[intOf];omega
  ·have hin':(N:Int)≤i:=by omega
   obtain rfl:i=N:=by omega
   rw[HN.out] at hPw
   have HPW:=hide hPw
   clear hPw
   go_wp2
   go_end0
   exact⟨rfl,HPW.out⟩
end Go.Proofs.YtnapboelfimaaaaGreatDoor
namespace Go.Proofs.YtnapboelfimaaaaGreatDoor
open Go.RowKit Go.Deep
set_option maxHeartbeats 400000 in
set_option maxRecDepth 10000 in
theorem read1_in (A:Ar) (ab wb rb:Nat) (fm rs:Value) (x:Int) (p c sb cap:Nat) (k:Int) (w:World) (h:ArAt w ab wb A) (hsz:A.size≤65536) (hx:x=p) (hp:p<A.size) (hr:w.heap[rb]?=some (.cells #[.pointer (some ⟨ab,0,none⟩),.int .i64 k,fm,rs] 96 (0,0))) (y:Value) (hc:w.heap[c]?=some (.cells #[y] 136 (0,0))) (hs:w.cell? ⟨sb,0,none⟩=some (.pointer (some ⟨c,0,none⟩))) (hcw:c≠wb) :
  Calls Tryz.prog 65 #[.pointer (some ⟨rb,0,none⟩),.int .i64 x,.slice (some ⟨sb,0,none⟩) 1 cap] w fun e w'=>e=.returned (.tuple #[])∧ArAt w' ab wb A∧(∃k':Int,w'.heap[rb]?=some (.cells #[.pointer (some ⟨ab,0,none⟩),.int .i64 k',fm,rs] 96 (0,0)))∧w'.heap[c]?=some (.cells #[.int .u32 (A.word p:Int)] 136 (0,0))∧Fr [rb,c] w w':=by
 subst hx
 have c0:=h.slice
 have c1:=h.word hp
 have r0:w.cell? ⟨rb,0,none⟩=some (.pointer (some ⟨ab,0,none⟩)):=by rw[cell_at hr];rfl
 have r1:w.cell? ⟨rb,1,none⟩=some (.int .i64 k):=by rw[cell_at hr];rfl
 have r2:=free_at hr 1
 have k0:w.cell? ⟨c,0,none⟩=some y:=by simp[World.cell?,hc]
 have k1:w.frozen? ⟨c,0,none⟩=false:=by simp[World.frozen?,hc]
 have hlt:(p:Int)<A.size:=by omega
 have hlt2:(p:Int)<65536:=by omega
 have hrc:rb≠c:=by
  rintro rfl
  rw[hc] at hr
  simp at hr
 have hrc':=hrc.symm
 have hca:c≠ab:=by
  rintro rfl
  have:=h.arena
  rw[hc] at this
  simp at this
 have hra:rb≠ab:=by
  rintro rfl
  have:=h.arena
  rw[hr] at this
  simp at this
 have hrw:rb≠wb:=by
  rintro rfl
  have:=h.words
  rw[hr] at this
  simp at this
 have HA:=hide h
 have HR:=hide hr
 have HC:=hide hc
 clear h hr hc
 go_enter Tryz.func65,Tryz.ntmps65
 go_wp2
 refine wp_loop_rounds 2 ?_
 rw[rounds_succ]
 go_wp2
 rw[rounds_succ]
 go_wp2
 go_end0
 refine⟨rfl,(HA.out.other hca.symm hcw.symm).other hra.symm hrw.symm,?_,?_,?_⟩
 ·exact⟨_,heap_setCell_at _ ((Below.heap_setCell _ _ _ _ hrc).trans HR.out)⟩
 ·rw[Below.heap_setCell _ _ _ _ hrc']
  exact heap_setCell_at _ HC.out
 ·exact((Fr.refl _ _).setCell (Or.inl (by simp)) _).setCell (Or.inl (by simp)) _
set_option maxHeartbeats 400000 in
set_option maxRecDepth 10000 in
theorem read2_in (A:Ar) (ab wb rb:Nat) (fm rs:Value) (x:Int) (p c d sb cap:Nat) (k:Int) (w:World) (h:ArAt w ab wb A) (hsz:A.size≤65536) (hx:x=p) (hp:p+1<A.size) (hr:w.heap[rb]?=some (.cells #[.pointer (some ⟨ab,0,none⟩),.int .i64 k,fm,rs] 96 (0,0))) (y z:Value) (hc:w.heap[c]?=some (.cells #[y] 136 (0,0))) (hd:w.heap[d]?=some (.cells #[z] 136 (0,0)))
  (hs:w.cell? ⟨sb,0,none⟩=some (.pointer (some ⟨c,0,none⟩))) (hs2:w.cell? ⟨sb,1,none⟩=some (.pointer (some ⟨d,0,none⟩))) (hcw:c≠wb) (hdw:d≠wb) (hcd:c≠d) (hsc:sb≠c) (hsd:sb≠d) :
  Calls Tryz.prog 65 #[.pointer (some ⟨rb,0,none⟩),.int .i64 x,.slice (some ⟨sb,0,none⟩) 2 cap] w fun e w'=>e=.returned (.tuple #[])∧ArAt w' ab wb A∧(∃k':Int,w'.heap[rb]?=some (.cells #[.pointer (some ⟨ab,0,none⟩),.int .i64 k',fm,rs] 96 (0,0)))∧w'.heap[c]?=some (.cells #[.int .u32 (A.word p:Int)] 136 (0,0))∧w'.heap[d]?=some (.cells #[.int .u32 (A.word (p+1):Int)] 136 (0,0))∧Fr [rb,c,d] w w':=by
 subst hx
 have c0:=h.slice
 have c1:=h.word (show p<A.size by omega)
 have c2:=h.word hp
 have r0:w.cell? ⟨rb,0,none⟩=some (.pointer (some ⟨ab,0,none⟩)):=by rw[cell_at hr];rfl
 have r1:w.cell? ⟨rb,1,none⟩=some (.int .i64 k):=by rw[cell_at hr];rfl
 have r2:=free_at hr 1
 have k0:w.cell? ⟨c,0,none⟩=some y:=by simp[World.cell?,hc]
 have k1:w.frozen? ⟨c,0,none⟩=false:=by simp[World.frozen?,hc]
 have k2:w.cell? ⟨d,0,none⟩=some z:=by simp[World.cell?,hd]
 have k3:w.frozen? ⟨d,0,none⟩=false:=by simp[World.frozen?,hd]
 have hlt:(p:Int)+1<A.size:=by omega
 have hlt2:(p:Int)<65536:=by omega
 have hrc:rb≠c:=by
  rintro rfl
  rw[hc] at hr
  simp at hr
 have hrd:rb≠d:=by
  rintro rfl
  rw[hd] at hr
  simp at hr
 have hrc':=hrc.symm
 have hrd':=hrd.symm
 have hcd':=hcd.symm
 have hca:c≠ab:=by
  rintro rfl
  have:=h.arena
  rw[hc] at this
  simp at this
 have hda:d≠ab:=by
  rintro rfl
  have:=h.arena
  rw[hd] at this
  simp at this
 have hra:rb≠ab:=by
  rintro rfl
  have:=h.arena
  rw[hr] at this
  simp at this
 have hrw:rb≠wb:=by
  rintro rfl
  have:=h.words
  rw[hr] at this
  simp at this
 have HA:=hide h
 have HR:=hide hr
 have HC:=hide hc
 have HD:=hide hd
 clear h hr hc hd
 go_enter Tryz.func65,Tryz.ntmps65
 go_wp2
 refine wp_loop_rounds 3 ?_
 rw[rounds_succ]
 go_wp2
 rw[rounds_succ]
 go_wp2
 rw[rounds_succ]
 go_wp2
 go_end0
 refine⟨rfl,((HA.out.other hca.symm hcw.symm).other hda.symm hdw.symm).other hra.symm hrw.symm,?_,?_,?_,?_⟩
 ·exact⟨_,heap_setCell_at _ ((Below.heap_setCell _ _ _ _ hrd).trans ((Below.heap_setCell _ _ _ _ hrc).trans HR.out))⟩
 ·rw[Below.heap_setCell _ _ _ _ hrc',Below.heap_setCell _ _ _ _ hcd]
  exact heap_setCell_at _ HC.out
 ·rw[Below.heap_setCell _ _ _ _ hrd']
  exact heap_setCell_at _ ((Below.heap_setCell _ _ _ _ hcd').trans HD.out)
 ·exact(((Fr.refl _ _).setCell (Or.inl (by simp)) _).setCell (Or.inl (by simp)) _).setCell (Or.inl (by simp)) _
set_option maxHeartbeats 400000 in
set_option maxRecDepth 10000 in
theorem readNode_in (A:Ar) (ab wb rb:Nat) (fm rs:Value) (x:Int) (p:Nat) (k:Int) (w:World) (h:ArAt w ab wb A) (hs:Sane A) (hx:x=p) (hp:p+1<A.size) (hr:w.heap[rb]?=some (.cells #[.pointer (some ⟨ab,0,none⟩),.int .i64 k,fm,rs] 96 (0,0))) :
  Calls Tryz.prog 66 #[.pointer (some ⟨rb,0,none⟩),.int .i64 x] w fun e w'=>e=.returned (nodeAt A.word p).agg∧ArAt w' ab wb A∧(∃k':Int,w'.heap[rb]?=some (.cells #[.pointer (some ⟨ab,0,none⟩),.int .i64 k',fm,rs] 96 (0,0)))∧Fr [rb] w w':=by
 subst hx
 have hsz:=hs.size
 have hw1:=hs.word p
 have hw2:=hs.word (p+1)
 have hla:=h.la
 have hlw:=h.lw
 have hlr:=lt_of_block hr
 have E1:=hide (show bits BinOp.and IntKind.u32 (A.word (p+1):Int) 65535=((A.word (p+1)%65536:Nat):Int) by
  have:=u32_and_nat (A.word (p+1)) 65535 hw2 (by omega)
  rw[show (65535:Nat)=2^16-1 from rfl,Nat.and_two_pow_sub_one_eq_mod] at this
  exact this)
 go_enter Tryz.func66,Tryz.ntmps66
 go_wp2_with fail
 refine(read2_in A ab wb rb fm rs _ p (w.heap.size+1) (w.heap.size+1+1) (w.heap.size+1+1+1) 2 k _ ((((h.alloc _).alloc _).alloc _).alloc _) hsz rfl hp ?_ (.int .u32 0) (.int .u32 0) ?_ ?_ ?_ ?_ (by omega) (by omega) (by omega) (by omega) (by omega)).mono ?_
 ·exact block_ext hr (ext_trans (ext_trans (ext_trans (ext_alloc _ _) (ext_alloc _ _)) (ext_alloc _ _)) (ext_alloc _ _))
 ·simp only[heap_al,World.size_alloc];simp
 ·simp only[heap_al,World.size_alloc];simp
 ·simp only[World.cell?,heap_al,World.size_alloc];simp
 ·simp only[World.cell?,heap_al,World.size_alloc];simp
 rintro e w' ⟨rfl,hA',⟨k',hr'⟩,hc',hd',hF'⟩
 have b0:w'.heap[w.heap.size]?=some (.cells #[.int .u16 0,.int .u16 0,.int .i64 0,.int .i64 0] 142 (0,0)):=by
  refine hF'.at ?_ (by simp;omega)
  simp only[heap_al,World.size_alloc]
  rw[if_neg (by omega),if_neg (by omega),if_neg (by omega),if_pos trivial]
 have d0:=cell_at b0 0
 have d1:=cell_at b0 1
 have d2:=cell_at b0 2
 have d3:=cell_at b0 3
 simp at d0 d1 d2 d3
 have f0:=free_at b0 0
 have f1:=free_at b0 1
 have f2:=free_at b0 2
 have f3:=free_at b0 3
 have k0:=cell_at hc' 0
 have k1:=cell_at hd' 0
 simp at k0 k1
 have HA:=hide hA'
 have HR:=hide hr'
 have HF:=hide hF'
 clear hA' hr' hF' hc' hd' b0
 go_wp2
 have V1:IntKind.u16.wrap (A.word p:Int)=((A.word p%65536:Nat):Int):=by rw[IntKind.wrap_u16];omega
 have V2:wrap64 (bits BinOp.and IntKind.u32 (A.word (p+1):Int) 65535)=((A.word (p+1)%65536:Nat):Int):=by
  rw[E1.out,IntWalk.wrap64_in _ ⟨by omega,by omega⟩]
 have V3:(A.word p:Int)/65536=((A.word p/65536:Nat):Int):=by omega
 have V4:(A.word (p+1):Int)/65536=((A.word (p+1)/65536:Nat):Int):=by omega
 refine bodyPost_ret (v:=(nodeAt A.word p).agg) (by simp[results,Tryz.results66,go_sem,d0,d1,d2,d3];rw[V1,V2,V3,V4];rfl) rfl ⟨rfl,?_,?_,?_⟩
 ·exact(((HA.out.other (by omega) (by omega)).other (by omega) (by omega)).other (by omega) (by omega)).other (by omega) (by omega)
 ·have hne:rb≠w.heap.size:=by omega
  refine⟨k',?_⟩
  rw[Below.heap_setCell _ _ _ _ hne,Below.heap_setCell _ _ _ _ hne,Below.heap_setCell _ _ _ _ hne,Below.heap_setCell _ _ _ _ hne]
  exact HR.out
 ·have hf:Fr [rb] w w':=Fr.after (((((Fr.refl _ _).alloc _).alloc _).alloc _).alloc _) HF.out (by
   intro y hy
   simp at hy
   rcases hy with rfl | rfl | rfl
   ·left;simp
   ·right;omega
   ·right;omega)
  exact(((hf.setCell (Or.inr (Nat.le_refl _)) _).setCell (Or.inr (Nat.le_refl _)) _).setCell (Or.inr (Nat.le_refl _)) _).setCell (Or.inr (Nat.le_refl _)) _
set_option maxHeartbeats 400000 in
set_option maxRecDepth 10000 in
theorem readFirst_in (A:Ar) (ab wb rb:Nat) (fm rs:Value) (x:Int) (p:Nat) (k:Int) (w:World) (h:ArAt w ab wb A) (hs:Sane A) (hx:x=p) (hp:p<A.size) (hsh:A.word p/65536<256) (hr:w.heap[rb]?=some (.cells #[.pointer (some ⟨ab,0,none⟩),.int .i64 k,fm,rs] 96 (0,0))) :
  Calls Tryz.prog 56 #[.pointer (some ⟨rb,0,none⟩),.int .i64 x] w fun e w'=>e=.returned (.agg #[.int .i64 ((A.word p%65536:Nat):Int),.int .u8 ((A.word p/65536:Nat):Int)])∧ArAt w' ab wb A∧(∃k':Int,w'.heap[rb]?=some (.cells #[.pointer (some ⟨ab,0,none⟩),.int .i64 k',fm,rs] 96 (0,0)))∧Fr [rb] w w':=by
 subst hx
 have hsz:=hs.size
 have hw1:=hs.word p
 have hla:=h.la
 have hlw:=h.lw
 have hlr:=lt_of_block hr
 have E1:=hide (show bits BinOp.and IntKind.u32 (A.word p:Int) 65535=((A.word p%65536:Nat):Int) by
  have:=u32_and_nat (A.word p) 65535 hw1 (by omega)
  rw[show (65535:Nat)=2^16-1 from rfl,Nat.and_two_pow_sub_one_eq_mod] at this
  exact this)
 go_enter Tryz.func56,Tryz.ntmps56
 go_wp2_with fail
 refine(read1_in A ab wb rb fm rs _ p (w.heap.size+1) (w.heap.size+1+1) 1 k _ (((h.alloc _).alloc _).alloc _) hsz rfl hp ?_ (.int .u32 0) ?_ ?_ (by omega)).mono ?_
 ·exact block_ext hr (ext_trans (ext_trans (ext_alloc _ _) (ext_alloc _ _)) (ext_alloc _ _))
 ·simp only[heap_al,World.size_alloc];simp
 ·simp only[World.cell?,heap_al,World.size_alloc];simp
 rintro e w' ⟨rfl,hA',⟨k',hr'⟩,hc',hF'⟩
 have b0:w'.heap[w.heap.size]?=some (.cells #[.int .i64 0,.int .u8 0] 121 (0,0)):=by
  refine hF'.at ?_ (by simp;omega)
  simp only[heap_al,World.size_alloc]
  rw[if_neg (by omega),if_neg (by omega),if_pos trivial]
 have d0:=cell_two0 b0
 have d1:=cell_two1 b0
 have f0:=free_two 0 b0
 have f1:=free_two 1 b0
 have k0:=cell_at hc' 0
 simp at k0
 have HA:=hide hA'
 have HR:=hide hr'
 have HF:=hide hF'
 clear hA' hr' hF' hc' b0
 go_wp2
 have V2:wrap64 (bits BinOp.and IntKind.u32 (A.word p:Int) 65535)=((A.word p%65536:Nat):Int):=by
  rw[E1.out,IntWalk.wrap64_in _ ⟨by omega,by omega⟩]
 refine bodyPost_ret (v:=.agg #[.int .i64 ((A.word p%65536:Nat):Int),.int .u8 ((A.word p/65536:Nat):Int)]) (by simp[results,Tryz.results56,go_sem,d0,d1];rw[V2];omega) rfl ⟨rfl,?_,?_,?_⟩
 ·exact(HA.out.other (by omega) (by omega)).other (by omega) (by omega)
 ·have hne:rb≠w.heap.size:=by omega
  refine⟨k',?_⟩
  rw[Below.heap_setCell _ _ _ _ hne,Below.heap_setCell _ _ _ _ hne]
  exact HR.out
 ·have hf:Fr [rb] w w':=Fr.after ((((Fr.refl _ _).alloc _).alloc _).alloc _) HF.out (by
   intro y hy
   simp at hy
   rcases hy with rfl | rfl
   ·left;simp
   ·right;omega)
  exact(hf.setCell (Or.inr (Nat.le_refl _)) _).setCell (Or.inr (Nat.le_refl _)) _
end Go.Proofs.YtnapboelfimaaaaGreatDoor
namespace Go.Proofs.YtnapboelfimaaaaGreatDoor
open Go.RowKit Go.Deep
theorem ret_int {k:IntKind} {a b:Int} (h:a=b):Ending.returned (.int k a)=.returned (.int k b):=by rw[h]
structure RouteD where
 bits:ByteArray
 len:Int
 hop:Int
def RouteD.cells (r:RouteD):List Value:=[.string r.bits,.int .i64 r.len,.int .i64 r.hop]
def RouteD.agg (r:RouteD):Value:=.agg #[.string r.bits,.int .i64 r.len,.int .i64 r.hop]
def flatR (l:List RouteD):List Value:=l.flatMap RouteD.cells
theorem infoRoute:(Tryz.prog.info? 66).map (fun i=>(i.zero,i.size,i.bytes))=some (some (.agg #[.string .empty,.int .i64 0,.int .i64 0]),3,32):=by kernel_rfl
def RouteD.zero:RouteD:=⟨.empty,0,0⟩
theorem flatR_len (l:List RouteD):(flatR l).length=l.length*3:=by
 unfold flatR
 induction l with
 | nil=>rfl
 | cons o l ih=>rw[List.flatMap_cons,List.length_append,ih];simp[RouteD.cells];omega
theorem flatR_get (l:List RouteD) (k j:Nat) (hk:k<l.length) (hj:j<3):(flatR l)[k*3+j]?=((l.getD k RouteD.zero).cells)[j]?:=by
 unfold flatR
 induction l generalizing k with
 | nil=>simp at hk
 | cons o l ih =>
  rw[List.flatMap_cons]
  cases k with
  | zero =>
   rw[Nat.zero_mul,Nat.zero_add,List.getElem?_append_left (by simp[RouteD.cells];omega)]
   rfl
  | succ k =>
   rw[List.getElem?_append_right (by simp[RouteD.cells];omega)]
   have e:(k+1)*3+j-o.cells.length=k*3+j:=by simp[RouteD.cells];omega
   rw[e,ih k (by simpa using hk)]
   rfl
theorem flatR_snoc (l:List RouteD) (r:RouteD):flatR (l++[r])=flatR l++r.cells:=by simp[flatR]
theorem flatR_append (l m:List RouteD):flatR (l++m)=flatR l++flatR m:=by simp[flatR]
theorem route_cells {w:World} {base k:Nat} {ao:Option Addr} {cap:Nat} {l:List RouteD} (h:w.ownsRow base 66 3 (.slice ao l.length cap) l.length (flatR l)) (hk:k<l.length) :
  ∃g,ao=some ⟨g,0,none⟩∧g<w.heap.size∧w.cell? ⟨g,k*3,none⟩=some (.string (l.getD k RouteD.zero).bits)∧w.cell? ⟨g,k*3+1,none⟩=some (.int .i64 (l.getD k RouteD.zero).len)∧w.cell? ⟨g,k*3+2,none⟩=some (.int .i64 (l.getD k RouteD.zero).hop):=by
 rcases h.2 with ⟨e,e0⟩ | ⟨g,cp,cur,e,hb,hh,r⟩
 ·omega
 ·cases e
  have c:=fun j (hj:j<3)=>(h.cellAt (k*3+j) (by omega)).trans (flatR_get l k j hk hj)
  exact⟨g,rfl,lt_of_block hh,c 0 (by omega),c 1 (by omega),c 2 (by omega)⟩
theorem route_news (w:World) (o:RouteD) (t:TypeId):∀j u,o.cells[j]?=some u→(w.alloc (.cells #[.string o.bits,.int .i64 o.len,.int .i64 o.hop] t)).cell? ((⟨w.heap.size,0,none⟩:Addr).add j)=some u:=by
 intro j u hj
 have e:(⟨w.heap.size,0,none⟩:Addr).add j=⟨w.heap.size,j,none⟩:=by unfold Addr.add;split <;> simp_all
 rw[e,cell_new rfl]
 simpa [RouteD.cells] using hj
theorem route_one (o:RouteD):∀u∈o.cells,u.oneCell'=true:=by
 intro u hu
 simp only[RouteD.cells,List.mem_cons,List.not_mem_nil,or_false] at hu
 rcases hu with rfl | rfl | rfl <;> rfl
theorem owns_base {w:World} {base base':Nat} {e:TypeId} {size:Nat} {v:Value} {n:Nat} {xs:List Value} (h:w.ownsRow base e size v n xs) (hb:base'≤base):w.ownsRow base' e size v n xs:=by
 refine⟨h.1,?_⟩
 rcases h.2 with h0 | ⟨g,cap,cur,e,hg,r⟩
 ·exact .inl h0
 ·exact .inr ⟨g,cap,cur,e,Nat.le_trans hb hg,r⟩
end Go.Proofs.YtnapboelfimaaaaGreatDoor
