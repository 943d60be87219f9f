/- RefI, TieB, HoldA, HoldB: parts of the proof, one behind the other. -/
import Derived.Test.YtnapboelfimaaaaGreatDoorB30
import Derived.Test.YtnapboelfimaaaaGreatDoorB31
namespace Go.Proofs.YtnapboelfimaaaaGreatDoor
open Go.RowKit Go.Deep
set_option maxHeartbeats 400000 in
set_option maxRecDepth 10000 in
theorem lookup_fam (rb:Nat) (o:OpD) (w:World) (hf:famSize o.family=0) :
  Calls Tryz.prog 32 #[.pointer (some ⟨rb,0,none⟩),.agg #[.int .i64 o.code,.int .i64 o.family,.string o.bits,.int .i64 o.len,.int .i64 o.hop],.agg #[.int .i64 3,.int .i64 0,.int .i64 0]] w fun e w'=>e=.returned (.bool true)∧Below w.heap.size w w':=by
 have e0:((famSize o.family:Int)==0)=true:=by simp[hf]
 have e6:(o.family==6)=false:=by
  simp only[beq_eq_false_iff_ne]
  intro h
  rw[h] at hf
  exact absurd hf (by decide)
 clear hf
 go_enter Tryz.func32,Tryz.ntmps32
 go_wp2_with (go_at_call 43;refine(size_any _ _).mono ?_;rintro e w' ⟨rfl,rfl⟩)
 go_ret
 exact⟨rfl,ext_trans (ext_alloc _ _) (ext_alloc _ _)⟩
set_option maxHeartbeats 400000 in
set_option maxRecDepth 10000 in
theorem lookup_bits (rb:Nat) (o:OpD) (w:World) (hf:famSize o.family≠0) (hb:o.bits.size≠famSize o.family) :
  Calls Tryz.prog 32 #[.pointer (some ⟨rb,0,none⟩),.agg #[.int .i64 o.code,.int .i64 o.family,.string o.bits,.int .i64 o.len,.int .i64 o.hop],.agg #[.int .i64 5,.int .i64 0,.int .i64 0]] w fun e w'=>e=.returned (.bool true)∧Below w.heap.size w w':=by
 have hsz:(famSize o.family:Int)≤16:=by rcases famSize_cases o.family with h | h | h <;> omega
 have e0:((famSize o.family:Int)==0)=false:=by simp[hf]
 have e1:((o.bits.size:Int) != (famSize o.family:Int))=true:=by simp;omega
 clear hf hb
 by_cases h6:o.family=6
 ·have e6:(o.family==6)=true:=by simp[h6]
  clear h6
  go_enter Tryz.func32,Tryz.ntmps32
  go_wp2_with (go_at_call 43;refine(size_any _ _).mono ?_;rintro e w' ⟨rfl,rfl⟩)
  go_ret
  exact⟨rfl,ext_trans (ext_alloc _ _) (ext_alloc _ _)⟩
 ·have e6:(o.family==6)=false:=by simpa using h6
  clear h6
  go_enter Tryz.func32,Tryz.ntmps32
  go_wp2_with (go_at_call 43;refine(size_any _ _).mono ?_;rintro e w' ⟨rfl,rfl⟩)
  go_ret
  exact⟨rfl,ext_trans (ext_alloc _ _) (ext_alloc _ _)⟩
set_option maxHeartbeats 400000 in
set_option maxRecDepth 10000 in
theorem do_lookup (rb:Nat) (o:OpD) (g:AnsD) (w:World) (hc:o.code=3)
  (hI:∀w',Below w.heap.size w w'→Calls Tryz.prog 32 #[.pointer (some ⟨rb,0,none⟩),.agg #[.int .i64 o.code,.int .i64 o.family,.string o.bits,.int .i64 o.len,.int .i64 o.hop],.agg #[.int .i64 g.err,.int .i64 g.hop,.int .i64 g.reads]] w' fun e w''=>e=.returned (.bool true)∧Below w'.heap.size w' w'') :
  Calls Tryz.prog 20 #[.pointer (some ⟨rb,0,none⟩),.agg #[.int .i64 o.code,.int .i64 o.family,.string o.bits,.int .i64 o.len,.int .i64 o.hop],.agg #[.int .i64 g.err,.int .i64 g.hop,.int .i64 g.reads]] w fun e w'=>e=.returned (.bool true)∧Below w.heap.size w w':=by
 have e1:(o.code==1)=false:=by simp;omega
 have e2:(o.code==2)=false:=by simp;omega
 have e3:(o.code==3)=true:=by simp;omega
 have HI:=hide hI
 clear hc hI
 obtain⟨wx,hwx⟩:∃wx:World,wx=((w.alloc (.cells #[.int .i64 o.code,.int .i64 o.family,.string o.bits,.int .i64 o.len,.int .i64 o.hop] 27)).alloc (.cells #[.int .i64 g.err,.int .i64 g.hop,.int .i64 g.reads] 59)).alloc (.cells #[.int .i64 0,.int .i64 0,.int .i64 0] 59):=⟨_,rfl⟩
 have HW:=hide hwx
 have HBX:=hide (show Below w.heap.size w wx by rw[hwx];exact ext_trans (ext_alloc _ _) (ext_trans (ext_alloc _ _) (ext_alloc _ _)))
 clear hwx
 go_enter Tryz.func20,Tryz.ntmps20
 go_wp2_with fail
 rw[←HW.out]
 refine(HI.out wx HBX.out).mono ?_
 rintro e w5 ⟨rfl,hb5⟩
 have HB5:=hide (ext_trans HBX.out hb5)
 clear hb5
 go_wp2
 go_ret
 exact⟨rfl,HB5.out⟩
def Right (d:RefD) (o:OpD) (g:AnsD) (d':RefD):Prop :=
 (o.code=1∧((badOp o≠0∧g=⟨badOp o,0,0⟩∧d'=d)∨(badOp o=0∧(o.hop<0∨65535<o.hop)∧g=⟨6,0,0⟩∧d'=d) ∨
  (badOp o=0∧0≤o.hop∧o.hop≤65535∧((g=⟨8,0,0⟩∧d.enough=false∧d'=d)∨(g=⟨0,0,0⟩∧d'=d.put o.family (withR (d.routes o.family) ⟨o.bits,o.len,o.hop⟩)))))) ∨
 (o.code=2∧((badOp o≠0∧g=⟨badOp o,0,0⟩∧d'=d)∨(badOp o=0∧g=⟨if thereR (d.routes o.family) ⟨o.bits,o.len,0⟩ then 0 else 7,0,0⟩∧d'=d.put o.family (withoutR (d.routes o.family) ⟨o.bits,o.len,0⟩)))) ∨
 (o.code=3∧d'=d∧((famSize o.family=0∧g=⟨3,0,0⟩)∨(famSize o.family≠0∧o.bits.size≠famSize o.family∧g=⟨5,0,0⟩) ∨
  (famSize o.family≠0∧o.bits.size=famSize o.family∧1≤g.reads∧g.reads≤mostReads o.family∧lookupR (bestR (d.routes o.family) o.bits) g=true))) ∨
 (o.code=4∧g=⟨0,0,0⟩∧d'=d) ∨
 ((o.code<1∨4<o.code)∧g=⟨2,0,0⟩∧d'=d)
theorem do_any (rb:Nat) (d d':RefD) (o:OpD) (g:AnsD) (w:World) (hr:RefAt w rb d) (hs:d.small) (hok:d.ok) (h:Right d o g d') :
  Calls Tryz.prog 20 #[.pointer (some ⟨rb,0,none⟩),.agg #[.int .i64 o.code,.int .i64 o.family,.string o.bits,.int .i64 o.len,.int .i64 o.hop],.agg #[.int .i64 g.err,.int .i64 g.hop,.int .i64 g.reads]] w fun e w'=>e=.returned (.bool true)∧RefAt w' rb d'∧Fr [rb] w w':=by
 have still:∀ {e:Ending} {w':World},e=.returned (.bool true)∧Below w.heap.size w w'→e=.returned (.bool true)∧RefAt w' rb d∧Fr [rb] w w':=fun h=>⟨h.1,hr.ext h.2,Fr.of_below h.2⟩
 rcases h with ⟨hc,h⟩ | ⟨hc,h⟩ | ⟨hc,rfl,h⟩ | ⟨hc,rfl,rfl⟩ | ⟨hc,rfl,rfl⟩
 ·rcases h with ⟨hb,rfl,rfl⟩ | ⟨hb,hh,rfl,rfl⟩ | ⟨hb,h1,h2,h⟩
  ·exact do_insert rb _ o (badOp o) (badOp o==8) w hr.lt hc rfl (fun w' hb'=>(insert_bad rb o _ w' hb).mono fun e w'' hx=>⟨hx.1,(hr.ext hb').ext hx.2,Fr.of_below hx.2⟩)
  ·exact do_insert rb _ o 6 false w hr.lt hc rfl (fun w' hb'=>(insert_hop rb o _ w' hb hh).mono fun e w'' hx=>⟨hx.1,(hr.ext hb').ext hx.2,Fr.of_below hx.2⟩)
  ·rcases h with ⟨rfl,he,rfl⟩ | ⟨rfl,rfl⟩
   ·exact do_insert rb _ o 8 true w hr.lt hc rfl (fun w' hb'=>(insert_full rb _ o w' (hr.ext hb') hs hb h1 h2 he).mono fun e w'' hx=>⟨hx.1,(hr.ext hb').ext hx.2,Fr.of_below hx.2⟩)
   ·exact do_insert rb _ o 0 false w hr.lt hc rfl (fun w' hb'=>insert_ok rb d o w' (hr.ext hb') hs hb h1 h2)
 ·rcases h with ⟨hb,rfl,rfl⟩ | ⟨hb,rfl,rfl⟩
  ·exact do_delete_bad rb _ o w hr hc hb
  ·exact do_delete_ok rb d o _ w hr hs hc hb rfl
 ·rcases h with ⟨hf,rfl⟩ | ⟨hf,hb,rfl⟩ | ⟨hf,hb,h1,h2,h3⟩
  ·exact(do_lookup rb o ⟨3,0,0⟩ w hc (fun w' _=>lookup_fam rb o w' hf)).mono fun e w' hx=>still hx
  ·exact(do_lookup rb o ⟨5,0,0⟩ w hc (fun w' _=>lookup_bits rb o w' hf hb)).mono fun e w' hx=>still hx
  ·exact(do_lookup rb o g w hc (fun w' hb'=>(lookup_main rb _ o g w' (hr.ext hb') hs hok hf hb h1 h2).mono fun e w'' hx=>⟨by rw[hx.1,h3],hx.2⟩)).mono fun e w' hx=>still hx
 ·exact(do_compact rb o w hc).mono fun e w' hx=>still hx
 ·exact(do_code rb o w hc).mono fun e w' hx=>still hx
end Go.Proofs.YtnapboelfimaaaaGreatDoor
namespace Go.Proofs.YtnapboelfimaaaaGreatDoor
open Go.RowKit Go.Deep
theorem bit_key {s:ByteArray} {i:Nat} (h:i<136):bitN s i=kb (keyNum s) i:=by
 rw[←kb_byte h,keyNum_byte s (i/8) (by omega)]
 rfl
theorem bit_keyS {n K i:Nat} (hn:n≤16) (h:i<8*n):bitN (keyS n K) i=kb K i:=by
 rw[←kb_byte (show i<136 by omega)]
 have e:byteAt (keyS n K) (i/8)=kbyte K (i/8):=keyS_byte (by omega)
 unfold bitN
 rw[e]
theorem fit_all {A B l:Nat} (hl:l≤136) (hA:A<2^136) (hB:B<2^136):(∀i,i<l→kb A i=kb B i)↔fitK A l=fitK B l:=by
 constructor
 ·induction l with
  | zero=>intro _;rw[fit_zero hA,fit_zero hB]
  | succ l ih =>
   intro h
   rw[fit_succ (by omega),fit_succ (by omega),ih (by omega) (fun i hi=>h i (by omega)),h l (by omega)]
 ·intro h i hi
  apply Decidable.byContradiction
  intro hne
  exact fit_bit hi hl hne h
theorem kb_low {K l:Nat} (hl:l≤136):(∀i,l≤i→i<136→kb K i=0)↔K%2^(136-l)=0:=by
 obtain⟨m,hm⟩:∃m,m=136-l:=⟨_,rfl⟩
 rw[←hm]
 have key:∀m,m≤136→((∀j,j<m→K/2^j%2=0)↔K%2^m=0):=by
  intro m
  induction m with
  | zero=>intro _;simp[Nat.mod_one]
  | succ m ih =>
   intro h
   have hs:K%2^(m+1)=K%2^m+2^m*(K/2^m%2):=by rw[Nat.pow_succ,Nat.mod_mul]
   have hp:=Nat.two_pow_pos m
   constructor
   ·intro hj
    rw[hs,(ih (by omega)).1 (fun j hj'=>hj j (by omega)),hj m (by omega)]
    simp
   ·intro h0 j hj
    rw[hs] at h0
    have h1:K%2^m=0:=by omega
    have h2:2^m*(K/2^m%2)=0:=by omega
    by_cases e:j=m
    ·subst e
     rcases Nat.mul_eq_zero.1 h2 with h3 | h3
     ·omega
     ·exact h3
    ·exact(ih (by omega)).2 h1 j (by omega)
 rw[←key m (by omega)]
 unfold kb
 constructor
 ·intro h j hj
  have:=h (135-j) (by omega) (by omega)
  rwa [show 135-(135-j)=j by omega] at this
 ·intro h i h1 h2
  exact h (135-i) (by omega)
theorem zero_key {s:ByteArray} {n l:Nat} (hs:s.size=n) (hn:n≤16) (hl:l≤8*n):zeroBits s l (8*n)=true↔keyNum s%2^(136-l)=0:=by
 rw[←kb_low (by omega)]
 unfold zeroBits
 rw[List.all_eq_true]
 constructor
 ·intro h i h1 h2
  by_cases hi:i<8*n
  ·have:=h i (List.mem_range.2 hi)
   simp only[Bool.or_eq_true,decide_eq_true_eq,beq_iff_eq] at this
   rcases this with this | this
   ·omega
   ·rw[←bit_key h2];exact this
  ·rw[←bit_key h2]
   unfold bitN
   have e:byteAt s (i/8)=0:=by
    unfold byteAt
    rw[List.getD_eq_getElem?_getD,List.getElem?_eq_none (by have:s.data.size=n:=hs;simp;omega)]
    rfl
   rw[e]
   simp
 ·intro h i hi
  rw[List.mem_range] at hi
  simp only[Bool.or_eq_true,decide_eq_true_eq,beq_iff_eq]
  by_cases h1:i<l
  ·exact Or.inl h1
  ·right
   rw[bit_key (by omega)]
   exact h i (by omega) (by omega)
theorem bad_pref (o:OpD):badOp o=prefFault o.family o.bits o.len:=by
 unfold badOp prefFault
 show (if famBytes o.family=0 then (3:Int) else if o.len<0∨8*(famBytes o.family:Int)<o.len then 4 else if o.bits.size≠famBytes o.family then 5 else if zeroBits o.bits o.len.toNat (8*famBytes o.family) then 0 else 5)=_
 by_cases h1:famBytes o.family=0
 ·rw[if_pos h1,if_pos h1]
 ·rw[if_neg h1,if_neg h1]
  by_cases h2:o.len<0∨8*(famBytes o.family:Int)<o.len
  ·rw[if_pos h2,if_pos h2]
  ·rw[if_neg h2,if_neg h2]
   by_cases h3:o.bits.size=famBytes o.family
   ·rw[if_neg (by simpa using h3)]
    have hz:=zero_key h3 (fam_le _) (l:=o.len.toNat) (by omega)
    by_cases h4:keyNum o.bits%2^(136-o.len.toNat)=0
    ·rw[if_pos (hz.2 h4),if_pos ⟨h3,h4⟩]
    ·rw[if_neg (fun e=>h4 (hz.1 e)),if_neg (fun e=>h4 e.2)]
   ·rw[if_pos h3,if_neg (fun e=>h3 e.1)]
theorem fits_rd {n:Nat} (hn:n≤16) {y:Nat × Nat × Nat} (hy:RtIn n y) {s:ByteArray}:fitsR (rdOf n y) s=true↔fitK (keyNum s) y.1=y.2.1:=by
 have h2:=hy.1
 have e0:fitK (addr y) y.1=y.2.1:=fit_addr (l:=y.1) (v:=y.2.1) (h:=y.2.2)
 have key:=fit_all (l:=y.1) (A:=addr y) (B:=keyNum s) (by omega) (addr_lt (l:=y.1) (v:=y.2.1) (h:=y.2.2) (by omega) hy.2) (keyNum_lt s)
 rw[e0] at key
 rw[show (fitK (keyNum s) y.1=y.2.1)↔(y.2.1=fitK (keyNum s) y.1) from eq_comm,←key]
 unfold fitsR fitsTo
 rw[List.all_eq_true]
 have e:(rdOf n y).len.toNat=y.1:=by show (y.1:Int).toNat=y.1;omega
 rw[e]
 constructor
 ·intro h i hi
  have:=h i (List.mem_range.2 hi)
  rw[beq_iff_eq] at this
  rw[←bit_keyS hn (show i<8*n by omega),←bit_key (show i<136 by omega)]
  exact this
 ·intro h i hi
  rw[List.mem_range] at hi
  rw[beq_iff_eq]
  show bitN (keyS n (addr y)) i=bitN s i
  rw[bit_keyS hn (by omega),bit_key (s:=s) (show i<136 by omega)]
  exact h i hi
theorem bestR_spec (l:List RouteD) (a:ByteArray):(bestR l a=none∧∀r∈l,fitsR r a=false)∨∃r∈l,bestR l a=some r∧fitsR r a=true∧∀r'∈l,fitsR r' a=true→r'.len≤r.len:=by
 have key:∀k,k≤l.length→(bestR (l.take k) a=none∧∀r∈l.take k,fitsR r a=false)∨∃r∈l.take k,bestR (l.take k) a=some r∧fitsR r a=true∧∀r'∈l.take k,fitsR r' a=true→r'.len≤r.len:=by
  intro k
  induction k with
  | zero=>intro _;exact Or.inl ⟨rfl,fun r hr=>by simp at hr⟩
  | succ k ih =>
   intro hk
   have e:=bestR_succ (addr:=a) (show k<l.length by omega)
   rw[e,take_snocR (show k<l.length by omega)]
   generalize l.getD k RouteD.zero=x
   unfold bestStep
   by_cases hf:fitsR x a=true
   ·rcases ih (by omega) with ⟨h1,h2⟩ | ⟨r,hr,h1,h2,h3⟩
    ·right
     refine⟨x,by simp,by rw[h1];simp[hf],hf,?_⟩
     intro r' hr' hf'
     rcases List.mem_append.1 hr' with h | h
     ·rw[h2 r' h] at hf';cases hf'
     ·rw[List.mem_singleton.1 h];exact Int.le_refl _
    ·right
     by_cases hl:r.len<x.len
     ·refine⟨x,by simp,by rw[h1];simp[hf,hl],hf,?_⟩
      intro r' hr' hf'
      rcases List.mem_append.1 hr' with h | h
      ·have:=h3 r' h hf';omega
      ·rw[List.mem_singleton.1 h];exact Int.le_refl _
     ·refine⟨r,by simp[hr],by rw[h1];simp[hf,hl],h2,?_⟩
      intro r' hr' hf'
      rcases List.mem_append.1 hr' with h | h
      ·exact h3 r' h hf'
      ·rw[List.mem_singleton.1 h];omega
   ·have hf0:fitsR x a=false:=by simpa using hf
    simp only[hf0,Bool.false_and,Bool.false_eq_true,if_false]
    rcases ih (by omega) with ⟨h1,h2⟩ | ⟨r,hr,h1,h2,h3⟩
    ·left
     refine⟨h1,fun r hr=>?_⟩
     rcases List.mem_append.1 hr with h | h
     ·exact h2 r h
     ·rw[List.mem_singleton.1 h];exact hf0
    ·right
     refine⟨r,by simp[hr],h1,h2,fun r' hr' hf'=>?_⟩
     rcases List.mem_append.1 hr' with h | h
     ·exact h3 r' h hf'
     ·rw[List.mem_singleton.1 h,hf0] at hf';cases hf'
 have:=key l.length (Nat.le_refl _)
 rwa [List.take_length] at this
def refOf (S:St):RefD:=⟨S.A.size,tellL S 4,tellL S 6⟩
theorem ref_routes (S:St) {f:Int} (hf:famBytes f≠0):(refOf S).routes f=tellL S f:=by
 unfold RefD.routes refOf
 by_cases h4:f=4
 ·subst h4;rfl
 ·by_cases h6:f=6
  ·subst h6;rfl
  ·exfalso;apply hf;unfold famBytes;rw[if_neg h4,if_neg h6]
theorem look_right {S:St} (h:S.ok) {f:Int} (hf:famBytes f≠0) (s:ByteArray):lookupR (bestR (tellL S f) s) (lookAns S.A.word (fam f) (keyNum s) (hopN S.M (fam f) (keyNum s)))=true:=by
 have hm:=fun y=>mem_dumpR (h.tab (fam f)) (dp_le _) y
 have hfit:=fun y (hy:y∈dumpR (S.M (fam f)) (dp (fam f)))=>fits_rd (fam_le f) (tell_in h hf y hy) (s:=s)
 have hmap:∀r,r∈tellL S f→∃y,y∈dumpR (S.M (fam f)) (dp (fam f))∧rdOf (famBytes f) y=r:=fun r hr=>by
  unfold tellL at hr
  obtain⟨y,hy,e⟩:=List.mem_map.1 hr
  exact⟨y,hy,e⟩
 have hin:∀y,y∈dumpR (S.M (fam f)) (dp (fam f))→rdOf (famBytes f) y∈tellL S f:=fun y hy=>by
  unfold tellL
  exact List.mem_map_of_mem hy
 have hlen:∀y,y∈dumpR (S.M (fam f)) (dp (fam f))→y.1<129:=fun y hy=>by
  have h1:=(h.tab (fam f)).len y.1 y.2.1 (by rw[(hm y).1 hy];rfl)
  have:=dp_le (fam f)
  omega
 unfold hopN
 rcases bestL_spec (M:=S.M (fam f)) (K:=keyNum s) 129 with ⟨e,e'⟩ | ⟨l0,h0,e1,e2,e3,e4⟩
 ·rw[e]
  rcases bestR_spec (tellL S f) s with ⟨b1,_⟩ | ⟨r,hr,b1,b2,_⟩
  ·rw[b1];rfl
  ·obtain⟨y,hy,rfl⟩:=hmap r hr
   have q:=(hfit y hy).1 b2
   have:=e' y.1 (hlen y hy)
   rw[q,(hm y).1 hy] at this
   cases this
 ·rw[e2]
  have hd:=(hm (l0,fitK (keyNum s) l0,h0)).2 e3
  rcases bestR_spec (tellL S f) s with ⟨_,b2⟩ | ⟨r,hr,b1,b2,b3⟩
  ·have q:=b2 _ (hin _ hd)
   rw[(hfit _ hd).2 rfl] at q
   cases q
  ·obtain⟨y,hy,rfl⟩:=hmap r hr
   have q:=(hfit y hy).1 b2
   have q2:=b3 _ (hin _ hd) ((hfit _ hd).2 rfl)
   have q3:l0≤y.1:=by
    have:((l0:Nat):Int)≤(y.1:Int):=q2
    omega
   have q4:y.1=l0:=by
    by_cases hlt:l0<y.1
    ·have:=e4 y.1 hlt (hlen y hy)
     rw[q,(hm y).1 hy] at this
     cases this
    ·omega
   have q5:=(hm y).1 hy
   rw[←q,q4,e3] at q5
   have q6:h0=y.2.2:=Option.some.inj q5
   rw[b1]
   show ((0:Int)==0&&((h0:Nat):Int)==((y.2.2:Nat):Int))=true
   rw[q6]
   simp
theorem put_four {d:RefD} {l:List RouteD} {f:Int} (h:f=4):d.put f l={ d with fours:=l }:=by unfold RefD.put;rw[if_pos h]
theorem put_six {d:RefD} {l:List RouteD} {f:Int} (h:f=6):d.put f l={ d with sixes:=l }:=by unfold RefD.put;rw[if_neg (by omega)]
theorem tell_other {S T:St} {q:Bool} (h:T.M (!q)=S.M (!q)) {f:Int} (hf:fam f=!q):tellL T f=tellL S f:=by unfold tellL;rw[hf,h]
theorem ref_put {S T:St} {f:Int} (hf:famBytes f≠0) (hs:T.A.size=S.A.size) (ho:T.M (!fam f)=S.M (!fam f)):refOf T=(refOf S).put f (tellL T f):=by
 by_cases h4:f=4
 ·subst h4
  rw[put_four rfl]
  unfold refOf
  rw[hs,tell_other ho (show fam 6=!fam 4 by decide)]
 ·by_cases h6:f=6
  ·subst h6
   rw[put_six rfl]
   unfold refOf
   rw[hs,tell_other ho (show fam 4=!fam 6 by decide)]
  ·exfalso;apply hf;unfold famBytes;rw[if_neg h4,if_neg h6]
theorem ref_same {S T:St} (hs:T.A.size=S.A.size) (hM:T.M=S.M):refOf T=refOf S:=by unfold refOf tellL;rw[hs,hM]
theorem right_step {S:St} (h:S.ok) (o:OpD):Right (refOf S) o (S.step o).2 (refOf (S.step o).1):=by
 have hsz:=(step_ok h o).2
 have hTok:=(step_ok h o).1
 by_cases h8:(S.step o).2.err=8
 ·obtain⟨hc,hst,hfull⟩:=step_full h h8
  have hf:opFault o=0:=by
   by_cases hf:opFault o=0
   ·exact hf
   ·exfalso
    unfold St.step at h8
    rw[if_neg hf] at h8
    have h8':opFault o=8:=h8
    have:=fault_small o
    omega
  obtain⟨hp,g0,g1⟩:=fault_ins hc hf
  have hb:badOp o=0:=by
   rw[bad_pref]
   unfold opFault at hf
   rw[if_pos hc] at hf
   by_cases e:prefFault o.family o.bits o.len=0
   ·exact e
   ·rw[if_neg e] at hf;exact hf
  have hans:(S.step o).2=⟨8,0,0⟩:=by
   unfold St.step at h8 ⊢
   rw[if_pos hf,if_pos hc] at h8 ⊢
   unfold St.put at h8 ⊢
   split at h8
   ·cases h8
   ·rename_i hr
    rw[if_neg hr]
  left
  refine⟨hc,Or.inr (Or.inr ⟨hb,g0,g1,Or.inl ⟨hans,?_,by rw[hst]⟩⟩)⟩
  unfold RefD.enough RefD.count refOf
  simp only[decide_eq_false_iff_not]
  rw[tell_count]
  omega
 ·obtain⟨m1,m2,m3⟩:=step_m h h8
  by_cases hf:opFault o=0
  ·rcases fault_code hf with hc | hc | hc | hc
   ·obtain⟨hp,g0,g1⟩:=fault_ins hc hf
    have hb:badOp o=0:=by
     rw[bad_pref]
     unfold opFault at hf
     rw[if_pos hc] at hf
     by_cases e:prefFault o.family o.bits o.len=0
     ·exact e
     ·rw[if_neg e] at hf;exact hf
    have hM:(S.step o).1.M=updM S.M (fam o.family) o.l o.v (some o.hop.toNat):=by rw[m1];unfold mNext;rw[if_pos hf,if_pos hc]
    have hans:(S.step o).2=⟨0,0,0⟩:=by
     unfold St.step at h8 ⊢
     rw[if_pos hf,if_pos hc] at h8 ⊢
     unfold St.put at h8 ⊢
     split at h8
     ·rename_i hr
      rw[if_pos hr]
     ·exact absurd rfl h8
    left
    refine⟨hc,Or.inr (Or.inr ⟨hb,g0,g1,Or.inr ⟨hans,?_⟩⟩)⟩
    rw[ref_routes S hp.famok,with_tell h hTok hp g0 (by rw[hM,updM_same])]
    exact ref_put hp.famok hsz (by rw[hM,updM_not])
   ·have hp:=fault_del hc hf
    have hb:badOp o=0:=by
     rw[bad_pref]
     unfold opFault at hf
     rw[if_neg (by omega),if_pos hc] at hf
     exact hf
    have hM:(S.step o).1.M=updM S.M (fam o.family) o.l o.v none:=by rw[m1];unfold mNext;rw[if_pos hf,if_neg (by omega),if_pos hc]
    have hr0:(S.step o).2.reads=0:=by
     unfold St.step
     rw[if_pos hf,if_neg (by omega),if_pos hc]
     unfold St.del
     split <;> rfl
    have hans:(S.step o).2=⟨if thereR (tellL S o.family) ⟨o.bits,o.len,0⟩ then 0 else 7,0,0⟩:=by
     rw[there_tell h hp]
     unfold mErr at m2
     rw[if_pos hf,if_pos hc] at m2
     unfold mHop at m3
     rw[if_neg (by omega)] at m3
     generalize (S.step o).2=a at m2 m3 hr0
     obtain⟨a1,a2,a3⟩:=a
     simp only at m2 m3 hr0
     rw[m2,m3,hr0]
    right;left
    refine⟨hc,Or.inr ⟨hb,?_,?_⟩⟩
    ·rw[ref_routes S hp.famok];exact hans
    ·rw[ref_routes S hp.famok,without_tell h hTok hp (by rw[hM,updM_same])]
     exact ref_put hp.famok hsz (by rw[hM,updM_not])
   ·obtain⟨p1,p2⟩:=fault_look hc hf
    have hr:=step_reads (S:=S) hf hc
    have hst:S.step o=(S,lookAns S.A.word (fam o.family) o.key (hopN S.M (fam o.family) o.key)):=by
     unfold St.step
     rw[if_pos hf,if_neg (by omega),if_neg (by omega),if_pos hc]
    right;right;left
    refine⟨hc,by rw[hst],Or.inr (Or.inr ⟨p2,p1,hr.1,?_,?_⟩)⟩
    ·refine Int.le_trans hr.2 ?_
     unfold mostReads fam dp
     by_cases h6:o.family=6
     ·rw[if_pos h6];simp[h6]
     ·rw[if_neg h6];simp[h6]
    ·rw[ref_routes S p2,hst]
     exact look_right h p2 o.bits
   ·have hst:(S.step o).2=⟨0,0,0⟩∧(S.step o).1.M=S.M:=by
     unfold St.step
     rw[if_pos hf,if_neg (by omega),if_neg (by omega),if_neg (by omega)]
     exact⟨rfl,rfl⟩
    right;right;right;left
    exact⟨hc,hst.1,ref_same hsz hst.2⟩
  ·have hst:S.step o=(S,⟨opFault o,0,0⟩):=by unfold St.step;rw[if_neg hf]
   rw[hst]
   unfold opFault at hf ⊢
   by_cases h1:o.code=1
   ·rw[if_pos h1] at hf ⊢
    left
    refine⟨h1,?_⟩
    rw[←bad_pref] at hf ⊢
    by_cases hb:badOp o=0
    ·rw[if_pos hb] at hf ⊢
     unfold hopFault at hf ⊢
     by_cases hh:0≤o.hop∧o.hop≤65535
     ·rw[if_pos hh] at hf;exact absurd rfl hf
     ·rw[if_neg hh]
      exact Or.inr (Or.inl ⟨hb,by omega,rfl,rfl⟩)
    ·rw[if_neg hb]
     exact Or.inl ⟨hb,rfl,rfl⟩
   ·rw[if_neg h1] at hf ⊢
    by_cases h2:o.code=2
    ·rw[if_pos h2] at hf ⊢
     right;left
     rw[←bad_pref] at hf ⊢
     exact⟨h2,Or.inl ⟨hf,rfl,rfl⟩⟩
    ·rw[if_neg h2] at hf ⊢
     by_cases h3:o.code=3
     ·rw[if_pos h3] at hf ⊢
      right;right;left
      refine⟨h3,rfl,?_⟩
      unfold addrFault at hf ⊢
      by_cases e1:famBytes o.family=0
      ·rw[if_pos e1]
       exact Or.inl ⟨e1,rfl⟩
      ·rw[if_neg e1] at hf ⊢
       by_cases e2:o.bits.size=famBytes o.family
       ·rw[if_pos e2] at hf;exact absurd rfl hf
       ·rw[if_neg e2]
        exact Or.inr (Or.inl ⟨e1,e2,rfl⟩)
     ·rw[if_neg h3] at hf ⊢
      by_cases h4:o.code=4
      ·rw[if_pos h4] at hf;exact absurd rfl hf
      ·rw[if_neg h4]
       right;right;right;right
       exact⟨by omega,rfl,rfl⟩
theorem ref_ok {S:St} (h:S.ok):(refOf S).ok:=by
 have key:∀f:Int,famBytes f≠0→∀r∈tellL S f,0≤r.len∧r.len≤8*famBytes f∧r.bits.size=famBytes f:=by
  intro f hf r hr
  unfold tellL at hr
  obtain⟨y,hy,rfl⟩:=List.mem_map.1 hr
  have:=(tell_in h hf y hy).1
  refine⟨?_,?_,keyS_size _ _⟩
  ·show (0:Int)≤(y.1:Int);omega
  ·show (y.1:Int)≤_;omega
 exact⟨key 4 (by decide),key 6 (by decide)⟩
theorem ref_small {S:St} (h:S.ok):(refOf S).small:=by
 have h4:=tell_le h 4
 have h6:=tell_le h 6
 exact⟨show (tellL S 4).length≤_ by omega,show (tellL S 6).length≤_ by omega⟩
def longR (l:List RouteD):Nat:=(l.filter fun r=>decide (7<r.len)).length
theorem flat_long {f g:Nat→List (Nat × Nat × Nat)} {p:Nat × Nat × Nat→Bool} (h:∀b,((f b).filter p).length≤(g b).length):∀n,(((List.range n).flatMap f).filter p).length≤sumTo n fun b=>(g b).length
 | 0=>by simp
 | n+1=>by
  rw[List.range_succ,List.flatMap_append,List.filter_append,List.length_append]
  have:=flat_long h n
  have h1:=h n
  simp only[List.flatMap_cons,List.flatMap_nil,List.append_nil]
  rw[sumTo]
  omega
theorem long_dump (M:Tab) (dm:Nat):((dumpR M dm).filter fun x=>decide (7<x.1)).length≤sumTo 256 (fun b=>(if anyBelow M 8 b=true then dumpN M dm 8 b else []).length):=by
 unfold dumpR
 refine flat_long (fun b=>?_) 256
 rw[List.filter_append,List.length_append]
 have h0:(begins M 8 0 0 b).filter (fun x=>decide (7<x.1))=[]:=by
  rw[List.filter_eq_nil_iff]
  intro x hx
  obtain⟨fu,h1,_,h2,_⟩:=mem_begins.1 hx
  simp
  omega
 rw[h0]
 have:=List.length_filter_le (fun x:Nat × Nat × Nat=>decide (7<x.1)) (if anyBelow M 8 b=true then dumpN M dm 8 b else [])
 simpa using this
theorem long_tell (S:St) (f:Int):longR (tellL S f)=((dumpR (S.M (fam f)) (dp (fam f))).filter fun x=>decide (7<x.1)).length:=by
 unfold longR tellL
 rw[List.filter_map,List.length_map]
 congr 1
 apply List.filter_congr
 intro y _
 show decide (7<(y.1:Int))=decide (7<y.1)
 rw[decide_eq_decide]
 omega
theorem free_within {S:St} (h:S.ok):(S.A.size:Int)-1280-64*((refOf S).count:Int)≤S.A.free∧S.A.free≤(S.A.size:Int)-(longR (refOf S).fours+longR (refOf S).sixes:Nat)∧0≤S.A.free:=by
 have h1:=free_least h
 have hcount:(refOf S).count=count2 S.M:=tell_count S
 obtain⟨F,hI⟩:=h.inv
 have hfree:=hI.free
 have a1:=long_cost (hI.root false)
 have a2:=long_cost (hI.root true)
 have b1:=long_dump (S.M false) (dp false)
 have b2:=long_dump (S.M true) (dp true)
 have c1:longR (refOf S).fours=_:=long_tell S 4
 have c2:longR (refOf S).sixes=_:=long_tell S 6
 rw[show fam 4=false by decide] at c1
 rw[show fam 6=true by decide] at c2
 rw[hcount,c1,c2]
 exact⟨h1,by omega,hI.pos.1⟩
theorem free_empty {S:St} (h:S.ok) (h0:(refOf S).count=0) (n1:2048≤S.A.size) (n2:S.A.size≤65536):S.A.free=(St.new S.A.size).A.free:=by
 have hM:S.M=(St.new S.A.size).M:=by
  show S.M=noTab
  have hc:(refOf S).count=count2 S.M:=tell_count S
  rw[hc] at h0
  unfold count2 at h0
  funext q
  have hl:dumpR (S.M q) (dp q)=[]:=by
   apply List.eq_nil_of_length_eq_zero
   cases q <;> omega
  funext l v
  cases hm:S.M q l v with
  | none=>rfl
  | some x =>
   have:=(mem_dumpR (h.tab q) (dp_le q) (l,v,x)).2 hm
   rw[hl] at this
   cases this
 exact free_eq h (new_ok n1 n2) hM rfl
end Go.Proofs.YtnapboelfimaaaaGreatDoor
namespace Go.Proofs.YtnapboelfimaaaaGreatDoor
open Go.RowKit Go.Deep
def rep (mk:List Value) (n:Nat):List Value:=(List.replicate n mk).flatten
theorem rep_len (mk:List Value) (n:Nat):(rep mk n).length=n*mk.length:=by simp[rep]
theorem rep_get (mk:List Value) (n k j:Nat) (hk:k<n) (hj:j<mk.length):(rep mk n)[k*mk.length+j]?=mk[j]?:=by
 unfold rep
 induction n generalizing k with
 | zero=>omega
 | succ n ih =>
  rw[List.replicate_succ,List.flatten_cons]
  cases k with
  | zero=>rw[Nat.zero_mul,Nat.zero_add,List.getElem?_append_left hj]
  | succ k =>
   rw[List.getElem?_append_right (by rw[Nat.succ_mul];omega),show (k+1)*mk.length+j-mk.length=k*mk.length+j by rw[Nat.succ_mul];omega]
   exact ih k (by omega)
theorem rep_snoc (mk:List Value) (n:Nat):rep mk (n+1)=rep mk n++mk:=by
 unfold rep
 rw[List.replicate_succ',List.flatten_append]
 simp
def markA (n:Int):List Value:=[.int .i64 0,.int .i64 n,.int .i64 0]
def markR (n:Int):List Value:=[.string .empty,.int .i64 0,.int .i64 n]
def markO (n:Int):List Value:=[.int .i64 0,.int .i64 0,.string .empty,.int .i64 0,.int .i64 n]
structure HoldD where
 hb:Nat
 mark:Int
 a1:Option Addr
 l1:Nat
 c1:Nat
 a2:Option Addr
 l2:Nat
 c2:Nat
 a3:Option Addr
 l3:Nat
 c3:Nat
def HoldD.cells (h:HoldD):Array Value:=#[.slice h.a1 h.l1 h.c1,.slice h.a2 h.l2 h.c2,.slice h.a3 h.l3 h.c3,.int .i64 h.mark]
def HoldD.small (h:HoldD):Prop:=0≤h.mark∧h.mark≤100000000000000∧h.l1≤2932031007402∧h.l2≤2932031007402∧h.l3≤2932031007402
def HoldOk (w:World) (h:HoldD):Prop :=
 h.small∧w.heap[h.hb]?=some (.cells h.cells 63 (0,0))∧w.ownsRow 0 59 3 (.slice h.a1 h.l1 h.c1) h.l1 (rep (markA (-h.mark)) h.l1)∧w.ownsRow 0 66 3 (.slice h.a2 h.l2 h.c2) h.l2 (rep (markR (-h.mark)) h.l2)∧w.ownsRow 0 27 5 (.slice h.a3 h.l3 h.c3) h.l3 (rep (markO (-h.mark)) h.l3)
theorem mark_cells3 {w:World} {t:TypeId} {ao:Option Addr} {n cap k:Nat} {x y z:Value} (h:w.ownsRow 0 t 3 (.slice ao n cap) n (rep [x,y,z] n)) (hk:k<n):∃g,ao=some ⟨g,0,none⟩∧w.cell? ⟨g,k*3,none⟩=some x∧w.cell? ⟨g,k*3+1,none⟩=some y∧w.cell? ⟨g,k*3+2,none⟩=some z:=by
 rcases h.2 with ⟨e,e0⟩ | ⟨g,cp,cur,e,hb,hh,r⟩
 ·omega
 ·cases e
  have c:=fun j (hj:j<3)=>(h.cellAt (k*3+j) (by omega)).trans (rep_get [x,y,z] n k j hk hj)
  exact⟨g,rfl,c 0 (by omega),c 1 (by omega),c 2 (by omega)⟩
theorem mark_cells5 {w:World} {t:TypeId} {ao:Option Addr} {n cap k:Nat} {x y z u v:Value} (h:w.ownsRow 0 t 5 (.slice ao n cap) n (rep [x,y,z,u,v] n)) (hk:k<n):∃g,ao=some ⟨g,0,none⟩∧w.cell? ⟨g,k*5,none⟩=some x∧w.cell? ⟨g,k*5+1,none⟩=some y∧w.cell? ⟨g,k*5+2,none⟩=some z∧w.cell? ⟨g,k*5+3,none⟩=some u∧w.cell? ⟨g,k*5+4,none⟩=some v:=by
 rcases h.2 with ⟨e,e0⟩ | ⟨g,cp,cur,e,hb,hh,r⟩
 ·omega
 ·cases e
  have c:=fun j (hj:j<5)=>(h.cellAt (k*5+j) (by omega)).trans (rep_get [x,y,z,u,v] n k j hk hj)
  exact⟨g,rfl,c 0 (by omega),c 1 (by omega),c 2 (by omega),c 3 (by omega),c 4 (by omega)⟩
set_option maxHeartbeats 1000000 in
set_option maxRecDepth 10000 in
theorem marked_ok (h:HoldD) (w:World) (hh:HoldOk w h):Calls Tryz.prog 16 #[.pointer (some ⟨h.hb,0,none⟩)] w fun e w'=>e=.returned (.bool true)∧w'=w:=by
 obtain⟨⟨s0,s1,s2,s3,s4⟩,hb,h1,h2,h3⟩:=hh
 have k0:=cell_at hb 0
 have k1:=cell_at hb 1
 have k2:=cell_at hb 2
 have k3:=cell_at hb 3
 simp[HoldD.cells] at k0 k1 k2 k3
 have H1:=hide h1
 have H2:=hide h2
 have H3:=hide h3
 clear hb h1 h2 h3
 go_enter Tryz.func16,Tryz.ntmps16
 go_wp2
 go_loop [4,5] (fun t i=>∃k:Nat,k≤h.l1∧i=.int .i64 k∧t=.bool true) (fun _ i=>h.l1-(intOf i).toNat)
 case atStart=>exact⟨0,Nat.zero_le _,rfl,rfl⟩
 case round =>
  obtain⟨k,hk,rfl,rfl⟩:=hrel
  by_cases hkl:k<h.l1
  ·obtain⟨g,hg,c0,c1,c2⟩:=mark_cells3 H1.out hkl
   rw[hg] at k0
   clear hg
   go_wp2
   go_round
   case rel=>exact⟨k+1,by omega,by go_num,by first | rfl | simp⟩
   case measure=>simp[intOf];omega
  ·go_wp2
   go_loop [4,6] (fun t i=>∃k:Nat,k≤h.l2∧i=.int .i64 k∧t=.bool true) (fun _ i=>h.l2-(intOf i).toNat)
   case atStart=>exact⟨0,Nat.zero_le _,rfl,rfl⟩
   case round =>
    obtain⟨k2',hk2,rfl,rfl⟩:=hrel
    by_cases hkl2:k2'<h.l2
    ·obtain⟨g,hg,c0,c1,c2⟩:=mark_cells3 H2.out hkl2
     rw[hg] at k1
     clear hg
     go_wp2
     go_round
     case rel=>exact⟨k2'+1,by omega,by go_num,by first | rfl | simp⟩
     case measure=>simp[intOf];omega
    ·go_wp2
     go_loop [4,7] (fun t i=>∃k:Nat,k≤h.l3∧i=.int .i64 k∧t=.bool true) (fun _ i=>h.l3-(intOf i).toNat)
     case atStart=>exact⟨0,Nat.zero_le _,rfl,rfl⟩
     case round =>
      obtain⟨k3',hk3,rfl,rfl⟩:=hrel
      by_cases hkl3:k3'<h.l3
      ·obtain⟨g,hg,c0,c1,c2,c3,c4⟩:=mark_cells5 H3.out hkl3
       rw[hg] at k2
       clear hg
       go_wp2
       go_round
       case rel=>exact⟨k3'+1,by omega,by go_num,by first | rfl | simp⟩
       case measure=>simp[intOf];omega
      ·go_wp2
       go_ret
       exact⟨rfl,rfl⟩
end Go.Proofs.YtnapboelfimaaaaGreatDoor
namespace Go.Proofs.YtnapboelfimaaaaGreatDoor
open Go.RowKit Go.Deep
def mpart (mk:List Value) (xs:List Value) (k:Nat):List Value:=rep mk k++xs.drop (k*mk.length)
theorem mpart_zero (mk xs:List Value):mpart mk xs 0=xs:=by simp[mpart,rep]
theorem mpart_all (mk xs:List Value) (n:Nat) (h:xs.length=n*mk.length):mpart mk xs n=rep mk n:=by
 unfold mpart
 rw[List.drop_of_length_le (by omega),List.append_nil]
theorem mpart_step3 (x y z:Value) (xs:List Value) (k n:Nat) (h:xs.length=n*3) (hk:k<n):(((mpart [x,y,z] xs k).set (k*3) x).set (k*3+1) y).set (k*3+2) z=mpart [x,y,z] xs (k+1):=by
 unfold mpart
 rw[rep_snoc]
 have hl:(rep [x,y,z] k).length=k*3:=rep_len _ _
 have hd:xs.drop (k*3)=xs[k*3]'(by omega) :: xs[k*3+1]'(by omega) :: xs[k*3+2]'(by omega) :: xs.drop ((k+1)*3):=by
  rw[List.drop_eq_getElem_cons (by omega),List.drop_eq_getElem_cons (by omega),List.drop_eq_getElem_cons (by omega),show k*3+1+1+1=(k+1)*3 by omega]
 show (((rep [x,y,z] k++xs.drop (k*3)).set (k*3) x).set (k*3+1) y).set (k*3+2) z=_
 rw[hd,List.set_append_right _ _ (by omega),List.set_append_right _ _ (by omega),List.set_append_right _ _ (by omega),hl]
 simp
theorem mpart_step5 (x y z u v:Value) (xs:List Value) (k n:Nat) (h:xs.length=n*5) (hk:k<n):(((((mpart [x,y,z,u,v] xs k).set (k*5) x).set (k*5+1) y).set (k*5+2) z).set (k*5+3) u).set (k*5+4) v=mpart [x,y,z,u,v] xs (k+1):=by
 unfold mpart
 rw[rep_snoc]
 have hl:(rep [x,y,z,u,v] k).length=k*5:=rep_len _ _
 have hd:xs.drop (k*5)=xs[k*5]'(by omega) :: xs[k*5+1]'(by omega) :: xs[k*5+2]'(by omega) :: xs[k*5+3]'(by omega) :: xs[k*5+4]'(by omega) :: xs.drop ((k+1)*5):=by
  rw[List.drop_eq_getElem_cons (by omega),List.drop_eq_getElem_cons (by omega),List.drop_eq_getElem_cons (by omega),List.drop_eq_getElem_cons (by omega),List.drop_eq_getElem_cons (by omega),show k*5+1+1+1+1+1=(k+1)*5 by omega]
 show (((((rep [x,y,z,u,v] k++xs.drop (k*5)).set (k*5) x).set (k*5+1) y).set (k*5+2) z).set (k*5+3) u).set (k*5+4) v=_
 rw[hd,List.set_append_right _ _ (by omega),List.set_append_right _ _ (by omega),List.set_append_right _ _ (by omega),List.set_append_right _ _ (by omega),List.set_append_right _ _ (by omega),hl]
 simp
def bls:Option Addr→List Nat
 | some a=>[a.block]
 | none=>[]
theorem not_bls {w:World} {base e size n m cap k:Nat} {ao:Option Addr} {xs:List Value} {c:Array Value} {t:TypeId} {fz:Nat × Nat} (h:w.ownsRow base e size (.slice ao m cap) n xs) (hk:w.heap[k]?=some (.cells c t fz)) (hne:t≠e):k ∉ bls ao:=by
 rcases h.2 with ⟨e1,_⟩ | ⟨g,cp,cur,e1,_,hh,_⟩
 ·cases e1;simp[bls]
 ·cases e1
  simp only[bls,List.mem_singleton]
  rintro rfl
  rw[hh] at hk
  simp at hk
  exact hne hk.2.1.symm
theorem owns_frh {w w':World} {base e size n:Nat} {v:Value} {xs:List Value} {S:List Nat} (h:w.ownsRow base e size v n xs) (hf:Fr S w w') (hn:∀g c,w.heap[g]?=some (.cells c e (0,0))→g ∉ S):w'.ownsRow base e size v n xs:=by
 refine⟨h.1,?_⟩
 rcases h.2 with h0 | ⟨g,cp,cur,e1,hb,hh,r⟩
 ·exact .inl h0
 ·exact .inr ⟨g,cp,cur,e1,hb,hf.at hh (hn g cur hh),r⟩
theorem mark_store3 {w:World} {t g n cap k:Nat} {x y z:Value} {xs:List Value} (hx:xs.length=n*3) (hk:k<n) (h:w.ownsRow 0 t 3 (.slice (some ⟨g,0,none⟩) n cap) n (mpart [x,y,z] xs k)) :
  (((w.setCell ⟨g,k*3,none⟩ x).setCell ⟨g,k*3+1,none⟩ y).setCell ⟨g,k*3+2,none⟩ z).ownsRow 0 t 3 (.slice (some ⟨g,0,none⟩) n cap) n (mpart [x,y,z] xs (k+1)):=by
 have h3:=(((h.stored (k*3) x).1.stored (k*3+1) y).1.stored (k*3+2) z).1
 rw[mpart_step3 x y z xs k n hx hk] at h3
 exact h3
theorem mark_store5 {w:World} {t g n cap k:Nat} {x y z u v:Value} {xs:List Value} (hx:xs.length=n*5) (hk:k<n) (h:w.ownsRow 0 t 5 (.slice (some ⟨g,0,none⟩) n cap) n (mpart [x,y,z,u,v] xs k)) :
  (((((w.setCell ⟨g,k*5,none⟩ x).setCell ⟨g,k*5+1,none⟩ y).setCell ⟨g,k*5+2,none⟩ z).setCell ⟨g,k*5+3,none⟩ u).setCell ⟨g,k*5+4,none⟩ v).ownsRow 0 t 5 (.slice (some ⟨g,0,none⟩) n cap) n (mpart [x,y,z,u,v] xs (k+1)):=by
 have h3:=(((((h.stored (k*5) x).1.stored (k*5+1) y).1.stored (k*5+2) z).1.stored (k*5+3) u).1.stored (k*5+4) v).1
 rw[mpart_step5 x y z u v xs k n hx hk] at h3
 exact h3
theorem mpart_cell {w:World} {t g n cap size j:Nat} {xs:List Value} (h:w.ownsRow 0 t size (.slice (some ⟨g,0,none⟩) n cap) n xs) (hj:j<n*size):∃v,w.cell? ⟨g,j,none⟩=some v:=by
 rw[h.cellAt j hj]
 exact⟨_,List.getElem?_eq_getElem (by rw[h.1];exact hj)⟩
theorem owns_other_row {w:World} {b1 e1 s1 n1 b2 e2 s2 m g cap:Nat} {v:Value} {xs ys:List Value} (h:w.ownsRow b1 e1 s1 v n1 xs) (h2:w.ownsRow b2 e2 s2 (.slice (some ⟨g,0,none⟩) m cap) m ys) (hne:e2≠e1) (j:Nat) (u:Value):(w.setCell ⟨g,j,none⟩ u).ownsRow b1 e1 s1 v n1 xs:=by
 rcases h2.2 with ⟨e,_⟩ | ⟨g',cp,cur,e,_,hh,_⟩
 ·cases e
 ·cases e
  exact owns_other h hh hne
theorem owns_other3 {w:World} {b1 e1 s1 n1 b2 e2 s2 m g cap i j k:Nat} {v x y z:Value} {xs ys:List Value} (h:w.ownsRow b1 e1 s1 v n1 xs) (h2:w.ownsRow b2 e2 s2 (.slice (some ⟨g,0,none⟩) m cap) m ys) (hne:e2≠e1):(((w.setCell ⟨g,i,none⟩ x).setCell ⟨g,j,none⟩ y).setCell ⟨g,k,none⟩ z).ownsRow b1 e1 s1 v n1 xs :=
 owns_other_row (owns_other_row (owns_other_row h h2 hne i x) (h2.stored i x).1 hne j y) ((h2.stored i x).1.stored j y).1 hne k z
theorem owns_other5 {w:World} {b1 e1 s1 n1 b2 e2 s2 m g cap i j k l o:Nat} {v x y z p q:Value} {xs ys:List Value} (h:w.ownsRow b1 e1 s1 v n1 xs) (h2:w.ownsRow b2 e2 s2 (.slice (some ⟨g,0,none⟩) m cap) m ys) (hne:e2≠e1):(((((w.setCell ⟨g,i,none⟩ x).setCell ⟨g,j,none⟩ y).setCell ⟨g,k,none⟩ z).setCell ⟨g,l,none⟩ p).setCell ⟨g,o,none⟩ q).ownsRow b1 e1 s1 v n1 xs :=
 owns_other_row (owns_other_row (owns_other3 h h2 hne) (((h2.stored i x).1.stored j y).1.stored k z).1 hne l p) ((((h2.stored i x).1.stored j y).1.stored k z).1.stored l p).1 hne o q
theorem Fr.set3 {S:List Nat} {a w:World} {g i j k:Nat} {x y z:Value} (h:Fr S a w) (hg:g∈S∨a.heap.size≤g):Fr S a (((w.setCell ⟨g,i,none⟩ x).setCell ⟨g,j,none⟩ y).setCell ⟨g,k,none⟩ z):=((h.setCell hg x).setCell hg y).setCell hg z
set_option maxHeartbeats 1000000 in
set_option maxRecDepth 10000 in
theorem marks_any (h:HoldD) (w:World) (hs:h.small) (hb:w.heap[h.hb]?=some (.cells h.cells 63 (0,0))) (x1 x2 x3:List Value)
  (h1:w.ownsRow 0 59 3 (.slice h.a1 h.l1 h.c1) h.l1 x1) (h2:w.ownsRow 0 66 3 (.slice h.a2 h.l2 h.c2) h.l2 x2) (h3:w.ownsRow 0 27 5 (.slice h.a3 h.l3 h.c3) h.l3 x3) :
  Calls Tryz.prog 33 #[.pointer (some ⟨h.hb,0,none⟩)] w fun e w'=>e=.returned (.tuple #[])∧HoldOk w' h∧Fr (bls h.a1++bls h.a2++bls h.a3) w w':=by
 have HS:=hide hs
 obtain⟨s0,s1,s2,s3,s4⟩:=hs
 have k0:=cell_at hb 0
 have k1:=cell_at hb 1
 have k2:=cell_at hb 2
 have k3:=cell_at hb 3
 simp[HoldD.cells] at k0 k1 k2 k3
 have H1:=hide h1
 have H2:=hide h2
 have H3:=hide h3
 have HB:=hide hb
 have n1:=not_bls h1 hb (by decide)
 have n2:=not_bls h2 hb (by decide)
 have n3:=not_bls h3 hb (by decide)
 have N1:=hide n1
 have N2:=hide n2
 have N3:=hide n3
 clear hb h1 h2 h3 n1 n2 n3
 go_enter Tryz.func33,Tryz.ntmps33
 go_wp2
 go_loopw [3] (fun i wr=>∃k:Nat,k≤h.l1∧i=.int .i64 k∧wr.ownsRow 0 59 3 (.slice h.a1 h.l1 h.c1) h.l1 (mpart (markA (-h.mark)) x1 k)∧Fr (bls h.a1) w wr) (fun i _=>h.l1-(intOf i).toNat)
 case atStart=>exact⟨0,Nat.zero_le _,rfl,by rw[mpart_zero];exact H1.out,Fr.refl _ _⟩
 case round =>
  obtain⟨k,hk,rfl,hown,hfr⟩:=hrel
  have hbr:=hfr.at HB.out N1.out
  have q0:=cell_at hbr 0
  have q1:=cell_at hbr 1
  have q2:=cell_at hbr 2
  have q3:=cell_at hbr 3
  simp[HoldD.cells] at q0 q1 q2 q3
  clear hbr
  by_cases hkl:k<h.l1
  ·obtain⟨g,hg⟩:∃g,h.a1=some ⟨g,0,none⟩:=by
    rcases hown.2 with ⟨e,e0⟩ | ⟨g,cp,cur,e,_⟩
    ·omega
    ·simp only[Value.slice.injEq] at e
     exact⟨g,e.1⟩
   rw[hg] at q0 hown
   obtain⟨v0,c0⟩:=mpart_cell hown (j:=k*3) (by omega)
   obtain⟨v1,c1⟩:=mpart_cell hown (j:=k*3+1) (by omega)
   obtain⟨v2,c2⟩:=mpart_cell hown (j:=k*3+2) (by omega)
   have f0:=hown.frozenAt (k*3)
   have f1:=hown.frozenAt (k*3+1)
   have f2:=hown.frozenAt (k*3+2)
   have HO:=hide (show (((wr.setCell ⟨g,k*3,none⟩ (.int .i64 0)).setCell ⟨g,k*3+1,none⟩ (.int .i64 (-h.mark))).setCell ⟨g,k*3+2,none⟩ (.int .i64 0)).ownsRow 0 59 3 (.slice h.a1 h.l1 h.c1) h.l1 (mpart (markA (-h.mark)) x1 (k+1)) by rw[hg];exact mark_store3 H1.out.1 hkl hown)
   have HF:=hide (show Fr (bls h.a1) w (((wr.setCell ⟨g,k*3,none⟩ (.int .i64 0)).setCell ⟨g,k*3+1,none⟩ (.int .i64 (-h.mark))).setCell ⟨g,k*3+2,none⟩ (.int .i64 0)) from hfr.set3 (.inl (by rw[hg];simp[bls])))
   clear hg hown hfr
   go_wp2
   go_roundw
   case rel=>exact⟨k+1,by omega,by go_num,HO.out,HF.out⟩
   case measure=>simp[intOf];omega
  ·have HO1:=hide (show wr.ownsRow 0 59 3 (.slice h.a1 h.l1 h.c1) h.l1 (rep (markA (-h.mark)) h.l1) by
    have e:k=h.l1:=by omega
    rw[e,mpart_all _ _ _ H1.out.1] at hown
    exact hown)
   have HF1:=hide hfr
   have HO2:=hide (owns_frh H2.out hfr (fun g c hg=>not_bls H1.out hg (by decide)))
   have HO3:=hide (owns_frh H3.out hfr (fun g c hg=>not_bls H1.out hg (by decide)))
   have HBr:=hide (hfr.at HB.out N1.out)
   clear hown hfr
   obtain⟨w1,hw1⟩:∃w1:World,w1=wr:=⟨_,rfl⟩
   subst hw1
   go_wp2
   go_loopw [4] (fun i wr=>∃k:Nat,k≤h.l2∧i=.int .i64 k∧wr.ownsRow 0 66 3 (.slice h.a2 h.l2 h.c2) h.l2 (mpart (markR (-h.mark)) x2 k)∧wr.ownsRow 0 59 3 (.slice h.a1 h.l1 h.c1) h.l1 (rep (markA (-h.mark)) h.l1)∧Fr (bls h.a2) w1 wr) (fun i _=>h.l2-(intOf i).toNat)
   case atStart=>exact⟨0,Nat.zero_le _,rfl,by rw[mpart_zero];exact HO2.out,HO1.out,Fr.refl _ _⟩
   case round =>
    obtain⟨k2',hk2,rfl,hown,ho1,hfr⟩:=hrel
    have hbr:=hfr.at HBr.out N2.out
    have q0:=cell_at hbr 0
    have q1:=cell_at hbr 1
    have q2:=cell_at hbr 2
    have q3:=cell_at hbr 3
    simp[HoldD.cells] at q0 q1 q2 q3
    clear hbr
    by_cases hkl2:k2'<h.l2
    ·obtain⟨g,hg⟩:∃g,h.a2=some ⟨g,0,none⟩:=by
      rcases hown.2 with ⟨e,e0⟩ | ⟨g,cp,cur,e,_⟩
      ·omega
      ·simp only[Value.slice.injEq] at e
       exact⟨g,e.1⟩
     rw[hg] at q1 hown
     obtain⟨v0,c0⟩:=mpart_cell hown (j:=k2'*3) (by omega)
     obtain⟨v1,c1⟩:=mpart_cell hown (j:=k2'*3+1) (by omega)
     obtain⟨v2,c2⟩:=mpart_cell hown (j:=k2'*3+2) (by omega)
     have f0:=hown.frozenAt (k2'*3)
     have f1:=hown.frozenAt (k2'*3+1)
     have f2:=hown.frozenAt (k2'*3+2)
     have HO:=hide (show (((wr.setCell ⟨g,k2'*3,none⟩ (.string .empty)).setCell ⟨g,k2'*3+1,none⟩ (.int .i64 0)).setCell ⟨g,k2'*3+2,none⟩ (.int .i64 (-h.mark))).ownsRow 0 66 3 (.slice h.a2 h.l2 h.c2) h.l2 (mpart (markR (-h.mark)) x2 (k2'+1)) by rw[hg];exact mark_store3 H2.out.1 hkl2 hown)
     have HP:=hide (show (((wr.setCell ⟨g,k2'*3,none⟩ (.string .empty)).setCell ⟨g,k2'*3+1,none⟩ (.int .i64 0)).setCell ⟨g,k2'*3+2,none⟩ (.int .i64 (-h.mark))).ownsRow 0 59 3 (.slice h.a1 h.l1 h.c1) h.l1 (rep (markA (-h.mark)) h.l1) from owns_other3 ho1 hown (by decide))
     have HF:=hide (show Fr (bls h.a2) w1 (((wr.setCell ⟨g,k2'*3,none⟩ (.string .empty)).setCell ⟨g,k2'*3+1,none⟩ (.int .i64 0)).setCell ⟨g,k2'*3+2,none⟩ (.int .i64 (-h.mark))) from hfr.set3 (.inl (by rw[hg];simp[bls])))
     clear hg hown hfr ho1
     go_wp2
     go_roundw
     case rel=>exact⟨k2'+1,by omega,by go_num,HO.out,HP.out,HF.out⟩
     case measure=>simp[intOf];omega
    ·have HP2:=hide (show wr.ownsRow 0 66 3 (.slice h.a2 h.l2 h.c2) h.l2 (rep (markR (-h.mark)) h.l2) by
      have e:k2'=h.l2:=by omega
      rw[e,mpart_all _ _ _ H2.out.1] at hown
      exact hown)
     have HP1:=hide ho1
     have HF2:=hide hfr
     have HP3:=hide (owns_frh HO3.out hfr (fun g c hg=>not_bls HO2.out hg (by decide)))
     have HBr2:=hide (hfr.at HBr.out N2.out)
     clear hown hfr ho1
     obtain⟨w2,hw2⟩:∃w2:World,w2=wr:=⟨_,rfl⟩
     subst hw2
     go_wp2
     go_loopw [5] (fun i wr=>∃k:Nat,k≤h.l3∧i=.int .i64 k∧wr.ownsRow 0 27 5 (.slice h.a3 h.l3 h.c3) h.l3 (mpart (markO (-h.mark)) x3 k)∧wr.ownsRow 0 59 3 (.slice h.a1 h.l1 h.c1) h.l1 (rep (markA (-h.mark)) h.l1)∧wr.ownsRow 0 66 3 (.slice h.a2 h.l2 h.c2) h.l2 (rep (markR (-h.mark)) h.l2)∧Fr (bls h.a3) w2 wr) (fun i _=>h.l3-(intOf i).toNat)
     case atStart=>exact⟨0,Nat.zero_le _,rfl,by rw[mpart_zero];exact HP3.out,HP1.out,HP2.out,Fr.refl _ _⟩
     case round =>
      obtain⟨k3',hk3,rfl,hown,ho1,ho2,hfr⟩:=hrel
      have hbr:=hfr.at HBr2.out N3.out
      have q0:=cell_at hbr 0
      have q1:=cell_at hbr 1
      have q2:=cell_at hbr 2
      have q3:=cell_at hbr 3
      simp[HoldD.cells] at q0 q1 q2 q3
      by_cases hkl3:k3'<h.l3
      ·obtain⟨g,hg⟩:∃g,h.a3=some ⟨g,0,none⟩:=by
        rcases hown.2 with ⟨e,e0⟩ | ⟨g,cp,cur,e,_⟩
        ·omega
        ·simp only[Value.slice.injEq] at e
         exact⟨g,e.1⟩
       rw[hg] at q2 hown
       obtain⟨v0,c0⟩:=mpart_cell hown (j:=k3'*5) (by omega)
       obtain⟨v1,c1⟩:=mpart_cell hown (j:=k3'*5+1) (by omega)
       obtain⟨v2,c2⟩:=mpart_cell hown (j:=k3'*5+2) (by omega)
       obtain⟨v3,c3⟩:=mpart_cell hown (j:=k3'*5+3) (by omega)
       obtain⟨v4,c4⟩:=mpart_cell hown (j:=k3'*5+4) (by omega)
       have f0:=hown.frozenAt (k3'*5)
       have f1:=hown.frozenAt (k3'*5+1)
       have f2:=hown.frozenAt (k3'*5+2)
       have f3:=hown.frozenAt (k3'*5+3)
       have f4:=hown.frozenAt (k3'*5+4)
       have HO:=hide (show (((((wr.setCell ⟨g,k3'*5,none⟩ (.int .i64 0)).setCell ⟨g,k3'*5+1,none⟩ (.int .i64 0)).setCell ⟨g,k3'*5+2,none⟩ (.string .empty)).setCell ⟨g,k3'*5+3,none⟩ (.int .i64 0)).setCell ⟨g,k3'*5+4,none⟩ (.int .i64 (-h.mark))).ownsRow 0 27 5 (.slice h.a3 h.l3 h.c3) h.l3 (mpart (markO (-h.mark)) x3 (k3'+1)) by rw[hg];exact mark_store5 H3.out.1 hkl3 hown)
       have HQ1:=hide (show (((((wr.setCell ⟨g,k3'*5,none⟩ (.int .i64 0)).setCell ⟨g,k3'*5+1,none⟩ (.int .i64 0)).setCell ⟨g,k3'*5+2,none⟩ (.string .empty)).setCell ⟨g,k3'*5+3,none⟩ (.int .i64 0)).setCell ⟨g,k3'*5+4,none⟩ (.int .i64 (-h.mark))).ownsRow 0 59 3 (.slice h.a1 h.l1 h.c1) h.l1 (rep (markA (-h.mark)) h.l1) from owns_other5 ho1 hown (by decide))
       have HQ2:=hide (show (((((wr.setCell ⟨g,k3'*5,none⟩ (.int .i64 0)).setCell ⟨g,k3'*5+1,none⟩ (.int .i64 0)).setCell ⟨g,k3'*5+2,none⟩ (.string .empty)).setCell ⟨g,k3'*5+3,none⟩ (.int .i64 0)).setCell ⟨g,k3'*5+4,none⟩ (.int .i64 (-h.mark))).ownsRow 0 66 3 (.slice h.a2 h.l2 h.c2) h.l2 (rep (markR (-h.mark)) h.l2) from owns_other5 ho2 hown (by decide))
       have HF:=hide (show Fr (bls h.a3) w2 (((((wr.setCell ⟨g,k3'*5,none⟩ (.int .i64 0)).setCell ⟨g,k3'*5+1,none⟩ (.int .i64 0)).setCell ⟨g,k3'*5+2,none⟩ (.string .empty)).setCell ⟨g,k3'*5+3,none⟩ (.int .i64 0)).setCell ⟨g,k3'*5+4,none⟩ (.int .i64 (-h.mark))) from ((hfr.set3 (.inl (by rw[hg];simp[bls]))).setCell (.inl (by rw[hg];simp[bls])) _).setCell (.inl (by rw[hg];simp[bls])) _)
       clear hg hown hfr ho1 ho2 hbr
       go_wp2
       go_roundw
       case rel=>exact⟨k3'+1,by omega,by go_num,HO.out,HQ1.out,HQ2.out,HF.out⟩
       case measure=>simp[intOf];omega
      ·have HH:=hide (show HoldOk wr h from by
        have e:k3'=h.l3:=by omega
        rw[e,mpart_all _ _ _ H3.out.1] at hown
        exact⟨HS.out,hbr,ho1,ho2,hown⟩)
       have HFF:=hide (show Fr (bls h.a1++bls h.a2++bls h.a3) w wr from ((HF1.out.mono (fun k hk _=>by simp[hk])).trans (HF2.out.mono (fun k hk _=>by simp[hk]))).trans (hfr.mono (fun k hk _=>by simp[hk])))
       clear hown hfr ho1 ho2 hbr
       go_wp2
       go_end0
       exact⟨rfl,HH.out,HFF.out⟩
end Go.Proofs.YtnapboelfimaaaaGreatDoor
