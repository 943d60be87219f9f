/- MathX, MathY, MathZ, Mach: parts of the proof, one behind the other. -/
import Derived.Test.YtnapboelfimaaaaGreatDoorB06
import Derived.Test.YtnapboelfimaaaaGreatDoorB08
namespace Go.Proofs.YtnapboelfimaaaaGreatDoor
def begins (M:Tab) (count len u value:Nat):List (Nat × Nat × Nat) :=
 (List.range count).filterMap fun fu=>if value%2^(count-fu)=0 then (M (len+fu) (u*2^fu+value/2^(count-fu))).map fun h=>(len+fu,u*2^fu+value/2^(count-fu),h) else none
def dumpN (M:Tab):Nat→Nat→Nat→List (Nat × Nat × Nat)
 | 0,len,u=>(List.range 16).flatMap fun f=>begins M 4 len u f
 | d+1,len,u=>(List.range 16).flatMap fun f=>begins M 4 len u f++(if anyBelow M (len+4) (16*u+f) then dumpN M d (len+4) (16*u+f) else [])
def dumpR (M:Tab) (dm:Nat):List (Nat × Nat × Nat):=(List.range 256).flatMap fun b=>begins M 8 0 0 b++(if anyBelow M 8 b then dumpN M dm 8 b else [])
def addr (x:Nat × Nat × Nat):Nat:=x.2.1*2^(136-x.1)
def before2 (x y:Nat × Nat × Nat):Prop:=addr x<addr y∨addr x=addr y∧x.1<y.1
theorem mem_begins {M:Tab} {count len u value:Nat} {x:Nat × Nat × Nat}:x∈begins M count len u value↔∃fu,fu<count∧value%2^(count-fu)=0∧x.1=len+fu∧x.2.1=u*2^fu+value/2^(count-fu)∧M x.1 x.2.1=some x.2.2:=by
 unfold begins
 rw[List.mem_filterMap]
 constructor
 ·rintro ⟨fu,h1,h2⟩
  rw[List.mem_range] at h1
  split at h2
  ·rename_i h3
   rw[Option.map_eq_some_iff] at h2
   obtain⟨h,h4,rfl⟩:=h2
   exact⟨fu,h1,h3,rfl,rfl,h4⟩
  ·cases h2
 ·rintro ⟨fu,h1,h2,h3,h4,h5⟩
  refine⟨fu,List.mem_range.2 h1,?_⟩
  rw[if_pos h2,Option.map_eq_some_iff]
  refine⟨x.2.2,by rw[←h3,←h4];exact h5,?_⟩
  rw[←h3,←h4]
theorem begins_addr {M:Tab} {count len u value:Nat} {x:Nat × Nat × Nat} (h:x∈begins M count len u value) (hl:len+count≤136):addr x=(u*2^count+value)*2^(136-(len+count))∧len≤x.1∧x.1<len+count:=by
 obtain⟨fu,h1,h2,h3,h4,_⟩:=mem_begins.1 h
 refine⟨?_,by omega,by omega⟩
 unfold addr
 rw[h3,h4]
 have e1:136-(len+fu)=(count-fu)+(136-(len+count)):=by omega
 have e2:value/2^(count-fu)*2^(count-fu)=value:=by
  have:=Nat.div_add_mod value (2^(count-fu))
  rw[h2,Nat.add_zero,Nat.mul_comm] at this
  exact this
 have e3:2^fu*2^(count-fu)=2^count:=by rw[←Nat.pow_add];congr 1;omega
 rw[e1,Nat.pow_add,←Nat.mul_assoc,Nat.add_mul,Nat.mul_assoc u,e3,e2]
theorem begins_sorted (M:Tab) (count len u value:Nat) (hl:len+count≤136):(begins M count len u value).Pairwise before2:=by
 unfold begins
 rw[List.pairwise_filterMap]
 have h0:(List.range count).Pairwise (· < ·):=List.pairwise_lt_range
 refine List.Pairwise.imp_of_mem ?_ h0
 intro a b ha hb hab x hx y hy
 have hx':x∈begins M count len u value:=List.mem_filterMap.2 ⟨a,ha,hx⟩
 have hy':y∈begins M count len u value:=List.mem_filterMap.2 ⟨b,hb,hy⟩
 right
 refine⟨by rw[(begins_addr hx' hl).1,(begins_addr hy' hl).1],?_⟩
 split at hx
 ·rw[Option.map_eq_some_iff] at hx
  obtain⟨_,_,rfl⟩:=hx
  split at hy
  ·rw[Option.map_eq_some_iff] at hy
   obtain⟨_,_,rfl⟩:=hy
   show len+a<len+b
   omega
  ·cases hy
 ·cases hx
theorem flat_sorted {n:Nat} {g:Nat→List (Nat × Nat × Nat)} (lo:Nat→Nat) (hmono:∀i,i<n→lo i≤lo (i+1)) (h1:∀i,i<n→(g i).Pairwise before2) (h2:∀i x,i<n→x∈g i→lo i≤addr x∧addr x<lo (i+1)):((List.range n).flatMap g).Pairwise before2∧∀x,x∈(List.range n).flatMap g→addr x<lo n:=by
 induction n with
 | zero=>exact⟨List.Pairwise.nil,fun x hx=>by simp at hx⟩
 | succ n ih =>
  obtain⟨i1,i2⟩:=ih (fun i hi=>hmono i (by omega)) (fun i hi=>h1 i (by omega)) (fun i x hi=>h2 i x (by omega))
  rw[List.range_succ,List.flatMap_append]
  simp only[List.flatMap_cons,List.flatMap_nil,List.append_nil]
  constructor
  ·rw[List.pairwise_append]
   refine⟨i1,h1 n (by omega),?_⟩
   intro a ha b hb
   left
   have e1:=i2 a ha
   have e2:=(h2 n b (by omega) hb).1
   omega
  ·intro x hx
   rcases List.mem_append.1 hx with hx | hx
   ·have:=i2 x hx
    have:=hmono n (by omega)
    omega
   ·exact(h2 n x (by omega) hx).2
theorem two_sorted {M:Tab} {count len u f:Nat} {l:List (Nat × Nat × Nat)} (hl:len+count≤136) (h1:l.Pairwise before2) (h2:∀x,x∈l→len+count≤x.1∧(u*2^count+f)*2^(136-(len+count))≤addr x):(begins M count len u f++l).Pairwise before2:=by
 rw[List.pairwise_append]
 refine⟨begins_sorted M count len u f hl,h1,?_⟩
 intro a ha b hb
 obtain⟨a1,a2,a3⟩:=begins_addr ha hl
 obtain⟨b1,b2⟩:=h2 b hb
 rw[←a1] at b2
 by_cases e:addr a=addr b
 ·exact Or.inr ⟨e,by omega⟩
 ·exact Or.inl (by omega)
theorem dumpN_sorted (M:Tab):∀(d len u:Nat),len+4*d+4≤136→(dumpN M d len u).Pairwise before2∧∀x,x∈dumpN M d len u→len≤x.1∧u*2^(136-len)≤addr x∧addr x<(u+1)*2^(136-len):=by
 have hpow:∀len u f,len+4≤136→(16*u+f)*2^(136-(len+4))=u*2^(136-len)+f*2^(136-(len+4)):=by
  intro len u f h
  rw[show 136-len=4+(136-(len+4)) by omega,Nat.pow_add,Nat.add_mul]
  congr 1
  rw[←Nat.mul_assoc,Nat.mul_comm u,show (2:Nat)^4=16 from rfl]
 intro d
 induction d with
 | zero =>
  intro len u hl
  have hb:∀f x,x∈begins M 4 len u f→addr x=(16*u+f)*2^(136-(len+4))∧len≤x.1:=by
   intro f x hx
   obtain⟨a1,a2,a3⟩:=begins_addr hx (by omega)
   rw[show u*2^4=16*u by omega] at a1
   exact⟨a1,a2⟩
  have hp:=Nat.two_pow_pos (136-(len+4))
  have hstep:∀f,(16*u+(f+1))*2^(136-(len+4))=(16*u+f)*2^(136-(len+4))+2^(136-(len+4)):=by
   intro f;rw[←Nat.add_assoc,Nat.add_mul (16*u+f),Nat.one_mul]
  obtain⟨s1,s2⟩:=flat_sorted (n:=16) (g:=fun f=>begins M 4 len u f) (fun f=>(16*u+f)*2^(136-(len+4))) (fun i _=>by rw[hstep];omega) (fun i _=>begins_sorted M 4 len u i (by omega)) (fun i x _ hx=>by
   rw[(hb i x hx).1,hstep];omega)
  refine⟨s1,?_⟩
  intro x hx
  have hx2:=s2 x hx
  obtain⟨f,hf,hxf⟩:=List.mem_flatMap.1 hx
  obtain⟨c1,c2⟩:=hb f x hxf
  refine⟨c2,?_,?_⟩
  ·rw[c1,hpow len u f (by omega)];omega
  ·have e:(16*u+16)*2^(136-(len+4))=(u+1)*2^(136-len):=by
    rw[show 16*u+16=16*(u+1)+0 by omega,hpow len (u+1) 0 (by omega),Nat.zero_mul,Nat.add_zero]
   rw[←e];exact hx2
 | succ d ih =>
  intro len u hl
  have hp:=Nat.two_pow_pos (136-(len+4))
  have hstep:∀f,(16*u+(f+1))*2^(136-(len+4))=(16*u+f)*2^(136-(len+4))+2^(136-(len+4)):=by
   intro f;rw[←Nat.add_assoc,Nat.add_mul (16*u+f),Nat.one_mul]
  have hb:∀f x,x∈begins M 4 len u f→addr x=(16*u+f)*2^(136-(len+4))∧len≤x.1:=by
   intro f x hx
   obtain⟨a1,a2,a3⟩:=begins_addr hx (by omega)
   rw[show u*2^4=16*u by omega] at a1
   exact⟨a1,a2⟩
  have hkid:∀f x,x∈(if anyBelow M (len+4) (16*u+f)=true then dumpN M d (len+4) (16*u+f) else [])→len+4≤x.1∧(16*u+f)*2^(136-(len+4))≤addr x∧addr x<(16*u+(f+1))*2^(136-(len+4)):=by
   intro f x hx
   split at hx
   ·have:=(ih (len+4) (16*u+f) (by omega)).2 x hx
    rw[←Nat.add_assoc];exact this
   ·cases hx
  obtain⟨s1,s2⟩:=flat_sorted (n:=16) (g:=fun f=>begins M 4 len u f++(if anyBelow M (len+4) (16*u+f) then dumpN M d (len+4) (16*u+f) else [])) (fun f=>(16*u+f)*2^(136-(len+4))) (fun i _=>by rw[hstep];omega) (fun i _=>by
   apply two_sorted (by omega)
   ·split
    ·exact(ih (len+4) (16*u+i) (by omega)).1
    ·exact List.Pairwise.nil
   ·intro x hx
    have:=hkid i x hx
    rw[show u*2^4=16*u by omega]
    exact⟨this.1,this.2.1⟩) (fun i x _ hx=>by
   rcases List.mem_append.1 hx with hx | hx
   ·rw[(hb i x hx).1,hstep];omega
   ·exact(hkid i x hx).2)
  refine⟨s1,?_⟩
  intro x hx
  have hx2:=s2 x hx
  have e:(16*u+16)*2^(136-(len+4))=(u+1)*2^(136-len):=by
   rw[show 16*u+16=16*(u+1)+0 by omega,hpow len (u+1) 0 (by omega),Nat.zero_mul,Nat.add_zero]
  obtain⟨f,hf,hxf⟩:=List.mem_flatMap.1 hx
  rw[e] at hx2
  rcases List.mem_append.1 hxf with hxf | hxf
  ·obtain⟨c1,c2⟩:=hb f x hxf
   exact⟨c2,by rw[c1,hpow len u f (by omega)];omega,hx2⟩
  ·obtain⟨c1,c2,c3⟩:=hkid f x hxf
   exact⟨by omega,by rw[hpow len u f (by omega)] at c2;omega,hx2⟩
theorem dumpR_sorted (M:Tab) (dm:Nat) (h:8+4*dm+4≤136):(dumpR M dm).Pairwise before2:=by
 have hp:=Nat.two_pow_pos (136-8)
 have hstep:∀b,(b+1)*2^(136-8)=b*2^(136-8)+2^(136-8):=by intro b;rw[Nat.add_mul,Nat.one_mul]
 have hb:∀b x,x∈begins M 8 0 0 b→addr x=b*2^(136-8):=by
  intro b x hx
  obtain⟨a1,_,_⟩:=begins_addr hx (by omega)
  rw[Nat.zero_mul,Nat.zero_add,Nat.zero_add] at a1
  exact a1
 have hkid:∀b x,x∈(if anyBelow M 8 b=true then dumpN M dm 8 b else [])→8≤x.1∧b*2^(136-8)≤addr x∧addr x<(b+1)*2^(136-8):=by
  intro b x hx
  split at hx
  ·exact(dumpN_sorted M dm 8 b (by omega)).2 x hx
  ·cases hx
 refine(flat_sorted (n:=256) (g:=fun b=>begins M 8 0 0 b++(if anyBelow M 8 b then dumpN M dm 8 b else [])) (fun b=>b*2^(136-8)) (fun i _=>by rw[hstep];omega) (fun i _=>?_) (fun i x _ hx=>?_)).1
 ·apply two_sorted (by omega)
  ·split
   ·exact(dumpN_sorted M dm 8 i (by omega)).1
   ·exact List.Pairwise.nil
  ·intro x hx
   have:=hkid i x hx
   rw[Nat.zero_mul,Nat.zero_add,Nat.zero_add]
   exact⟨this.1,this.2.1⟩
 ·rcases List.mem_append.1 hx with hx | hx
  ·rw[hb i x hx,hstep];omega
  ·exact(hkid i x hx).2
end Go.Proofs.YtnapboelfimaaaaGreatDoor
namespace Go.Proofs.YtnapboelfimaaaaGreatDoor
theorem mem_dumpN {M:Tab} {L:Nat} (hT:TabOk L M) (hL:L≤128):∀(d len u:Nat) (x:Nat × Nat × Nat),x∈dumpN M d len u↔M x.1 x.2.1=some x.2.2∧len≤x.1∧x.1<len+4*(d+1)∧x.2.1/2^(x.1-len)=u:=by
 have hbeg:∀(len u:Nat) (x:Nat × Nat × Nat),(∃f,f<16∧x∈begins M 4 len u f)↔M x.1 x.2.1=some x.2.2∧len≤x.1∧x.1<len+4∧x.2.1/2^(x.1-len)=u:=by
  intro len u x
  constructor
  ·rintro ⟨f,hf,hx⟩
   obtain⟨fu,h1,h2,h3,h4,h5⟩:=mem_begins.1 hx
   refine⟨h5,by omega,by omega,?_⟩
   rw[show x.1-len=fu by omega]
   refine div_of ?_ h4.symm
   rw[Nat.div_lt_iff_lt_mul (Nat.two_pow_pos _),←Nat.pow_add,show fu+(4-fu)=4 by omega]
   exact hf
  ·rintro ⟨h1,h2,h3,h4⟩
   have hj:x.2.1%2^(x.1-len)<2^(x.1-len):=Nat.mod_lt _ (Nat.two_pow_pos _)
   generalize hfu:x.1-len=fu at h4 hj
   generalize hjj:x.2.1%2^fu=j at hj
   have hp:=Nat.two_pow_pos (4-fu)
   refine⟨j*2^(4-fu),?_,?_⟩
   ·have:(j+1)*2^(4-fu)≤2^fu*2^(4-fu):=Nat.mul_le_mul_right _ (by omega)
    rw[←Nat.pow_add,show fu+(4-fu)=4 by omega,Nat.add_mul,Nat.one_mul] at this
    omega
   ·rw[mem_begins]
    refine⟨fu,by omega,Nat.mul_mod_left _ _,by omega,?_,h1⟩
    rw[Nat.mul_div_cancel _ hp,←h4,←hjj,Nat.mul_comm]
    exact(Nat.div_add_mod _ _).symm
 intro d
 induction d with
 | zero =>
  intro len u x
  rw[dumpN,List.mem_flatMap]
  have:=hbeg len u x
  constructor
  ·rintro ⟨f,hf,hx⟩
   have h:=this.1 ⟨f,List.mem_range.1 hf,hx⟩
   exact⟨h.1,h.2.1,by omega,h.2.2.2⟩
  ·rintro ⟨h1,h2,h3,h4⟩
   obtain⟨f,hf,hx⟩:=this.2 ⟨h1,h2,by omega,h4⟩
   exact⟨f,List.mem_range.2 hf,hx⟩
 | succ d ih =>
  intro len u x
  rw[dumpN,List.mem_flatMap]
  have hb:=hbeg len u x
  constructor
  ·rintro ⟨f,hf,hx⟩
   rcases List.mem_append.1 hx with hx | hx
   ·have h:=hb.1 ⟨f,List.mem_range.1 hf,hx⟩
    exact⟨h.1,h.2.1,by omega,h.2.2.2⟩
   ·split at hx
    ·obtain⟨h1,h2,h3,h4⟩:=(ih _ _ _).1 hx
     have hf':=List.mem_range.1 hf
     refine⟨h1,by omega,by omega,?_⟩
     rw[show x.1-len=(x.1-(len+4))+4 by omega,Nat.pow_add,←Nat.div_div_eq_div_mul,h4]
     omega
    ·cases hx
  ·rintro ⟨h1,h2,h3,h4⟩
   by_cases h5:x.1<len+4
   ·obtain⟨f,hf,hx⟩:=hb.2 ⟨h1,h2,h5,h4⟩
    exact⟨f,List.mem_range.2 hf,List.mem_append.2 (Or.inl hx)⟩
   ·have hn:=fourV_next (l:=x.1) (v:=x.2.1) (len:=len) (u:=u) (by omega) h4
    refine⟨fourV x.1 x.2.1 len,List.mem_range.2 (fourV_lt _ _ _),List.mem_append.2 (Or.inr ?_)⟩
    have hany:=below_here (u:=16*u+fourV x.1 x.2.1 len) hT hL (show len+4≤x.1 by omega) hn (by rw[h1];rfl)
    rw[if_pos hany]
    exact(ih _ _ _).2 ⟨h1,by omega,by omega,hn⟩
theorem mem_dumpR {M:Tab} {dm:Nat} (hT:TabOk (8+4*dm) M) (hL:8+4*dm≤128) (x:Nat × Nat × Nat):x∈dumpR M dm↔M x.1 x.2.1=some x.2.2:=by
 unfold dumpR
 rw[List.mem_flatMap]
 constructor
 ·rintro ⟨b,_,hx⟩
  rcases List.mem_append.1 hx with hx | hx
  ·obtain⟨_,_,_,_,_,h5⟩:=mem_begins.1 hx
   exact h5
  ·split at hx
   ·exact((mem_dumpN hT hL _ _ _ _).1 hx).1
   ·cases hx
 ·intro hm
  have hs:(M x.1 x.2.1).isSome=true:=by rw[hm];rfl
  have hl:=hT.len _ _ hs
  have hv:=hT.val _ _ hs
  by_cases h8:x.1<8
  ·have hp:=Nat.two_pow_pos (8-x.1)
   refine⟨x.2.1*2^(8-x.1),List.mem_range.2 ?_,List.mem_append.2 (Or.inl ?_)⟩
   ·have:(x.2.1+1)*2^(8-x.1)≤2^x.1*2^(8-x.1):=Nat.mul_le_mul_right _ (by omega)
    rw[←Nat.pow_add,show x.1+(8-x.1)=8 by omega,Nat.add_mul,Nat.one_mul] at this
    omega
   ·rw[mem_begins]
    refine⟨x.1,h8,Nat.mul_mod_left _ _,by omega,?_,hm⟩
    rw[Nat.mul_div_cancel _ hp]
    omega
  ·have hb:=byte_of (show 8≤x.1 by omega) hv
   refine⟨x.2.1/2^(x.1-8),List.mem_range.2 hb,List.mem_append.2 (Or.inr ?_)⟩
   rw[if_pos (below_here hT hL (show 8≤x.1 by omega) rfl hs)]
   exact(mem_dumpN hT hL _ _ _ _).2 ⟨hm,by omega,by omega,rfl⟩
theorem length_flat {n:Nat} (g:Nat→List (Nat × Nat × Nat)):((List.range n).flatMap g).length=sumTo n fun i=>(g i).length:=by
 induction n with
 | zero=>rfl
 | succ n ih =>
  rw[List.range_succ,List.flatMap_append,List.length_append,ih]
  simp[sumTo]
theorem length_filter {n:Nat} (g:Nat→Option (Nat × Nat × Nat)):((List.range n).filterMap g).length=sumTo n fun i=>if (g i).isSome then 1 else 0:=by
 induction n with
 | zero=>rfl
 | succ n ih =>
  rw[List.range_succ,List.filterMap_append,List.length_append,ih]
  simp only[sumTo]
  congr 1
  cases hg:g n with
  | none=>simp[hg]
  | some y=>simp[hg]
theorem length_begins (M:Tab) (count len u value:Nat):(begins M count len u value).length=sumTo count fun fu=>if value%2^(count-fu)=0 then (if (M (len+fu) (u*2^fu+value/2^(count-fu))).isSome then 1 else 0) else 0:=by
 unfold begins
 rw[length_filter]
 apply sumTo_congr
 intro fu _
 by_cases h:value%2^(count-fu)=0
 ·simp only[h,if_true,Option.isSome_map]
 ·simp only[h,if_false]
  rfl
theorem sum_node (c:Nat→Nat→Nat):sumTo 16 (fun f=>sumTo 4 fun fu=>if f%2^(4-fu)=0 then c fu (f/2^(4-fu)) else 0)=c 0 0+(c 1 0+c 1 1)+(c 2 0+c 2 1+c 2 2+c 2 3)+(c 3 0+c 3 1+c 3 2+c 3 3+c 3 4+c 3 5+c 3 6+c 3 7):=by
 simp[sumTo]
 omega
theorem begins_ones {W:Nat→Nat} {M:Tab} {len u x:Nat} (n:NodeOk W M len u x):sumTo 16 (fun f=>(begins M 4 len u f).length)=ones 16 (nodeAt W x).routes:=by
 have h1:sumTo 16 (fun f=>(begins M 4 len u f).length)=sumTo 16 (fun f=>sumTo 4 fun fu=>if f%2^(4-fu)=0 then (fun fu j=>if (M (len+fu) (u*2^fu+j)).isSome then 1 else 0) fu (f/2^(4-fu)) else 0):=sumTo_congr fun f _=>length_begins M 4 len u f
 rw[h1]
 refine(sum_node (fun fu j=>if (M (len+fu) (u*2^fu+j)).isSome then 1 else 0)).trans ?_
 have hb:∀fu j,fu≤3→j<2^fu→(if (M (len+fu) (u*2^fu+j)).isSome=true then 1 else 0)=((nodeAt W x).routes.testBit (num fu j)).toNat:=by
  intro fu j h2 h3
  rw[n.route fu j h2 h3]
  cases (M (len+fu) (u*2^fu+j)).isSome <;> rfl
 have h15:(nodeAt W x).routes.testBit 15=false:=Nat.testBit_lt_two_pow n.lt
 have hones:ones 16 (nodeAt W x).routes=sumTo 16 fun i=>((nodeAt W x).routes.testBit i).toNat:=by
  rw[←sumTo_ones]
  apply sumTo_congr
  intro i _
  cases (nodeAt W x).routes.testBit i <;> rfl
 rw[hones]
 simp only[sumTo]
 rw[hb 0 0 (by omega) (by decide),hb 1 0 (by omega) (by decide),hb 1 1 (by omega) (by decide),hb 2 0 (by omega) (by decide),hb 2 1 (by omega) (by decide),hb 2 2 (by omega) (by decide),hb 2 3 (by omega) (by decide),hb 3 0 (by omega) (by decide),hb 3 1 (by omega) (by decide),hb 3 2 (by omega) (by decide),hb 3 3 (by omega) (by decide),hb 3 4 (by omega) (by decide),hb 3 5 (by omega) (by decide),hb 3 6 (by omega) (by decide),hb 3 7 (by omega) (by decide)]
 rw[h15]
 simp only[num,Nat.reducePow,Nat.reduceSub,Nat.reduceAdd,Nat.zero_add,Bool.toNat_false]
 omega
theorem length_dumpN {W:Nat→Nat} {M:Tab}:∀ {d len u x:Nat},Rep W M d len u x→(dumpN M d len u).length=cntW W d x:=by
 intro d
 induction d with
 | zero =>
  intro len u x r
  rw[dumpN,length_flat,begins_ones r.node]
  rfl
 | succ d ih =>
  intro len u x r
  rw[dumpN,length_flat]
  have h1:sumTo 16 (fun i=>(begins M 4 len u i++(if anyBelow M (len+4) (16*u+i)=true then dumpN M d (len+4) (16*u+i) else [])).length)=sumTo 16 (fun i=>(begins M 4 len u i).length+(if (nodeAt W x).ways.testBit i=true then cntW W d ((nodeAt W x).kid i) else 0)):=by
   apply sumTo_congr
   intro f hf
   rw[List.length_append,←r.node.way f hf]
   congr 1
   split
   ·rename_i hb;exact ih (r.2 f hf hb)
   ·rfl
  rw[h1,sumTo_add,begins_ones r.node]
  rfl
theorem cost_dump {W:Nat→Nat} {M:Tab} {r dm:Nat} (R:Root W M r dm) (hT:TabOk (8+4*dm) M) (hL:8+4*dm≤128):costR W r dm≤63*(dumpR M dm).length:=by
 unfold dumpR costR
 rw[length_flat,←sumTo_mul]
 apply sumTo_le
 intro b hb
 rw[List.length_append,Nat.mul_add]
 unfold cost1
 by_cases h0:W (r+b)%65536=0
 ·rw[if_pos h0];omega
 ·have hany:anyBelow M 8 b=true:=by
   have:anyBelow M 8 b≠false:=fun e=>h0 ((R.node b hb).2 e)
   simpa using this
  have rep:=R.rep b hb h0
  rw[if_neg h0,if_pos hany,length_dumpN rep]
  have h1:=cost_cnt hT hL rep
  have h2:=cnt_pos hT hL rep hany
  have h3:(2*dm+1)*cntW W dm (W (r+b)%65536)≤61*cntW W dm (W (r+b)%65536):=Nat.mul_le_mul_right _ (by omega)
  omega
def noTab:Bool→Tab:=fun _ _ _=>none
theorem inv_new {n:Nat} (h1:2048≤n) (h2:n≤65536):Inv (newAr n) (fun _=>[]) noTab:=by
 have hany:∀len u,anyBelow (fun _ _=>none) len u=false:=by
  intro len u
  cases h:anyBelow (fun _ _=>none) len u with
  | false=>rfl
  | true =>
   obtain⟨k,j,_,_,h3⟩:=anyBelow_iff.1 h
   cases h3
 have hroot:∀r dm,Root (newAr n).word (fun _ _=>none) r dm:=by
  intro r dm
  refine⟨?_,?_,?_,?_,?_⟩
  ·intro b _;exact(by decide:0/65536<256)
  ·intro b l _ _;show (0/65536:Nat).testBit l=false;simp
  ·intro l v h _ _ hm;cases hm
  ·intro b _;rw[hany];exact⟨fun _=>rfl,fun _=>rfl⟩
  ·intro b _ h0;exact absurd rfl h0
 have hl:∀r dm a,liveR (newAr n).word r dm a=0:=fun r dm a=>sumTo_zero fun b _=>by unfold live1;rw[if_pos (show (newAr n).word (r+b)%65536=0 from rfl)]
 have hc:∀r dm,costR (newAr n).word r dm=0:=fun r dm=>sumTo_zero fun b _=>by unfold cost1;rw[if_pos (show (newAr n).word (r+b)%65536=0 from rfl)]
 have hf:∀a,(newAr n).frees (fun _=>[]) a=inB a 1024 (n-1024):=by
  intro a
  show ffp _ a+inB a 1024 (n-1024)=_
  have:ffp (fun _=>[]) a=0:=sumTo_zero fun s _=>rfl
  rw[this,Nat.zero_add]
 refine⟨⟨fun s _ _=>rfl,?_,h2,rfl,fun a=>by rw[hf];exact inB_le _ _ _⟩,h1,Nat.le_refl _,fun q=>hroot _ _,fun q=>⟨(fun _ _ hm=>by cases hm),(fun _ _ hm=>by cases hm)⟩,?_,?_⟩
 ·show 1024≤n
  omega
 ·intro a
  rw[hl,hl,hf]
  unfold edge inB
  show (if a<1024∨n≤a then 1 else 0)+0+0+_≤1
  split <;> split <;> omega
 ·rw[hc,hc]
  show (n:Int)-1024+((0:Nat):Int)+((0:Nat):Int)+1024=((n:Nat):Int)
  omega
end Go.Proofs.YtnapboelfimaaaaGreatDoor
namespace Go.Proofs.YtnapboelfimaaaaGreatDoor
theorem ones_missing {x k:Nat} (hk:k<16) (h:x.testBit k=false):ones 16 x≤15:=by
 have h1:=ones_more (n:=16) h (or_bit x k) (fun i hi=>or_bits x k i hi)
 have h2:=ones_le 16 (x ||| 2^k)
 rw[if_pos hk] at h1
 omega
theorem need_le {W:Nat→Nat} {M:Tab} {q:Bool} {l v:Nat} (R:Root W M (rt q) (dp q)) (h1:8≤l) (h3:l≤8+4*dp q) (hv:v<2^l):needRoot W q l v≤107:=by
 have hL:=dp_le q
 have hb:=byte_of h1 hv
 unfold needRoot
 split
 ·omega
 ·rename_i h0
  obtain⟨t,d2,y,e,q1,q2,q3,q4,q5⟩:=reach_facts (l:=l) (v:=v) ((l-8)/4) (dp q) 8 _ _ (R.rep _ hb h0) (by omega) (by omega) rfl
  unfold needTree
  rw[e]
  simp only[]
  have h15:ones 16 (nodeAt W y).routes≤16:=ones_le _ _
  split
  ·split <;> omega
  ·have hbit:=q5 (by omega)
   have:=ones_missing (fourV_lt _ _ _) hbit
   omega
def count2 (M:Bool→Tab):Nat:=(dumpR (M false) (dp false)).length+(dumpR (M true) (dp true)).length
theorem free_room {A:Ar} {F:Nat→List Nat} {M:Bool→Tab} (h:Inv A F M):(A.size:Int)-1024-63*(count2 M:Nat)≤A.free:=by
 have h1:=cost_dump (h.root false) (h.tab false) (dp_le false)
 have h2:=cost_dump (h.root true) (h.tab true) (dp_le true)
 have h3:=h.free
 unfold count2
 omega
theorem enough_need {A:Ar} {F:Nat→List Nat} {M:Bool→Tab} (h:Inv A F M) (q:Bool) {l v:Nat} (h1:8≤l) (h3:l≤8+4*dp q) (hv:v<2^l) (he:64*(count2 M+1)+1280≤A.size):(needRoot A.word q l v:Int)≤A.free:=by
 have e1:=need_le (h.root q) h1 h3 hv
 have e2:=free_room h
 omega
theorem long_cost {W:Nat→Nat} {M:Tab} {r dm:Nat} (R:Root W M r dm):sumTo 256 (fun b=>(if anyBelow M 8 b=true then dumpN M dm 8 b else []).length)≤costR W r dm:=by
 have hcc:∀ {d x},cntW W d x≤costW W d x:=by
  intro d
  induction d with
  | zero=>intro x;simp only[cntW,costW];omega
  | succ d ih =>
   intro x
   simp only[cntW,costW]
   have:sumTo 16 (fun f=>if (nodeAt W x).ways.testBit f=true then cntW W d ((nodeAt W x).kid f) else 0)≤sumTo 16 (fun f=>if (nodeAt W x).ways.testBit f=true then costW W d ((nodeAt W x).kid f) else 0):=by
    apply sumTo_le
    intro f _
    split
    ·exact ih
    ·exact Nat.le_refl _
   omega
 apply sumTo_le
 intro b hb
 unfold cost1
 by_cases h0:W (r+b)%65536=0
 ·rw[if_pos h0,(R.node b hb).1 h0]
  exact Nat.le_refl _
 ·have hany:anyBelow M 8 b=true:=by
   have:anyBelow M 8 b≠false:=fun e=>h0 ((R.node b hb).2 e)
   simpa using this
  rw[if_neg h0,if_pos hany,length_dumpN (R.rep b hb h0)]
  have:=hcc (d:=dm) (x:=W (r+b)%65536)
  omega
theorem sorted_unique {a b:List (Nat × Nat × Nat)} (ha:a.Pairwise before2) (hb:b.Pairwise before2) (h:∀x,x∈a↔x∈b):a=b:=by
 have irr:∀x:Nat × Nat × Nat,¬before2 x x:=fun x hx=>by
  rcases hx with hx | hx <;> omega
 have asym:∀x y:Nat × Nat × Nat,before2 x y→¬before2 y x:=fun x y h1 h2=>by
  rcases h1 with h1 | h1 <;> rcases h2 with h2 | h2 <;> omega
 induction a generalizing b with
 | nil =>
  cases b with
  | nil=>rfl
  | cons y b=>have:=(h y).2 (by simp);cases this
 | cons x a ih =>
  cases b with
  | nil=>have:=(h x).1 (by simp);cases this
  | cons y b =>
   obtain⟨a1,a2⟩:=List.pairwise_cons.1 ha
   obtain⟨b1,b2⟩:=List.pairwise_cons.1 hb
   have hxy:x=y:=by
    rcases List.mem_cons.1 ((h x).1 (by simp)) with e | e
    ·exact e
    ·rcases List.mem_cons.1 ((h y).2 (by simp)) with e2 | e2
     ·exact e2.symm
     ·exact absurd (b1 x e) (asym _ _ (a1 y e2))
   subst hxy
   congr 1
   refine ih a2 b2 ?_
   intro z
   constructor
   ·intro hz
    rcases List.mem_cons.1 ((h z).1 (by simp[hz])) with e | e
    ·subst e;exact absurd (a1 z hz) (irr z)
    ·exact e
   ·intro hz
    rcases List.mem_cons.1 ((h z).2 (by simp[hz])) with e | e
    ·subst e;exact absurd (b1 z hz) (irr z)
    ·exact e
end Go.Proofs.YtnapboelfimaaaaGreatDoor
namespace Go.Proofs.YtnapboelfimaaaaGreatDoor
def insN (A:Ar) (q:Bool) (l v h:Nat):Ar × Bool:=if l<8 then (shortN A q l v (some h),true) else insLong A q l v h
def delN (A:Ar) (q:Bool) (l v:Nat):Ar × Bool :=
 if l<8 then (if (A.word (rt q+v*2^(8-l))/65536).testBit l then (shortN A q l v none,true) else (A,false)) else delLong A q l v
theorem short_byte {l v:Nat} (hl:l<8) (hv:v<2^l):v*2^(8-l)<256∧v*2^(8-l)/2^(8-l)=v:=by
 have hp:=Nat.two_pow_pos (8-l)
 constructor
 ·have:(v+1)*2^(8-l)≤2^l*2^(8-l):=Nat.mul_le_mul_right _ (by omega)
  rw[←Nat.pow_add,show l+(8-l)=8 by omega,Nat.add_mul,Nat.one_mul] at this
  omega
 ·exact Nat.mul_div_cancel _ hp
theorem insN_ok {A:Ar} {F:Nat→List Nat} {M:Bool→Tab} (h:Inv A F M) (q:Bool) {l v x:Nat} (h3:l≤8+4*dp q) (hv:v<2^l) :
  (insN A q l v x=(A,false)∧¬64*(count2 M+1)+1280≤A.size)∨∃B F',insN A q l v x=(B,true)∧Inv B F' (updM M q l v (some x))∧B.size=A.size:=by
 unfold insN
 by_cases h8:l<8
 ·rw[if_pos h8]
  exact Or.inr ⟨_,F,rfl,short_ok h q (some x) h8 hv,rfl⟩
 ·rw[if_neg h8]
  rcases insLong_ok (x:=x) h q (by omega) h3 hv with ⟨h1,h2⟩ | ⟨h1,B,F',h2,h4,h5⟩
  ·refine Or.inl ⟨h2,fun he=>?_⟩
   have:=enough_need h q (by omega) h3 hv he
   omega
  ·exact Or.inr ⟨B,F',h2,h4,h5⟩
theorem delN_ok {A:Ar} {F:Nat→List Nat} {M:Bool→Tab} (h:Inv A F M) (q:Bool) {l v:Nat} (h3:l≤8+4*dp q) (hv:v<2^l) :
  ∃B F',delN A q l v=(B,(M q l v).isSome)∧Inv B F' (updM M q l v none)∧B.size=A.size:=by
 unfold delN
 by_cases h8:l<8
 ·rw[if_pos h8]
  obtain⟨b1,b2⟩:=short_byte h8 hv
  have hs:=(h.root q).short _ l b1 h8
  rw[b2] at hs
  rw[hs]
  cases hm:M q l v with
  | none =>
   refine⟨A,F,rfl,?_,rfl⟩
   rw[updM_id hm];exact h
  | some y=>exact⟨_,F,rfl,short_ok h q none h8 hv,rfl⟩
 ·rw[if_neg h8]
  exact delLong_ok h q (by omega) h3 hv
def nodesOn (W:Nat→Nat) (K:Nat):Nat→Nat→Nat→Nat
 | 0,_,_=>1
 | d+1,len,x=>if (nodeAt W x).ways.testBit (fitK K (len+4)%16) then 1+nodesOn W K d (len+4) ((nodeAt W x).kid (fitK K (len+4)%16)) else 1
theorem nodesOn_le (W:Nat→Nat) (K:Nat):∀d len x,1≤nodesOn W K d len x∧nodesOn W K d len x≤d+1:=by
 intro d
 induction d with
 | zero=>intro len x;exact⟨Nat.le_refl _,Nat.le_refl _⟩
 | succ d ih =>
  intro len x
  rw[nodesOn]
  split
  ·have:=ih (len+4) ((nodeAt W x).kid (fitK K (len+4)%16))
   omega
  ·omega
def readsN (W:Nat→Nat) (q:Bool) (K:Nat) (found:Bool):Nat:=1+(if W (rt q+fitK K 8)%65536=0 then 0 else nodesOn W K (dp q) 8 (W (rt q+fitK K 8)%65536))+(if found then 1 else 0)
theorem readsN_le (W:Nat→Nat) (q:Bool) (K:Nat) (found:Bool):1≤readsN W q K found∧readsN W q K found≤dp q+3:=by
 have:=nodesOn_le W K (dp q) 8 (W (rt q+fitK K 8)%65536)
 unfold readsN
 split <;> split <;> omega
def hopN (M:Bool→Tab) (q:Bool) (K:Nat):Option Nat:=bestL (M q) K 129
theorem bestL_spec {M:Tab} {K:Nat}:∀n,(bestL M K n=none∧∀l,l<n→M l (fitK K l)=none)∨∃l h,l<n∧bestL M K n=some h∧M l (fitK K l)=some h∧∀l',l<l'→l'<n→M l' (fitK K l')=none:=by
 intro n
 induction n with
 | zero=>exact Or.inl ⟨rfl,fun l hl=>by omega⟩
 | succ n ih =>
  rw[bestL]
  cases hm:M n (fitK K n) with
  | some h=>exact Or.inr ⟨n,h,by omega,rfl,hm,fun l' h1 h2=>by omega⟩
  | none =>
   simp only[Option.isSome_none,Bool.false_eq_true,if_false]
   rcases ih with ⟨h1,h2⟩ | ⟨l,h,h1,h2,h3,h4⟩
   ·refine Or.inl ⟨h1,fun l hl=>?_⟩
    by_cases e:l=n
    ·subst e;exact hm
    ·exact h2 l (by omega)
   ·refine Or.inr ⟨l,h,by omega,h2,h3,fun l' h5 h6=>?_⟩
    by_cases e:l'=n
    ·subst e;exact hm
    ·exact h4 l' h5 (by omega)
end Go.Proofs.YtnapboelfimaaaaGreatDoor
