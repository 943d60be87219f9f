/- MathB, MathC, MathD, MathE: parts of the proof, one behind the other. -/
import Derived.Test.YtnapboelfimaaaaGreatDoorB00
namespace Go.Proofs.YtnapboelfimaaaaGreatDoor
structure Ar where
 size:Nat
 word:Nat→Nat
 top:Nat
 given:Nat→Nat
 free:Int
def Ar.give (A:Ar) (b n:Nat):Ar:=if n=0 then A else { A with word:=setW A.word b (A.given n),given:=setW A.given n b,free:=A.free+n }
def Ar.fit (A:Ar) (n:Nat):Nat→Option Nat
 | 0=>none
 | k+1=>if A.given n≠0 then some n else A.fit (n+1) k
def Ar.take (A:Ar) (n:Nat):Ar × Option Nat :=
 match A.fit n (33-n) with
 | some s=>(({ A with given:=setW A.given s (A.word (A.given s)),free:=A.free-s }:Ar).give (A.given s+n) (s-n),some (A.given s))
 | none=>if A.size-A.top<n then (A,none) else ({ A with top:=A.top+n,free:=A.free-n },some A.top)
def Ar.growAt (A:Ar) (b n gap more x:Nat):Ar:=({ A with word:=copyW (copyW A.word x b gap) (x+gap+more) (b+gap) (n-gap) }:Ar).give b n
def Ar.grow (A:Ar) (b n gap more:Nat):Ar × Option Nat :=
 match A.take (n+more) with
 | (B,none)=>(B,none)
 | (B,some x)=>(B.growAt b n gap more x,some x)
def Ar.shrink (A:Ar) (b n gap less:Nat):Ar:=({ A with word:=copyW A.word (b+gap) (b+gap+less) (n-gap-less) }:Ar).give (b+n-less) less
def chain (W:Nat→Nat):Nat→List Nat→Prop
 | g,[]=>g=0
 | g,x :: xs=>g=x∧x≠0∧chain W (W x) xs
def lsum (l:List Nat) (g:Nat→Nat):Nat:=(l.map g).sum
theorem lsum_cons (x:Nat) (l:List Nat) (g:Nat→Nat):lsum (x :: l) g=g x+lsum l g:=by simp[lsum]
theorem lsum_mem {l:List Nat} {x:Nat} (g:Nat→Nat) (h:x∈l):g x≤lsum l g:=by
 induction l with
 | nil=>simp at h
 | cons y l ih =>
  rw[lsum_cons]
  rcases List.mem_cons.1 h with rfl | h
  ·omega
  ·have:=ih h;omega
theorem chain_congr {W W':Nat→Nat} {g:Nat} {l:List Nat} (h:∀x,x∈l→W' x=W x) (hc:chain W g l):chain W' g l:=by
 induction l generalizing g with
 | nil=>exact hc
 | cons x l ih =>
  obtain⟨h1,h2,h3⟩:=hc
  refine⟨h1,h2,?_⟩
  rw[h x (by simp)]
  exact ih (fun y hy=>h y (by simp[hy])) h3
def ffp (F:Nat→List Nat) (a:Nat):Nat:=sumTo 33 fun s=>lsum (F s) fun x=>inB a x s
def Ar.frees (A:Ar) (F:Nat→List Nat) (a:Nat):Nat:=ffp F a+inB a A.top (A.size-A.top)
structure ArOk (A:Ar) (F:Nat→List Nat):Prop where
 lists:∀s,1≤s→s≤32→chain A.word (A.given s) (F s)
 top:A.top≤A.size
 size:A.size≤65536
 zero:F 0=[]
 apart:∀a,A.frees F a≤1
def upd {α:Type} (F:Nat→α) (s:Nat) (l:α):Nat→α:=fun k=>if k=s then l else F k
theorem upd_same {α:Type} (F:Nat→α) (s:Nat) (l:α):upd F s l s=l:=by simp[upd]
theorem upd_ne {α:Type} {F:Nat→α} {s k:Nat} {l:α} (h:k≠s):upd F s l k=F k:=by simp[upd,h]
theorem ffp_upd (F:Nat→List Nat) (s:Nat) (l:List Nat) (hs:s<33) (a:Nat):ffp (upd F s l) a+lsum (F s) (fun x=>inB a x s)=ffp F a+lsum l (fun x=>inB a x s):=by
 have:=sumTo_one (n:=33) (k:=s) (g:=fun s=>lsum (F s) fun x=>inB a x s) (g':=fun k=>lsum (upd F s l k) fun x=>inB a x k) hs (fun i _ hi=>by simp[upd_ne hi])
 simp only[upd_same] at this
 exact this
theorem ffp_mem {F:Nat→List Nat} {s x a:Nat} (hs:s<33) (hx:x∈F s) (h1:x≤a) (h2:a<x+s):1≤ffp F a:=by
 have h3:=lsum_mem (fun y=>inB a y s) hx
 simp only[inB_one h1 h2] at h3
 have h4:=le_sumTo (fun s=>lsum (F s) fun x=>inB a x s) hs
 unfold ffp
 omega
theorem give_ok {A:Ar} {F:Nat→List Nat} {b n:Nat} (h:ArOk A F) (hn:n≤32) (hb:n≠0→b≠0) (ha:∀a,A.frees F a+inB a b n≤1) :
  ∃F',ArOk (A.give b n) F'∧(∀a,(A.give b n).frees F' a=A.frees F a+inB a b n)∧(∀a,a≠b∨n=0→(A.give b n).word a=A.word a)∧(A.give b n).free=A.free+n∧(A.give b n).size=A.size∧(A.give b n).top=A.top:=by
 by_cases hz:n=0
 ·subst hz
  refine⟨F,?_,?_,?_,?_,?_,?_⟩ <;> simp[Ar.give,inB_nil]
  exact h
 ·have hg:A.give b n={ A with word:=setW A.word b (A.given n),given:=setW A.given n b,free:=A.free+n }:=by simp[Ar.give,hz]
  have hfr:∀a,(A.give b n).frees (upd F n (b :: F n)) a=A.frees F a+inB a b n:=by
   intro a
   have h1:=ffp_upd F n (b :: F n) (by omega) a
   rw[lsum_cons] at h1
   rw[hg]
   simp only[Ar.frees]
   omega
  refine⟨upd F n (b :: F n),⟨?_,?_,?_,?_,?_⟩,hfr,?_,?_,?_,?_⟩
  ·intro s h1 h2
   rw[hg]
   have hno:∀x,x∈F s→setW A.word b (A.given n) x=A.word x:=by
    intro x hx
    apply setW_ne
    rintro rfl
    have h3:=ffp_mem (F:=F) (show s<33 by omega) hx (Nat.le_refl _) (by omega)
    have h4:=ha x
    rw[inB_one (Nat.le_refl _) (by omega)] at h4
    unfold Ar.frees at h4
    omega
   by_cases hs:s=n
   ·subst hs
    simp only[setW_same,upd_same]
    refine⟨rfl,hb hz,?_⟩
    rw[setW_same]
    exact chain_congr hno (h.lists s h1 h2)
   ·simp only[upd_ne hs,setW_ne hs]
    exact chain_congr hno (h.lists s h1 h2)
  ·rw[hg];exact h.top
  ·rw[hg];exact h.size
  ·rw[upd_ne (by omega)];exact h.zero
  ·intro a;rw[hfr];exact ha a
  ·intro a hab
   rw[hg]
   exact setW_ne (by omega)
  ·rw[hg]
  ·rw[hg]
  ·rw[hg]
theorem fit_some {A:Ar} {n k s:Nat} (h:A.fit n k=some s):n≤s∧s<n+k∧A.given s≠0:=by
 induction k generalizing n with
 | zero=>simp[Ar.fit] at h
 | succ k ih =>
  simp only[Ar.fit] at h
  split at h
  ·simp at h;subst h;exact⟨by omega,by omega,by assumption⟩
  ·obtain⟨h1,h2,h3⟩:=ih h
   exact⟨by omega,by omega,h3⟩
theorem fit_none {A:Ar} {n k:Nat} (h:∀s,n≤s→s<n+k→A.given s=0):A.fit n k=none:=by
 induction k generalizing n with
 | zero=>rfl
 | succ k ih =>
  simp only[Ar.fit]
  rw[if_neg (by simp[h n (by omega) (by omega)])]
  exact ih fun s h1 h2=>h s (by omega) (by omega)
structure Took (A:Ar) (F:Nat→List Nat) (B:Ar) (F':Nat→List Nat) (x n:Nat):Prop where
 ok:ArOk B F'
 frees:∀a,B.frees F' a+inB a x n=A.frees F a
 word:∀a,B.frees F' a=0→B.word a=A.word a
 free:B.free=A.free-n
 size:B.size=A.size
 pos:x≠0
theorem take_ok {A:Ar} {F:Nat→List Nat} {n:Nat} (h:ArOk A F) (hn:1≤n) (hn2:n≤32) (ht:A.top≠0) :
  (A.take n=(A,none)∧A.size-A.top<n)∨∃x B F',A.take n=(B,some x)∧Took A F B F' x n:=by
 unfold Ar.take
 split
 ·rename_i s hs
  obtain⟨h1,h2,h3⟩:=fit_some hs
  right
  have hc:=h.lists s (by omega) (by omega)
  cases hF:F s with
  | nil=>rw[hF] at hc;exact absurd hc h3
  | cons x xs =>
   rw[hF] at hc
   obtain⟨g1,g2,g3⟩:=hc
   have hxs:x∈F s:=by rw[hF];simp
   have hcount:∀a,ffp (upd F s xs) a+inB a x s=ffp F a:=by
    intro a
    have:=ffp_upd F s xs (by omega) a
    rw[hF,lsum_cons] at this
    omega
   have hA:ArOk ({ A with given:=setW A.given s (A.word (A.given s)),free:=A.free-s }:Ar) (upd F s xs):=by
    refine⟨?_,h.top,h.size,?_,?_⟩
    ·intro s' q1 q2
     by_cases hq:s'=s
     ·subst hq;simp only[setW_same,upd_same];rw[g1];exact g3
     ·simp only[setW_ne hq,upd_ne hq];exact h.lists s' q1 q2
    ·rw[upd_ne (by omega)];exact h.zero
    ·intro a
     have h4:=hcount a
     have h5:=h.apart a
     simp only[Ar.frees] at h5 ⊢
     omega
   have hsp:∀a,inB a x s=inB a x n+inB a (x+n) (s-n):=by
    intro a
    have:=@inB_split a x (s-n) n
    rw[show n+(s-n)=s by omega] at this
    exact this
   obtain⟨F',k1,k2,k3,k4,k5,k6⟩:=give_ok (b:=A.given s+n) (n:=s-n) hA (by omega) (by omega) (by
    intro a
    have h4:=hcount a
    have h5:=h.apart a
    have h6:=hsp a
    rw[g1]
    simp only[Ar.frees] at h5 ⊢
    omega)
   refine⟨A.given s,_,F',rfl,⟨k1,?_,?_,?_,k5,h3⟩⟩
   ·intro a
    rw[k2 a,g1]
    have h4:=hcount a
    have h6:=hsp a
    simp only[Ar.frees]
    omega
   ·intro a h0
    by_cases hz:s-n=0
    ·exact k3 a (Or.inr hz)
    ·apply k3 a (Or.inl _)
     rintro rfl
     rw[k2,inB_one (Nat.le_refl _) (by omega)] at h0
     omega
   ·rw[k4]
    simp only[]
    omega
 ·split
  ·rename_i hlt
   exact Or.inl ⟨rfl,hlt⟩
  ·rename_i hge
   right
   have htop:=h.top
   refine⟨A.top,_,F,rfl,⟨⟨h.lists,?_,h.size,h.zero,?_⟩,?_,?_,rfl,rfl,ht⟩⟩
   ·simp only[];omega
   ·intro a
    have h5:=h.apart a
    have h6:=@inB_split a A.top (A.size-(A.top+n)) n
    rw[show n+(A.size-(A.top+n))=A.size-A.top by omega] at h6
    simp only[Ar.frees] at h5 ⊢
    omega
   ·intro a
    have h6:=@inB_split a A.top (A.size-(A.top+n)) n
    rw[show n+(A.size-(A.top+n))=A.size-A.top by omega] at h6
    simp only[Ar.frees]
    omega
   ·intro a _;rfl
end Go.Proofs.YtnapboelfimaaaaGreatDoor
namespace Go.Proofs.YtnapboelfimaaaaGreatDoor
structure Grown (A:Ar) (F:Nat→List Nat) (B:Ar) (F':Nat→List Nat) (b n gap more x:Nat):Prop where
 ok:ArOk B F'
 frees:∀a,B.frees F' a+inB a x (n+more)=A.frees F a+inB a b n
 head:∀i,i<gap→B.word (x+i)=A.word (b+i)
 tail:∀i,i<n-gap→B.word (x+gap+more+i)=A.word (b+gap+i)
 word:∀a,B.frees F' a=0→inB a x (n+more)=0→B.word a=A.word a
 free:B.free=A.free-more
 size:B.size=A.size
 pos:x≠0
theorem grow_ok {A:Ar} {F:Nat→List Nat} {b n gap more:Nat} (h:ArOk A F) (hm:1≤more) (hn:n+more≤32) (hg:gap≤n) (ht:A.top≠0) (hb:n≠0→b≠0) (ha:∀a,A.frees F a+inB a b n≤1) :
  (A.grow b n gap more=(A,none)∧A.size-A.top<n+more)∨∃x B F',A.grow b n gap more=(B,some x)∧Grown A F B F' b n gap more x:=by
 unfold Ar.grow
 rcases take_ok (n:=n+more) h (by omega) hn ht with ⟨h1,h2⟩ | ⟨x,B,F',h1,h2⟩
 ·left;rw[h1];exact⟨rfl,h2⟩
 ·right
  rw[h1]
  simp only[]
  unfold Ar.growAt
  generalize hW:copyW (copyW B.word x b gap) (x+gap+more) (b+gap) (n-gap)=W
  have hsep:∀a,inB a x (n+more)+inB a b n≤1:=by
   intro a
   have q1:=h2.frees a
   have q2:=ha a
   omega
  have hdis:∀a,b≤a→a<b+n→a<x∨x+(n+more)≤a:=by
   intro a q1 q2
   have q3:=hsep a
   rw[inB_one q1 q2] at q3
   by_cases q4:x≤a∧a<x+(n+more)
   ·rw[inB_one q4.1 q4.2] at q3;omega
   ·omega
  have hout:∀a,inB a x (n+more)=0→W a=B.word a:=by
   intro a q
   have q1:¬(x≤a∧a<x+(n+more)):=fun q2=>by rw[inB_one q2.1 q2.2] at q;omega
   rw[←hW]
   unfold copyW
   rw[if_neg (by omega),if_neg (by omega)]
  have hsrc:∀i,i<n→B.word (b+i)=A.word (b+i):=by
   intro i hi
   apply h2.word
   have q1:=h2.frees (b+i)
   have q2:=ha (b+i)
   rw[inB_one (b:=b) (by omega) (by omega)] at q2
   omega
  have hhead:∀i,i<gap→W (x+i)=A.word (b+i):=by
   intro i hi
   rw[←hW]
   unfold copyW
   rw[if_neg (by omega),if_pos (by omega),show b+(x+i-x)=b+i by omega]
   exact hsrc i (by omega)
  have htail:∀i,i<n-gap→W (x+gap+more+i)=A.word (b+gap+i):=by
   intro i hi
   have q:=hdis (b+gap+i) (by omega) (by omega)
   rw[←hW]
   unfold copyW
   rw[if_pos (by omega),show b+gap+(x+gap+more+i-(x+gap+more))=b+gap+i by omega,if_neg (by omega),show b+gap+i=b+(gap+i) by omega]
   exact hsrc (gap+i) (by omega)
  have hB:ArOk ({ B with word:=W }:Ar) F':=by
   refine⟨?_,h2.ok.top,h2.ok.size,h2.ok.zero,h2.ok.apart⟩
   intro s s1 s2
   refine chain_congr ?_ (h2.ok.lists s s1 s2)
   intro y hy
   apply hout
   have q1:=ffp_mem (F:=F') (show s<33 by omega) hy (Nat.le_refl _) (by omega)
   have q2:=h2.frees y
   have q3:=h.apart y
   unfold Ar.frees at q2 q3
   omega
  obtain⟨F'',k1,k2,k3,k4,k5,k6⟩:=give_ok (b:=b) (n:=n) hB (by omega) hb (by
   intro a
   have q1:=h2.frees a
   have q2:=ha a
   have q3:({ B with word:=W }:Ar).frees F' a=B.frees F' a:=rfl
   omega)
  have q3:∀a,({ B with word:=W }:Ar).frees F' a=B.frees F' a:=fun _=>rfl
  refine⟨x,_,F'',rfl,⟨k1,?_,?_,?_,?_,?_,?_,h2.pos⟩⟩
  ·intro a
   rw[k2,q3]
   have:=h2.frees a
   omega
  ·intro i hi
   rw[k3]
   ·exact hhead i hi
   ·by_cases hz:n=0
    ·exact Or.inr hz
    ·left
     intro e
     have:=hdis (x+i) (by omega) (by omega)
     omega
  ·intro i hi
   rw[k3]
   ·exact htail i hi
   ·by_cases hz:n=0
    ·exact Or.inr hz
    ·left
     intro e
     have:=hdis (x+gap+more+i) (by omega) (by omega)
     omega
  ·intro a h0 h1
   rw[k2,q3] at h0
   have:a≠b∨n=0:=by
    by_cases hz:n=0
    ·exact Or.inr hz
    ·left
     rintro rfl
     rw[inB_one (Nat.le_refl _) (by omega)] at h0
     omega
   rw[k3 a this]
   show W a=_
   rw[hout a h1]
   exact h2.word a (by omega)
  ·rw[k4]
   show B.free+_=_
   rw[h2.free]
   omega
  ·rw[k5];exact h2.size
structure Shrunk (A:Ar) (F:Nat→List Nat) (B:Ar) (F':Nat→List Nat) (b n gap less:Nat):Prop where
 ok:ArOk B F'
 frees:∀a,B.frees F' a=A.frees F a+inB a (b+n-less) less
 head:∀i,i<gap→B.word (b+i)=A.word (b+i)
 tail:∀i,i<n-gap-less→B.word (b+gap+i)=A.word (b+gap+less+i)
 word:∀a,inB a b n=0→B.word a=A.word a
 free:B.free=A.free+less
 size:B.size=A.size
 top:B.top=A.top
theorem shrink_ok {A:Ar} {F:Nat→List Nat} {b n gap less:Nat} (h:ArOk A F) (hl:1≤less) (hn:n≤32) (hg:gap+less≤n) (hb:b≠0) (ha:∀a,A.frees F a+inB a b n≤1) :
  ∃F',Shrunk A F (A.shrink b n gap less) F' b n gap less:=by
 unfold Ar.shrink
 generalize hW:copyW A.word (b+gap) (b+gap+less) (n-gap-less)=W
 have hout:∀a,inB a b n=0→W a=A.word a:=by
  intro a q
  have q1:¬(b≤a∧a<b+n):=fun q2=>by rw[inB_one q2.1 q2.2] at q;omega
  rw[←hW]
  unfold copyW
  rw[if_neg (by omega)]
 have hA:ArOk ({ A with word:=W }:Ar) F:=by
  refine⟨?_,h.top,h.size,h.zero,h.apart⟩
  intro s s1 s2
  refine chain_congr ?_ (h.lists s s1 s2)
  intro y hy
  apply hout
  have q1:=ffp_mem (F:=F) (show s<33 by omega) hy (Nat.le_refl _) (by omega)
  have q2:=ha y
  unfold Ar.frees at q2
  omega
 have q3:∀a,({ A with word:=W }:Ar).frees F a=A.frees F a:=fun _=>rfl
 have hsp:∀a,inB a b n=inB a b (n-less)+inB a (b+n-less) less:=by
  intro a
  have:=@inB_split a b less (n-less)
  rw[show n-less+less=n by omega,show b+(n-less)=b+n-less by omega] at this
  exact this
 obtain⟨F',k1,k2,k3,k4,k5,k6⟩:=give_ok (b:=b+n-less) (n:=less) hA (by omega) (by omega) (by
  intro a
  have q1:=ha a
  have q2:=hsp a
  have q4:=q3 a
  omega)
 refine⟨F',⟨k1,?_,?_,?_,?_,k4,k5,k6⟩⟩
 ·intro a
  rw[k2,q3]
 ·intro i hi
  rw[k3 _ (Or.inl (by omega))]
  show W _=_
  rw[←hW]
  unfold copyW
  rw[if_neg (by omega)]
 ·intro i hi
  rw[k3 _ (Or.inl (by omega))]
  show W _=_
  rw[←hW]
  unfold copyW
  rw[if_pos (by omega)]
  congr 1;omega
 ·intro a h0
  have:a≠b+n-less:=by
   rintro rfl
   rw[inB_one (by omega) (by omega)] at h0
   omega
  rw[k3 a (Or.inl this)]
  exact hout a h0
end Go.Proofs.YtnapboelfimaaaaGreatDoor
namespace Go.Proofs.YtnapboelfimaaaaGreatDoor
structure NodeD where
 routes:Nat
 ways:Nat
 hops:Nat
 children:Nat
def NodeD.ok (n:NodeD):Prop:=n.routes<65536∧n.ways<65536∧n.hops<65536∧n.children<65536
def NodeD.kid (n:NodeD) (f:Nat):Nat:=n.children+2*ones f n.ways
def nodeAt (W:Nat→Nat) (x:Nat):NodeD:=⟨W x%65536,W x/65536,W (x+1)%65536,W (x+1)/65536⟩
abbrev Tab:=Nat→Nat→Option Nat
def num (fu j:Nat):Nat:=2^fu-1+j
def anyBelow (M:Tab) (len u:Nat):Bool:=(List.range (129-len)).any fun k=>(List.range (2^k)).any fun j=>(M (len+k) (u*2^k+j)).isSome
theorem anyBelow_iff {M:Tab} {len u:Nat}:anyBelow M len u=true↔∃k j,k<129-len∧j<2^k∧(M (len+k) (u*2^k+j)).isSome=true:=by
 unfold anyBelow
 simp only[List.any_eq_true,List.mem_range]
 constructor
 ·rintro ⟨k,hk,j,hj,h⟩;exact⟨k,j,hk,hj,h⟩
 ·rintro ⟨k,j,hk,hj,h⟩;exact⟨k,hk,j,hj,h⟩
def Agree (M M':Tab) (len u:Nat):Prop:=∀k j,j<2^k→M' (len+k) (u*2^k+j)=M (len+k) (u*2^k+j)
theorem anyBelow_agree {M M':Tab} {len u:Nat} (h:Agree M M' len u):anyBelow M' len u=anyBelow M len u:=by
 rw[Bool.eq_iff_iff,anyBelow_iff,anyBelow_iff]
 constructor
 ·rintro ⟨k,j,hk,hj,hh⟩;exact⟨k,j,hk,hj,by rw[←h k j hj];exact hh⟩
 ·rintro ⟨k,j,hk,hj,hh⟩;exact⟨k,j,hk,hj,by rw[h k j hj];exact hh⟩
theorem Agree.kid {M M':Tab} {len u f:Nat} (h:Agree M M' len u) (hf:f<16):Agree M M' (len+4) (16*u+f):=by
 intro k j hj
 have h1:=h (k+4) (f*2^k+j) (by
  have:(f+1)*2^k≤16*2^k:=Nat.mul_le_mul_right _ (by omega)
  rw[Nat.pow_add];rw[Nat.add_mul] at this;omega)
 have e:u*2^(k+4)+(f*2^k+j)=(16*u+f)*2^k+j:=by
  have:u*(2^k*2^4)=16*u*2^k:=by rw[Nat.mul_comm (2^k),←Nat.mul_assoc,Nat.mul_comm u]
  rw[Nat.pow_add,Nat.add_mul]
  omega
 rw[show len+(k+4)=len+4+k by omega,e] at h1
 exact h1
structure NodeOk (W:Nat→Nat) (M:Tab) (len u x:Nat):Prop where
 lt:(nodeAt W x).routes<32768
 lt2:(nodeAt W x).ways<65536
 lt3:(nodeAt W x).children<65536
 hops0:(nodeAt W x).routes=0→(nodeAt W x).hops=0
 kids0:(nodeAt W x).ways=0→(nodeAt W x).children=0
 route:∀fu j,fu≤3→j<2^fu→(nodeAt W x).routes.testBit (num fu j)=(M (len+fu) (u*2^fu+j)).isSome
 hop:∀fu j h,fu≤3→j<2^fu→M (len+fu) (u*2^fu+j)=some h→W ((nodeAt W x).hops+ones (num fu j) (nodeAt W x).routes)=h
 way:∀f,f<16→(nodeAt W x).ways.testBit f=anyBelow M (len+4) (16*u+f)
def Rep (W:Nat→Nat) (M:Tab):Nat→Nat→Nat→Nat→Prop
 | 0,len,u,x=>NodeOk W M len u x∧(nodeAt W x).ways=0
 | d+1,len,u,x=>NodeOk W M len u x∧∀f,f<16→(nodeAt W x).ways.testBit f=true→Rep W M d (len+4) (16*u+f) ((nodeAt W x).kid f)
def fp (W:Nat→Nat):Nat→Nat→Nat→Nat
 | 0,x,a=>inB a (nodeAt W x).hops (ones 16 (nodeAt W x).routes)+inB a (nodeAt W x).children (2*ones 16 (nodeAt W x).ways)
 | d+1,x,a=>inB a (nodeAt W x).hops (ones 16 (nodeAt W x).routes)+inB a (nodeAt W x).children (2*ones 16 (nodeAt W x).ways)+sumTo 16 fun f=>if (nodeAt W x).ways.testBit f then fp W d ((nodeAt W x).kid f) a else 0
def costW (W:Nat→Nat):Nat→Nat→Nat
 | 0,x=>ones 16 (nodeAt W x).routes+2*ones 16 (nodeAt W x).ways
 | d+1,x=>ones 16 (nodeAt W x).routes+2*ones 16 (nodeAt W x).ways+sumTo 16 fun f=>if (nodeAt W x).ways.testBit f then costW W d ((nodeAt W x).kid f) else 0
theorem Rep.node {W:Nat→Nat} {M:Tab} {d len u x:Nat} (h:Rep W M d len u x):NodeOk W M len u x:=by
 cases d with
 | zero=>exact h.1
 | succ d=>exact h.1
theorem fp_own (W:Nat→Nat) (d x a:Nat):inB a (nodeAt W x).hops (ones 16 (nodeAt W x).routes)+inB a (nodeAt W x).children (2*ones 16 (nodeAt W x).ways)≤fp W d x a:=by
 cases d with
 | zero=>exact Nat.le_refl _
 | succ d=>simp only[fp];omega
theorem fp_kid {W:Nat→Nat} {x f:Nat} (d a:Nat) (hf:f<16) (hb:(nodeAt W x).ways.testBit f=true):inB a ((nodeAt W x).kid f) 2+fp W d ((nodeAt W x).kid f) a≤fp W (d+1) x a:=by
 have h1:=le_sumTo (fun f=>if (nodeAt W x).ways.testBit f then fp W d ((nodeAt W x).kid f) a else 0) hf
 simp only[hb,if_true] at h1
 have h2:inB a ((nodeAt W x).kid f) 2≤inB a (nodeAt W x).children (2*ones 16 (nodeAt W x).ways):=by
  have h3:=ones_lt hf hb
  unfold NodeD.kid inB
  split
  ·rw[if_pos (by omega)];exact Nat.le_refl _
  ·omega
 simp only[fp]
 omega
theorem node_same {W W':Nat→Nat} {x x':Nat} (h0:W' x'=W x) (h1:W' (x'+1)=W (x+1)):nodeAt W' x'=nodeAt W x:=by simp[nodeAt,h0,h1]
theorem testBit_lt16 {x k:Nat} (hx:x<65536) (h:x.testBit k=true):k<16:=by
 by_cases hk:k<16
 ·exact hk
 ·have h2:65536≤2^k:=Nat.pow_le_pow_right (n:=2) (by decide) (show 16≤k by omega)
  rw[Nat.testBit_lt_two_pow (by omega)] at h
  cases h
theorem num_lt {fu j:Nat} (h:fu≤3) (hj:j<2^fu):num fu j<15:=by
 unfold num
 have h1:2^fu≤2^3:=Nat.pow_le_pow_right (by decide) h
 have h2:1≤2^fu:=Nat.one_le_two_pow
 omega
theorem rep_move {W W':Nat→Nat} {M M':Tab} {d:Nat}:∀ {len u x x':Nat},Rep W M d len u x→Agree M M' len u→W' x'=W x→W' (x'+1)=W (x+1)→(∀a,1≤fp W d x a→W' a=W a) →
  Rep W' M' d len u x'∧(∀a,fp W' d x' a=fp W d x a)∧costW W' d x'=costW W d x:=by
 induction d with
 | zero =>
  intro len u x x' h ha h0 h1 hw
  have hn:=node_same h0 h1
  obtain⟨n,hways⟩:=h
  refine⟨⟨⟨?_,?_,?_,?_,?_,?_,?_,?_⟩,?_⟩,?_,?_⟩
  ·rw[hn];exact n.lt
  ·rw[hn];exact n.lt2
  ·rw[hn];exact n.lt3
  ·rw[hn];exact n.hops0
  ·rw[hn];exact n.kids0
  ·intro fu j hfu hj
   rw[hn,ha fu j hj];exact n.route fu j hfu hj
  ·intro fu j hp hfu hj hm
   rw[ha fu j hj] at hm
   have hb:=n.route fu j hfu hj
   rw[hm] at hb
   have hlt:=ones_lt (show num fu j<16 by have:=num_lt hfu hj;omega) hb
   rw[hn,hw]
   ·exact n.hop fu j hp hfu hj hm
   ·have:=fp_own W 0 x ((nodeAt W x).hops+ones (num fu j) (nodeAt W x).routes)
    rw[inB_one (b:=(nodeAt W x).hops) (by omega) (by omega)] at this
    omega
  ·intro f hf
   rw[hn,anyBelow_agree (ha.kid hf)];exact n.way f hf
  ·rw[hn];exact hways
  ·intro a;simp only[fp,hn]
  ·simp only[costW,hn]
 | succ d ih =>
  intro len u x x' h ha h0 h1 hw
  have hn:=node_same h0 h1
  obtain⟨n,hk⟩:=h
  have key:∀f,f<16→(nodeAt W x).ways.testBit f=true→Rep W' M' d (len+4) (16*u+f) ((nodeAt W x).kid f)∧(∀a,fp W' d ((nodeAt W x).kid f) a=fp W d ((nodeAt W x).kid f) a)∧costW W' d ((nodeAt W x).kid f)=costW W d ((nodeAt W x).kid f):=by
   intro f hf hb
   refine ih (hk f hf hb) (ha.kid hf) (hw _ ?_) (hw _ ?_) (fun a h1=>hw a ?_)
   ·have:=fp_kid d ((nodeAt W x).kid f) hf hb
    rw[inB_one (Nat.le_refl _) (by omega)] at this
    omega
   ·have:=fp_kid d ((nodeAt W x).kid f+1) hf hb
    rw[inB_one (by omega) (by omega)] at this
    omega
   ·have:=fp_kid d a hf hb
    omega
  refine⟨⟨⟨?_,?_,?_,?_,?_,?_,?_,?_⟩,?_⟩,?_,?_⟩
  ·rw[hn];exact n.lt
  ·rw[hn];exact n.lt2
  ·rw[hn];exact n.lt3
  ·rw[hn];exact n.hops0
  ·rw[hn];exact n.kids0
  ·intro fu j hfu hj
   rw[hn,ha fu j hj];exact n.route fu j hfu hj
  ·intro fu j hp hfu hj hm
   rw[ha fu j hj] at hm
   have hb:=n.route fu j hfu hj
   rw[hm] at hb
   have hlt:=ones_lt (show num fu j<16 by have:=num_lt hfu hj;omega) hb
   rw[hn,hw]
   ·exact n.hop fu j hp hfu hj hm
   ·have:=fp_own W (d+1) x ((nodeAt W x).hops+ones (num fu j) (nodeAt W x).routes)
    rw[inB_one (b:=(nodeAt W x).hops) (by omega) (by omega)] at this
    omega
  ·intro f hf
   rw[hn,anyBelow_agree (ha.kid hf)];exact n.way f hf
  ·rw[hn];intro f hf hb;exact(key f hf hb).1
  ·intro a
   simp only[fp,hn]
   congr 1
   apply sumTo_congr
   intro f hf
   split
   ·rename_i hb;exact(key f hf hb).2.1 a
   ·rfl
  ·simp only[costW,hn]
   congr 1
   apply sumTo_congr
   intro f hf
   split
   ·rename_i hb;exact(key f hf hb).2.2
   ·rfl
end Go.Proofs.YtnapboelfimaaaaGreatDoor
namespace Go.Proofs.YtnapboelfimaaaaGreatDoor
def updT (M:Tab) (l v:Nat) (o:Option Nat):Tab:=fun l' v'=>if l'=l∧v'=v then o else M l' v'
theorem updT_same (M:Tab) (l v:Nat) (o:Option Nat):updT M l v o l v=o:=by simp[updT]
theorem updT_ne {M:Tab} {l v l' v':Nat} {o:Option Nat} (h:¬(l'=l∧v'=v)):updT M l v o l' v'=M l' v':=by unfold updT;rw[if_neg h]
theorem div_of {u k j v:Nat} (hj:j<2^k) (h:u*2^k+j=v):v/2^k=u:=by
 subst h
 rw[Nat.mul_comm,Nat.mul_add_div (Nat.two_pow_pos k),Nat.div_eq_of_lt hj,Nat.add_zero]
theorem agree_upd {M:Tab} {l v len u:Nat} {o:Option Nat} (h:¬(len≤l∧v/2^(l-len)=u)):Agree M (updT M l v o) len u:=by
 intro k j hj
 apply updT_ne
 rintro ⟨h1,h2⟩
 apply h
 refine⟨by omega,?_⟩
 rw[show l-len=k by omega]
 exact div_of hj h2
theorem agree_refl (M:Tab) (len u:Nat):Agree M M len u:=fun _ _ _=>rfl
theorem anyBelow_put {M:Tab} {l v len u h:Nat} (hl:l≤128) (h1:len≤l) (h2:v/2^(l-len)=u):anyBelow (updT M l v (some h)) len u=true:=by
 rw[anyBelow_iff]
 refine⟨l-len,v%2^(l-len),by omega,Nat.mod_lt _ (Nat.two_pow_pos _),?_⟩
 have e:u*2^(l-len)+v%2^(l-len)=v:=by
  rw[←h2,Nat.mul_comm];exact Nat.div_add_mod v _
 rw[show len+(l-len)=l by omega,e,updT_same]
 rfl
theorem num_inj {fu j fu' j':Nat} (h:fu≤3) (h':fu'≤3) (hj:j<2^fu) (hj':j'<2^fu') (e:num fu j=num fu' j'):fu=fu'∧j=j':=by
 unfold num at e
 rcases fu with _ | _ | _ | _ | fu <;> rcases fu' with _ | _ | _ | _ | fu' <;> simp at * <;> omega
theorem num_all {i:Nat} (h:i<15):∃fu j,fu≤3∧j<2^fu∧num fu j=i:=by
 by_cases h0:i<1
 ·exact⟨0,0,by omega,by simp,by simp[num];omega⟩
 ·by_cases h1:i<3
  ·exact⟨1,i-1,by omega,by simp;omega,by simp[num];omega⟩
  ·by_cases h2:i<7
   ·exact⟨2,i-3,by omega,by simp;omega,by simp[num];omega⟩
   ·exact⟨3,i-7,by omega,by simp;omega,by simp[num];omega⟩
def putNode (W:Nat→Nat) (x:Nat) (n:NodeD):Nat→Nat:=setW (setW W x (n.routes+65536*n.ways)) (x+1) (n.hops+65536*n.children)
theorem nodeAt_put {W:Nat→Nat} {x:Nat} {n:NodeD} (h1:n.routes<65536) (h2:n.hops<65536):nodeAt (putNode W x n) x=n:=by
 have e0:putNode W x n x=n.routes+65536*n.ways:=by unfold putNode;rw[setW_ne (by omega),setW_same]
 have e1:putNode W x n (x+1)=n.hops+65536*n.children:=by unfold putNode;rw[setW_same]
 unfold nodeAt
 rw[e0,e1]
 cases n
 simp only[NodeD.mk.injEq] at *
 refine⟨?_,?_,?_,?_⟩ <;> omega
theorem putNode_out {W:Nat→Nat} {x a:Nat} {n:NodeD} (h:inB a x 2=0):putNode W x n a=W a:=by
 have:¬(x≤a∧a<x+2):=fun q=>by rw[inB_one q.1 q.2] at h;omega
 unfold putNode
 rw[setW_ne (by omega),setW_ne (by omega)]
theorem rep_hops {W W':Nat→Nat} {M M':Tab} {d len u x x':Nat} (h:Rep W M d len u x) (hn:NodeOk W' M' len u x') (hw:(nodeAt W' x').ways=(nodeAt W x).ways) (hc:(nodeAt W' x').children=(nodeAt W x).children)
  (ha:∀f,f<16→Agree M M' (len+4) (16*u+f)) (hs:∀a,fp W d x a≤1) (hW:∀a,1≤fp W d x a→inB a (nodeAt W x).hops (ones 16 (nodeAt W x).routes)=0→W' a=W a) :
  Rep W' M' d len u x'∧(∀a,fp W' d x' a+inB a (nodeAt W x).hops (ones 16 (nodeAt W x).routes)=fp W d x a+inB a (nodeAt W' x').hops (ones 16 (nodeAt W' x').routes))∧costW W' d x'+ones 16 (nodeAt W x).routes=costW W d x+ones 16 (nodeAt W' x').routes:=by
 have hk:∀f,(nodeAt W' x').kid f=(nodeAt W x).kid f:=by intro f;simp[NodeD.kid,hw,hc]
 cases d with
 | zero =>
  refine⟨⟨hn,by rw[hw];exact h.2⟩,?_,?_⟩
  ·intro a;simp only[fp,hw,hc];omega
  ·simp only[costW,hw];omega
 | succ d =>
  have key:∀f,f<16→(nodeAt W x).ways.testBit f=true→Rep W' M' d (len+4) (16*u+f) ((nodeAt W x).kid f)∧(∀a,fp W' d ((nodeAt W x).kid f) a=fp W d ((nodeAt W x).kid f) a)∧costW W' d ((nodeAt W x).kid f)=costW W d ((nodeAt W x).kid f):=by
   intro f hf hb
   have hq:∀a,1≤inB a ((nodeAt W x).kid f) 2+fp W d ((nodeAt W x).kid f) a→W' a=W a:=by
    intro a q
    have q1:=fp_kid d a hf hb
    apply hW a (by omega)
    have q2:=hs a
    have q3:=le_sumTo (fun f=>if (nodeAt W x).ways.testBit f then fp W d ((nodeAt W x).kid f) a else 0) hf
    simp only[hb,if_true] at q3
    have q4:inB a ((nodeAt W x).kid f) 2≤inB a (nodeAt W x).children (2*ones 16 (nodeAt W x).ways):=by
     have h3:=ones_lt hf hb
     unfold NodeD.kid inB
     split
     ·rw[if_pos (by omega)];exact Nat.le_refl _
     ·omega
    simp only[fp] at q2
    omega
   refine rep_move (h.2 f hf hb) (ha f hf) (hq _ ?_) (hq _ ?_) (fun a h1=>hq a (by omega))
   ·rw[inB_one (Nat.le_refl _) (by omega)];omega
   ·rw[inB_one (by omega) (by omega)];omega
  refine⟨⟨hn,?_⟩,?_,?_⟩
  ·intro f hf hb
   rw[hw] at hb
   rw[hk];exact(key f hf hb).1
  ·intro a
   simp only[fp,hw,hc,hk]
   have:sumTo 16 (fun f=>if (nodeAt W x).ways.testBit f=true then fp W' d ((nodeAt W x).kid f) a else 0)=sumTo 16 (fun f=>if (nodeAt W x).ways.testBit f=true then fp W d ((nodeAt W x).kid f) a else 0):=by
    apply sumTo_congr
    intro f hf
    split
    ·rename_i hb;exact(key f hf hb).2.1 a
    ·rfl
   omega
  ·simp only[costW,hw,hk]
   have:sumTo 16 (fun f=>if (nodeAt W x).ways.testBit f=true then costW W' d ((nodeAt W x).kid f) else 0)=sumTo 16 (fun f=>if (nodeAt W x).ways.testBit f=true then costW W d ((nodeAt W x).kid f) else 0):=by
    apply sumTo_congr
    intro f hf
    split
    ·rename_i hb;exact(key f hf hb).2.2
    ·rfl
   omega
end Go.Proofs.YtnapboelfimaaaaGreatDoor
