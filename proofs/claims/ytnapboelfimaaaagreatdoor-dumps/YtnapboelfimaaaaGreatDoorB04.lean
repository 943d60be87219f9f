/- MathN, MathO, MathP, MathQ: parts of the proof, one behind the other. -/
import Derived.Test.YtnapboelfimaaaaGreatDoorB03
namespace Go.Proofs.YtnapboelfimaaaaGreatDoor
def chainLoop (l v:Nat):Nat→Nat→Ar→NodeD→Ar × Option NodeD
 | 0,_,A,n=>(A,some n)
 | s+1,len,A,n =>
  match A.take 2 with
  | (B,none)=>(B,none)
  | (B,some b)=>chainLoop l v s len (B.putN b n) ⟨0,2^fourV l v (len+4*s),0,b⟩
def chainN (l v h s len:Nat) (A:Ar):Ar × Option NodeD :=
 match A.take 1 with
 | (B,none)=>(B,none)
 | (B,some b)=>chainLoop l v s len ({ B with word:=setW B.word b h }:Ar) ⟨2^pnum l v (len+4*s),0,b,0⟩
structure Chained (A:Ar) (F:Nat→List Nat) (B:Ar) (F':Nat→List Nat) (M:Tab) (d len u:Nat) (n:NodeD) (tk0 tk:Nat→Nat) (c:Nat):Prop where
 ok:ArOk B F'
 pend:Pend B.word M d len u n tk c
 frees:∀a,tk a+B.frees F' a=tk0 a+A.frees F a
 word:∀a,A.frees F a=0→B.word a=A.word a
 size:B.size=A.size
 top:A.top≤B.top
 good:n.ok
theorem single_path {M:Tab} {l v h len:Nat} (s:Single M l v h len (v/2^(l-len))):∀i,len+4*i≤l→Single M l v h (len+4*i) (v/2^(l-(len+4*i))):=by
 intro i
 induction i with
 | zero=>intro _;exact s
 | succ i ih =>
  intro hi
  have h1:=ih (by omega)
  have h2:=fourV_next (l:=l) (v:=v) (len:=len+4*i) (u:=v/2^(l-(len+4*i))) (by omega) rfl
  rw[show len+4*(i+1)=len+4*i+4 by omega,h2]
  exact h1.kid (fourV_lt _ _ _)
theorem chainLoop_ok {M:Tab} {l v h:Nat} (hl:l≤128) {live:Nat→Nat} (hlive:∀a,65536≤a→1≤live a):∀(s d len c:Nat) (A:Ar) (F:Nat→List Nat) (n:NodeD) (tk:Nat→Nat),ArOk A F→A.top≠0→Single M l v h len (v/2^(l-len))→len+4*s≤l →
  Pend A.word M d (len+4*s) (v/2^(l-(len+4*s))) n tk c→n.ok→(∀a,live a+tk a+A.frees F a≤1) →
  ((chainLoop l v s len A n).2=none∧(∀a,A.frees F a=0→(chainLoop l v s len A n).1.word a=A.word a)∧(chainLoop l v s len A n).1.size=A.size∧¬(A.fresh∧2*s≤A.size-A.top)) ∨
  ∃B n' F' tk',chainLoop l v s len A n=(B,some n')∧Chained A F B F' M (d+s) len (v/2^(l-len)) n' tk tk' (c+2*s)∧B.free=A.free-2*s∧(A.fresh→B.fresh∧B.top=A.top+2*s):=by
 intro s
 induction s with
 | zero =>
  intro d len c A F n tk h _ _ _ hp hn _
  right
  exact⟨A,n,F,tk,rfl,⟨h,hp,fun _=>rfl,fun _ _=>rfl,rfl,Nat.le_refl _,hn⟩,by simp,fun hf=>⟨hf,rfl⟩⟩
 | succ s ih =>
  intro d len c A F n tk h ht hsi hlen hp hn hsep
  unfold chainLoop
  rcases take_ok (n:=2) h (by omega) (by omega) ht with ⟨e,hlt⟩ | ⟨b,B,F',e,T⟩
  ·left
   rw[e]
   exact⟨rfl,fun _ _=>rfl,rfl,fun q=>by omega⟩
  ·rw[e]
   simp only[]
   have hbT:=T.frees
   have hb:b<65536:=by
    by_cases q:b<65536
    ·exact q
    ·have q1:=hlive b (by omega)
     have q2:=hsep b
     have q3:=hbT b
     rw[inB_one (Nat.le_refl _) (by omega)] at q3
     omega
   have hd2:∀a,B.frees F' a+inB a b 2+tk a+live a≤1:=by
    intro a
    have:=hsep a;have:=hbT a;omega
   have hwB:∀a,A.frees F a=0→B.word a=A.word a:=fun a q=>T.word a (by have:=hbT a;omega)
   have hwP:∀a,A.frees F a=0→(B.putN b n).word a=A.word a:=by
    intro a q
    show putNode B.word b n a=_
    rw[putNode_out (by have:=hbT a;omega)]
    exact hwB a q
   have hst:Pend (B.putN b n).word M (d+1) (len+4*s) (v/2^(l-(len+4*s))) ⟨0,2^fourV l v (len+4*s),0,b⟩ (fun a=>inB a b 2+tk a) (c+2):=by
    have hnx:=fourV_next (l:=l) (v:=v) (len:=len+4*s) (u:=v/2^(l-(len+4*s))) (by omega) rfl
    refine pend_step (W:=A.word) (single_path hsi s (by omega)) hl (by omega) rfl hb hn.1 hn.2.2.1 (fun a q=>hwB a (by have:=hsep a;omega)) (fun a=>by have:=hd2 a;omega) ?_
    rw[←hnx]
    exact hp
   have hokn:NodeD.ok ⟨0,2^fourV l v (len+4*s),0,b⟩:=⟨(by decide:0<65536),Nat.pow_lt_pow_right (n:=16) (by decide) (fourV_lt _ _ _),(by decide:0<65536),hb⟩
   have hokB:ArOk (B.putN b n) F':=ok_word T.ok fun a q=>putNode_out (by have:=hd2 a;omega)
   have htop:A.top≤B.top:=by have:=take_top A 2;rw[e] at this;exact this
   have hfr:∀a,(B.putN b n).frees F' a=B.frees F' a:=fun _=>rfl
   have hfresh:A.fresh→(B.putN b n).fresh∧(B.putN b n).top=A.top+2:=by
    intro hf
    rw[take_fresh hf (by omega)] at e
    split at e
    ·cases e
    ·simp only[Prod.mk.injEq] at e
     obtain⟨rfl,_⟩:=e
     exact⟨hf,rfl⟩
   rcases ih (d+1) len (c+2) (B.putN b n) F' _ (fun a=>inB a b 2+tk a) hokB (by show B.top≠0;omega) hsi (by omega) hst hokn (by
    intro a
    have:=hd2 a
    rw[hfr]
    show live a+(inB a b 2+tk a)+_≤1
    omega) with ⟨i1,i2,i3,i4⟩ | ⟨C,n',F'',tk',i1,i2,i3,i4⟩
   ·left
    refine⟨i1,?_,i3.trans T.size,?_⟩
    ·intro a q
     rw[i2 a (by rw[hfr];have:=hbT a;omega)]
     exact hwP a q
    ·rintro ⟨q1,q2⟩
     obtain⟨q3,q4⟩:=hfresh q1
     apply i4
     refine⟨q3,?_⟩
     rw[q4]
     show 2*s≤B.size-_
     rw[T.size];omega
   ·right
    refine⟨C,n',F'',tk',i1,⟨i2.ok,?_,?_,?_,?_,?_,i2.good⟩,?_,?_⟩
    ·have:=i2.pend
     rw[show d+1+s=d+(s+1) by omega,show c+2+2*s=c+2*(s+1) by omega] at this
     exact this
    ·intro a
     have q1:=i2.frees a
     have q2:=hbT a
     rw[hfr] at q1
     omega
    ·intro a q
     rw[i2.word a (by rw[hfr];have:=hbT a;omega)]
     exact hwP a q
    ·exact i2.size.trans T.size
    ·have q1:B.top≤C.top:=i2.top
     omega
    ·rw[i3]
     show B.free-_=_
     rw[T.free];omega
    ·intro hf
     obtain⟨q3,q4⟩:=hfresh hf
     obtain⟨q5,q6⟩:=i4 q3
     exact⟨q5,by rw[q6,q4];omega⟩
theorem chainN_ok {M:Tab} {l v h:Nat} (hl:l≤128) {live:Nat→Nat} (hlive:∀a,65536≤a→1≤live a) {s d len:Nat} {A:Ar} {F:Nat→List Nat} (hA:ArOk A F) (ht:A.top≠0) (hsi:Single M l v h len (v/2^(l-len))) (hlen:len+4*s≤l) (hlen2:l<len+4*s+4)
  (hsep:∀a,live a+A.frees F a≤1) :
  ((chainN l v h s len A).2=none∧(∀a,A.frees F a=0→(chainN l v h s len A).1.word a=A.word a)∧(chainN l v h s len A).1.size=A.size∧¬(A.fresh∧2*s+1≤A.size-A.top)) ∨
  ∃B n' F' tk',chainN l v h s len A=(B,some n')∧Chained A F B F' M (d+s) len (v/2^(l-len)) n' (fun _=>0) tk' (1+2*s)∧B.free=A.free-2*s-1∧(A.fresh→B.fresh∧B.top=A.top+2*s+1):=by
 unfold chainN
 rcases take_ok (n:=1) hA (by omega) (by omega) ht with ⟨e,hlt⟩ | ⟨b,B,F',e,T⟩
 ·left
  rw[e]
  exact⟨rfl,fun _ _=>rfl,rfl,fun q=>by omega⟩
 ·rw[e]
  simp only[]
  have hbT:=T.frees
  have hb:b<65536:=by
   by_cases q:b<65536
   ·exact q
   ·have q1:=hlive b (by omega)
    have q2:=hsep b
    have q3:=hbT b
    rw[inB_one (Nat.le_refl _) (by omega)] at q3
    omega
  have hd2:∀a,B.frees F' a+inB a b 1+live a≤1:=by
   intro a
   have:=hsep a;have:=hbT a;omega
  have hne:∀a,inB a b 1=0→a≠b:=by
   rintro a q rfl
   rw[inB_one (Nat.le_refl _) (by omega)] at q;omega
  have hwP:∀a,A.frees F a=0→setW B.word b h a=A.word a:=by
   intro a q
   rw[setW_ne (hne a (by have:=hbT a;omega))]
   exact T.word a (by have:=hbT a;omega)
  have hokB:ArOk ({ B with word:=setW B.word b h }:Ar) F':=ok_word T.ok fun a q=>setW_ne (hne a (by have:=hd2 a;omega))
  have htop:A.top≤B.top:=by have:=take_top A 1;rw[e] at this;exact this
  have hfr:∀a,({ B with word:=setW B.word b h }:Ar).frees F' a=B.frees F' a:=fun _=>rfl
  have hfresh:A.fresh→({ B with word:=setW B.word b h }:Ar).fresh∧({ B with word:=setW B.word b h }:Ar).top=A.top+1:=by
   intro hf
   rw[take_fresh hf (by omega)] at e
   split at e
   ·cases e
   ·simp only[Prod.mk.injEq] at e
    obtain⟨rfl,_⟩:=e
    exact⟨hf,rfl⟩
  have hp:=pnum_lt (v:=v) (show len+4*s≤l by omega) (show l≤len+4*s+3 by omega)
  rcases chainLoop_ok hl hlive s d len 1 ({ B with word:=setW B.word b h }:Ar) F' _ (fun a=>inB a b 1) hokB (by show B.top≠0;omega) hsi hlen (pend_base (single_path hsi s hlen) hl hlen hlen2 rfl (setW_same _ _ _)) ⟨Nat.pow_lt_pow_right (n:=16) (by decide) (by omega),(by decide:0<65536),hb,(by decide:0<65536)⟩ (by
   intro a
   have:=hd2 a
   rw[hfr]
   show live a+inB a b 1+_≤1
   omega) with ⟨i1,i2,i3,i4⟩ | ⟨C,n',F'',tk',i1,i2,i3,i4⟩
  ·left
   refine⟨i1,?_,i3.trans T.size,?_⟩
   ·intro a q
    rw[i2 a (by rw[hfr];have:=hbT a;omega)]
    exact hwP a q
   ·rintro ⟨q1,q2⟩
    obtain⟨q3,q4⟩:=hfresh q1
    apply i4
    refine⟨q3,?_⟩
    rw[q4]
    show 2*s≤B.size-_
    rw[T.size];omega
  ·right
   refine⟨C,n',F'',tk',i1,⟨i2.ok,i2.pend,?_,?_,?_,?_,i2.good⟩,?_,?_⟩
   ·intro a
    have q1:=i2.frees a
    have q2:=hbT a
    rw[hfr] at q1
    omega
   ·intro a q
    rw[i2.word a (by rw[hfr];have:=hbT a;omega)]
    exact hwP a q
   ·exact i2.size.trans T.size
   ·have q1:B.top≤C.top:=i2.top
    omega
   ·rw[i3]
    show B.free-_=_
    rw[T.free];omega
   ·intro hf
    obtain⟨q3,q4⟩:=hfresh hf
    obtain⟨q5,q6⟩:=i4 q3
    exact⟨q5,by rw[q6,q4];omega⟩
end Go.Proofs.YtnapboelfimaaaaGreatDoor
namespace Go.Proofs.YtnapboelfimaaaaGreatDoor
structure Put (A:Ar) (F:Nat→List Nat) (B:Ar) (F':Nat→List Nat) (M:Tab) (l v h d len u x:Nat):Prop where
 ok:ArOk B F'
 rep:Rep B.word (updT M l v (some h)) d len u x
 frees:∀a,B.frees F' a+fp B.word d x a=A.frees F a+fp A.word d x a
 free:B.free+costW B.word d x=A.free+costW A.word d x
 word:∀a,inB a x 2=0→fp A.word d x a=0→A.frees F a=0→B.word a=A.word a
 size:B.size=A.size
 top:A.top≤B.top
def NodeD.moreHop (n:NodeD) (k p:Nat):NodeD:={ n with routes:=n.routes ||| 2^k,hops:=p }
def NodeD.moreKid (n:NodeD) (f p:Nat):NodeD:={ n with ways:=n.ways ||| 2^f,children:=p }
def putHopN (l v h len:Nat) (A:Ar) (y:Nat):Ar × Bool :=
 if (nodeAt A.word y).routes.testBit (pnum l v len) then ({ A with word:=setW A.word ((nodeAt A.word y).hops+ones (pnum l v len) (nodeAt A.word y).routes) h },true)
 else match A.grow (nodeAt A.word y).hops (ones 16 (nodeAt A.word y).routes) (ones (pnum l v len) (nodeAt A.word y).routes) 1 with
  | (B,none)=>(B,false)
  | (B,some p)=>({ B with word:=setW (putNode B.word y ((nodeAt A.word y).moreHop (pnum l v len) p)) (p+ones (pnum l v len) ((nodeAt A.word y).moreHop (pnum l v len) p).routes) h },true)
def putKidN (f:Nat) (A:Ar) (y:Nat) (child:NodeD):Ar × Bool :=
 match A.grow (nodeAt A.word y).children (2*ones 16 (nodeAt A.word y).ways) (2*ones f (nodeAt A.word y).ways) 2 with
 | (B,none)=>(B,false)
 | (B,some p)=>((B.putN y ((nodeAt A.word y).moreKid f p)).putN (((nodeAt A.word y).moreKid f p).kid f) child,true)
theorem or_bit (x k:Nat):(x ||| 2^k).testBit k=true:=by simp[Nat.testBit_or]
theorem or_bits (x k i:Nat) (h:i≠k):(x ||| 2^k).testBit i=x.testBit i:=by
 rw[Nat.testBit_or,Nat.testBit_two_pow]
 simp[Ne.symm h]
theorem or_lt {x k n:Nat} (h:x<2^n) (hk:k<n):x ||| 2^k<2^n:=Nat.or_lt_two_pow h (Nat.pow_lt_pow_right (by decide) hk)
theorem grow_top (A:Ar) (b n gap more:Nat):A.top≤(A.grow b n gap more).1.top:=by
 have h:=take_top A (n+more)
 unfold Ar.grow
 split
 ·rename_i e;rw[e] at h;exact h
 ·rename_i e;rw[e] at h;simp only[Ar.growAt,give_top];exact h
theorem grow_fresh {A:Ar} {b n gap more:Nat} (h:A.fresh) (hm:1≤more) (ht:n+more≤A.size-A.top):∃B x,A.grow b n gap more=(B,some x):=by
 unfold Ar.grow
 rw[take_fresh h (by omega),if_neg (by omega)]
 exact⟨_,_,rfl⟩
theorem putHop_ok {A:Ar} {F:Nat→List Nat} {M:Tab} {l v h d len u y:Nat} {live:Nat→Nat} (hA:ArOk A F) (ht:A.top≠0) (hr:Rep A.word M d len u y) (h1:len≤l) (h3:l<len+4) (h2:v/2^(l-len)=u)
  (hs:∀a,live a+inB a y 2+fp A.word d y a+A.frees F a≤1) (hl0:1≤live 0) (hlive:∀a,65536≤a→1≤live a) :
  ((putHopN l v h len A y).2=false∧(∀a,A.frees F a=0→(putHopN l v h len A y).1.word a=A.word a)∧(putHopN l v h len A y).1.size=A.size∧(nodeAt A.word y).routes.testBit (pnum l v len)=false∧¬(A.fresh∧ones 16 (nodeAt A.word y).routes+1≤A.size-A.top)) ∨
  ∃B F',putHopN l v h len A y=(B,true)∧Put A F B F' M l v h d len u y:=by
 have n:=hr.node
 have hp:=pnum_lt (v:=v) h1 (show l≤len+3 by omega)
 have hown:=fp_own A.word d y
 have hle:=ones_le 16 (nodeAt A.word y).routes
 have hag:∀f,f<16→Agree M (updT M l v (some h)) (len+4) (16*u+f):=fun f _=>agree_upd (by omega)
 have hbit:=bit_pnum n h1 h2 (by omega)
 have hmono:=ones_mono (nodeAt A.word y).routes (show pnum l v len≤16 by omega)
 unfold putHopN
 by_cases hb:(nodeAt A.word y).routes.testBit (pnum l v len)=true
 ·rw[if_pos hb]
  right
  have hlt:=ones_lt (show pnum l v len<16 by omega) hb
  have hplace:inB ((nodeAt A.word y).hops+ones (pnum l v len) (nodeAt A.word y).routes) (nodeAt A.word y).hops (ones 16 (nodeAt A.word y).routes)=1:=inB_one (by omega) (by omega)
  have hne:∀a,inB a (nodeAt A.word y).hops (ones 16 (nodeAt A.word y).routes)=0→a≠(nodeAt A.word y).hops+ones (pnum l v len) (nodeAt A.word y).routes:=by
   rintro a q rfl;omega
  have hN:nodeAt (setW A.word ((nodeAt A.word y).hops+ones (pnum l v len) (nodeAt A.word y).routes) h) y=nodeAt A.word y:=by
   have q0:=hs y;have q1:=hs (y+1);have p0:=hown y;have p1:=hown (y+1)
   rw[inB_one (b:=y) (Nat.le_refl _) (by omega)] at q0
   rw[inB_one (b:=y) (by omega) (by omega)] at q1
   exact node_same (setW_ne (hne y (by omega))) (setW_ne (hne (y+1) (by omega)))
  have hn':=hop_set (W':=setW A.word ((nodeAt A.word y).hops+ones (pnum l v len) (nodeAt A.word y).routes) h) n h1 h2 (by omega) (by rw[←hbit];exact hb) hN (setW_same _ _ _) (by
   intro i hi hii
   exact setW_ne (by omega))
  obtain⟨r1,r2,r3⟩:=rep_hops hr hn' (by rw[hN]) (by rw[hN]) hag (fun a=>by have:=hs a;omega) (fun a _ q=>setW_ne (hne a q))
  rw[hN] at r2 r3
  refine⟨_,F,rfl,⟨?_,r1,?_,?_,?_,rfl,Nat.le_refl _⟩⟩
  ·apply ok_word hA
   intro a q
   exact setW_ne (hne a (by have:=hs a;have:=hown a;omega))
  ·intro a
   have:=r2 a
   show A.frees F a+fp (setW A.word ((nodeAt A.word y).hops+ones (pnum l v len) (nodeAt A.word y).routes) h) d y a=_
   omega
  ·show A.free+((costW (setW A.word ((nodeAt A.word y).hops+ones (pnum l v len) (nodeAt A.word y).routes) h) d y:Nat):Int)=_
   omega
  ·intro a _ q _
   exact setW_ne (hne a (by have:=hown a;omega))
 ·rw[if_neg hb]
  have hb':(nodeAt A.word y).routes.testBit (pnum l v len)=false:=by simpa using hb
  have hm:M l v=none:=by
   rw[hbit] at hb'
   simpa using hb'
  have hh0:ones 16 (nodeAt A.word y).routes≠0→(nodeAt A.word y).hops≠0:=by
   intro q e
   have p:=hown 0
   have p2:=hs 0
   rw[e,inB_one (b:=0) (Nat.le_refl 0) (by omega)] at p
   omega
  have hg:=grow_ok (b:=(nodeAt A.word y).hops) (n:=ones 16 (nodeAt A.word y).routes) (gap:=ones (pnum l v len) (nodeAt A.word y).routes) (more:=1) hA (by omega) (by omega) hmono ht hh0 (fun a=>by have:=hs a;have:=hown a;omega)
  have htop:=grow_top A (nodeAt A.word y).hops (ones 16 (nodeAt A.word y).routes) (ones (pnum l v len) (nodeAt A.word y).routes) 1
  rcases hg with ⟨e,hlt⟩ | ⟨p,B,F',e,G⟩
  ·left
   rw[e]
   refine⟨rfl,fun _ _=>rfl,rfl,hb',?_⟩
   rintro ⟨q1,q2⟩
   obtain⟨B,x,e2⟩:=grow_fresh (b:=(nodeAt A.word y).hops) (gap:=ones (pnum l v len) (nodeAt A.word y).routes) q1 (Nat.le_refl 1) q2
   rw[e] at e2
   simp at e2
  ·rw[e] at htop ⊢
   right
   have hgf:=G.frees
   have hpb:p<65536:=by
    by_cases q:p<65536
    ·exact q
    ·have q1:=hlive p (by omega)
     have q2:=hs p
     have q3:=hgf p
     have q4:=hown p
     rw[inB_one (b:=p) (Nat.le_refl _) (by omega)] at q3
     omega
   have hor:∀i,i≠pnum l v len→((nodeAt A.word y).routes ||| 2^pnum l v len).testBit i=(nodeAt A.word y).routes.testBit i:=fun i hi=>or_bits _ _ i hi
   have hone:∀i,ones i ((nodeAt A.word y).routes ||| 2^pnum l v len)=ones i (nodeAt A.word y).routes+(if pnum l v len<i then 1 else 0):=fun i=>ones_more hb' (or_bit _ _) hor
   have hone16:=hone 16
   rw[if_pos (by omega)] at hone16
   have honek:=hone (pnum l v len)
   rw[if_neg (by omega),Nat.add_zero] at honek
   have hrl:(nodeAt A.word y).routes ||| 2^pnum l v len<32768:=or_lt (n:=15) n.lt hp
   have hpin:inB (p+ones (pnum l v len) (nodeAt A.word y).routes) p (ones 16 (nodeAt A.word y).routes+1)=1:=inB_one (by omega) (by omega)
   show ∃B' F'',(({ B with word:=setW (putNode B.word y ((nodeAt A.word y).moreHop (pnum l v len) p)) (p+ones (pnum l v len) ((nodeAt A.word y).routes ||| 2^pnum l v len)) h }:Ar),true)=(B',true)∧_
   rw[honek]
   generalize hW:setW (putNode B.word y ((nodeAt A.word y).moreHop (pnum l v len) p)) (p+ones (pnum l v len) (nodeAt A.word y).routes) h=W
   have hyp:∀a,1≤inB a y 2→inB a p (ones 16 (nodeAt A.word y).routes+1)=0:=by
    intro a q
    have:=hs a;have:=hgf a;have:=hown a
    omega
   have hWy:∀a,1≤inB a y 2→W a=putNode B.word y ((nodeAt A.word y).moreHop (pnum l v len) p) a:=by
    intro a q
    rw[←hW]
    apply setW_ne
    rintro rfl
    have:=hyp _ q
    omega
   have hWo:∀a,inB a y 2=0→a≠p+ones (pnum l v len) (nodeAt A.word y).routes→W a=B.word a:=by
    intro a q1 q2
    rw[←hW,setW_ne q2,putNode_out q1]
   have hWn:∀a,inB a y 2=0→inB a p (ones 16 (nodeAt A.word y).routes+1)=0→B.frees F' a=0→W a=A.word a:=by
    intro a q1 q2 q3
    rw[hWo a q1 (by rintro rfl;omega)]
    exact G.word a q3 q2
   have hN':nodeAt W y=(nodeAt A.word y).moreHop (pnum l v len) p:=by
    rw[node_same (hWy y (by rw[inB_one (Nat.le_refl _) (by omega)];omega)) (hWy (y+1) (by rw[inB_one (by omega) (by omega)];omega))]
    apply nodeAt_put
    ·show (nodeAt A.word y).routes ||| 2^pnum l v len<65536
     omega
    ·exact hpb
   have hpy:∀i,i<ones 16 (nodeAt A.word y).routes+1→inB (p+i) y 2=0:=by
    intro i hi
    by_cases q:1≤inB (p+i) y 2
    ·have:=hyp _ q
     rw[inB_one (b:=p) (by omega) (by omega)] at this
     omega
    ·omega
   have hn':NodeOk W (updT M l v (some h)) len u y:=by
    refine hop_new n h1 h2 (by omega) hm (by rw[hN'];rfl) (by rw[hN'];rfl) (by rw[hN'];exact hrl) (by rw[hN'];exact or_bit _ _) (by rw[hN'];exact hor) ?_ ?_ ?_
    ·rw[hN']
     show W (p+_)=h
     rw[←hW,setW_same]
    ·intro i hi
     rw[hN']
     show W (p+i)=_
     rw[hWo _ (hpy i (by omega)) (by omega)]
     exact G.head i hi
    ·intro i hi
     rw[hN']
     show W (p+ones (pnum l v len) (nodeAt A.word y).routes+1+i)=_
     rw[hWo _ (by have:=hpy (ones (pnum l v len) (nodeAt A.word y).routes+1+i) (by omega);rw[←Nat.add_assoc,←Nat.add_assoc] at this;exact this) (by omega)]
     exact G.tail i hi
   obtain⟨r1,r2,r3⟩:=rep_hops hr hn' (by rw[hN'];rfl) (by rw[hN'];rfl) hag (fun a=>by have:=hs a;omega) (by
    intro a q1 q2
    have:=hs a;have:=hgf a
    exact hWn a (by omega) (by omega) (by omega))
   rw[hN'] at r2 r3
   have r2':∀a,fp W d y a+inB a (nodeAt A.word y).hops (ones 16 (nodeAt A.word y).routes)=fp A.word d y a+inB a p (ones 16 (nodeAt A.word y).routes+1):=by
    intro a
    have:=r2 a
    rw[show ((nodeAt A.word y).moreHop (pnum l v len) p).routes=(nodeAt A.word y).routes ||| 2^pnum l v len from rfl,hone16] at this
    exact this
   rw[show ((nodeAt A.word y).moreHop (pnum l v len) p).routes=(nodeAt A.word y).routes ||| 2^pnum l v len from rfl,hone16] at r3
   refine⟨_,F',rfl,⟨?_,r1,?_,?_,?_,G.size,htop⟩⟩
   ·apply ok_word G.ok
    intro a q
    have:=hs a;have:=hgf a;have:=hown a
    exact hWo a (by omega) (by rintro rfl;omega)
   ·intro a
    have:=r2' a;have:=hgf a
    show B.frees F' a+fp W d y a=_
    omega
   ·show B.free+_=_
    rw[G.free]
    show _+((costW W d y:Nat):Int)=_
    omega
   ·intro a q1 q2 q3
    have:=hown a;have:=hgf a
    exact hWn a q1 (by omega) (by omega)
end Go.Proofs.YtnapboelfimaaaaGreatDoor
namespace Go.Proofs.YtnapboelfimaaaaGreatDoor
theorem putKid_ok {A:Ar} {F:Nat→List Nat} {M:Tab} {l v h d len u y c:Nat} {live tk:Nat→Nat} {child:NodeD} (hA:ArOk A F) (ht:A.top≠0) (hr:Rep A.word M (d+1) len u y) (h1:len+4≤l) (hl:l≤128) (h2:v/2^(l-len)=u)
  (hb:(nodeAt A.word y).ways.testBit (fourV l v len)=false) (P:Pend A.word (updT M l v (some h)) d (len+4) (16*u+fourV l v len) child tk c) (hch:child.ok)
  (hs:∀a,live a+inB a y 2+tk a+fp A.word (d+1) y a+A.frees F a≤1) (hl0:1≤live 0) (hlive:∀a,65536≤a→1≤live a) :
  ((putKidN (fourV l v len) A y child).2=false∧(∀a,A.frees F a=0→(putKidN (fourV l v len) A y child).1.word a=A.word a)∧(putKidN (fourV l v len) A y child).1.size=A.size∧¬(A.fresh∧2*ones 16 (nodeAt A.word y).ways+2≤A.size-A.top)) ∨
  ∃B F',putKidN (fourV l v len) A y child=(B,true)∧ArOk B F'∧Rep B.word (updT M l v (some h)) (d+1) len u y∧(∀a,B.frees F' a+fp B.word (d+1) y a=A.frees F a+fp A.word (d+1) y a+tk a)∧B.free+costW B.word (d+1) y=A.free+costW A.word (d+1) y+c ∧
   (∀a,inB a y 2=0→fp A.word (d+1) y a=0→A.frees F a=0→B.word a=A.word a)∧B.size=A.size∧A.top≤B.top:=by
 have n:=hr.node
 have hf4:=fourV_lt l v len
 have hown:=fp_own A.word (d+1) y
 have hle:ones 16 (nodeAt A.word y).ways≤15:=by
  have:=ones_more (n:=16) hb (or_bit _ _) (fun i hi=>or_bits (nodeAt A.word y).ways _ i hi)
  have h16:=ones_le 16 ((nodeAt A.word y).ways ||| 2^fourV l v len)
  rw[if_pos hf4] at this
  omega
 have hmono:=ones_mono (nodeAt A.word y).ways (show fourV l v len≤16 by omega)
 have hnext:=fourV_next (v:=v) (u:=u) h1 h2
 have hh0:2*ones 16 (nodeAt A.word y).ways≠0→(nodeAt A.word y).children≠0:=by
  intro q e
  have p:=hown 0
  have p2:=hs 0
  rw[e,inB_one (b:=0) (Nat.le_refl 0) (by omega)] at p
  omega
 have hg:=grow_ok (b:=(nodeAt A.word y).children) (n:=2*ones 16 (nodeAt A.word y).ways) (gap:=2*ones (fourV l v len) (nodeAt A.word y).ways) (more:=2) hA (by omega) (by omega) (by omega) ht hh0 (fun a=>by have:=hs a;have:=hown a;omega)
 have htop:=grow_top A (nodeAt A.word y).children (2*ones 16 (nodeAt A.word y).ways) (2*ones (fourV l v len) (nodeAt A.word y).ways) 2
 unfold putKidN
 rcases hg with ⟨e,hlt⟩ | ⟨p,B,F',e,G⟩
 ·left
  rw[e]
  refine⟨rfl,fun _ _=>rfl,rfl,?_⟩
  rintro ⟨q1,q2⟩
  obtain⟨B,x,e2⟩:=grow_fresh (b:=(nodeAt A.word y).children) (gap:=2*ones (fourV l v len) (nodeAt A.word y).ways) q1 (show 1≤2 by omega) q2
  rw[e] at e2
  simp at e2
 ·rw[e] at htop ⊢
  right
  simp only[]
  have hgf:=G.frees
  have hpb:p<65536:=by
   by_cases q:p<65536
   ·exact q
   ·have q1:=hlive p (by omega)
    have q2:=hs p
    have q3:=hgf p
    have q4:=hown p
    rw[inB_one (b:=p) (Nat.le_refl _) (by omega)] at q3
    omega
  have hor:∀i,i≠fourV l v len→((nodeAt A.word y).ways ||| 2^fourV l v len).testBit i=(nodeAt A.word y).ways.testBit i:=fun i hi=>or_bits _ _ i hi
  have hone:∀i,ones i ((nodeAt A.word y).ways ||| 2^fourV l v len)=ones i (nodeAt A.word y).ways+(if fourV l v len<i then 1 else 0):=fun i=>ones_more hb (or_bit _ _) hor
  have hone16:=hone 16
  rw[if_pos hf4] at hone16
  have honek:=hone (fourV l v len)
  rw[if_neg (by omega),Nat.add_zero] at honek
  have hwl:(nodeAt A.word y).ways ||| 2^fourV l v len<65536:=or_lt (n:=16) n.lt2 hf4
  have hkid:((nodeAt A.word y).moreKid (fourV l v len) p).kid (fourV l v len)=p+2*ones (fourV l v len) (nodeAt A.word y).ways:=by
   show p+2*ones (fourV l v len) ((nodeAt A.word y).ways ||| 2^fourV l v len)=_
   rw[honek]
  rw[hkid]
  have hkp:∀a,inB a (p+2*ones (fourV l v len) (nodeAt A.word y).ways) 2≤inB a p (2*ones 16 (nodeAt A.word y).ways+2):=by
   intro a
   unfold inB
   split
   ·rw[if_pos (by omega)];exact Nat.le_refl _
   ·omega
  have hyp:∀a,1≤inB a y 2→inB a p (2*ones 16 (nodeAt A.word y).ways+2)=0:=by
   intro a q
   have:=hs a;have:=hgf a;have:=hown a
   omega
  generalize hW:putNode (putNode B.word y ((nodeAt A.word y).moreKid (fourV l v len) p)) (p+2*ones (fourV l v len) (nodeAt A.word y).ways) child=W
  have hBW:((B.putN y ((nodeAt A.word y).moreKid (fourV l v len) p)).putN (p+2*ones (fourV l v len) (nodeAt A.word y).ways) child)=({ B with word:=W }:Ar):=by rw[←hW];rfl
  rw[hBW]
  have hWy:∀a,1≤inB a y 2→W a=putNode B.word y ((nodeAt A.word y).moreKid (fourV l v len) p) a:=by
   intro a q
   rw[←hW]
   apply putNode_out
   have:=hyp a q;have:=hkp a
   omega
  have hWo:∀a,inB a y 2=0→inB a (p+2*ones (fourV l v len) (nodeAt A.word y).ways) 2=0→W a=B.word a:=by
   intro a q1 q2
   rw[←hW,putNode_out q2,putNode_out q1]
  have hWn:∀a,inB a y 2=0→inB a p (2*ones 16 (nodeAt A.word y).ways+2)=0→B.frees F' a=0→W a=A.word a:=by
   intro a q1 q2 q3
   rw[hWo a q1 (by have:=hkp a;omega)]
   exact G.word a q3 q2
  have hN':nodeAt W y=(nodeAt A.word y).moreKid (fourV l v len) p:=by
   rw[node_same (hWy y (by rw[inB_one (Nat.le_refl _) (by omega)];omega)) (hWy (y+1) (by rw[inB_one (by omega) (by omega)];omega))]
   apply nodeAt_put
   ·show (nodeAt A.word y).routes<65536
    have:=n.lt;omega
   ·show (nodeAt A.word y).hops<65536
    exact Nat.mod_lt _ (by decide)
  have hNk:nodeAt W (p+2*ones (fourV l v len) (nodeAt A.word y).ways)=child:=by
   rw[←hW]
   exact nodeAt_put hch.1 hch.2.2.1
  have hpy:∀i,i<2*ones 16 (nodeAt A.word y).ways+2→inB (p+i) y 2=0:=by
   intro i hi
   by_cases q:1≤inB (p+i) y 2
   ·have:=hyp _ q
    rw[inB_one (b:=p) (by omega) (by omega)] at this
    omega
   ·omega
  obtain⟨p1,p2,p3⟩:=P W (p+2*ones (fourV l v len) (nodeAt A.word y).ways) (by
   intro a q
   have:=hs a;have:=hgf a;have:=hown a
   exact hWn a (by omega) (by omega) (by omega)) hNk
  have hn':NodeOk W (updT M l v (some h)) len u y:=by
   refine node_ways n h1 h2 (by rw[hN'];rfl) (by rw[hN'];rfl) (by rw[hN'];exact hwl) (by rw[hN'];exact hpb) ?_ ?_ (by rw[hN'];exact hor) ?_
   ·rw[hN'];intro e
    have:=or_bit (nodeAt A.word y).ways (fourV l v len)
    rw[show (nodeAt A.word y).ways ||| 2^fourV l v len=0 from e] at this
    simp at this
   ·rw[hN',anyBelow_put hl h1 hnext];exact or_bit _ _
   ·intro i hi
    have q1:=hs ((nodeAt A.word y).hops+i)
    have q2:=hgf ((nodeAt A.word y).hops+i)
    have q3:=hown ((nodeAt A.word y).hops+i)
    rw[inB_one (b:=(nodeAt A.word y).hops) (by omega) (by omega)] at q3
    exact hWn _ (by omega) (by omega) (by omega)
  have hkidsum:∀f,f<16→(nodeAt A.word y).ways.testBit f=true→∀a,inB a (nodeAt A.word y).children (2*ones 16 (nodeAt A.word y).ways)+fp A.word d ((nodeAt A.word y).kid f) a≤fp A.word (d+1) y a:=by
   intro f hf hbf a
   have q4:=le_sumTo (fun f=>if (nodeAt A.word y).ways.testBit f then fp A.word d ((nodeAt A.word y).kid f) a else 0) hf
   simp only[hbf,if_true] at q4
   simp only[fp]
   omega
  obtain⟨r1,r2,r3⟩:=rep_ways (o:=some h) hr h1 h2 hn' (by rw[hN'];rfl) (by rw[hN'];rfl) (by rw[hN'];exact hor) (by
   intro f hf hff hbf
   rw[hN']
   obtain⟨e1,e2⟩:=kid_new (W:=A.word) (W':=B.word) (c:=(nodeAt A.word y).children) (c':=p) hb (or_bit _ _) hor hf hff hbf G.head G.tail
   have hof:=ones_lt hf hbf
   have honf:=hone f
   have hnk:∀i,i<2→inB (p+2*ones f ((nodeAt A.word y).ways ||| 2^fourV l v len)+i) (p+2*ones (fourV l v len) (nodeAt A.word y).ways) 2=0:=by
    intro i hi
    unfold inB
    rw[if_neg]
    by_cases q:fourV l v len<f
    ·rw[if_pos q] at honf
     have:=ones_mono (nodeAt A.word y).ways (show fourV l v len≤f by omega)
     omega
    ·rw[if_neg q] at honf
     have:=ones_lt (show f<fourV l v len by omega) hbf
     omega
   refine⟨?_,?_,?_⟩
   ·show W (p+2*ones f ((nodeAt A.word y).ways ||| 2^fourV l v len))=_
    rw[hWo _ (hpy _ (by rw[honf];split <;> omega)) (hnk 0 (by omega)),e1]
    rfl
   ·show W (p+2*ones f ((nodeAt A.word y).ways ||| 2^fourV l v len)+1)=_
    rw[hWo _ (by rw[Nat.add_assoc];exact hpy _ (by rw[honf];split <;> omega)) (hnk 1 (by omega)),e2]
    rfl
   ·intro a q
    have q1:=hkidsum f hf hbf a
    have q2:=hs a
    have q3:=hgf a
    exact hWn a (by omega) (by omega) (by omega)) (by
   intro _
   rw[hN',hkid];exact p1)
  rw[hN',hkid] at r2 r3
  have hfal:((nodeAt A.word y).moreKid (fourV l v len) p).ways.testBit (fourV l v len)=true:=or_bit _ _
  have hdw:ones 16 ((nodeAt A.word y).moreKid (fourV l v len) p).ways=ones 16 (nodeAt A.word y).ways+1:=hone16
  have hdc:((nodeAt A.word y).moreKid (fourV l v len) p).children=p:=rfl
  simp only[hb,hfal,if_true,Bool.false_eq_true,if_false,hdw,hdc,p2,p3] at r2 r3
  refine⟨_,F',rfl,?_,r1,?_,?_,?_,G.size,htop⟩
  ·apply ok_word G.ok
   intro a q
   have:=hs a;have:=hgf a;have:=hown a;have:=hkp a
   exact hWo a (by omega) (by omega)
  ·intro a
   have q1:=r2 a;have q2:=hgf a
   rw[show 2*(ones 16 (nodeAt A.word y).ways+1)=2*ones 16 (nodeAt A.word y).ways+2 by omega] at q1
   show B.frees F' a+fp W (d+1) y a=_
   omega
  ·show B.free+((costW W (d+1) y:Nat):Int)=_
   rw[G.free]
   omega
  ·intro a q1 q2 q3
   have:=hown a;have:=hgf a
   exact hWn a q1 (by omega) (by omega)
def putTree (l v h:Nat) (A:Ar) (x:Nat):Ar × Bool :=
 match reach A.word l v ((l-8)/4) 8 x with
 | (y,len) =>
  if l<len+4 then putHopN l v h len A y
  else match chainN l v h ((l-(len+4))/4) (len+4) A with
   | (B,none)=>(B,false)
   | (B,some n)=>putKidN (fourV l v len) B y n
def needTree (l v:Nat) (W:Nat→Nat) (x:Nat):Nat :=
 match reach W l v ((l-8)/4) 8 x with
 | (y,len) =>
  if l<len+4 then (if (nodeAt W y).routes.testBit (pnum l v len) then 0 else ones 16 (nodeAt W y).routes+1)
  else 2*ones 16 (nodeAt W y).ways+2*((l-len)/4)+1
theorem single_new {M:Tab} {l v h len u L:Nat} (hT:TabOk L M) (hL:L≤128) (hany:anyBelow M len u=false):Single (updT M l v (some h)) l v h len u:=by
 refine⟨?_,updT_same _ _ _ _⟩
 intro k j hj hm
 by_cases e:len+k=l∧u*2^k+j=v
 ·exact e
 ·rw[updT_ne e] at hm
  have q:=hT.len _ _ hm
  have:anyBelow M len u=true:=anyBelow_iff.2 ⟨k,j,by omega,hj,hm⟩
  rw[hany] at this
  cases this
theorem putTree_ok {A:Ar} {F:Nat→List Nat} {M:Tab} {L l v h d u x:Nat} {live:Nat→Nat} (hT:TabOk L M) (hL:L≤128) (hA:ArOk A F) (ht:A.top≠0) (hr:Rep A.word M d 8 u x) (h1:8≤l) (h3:l≤8+4*d) (hl:l≤128) (h2:v/2^(l-8)=u)
  (hs:∀a,live a+inB a x 2+fp A.word d x a+A.frees F a≤1) (hl0:1≤live 0) (hlive:∀a,65536≤a→1≤live a) :
  ((putTree l v h A x).2=false∧(∀a,A.frees F a=0→(putTree l v h A x).1.word a=A.word a)∧(putTree l v h A x).1.size=A.size∧¬(A.fresh∧needTree l v A.word x≤A.size-A.top)) ∨
  ∃B F',putTree l v h A x=(B,true)∧Put A F B F' M l v h d 8 u x:=by
 obtain⟨t,d2,y,e,q1,q2,q3,q4,q5⟩:=reach_facts (l:=l) (v:=v) ((l-8)/4) d 8 u x hr (by omega) (by omega) h2
 unfold putTree needTree
 rw[e]
 simp only[]
 have hup:=fun W'=>put_up (W:=A.word) (W':=W') (M:=M) (v:=v) (h:=h) hl t ((l-8)/4) d d2 8 u x y
 by_cases hlt:l<8+4*t+4
 ·rw[if_pos hlt,if_pos hlt]
  rcases putHop_ok (h:=h) (live:=fun a=>live a+inB a x 2+fp A.word d x a-inB a y 2-fp A.word d2 y a) hA ht q3 (by omega) hlt rfl (by
   intro a
   have:=hs a;have:=q4 a
   omega) (by
   have:=hs 0;have:=q4 0
   omega) (by
   intro a ha
   have:=hs a;have:=q4 a;have:=hlive a ha
   omega) with ⟨i1,i2,i3,i4,i5⟩ | ⟨B,F',i1,i2⟩
  ·left
   refine⟨i1,i2,i3,?_⟩
   rw[i4]
   exact i5
  ·right
   refine⟨B,F',i1,?_⟩
   obtain⟨r1,r2,r3⟩:=hup B.word hr (by omega) (by omega) h2 e q2 (fun a=>by have:=hs a;omega) i2.rep (fun a p1 p2 p3=>i2.word a p1 p2 (by have:=hs a;omega))
   refine⟨i2.ok,r1,?_,?_,?_,i2.size,i2.top⟩
   ·intro a
    have:=i2.frees a;have:=r2 a
    omega
   ·have:=i2.free
    omega
   ·intro a p1 p2 p3
    have:=q4 a
    exact i2.word a (by omega) (by omega) p3
 ·rw[if_neg hlt,if_neg hlt]
  have hts:t<(l-8)/4:=by omega
  have hbit:=q5 hts
  obtain⟨d2,rfl⟩:∃d',d2=d'+1:=⟨d2-1,by omega⟩
  have hnext:=fourV_next (l:=l) (v:=v) (len:=8+4*t) (u:=v/2^(l-(8+4*t))) (by omega) rfl
  have hway:=q3.node.way _ (fourV_lt l v (8+4*t))
  rw[hbit] at hway
  have hsi:Single (updT M l v (some h)) l v h (8+4*t+4) (v/2^(l-(8+4*t+4))):=by
   rw[hnext]
   exact single_new hT hL hway.symm
  have hdd:∃d3,d2=d3+(l-(8+4*t+4))/4:=⟨d2-(l-(8+4*t+4))/4,by omega⟩
  obtain⟨d3,hd3⟩:=hdd
  rcases chainN_ok (d:=d3) (live:=fun a=>live a+inB a x 2+fp A.word d x a) hl (fun a ha=>by have:=hlive a ha;omega) hA ht hsi (show 8+4*t+4+4*((l-(8+4*t+4))/4)≤l by omega) (by omega) (by
   intro a;have:=hs a;omega) with ⟨i1,i2,i3,i4⟩ | ⟨B,n,F',tk,i1,i2,i3,i4⟩
  ·left
   generalize hch:chainN l v h ((l-(8+4*t+4))/4) (8+4*t+4) A=R at i1 i2 i3
   obtain⟨B,o⟩:=R
   simp only[] at i1 i2 i3
   subst i1
   refine⟨rfl,i2,i3,?_⟩
   rintro ⟨p1,p2⟩
   exact i4 ⟨p1,by omega⟩
  ·rw[i1]
   simp only[]
   have hBw:∀a,A.frees F a=0→B.word a=A.word a:=i2.word
   have hmv:Rep B.word M (d2+1) (8+4*t) (v/2^(l-(8+4*t))) y∧(∀a,fp B.word (d2+1) y a=fp A.word (d2+1) y a)∧costW B.word (d2+1) y=costW A.word (d2+1) y:=by
    refine rep_move q3 (agree_refl _ _ _) (hBw _ ?_) (hBw _ ?_) (fun a p=>hBw a ?_)
    ·have:=hs y;have r:=q4 y
     rw[inB_one (Nat.le_refl y) (by omega)] at r
     omega
    ·have:=hs (y+1);have r:=q4 (y+1)
     rw[inB_one (b:=y) (by omega) (by omega)] at r
     omega
    ·have:=hs a;have r:=q4 a
     omega
   have hnode:nodeAt B.word y=nodeAt A.word y:=by
    apply node_same
    ·apply hBw
     have:=hs y;have r:=q4 y
     rw[inB_one (Nat.le_refl y) (by omega)] at r
     omega
    ·apply hBw
     have:=hs (y+1);have r:=q4 (y+1)
     rw[inB_one (b:=y) (by omega) (by omega)] at r
     omega
   have hBt:=i2.top
   rcases putKid_ok (h:=h) (live:=fun a=>live a+inB a x 2+fp A.word d x a-inB a y 2-fp A.word (d2+1) y a) (tk:=tk) (child:=n) (c:=1+2*((l-(8+4*t+4))/4)) i2.ok (by omega) hmv.1 (by omega) hl rfl (by rw[hnode];exact hbit) (by
    have:=i2.pend
    rw[←hd3,hnext] at this
    exact this) i2.good (by
    intro a
    have r1:=hs a;have r2:=q4 a;have r3:=i2.frees a;have r4:=hmv.2.1 a
    rw[Nat.zero_add] at r3
    omega) (by
    have:=hs 0;have:=q4 0
    omega) (by
    intro a ha
    have:=hs a;have:=q4 a;have:=hlive a ha
    omega) with ⟨j1,j2,j3,j4⟩ | ⟨C,F'',j1,j2,j3,j4,j5,j6,j7,j8⟩
   ·left
    refine⟨j1,?_,j3.trans i2.size,?_⟩
    ·intro a p
     have r3:=i2.frees a
     rw[Nat.zero_add] at r3
     rw[j2 a (by omega)]
     exact hBw a p
    ·rintro ⟨p1,p2⟩
     obtain⟨p3,p4⟩:=i4 p1
     apply j4
     refine⟨p3,?_⟩
     rw[hnode,i2.size,p4]
     omega
   ·right
    refine⟨C,F'',j1,?_⟩
    have hCw:∀a,inB a y 2=0→fp A.word (d2+1) y a=0→A.frees F a=0→C.word a=A.word a:=by
     intro a p1 p2 p3
     have r3:=i2.frees a
     rw[Nat.zero_add] at r3
     rw[j6 a p1 (by rw[hmv.2.1];exact p2) (by omega)]
     exact hBw a p3
    obtain⟨r1,r2,r3⟩:=hup C.word hr (by omega) (by omega) h2 e q2 (fun a=>by have:=hs a;omega) j3 (fun a p1 p2 p3=>hCw a p1 p2 (by have:=hs a;omega))
    refine⟨j2,r1,?_,?_,?_,j7.trans i2.size,by omega⟩
    ·intro a
     have s1:=j4 a;have s2:=r2 a;have s3:=i2.frees a;have s4:=hmv.2.1 a
     rw[Nat.zero_add] at s3
     omega
    ·have s4:=hmv.2.2
     omega
    ·intro a p1 p2 p3
     have:=q4 a
     exact hCw a (by omega) (by omega) p3
end Go.Proofs.YtnapboelfimaaaaGreatDoor
namespace Go.Proofs.YtnapboelfimaaaaGreatDoor
theorem sum_select (w:Nat) (g:Nat→Nat):∀n,sumTo n (fun f=>if w.testBit f then g (ones f w) else 0)=sumTo (ones n w) g:=by
  intro n
  induction n with
  | zero => rfl
  | succ n ih =>
    simp only[sumTo]
    rw[ih,ones_succ]
    split
    · rfl
    · rfl
theorem select {w k:Nat}:∀ {n:Nat},k<ones n w→∃f,f<n∧w.testBit f=true∧ones f w=k:=by
  intro n
  induction n with
  | zero => intro h; simp [ones_zero] at h
  | succ n ih =>
    intro h
    by_cases hk:k<ones n w
    · obtain⟨f,h1,h2,h3⟩:=ih hk
      exact⟨f,by omega,h2,h3⟩
    · rw[ones_succ] at h
      by_cases hb:w.testBit n=true
      · rw[if_pos hb] at h
        exact⟨n,by omega,hb,by omega⟩
      · rw[if_neg hb] at h;omega
theorem ones_inj {w f g:Nat} (hf:w.testBit f=true) (hg:w.testBit g=true) (h:ones f w=ones g w):f=g:=by
  rcases Nat.lt_trichotomy f g with q | q | q
  · have:=ones_lt q hf;omega
  · exact q
  · have:=ones_lt q hg;omega
theorem sum_blocks (a b:Nat) (c:Nat→Nat):∀n,sumTo n (fun k=>inB a (b+sumTo k c) (c k))=inB a b (sumTo n c):=by
  intro n
  induction n with
  | zero => simp [sumTo, inB_nil]
  | succ n ih =>
    simp only[sumTo]
    rw[ih,inB_split]
theorem sum_below (c:Nat→Nat) {q k:Nat} (h:q<k):sumTo q c+c q≤sumTo k c:=by
  induction k with
  | zero => omega
  | succ k ih =>
    simp only[sumTo]
    by_cases e:q=k
    · subst e;omega
    · have:=ih (by omega)
      omega
def Ar.bump (A:Ar) (n:Nat):Ar:={ A with top:=A.top+n,free:=A.free-n }
def fillW (U W:Nat→Nat) (b src n:Nat):Nat→Nat:=fun a=>if b≤a∧a<b+n then W (src+(a-b)) else U a
def copyHops (W:Nat→Nat) (A:Ar) (x:Nat):Ar:=if ones 16 (nodeAt W x).routes=0 then A else { A.bump (ones 16 (nodeAt W x).routes) with word:=fillW A.word W A.top (nodeAt W x).hops (ones 16 (nodeAt W x).routes) }
def copiedNode (W:Nat→Nat) (A:Ar) (x:Nat):NodeD :=
  { nodeAt W x with hops:=if ones 16 (nodeAt W x).routes=0 then (nodeAt W x).hops else A.top,children:=if ones 16 (nodeAt W x).ways=0 then (nodeAt W x).children else (copyHops W A x).top }
def copyN (W:Nat→Nat):Nat→Ar→Nat→Nat→Ar
  | 0, A, x, y => (copyHops W A x).putN y (copiedNode W A x)
  | d + 1, A, x, y =>
    (if ones 16 (nodeAt W x).ways=0 then copyHops W A x
     else (List.range (ones 16 (nodeAt W x).ways)).foldl (fun B k=>copyN W d B ((nodeAt W x).children+2*k) ((copyHops W A x).top+2*k)) ((copyHops W A x).bump (2*ones 16 (nodeAt W x).ways))).putN y (copiedNode W A x)
structure Copied (W:Nat→Nat) (M:Tab) (A B:Ar) (d len u x y:Nat):Prop where
  rep:Rep B.word M d len u y
  fp:∀a,fp B.word d y a=inB a A.top (costW W d x)
  cost:costW B.word d y=costW W d x
  top:B.top=A.top+costW W d x
  free:B.free=A.free-costW W d x
  given:B.given=A.given
  size:B.size=A.size
  word:∀a,inB a y 2=0→(a<A.top∨A.top+costW W d x≤a)→B.word a=A.word a
theorem hops_facts (W:Nat→Nat) (A:Ar) (x:Nat):(copyHops W A x).top=A.top+ones 16 (nodeAt W x).routes∧(copyHops W A x).free=A.free-ones 16 (nodeAt W x).routes∧(copyHops W A x).given=A.given∧(copyHops W A x).size=A.size ∧
    (∀a,(a<A.top∨A.top+ones 16 (nodeAt W x).routes≤a)→(copyHops W A x).word a=A.word a)∧(∀i,i<ones 16 (nodeAt W x).routes→(copyHops W A x).word (A.top+i)=W ((nodeAt W x).hops+i)):=by
  unfold copyHops
  split
  · rename_i e
    rw[e]
    exact⟨rfl,by simp,rfl,rfl,fun _ _=>rfl,fun i hi=>by omega⟩
  · refine⟨rfl,rfl,rfl,rfl,?_,?_⟩
    · intro a ha
      show fillW _ _ _ _ _ a=_
      unfold fillW
      rw[if_neg (by omega)]
    · intro i hi
      show fillW _ _ _ _ _ _=_
      unfold fillW
      rw[if_pos (by omega)]
      congr 1;omega
theorem copied_node {W:Nat→Nat} {M:Tab} {A C:Ar} {len u x y:Nat} (n:NodeOk W M len u x) (hy:y+2≤A.top) (ht:A.top+ones 16 (nodeAt W x).routes+2*ones 16 (nodeAt W x).ways≤65536)
    (hC:∀i,i<ones 16 (nodeAt W x).routes→C.word (A.top+i)=W ((nodeAt W x).hops+i)) :
    nodeAt (C.putN y (copiedNode W A x)).word y=copiedNode W A x∧NodeOk (C.putN y (copiedNode W A x)).word M len u y:=by
  have hlt:=n.lt
  have hN:nodeAt (C.putN y (copiedNode W A x)).word y=copiedNode W A x:=by
    apply nodeAt_put
    · show (nodeAt W x).routes<65536
      omega
    · show (if ones 16 (nodeAt W x).routes=0 then (nodeAt W x).hops else A.top)<65536
      have:(nodeAt W x).hops<65536:=Nat.mod_lt _ (by decide)
      split <;> omega
  have h0:ones 16 (nodeAt W x).routes=0↔(nodeAt W x).routes=0:=ones16_zero (by omega)
  have h0w:ones 16 (nodeAt W x).ways=0↔(nodeAt W x).ways=0:=ones16_zero n.lt2
  refine⟨hN,⟨?_,?_,?_,?_,?_,?_,?_,?_⟩⟩
  · rw[hN];exact hlt
  · rw[hN];exact n.lt2
  · rw[hN]
    show (if ones 16 (nodeAt W x).ways=0 then (nodeAt W x).children else (copyHops W A x).top)<65536
    rw[(hops_facts W A x).1]
    have:=n.lt3
    split <;> omega
  · rw[hN];intro e
    show (if ones 16 (nodeAt W x).routes=0 then (nodeAt W x).hops else A.top)=0
    rw[if_pos (h0.2 e)];exact n.hops0 e
  · rw[hN];intro e
    show (if ones 16 (nodeAt W x).ways=0 then (nodeAt W x).children else (copyHops W A x).top)=0
    rw[if_pos (h0w.2 e)];exact n.kids0 e
  · intro fu j hfu hj;rw[hN];exact n.route fu j hfu hj
  · intro fu j h hfu hj hm
    have hb:=n.route fu j hfu hj
    rw[hm] at hb
    have hlt:=ones_lt (show num fu j<16 by have:=num_lt hfu hj;omega) hb
    rw[hN]
    show putNode _ _ _ ((if ones 16 (nodeAt W x).routes=0 then (nodeAt W x).hops else A.top)+ones (num fu j) (nodeAt W x).routes)=h
    rw[if_neg (by omega),putNode_out (by unfold inB;rw[if_neg (by omega)]),hC _ hlt]
    exact n.hop fu j h hfu hj hm
  · intro f hf;rw[hN];exact n.way f hf
theorem kids_ok {W:Nat→Nat} {M:Tab} {d len u x p:Nat} (ih:∀(len u x y:Nat) (A:Ar),Rep W M d len u x→y+2≤A.top→A.top+costW W d x≤65536→Copied W M A (copyN W d A x y) d len u x y)
    (hr:Rep W M (d+1) len u x) (A:Ar) (hp:p+2*ones 16 (nodeAt W x).ways=A.top) (ht:A.top+sumTo (ones 16 (nodeAt W x).ways) (fun k=>costW W d ((nodeAt W x).children+2*k))≤65536) :
    ∀k,k≤ones 16 (nodeAt W x).ways→∀B,B=(List.range k).foldl (fun B k=>copyN W d B ((nodeAt W x).children+2*k) (p+2*k)) A →
      B.top=A.top+sumTo k (fun k=>costW W d ((nodeAt W x).children+2*k))∧B.free=A.free-(sumTo k (fun k=>costW W d ((nodeAt W x).children+2*k)):Nat)∧B.given=A.given∧B.size=A.size ∧
      (∀a,inB a p (2*k)=0→(a<A.top∨A.top+sumTo k (fun k=>costW W d ((nodeAt W x).children+2*k))≤a)→B.word a=A.word a) ∧
      ∀f,f<16→(nodeAt W x).ways.testBit f=true→ones f (nodeAt W x).ways<k→Rep B.word M d (len+4) (16*u+f) (p+2*ones f (nodeAt W x).ways) ∧
        (∀a,fp B.word d (p+2*ones f (nodeAt W x).ways) a=inB a (A.top+sumTo (ones f (nodeAt W x).ways) (fun k=>costW W d ((nodeAt W x).children+2*k))) (costW W d ((nodeAt W x).children+2*ones f (nodeAt W x).ways)))∧costW B.word d (p+2*ones f (nodeAt W x).ways)=costW W d ((nodeAt W x).children+2*ones f (nodeAt W x).ways):=by
  intro k
  induction k with
  | zero =>
    intro _ B hB
    simp at hB
    subst hB
    exact⟨rfl,by simp[sumTo],rfl,rfl,fun _ _ _=>rfl,fun f _ _ q=>by omega⟩
  | succ k ihk =>
    intro hk B hB
    rw[List.range_succ,List.foldl_append] at hB
    simp only[List.foldl_cons,List.foldl_nil] at hB
    generalize hB0:(List.range k).foldl (fun B k=>copyN W d B ((nodeAt W x).children+2*k) (p+2*k)) A=B0 at hB
    obtain⟨i1,i2,i3,i4,i5,i6⟩:=ihk (by omega) B0 hB0.symm
    obtain⟨f,f1,f2,f3⟩:=select (n:=16) (show k<ones 16 (nodeAt W x).ways by omega)
    have hmono:∀j,j≤ones 16 (nodeAt W x).ways→sumTo j (fun k=>costW W d ((nodeAt W x).children+2*k))≤sumTo (ones 16 (nodeAt W x).ways) (fun k=>costW W d ((nodeAt W x).children+2*k)):=by
      intro j hj
      generalize ones 16 (nodeAt W x).ways=m at hj
      induction m with
      | zero => have : j = 0 := by omega
                subst this;exact Nat.le_refl _
      | succ m ihm =>
        by_cases q:j=m+1
        · subst q;exact Nat.le_refl _
        · have:=ihm (by omega)
          simp only[sumTo];omega
    have hmk:=hmono (k+1) hk
    simp only[sumTo] at hmk
    have hkid:(nodeAt W x).kid f=(nodeAt W x).children+2*k:=by unfold NodeD.kid;rw[f3]
    have hrk:=hr.2 f f1 f2
    rw[hkid] at hrk
    have c:=ih (len+4) (16*u+f) _ (p+2*k) B0 hrk (by omega) (by omega)
    rw[←hB] at c
    refine⟨?_,?_,?_,?_,?_,?_⟩
    · rw[c.top,i1];simp only[sumTo];omega
    · rw[c.free,i2];simp only[sumTo];omega
    · rw[c.given,i3]
    · rw[c.size,i4]
    · intro a q1 q2
      simp only[sumTo] at q2
      have q3:¬(p≤a∧a<p+2*(k+1)):=fun q=>by rw[inB_one q.1 q.2] at q1;omega
      rw[c.word a (by unfold inB;rw[if_neg (by omega)]) (by omega)]
      exact i5 a (by unfold inB;rw[if_neg (by omega)]) (by omega)
    · intro g g1 g2 g3
      by_cases hg:ones g (nodeAt W x).ways=k
      · have hfg:g=f:=ones_inj g2 f2 (by omega)
        subst hfg
        rw[f3]
        refine⟨c.rep,?_,c.cost⟩
        intro a
        rw[c.fp a,i1]
      · obtain⟨j1,j2,j3⟩:=i6 g g1 g2 (by omega)
        have hsl:=sum_below (fun k=>costW W d ((nodeAt W x).children+2*k)) (show ones g (nodeAt W x).ways<k by omega)
        have hmv:=rep_move (W':=B.word) (M':=M) (x':=p+2*ones g (nodeAt W x).ways) j1 (agree_refl _ _ _) (c.word _ (by unfold inB;rw[if_neg (by omega)]) (by omega)) (c.word _ (by unfold inB;rw[if_neg (by omega)]) (by omega)) (by
          intro a q
          rw[j2 a] at q
          have q2:=inB_pos q
          exact c.word a (by unfold inB;rw[if_neg (by omega)]) (by omega))
        exact⟨hmv.1,fun a=>by rw[hmv.2.1 a,j2 a],by rw[hmv.2.2,j3]⟩
theorem copy_ok {W:Nat→Nat} {M:Tab}:∀(d len u x y:Nat) (A:Ar),Rep W M d len u x→y+2≤A.top→A.top+costW W d x≤65536→Copied W M A (copyN W d A x y) d len u x y:=by
  intro d
  induction d with
  | zero =>
    intro len u x y A hr hy ht
    obtain⟨f1,f2,f3,f4,f5,f6⟩:=hops_facts W A x
    have hw:=hr.2
    have h16:ones 16 0=0:=by decide
    have hc:costW W 0 x=ones 16 (nodeAt W x).routes:=by simp only[costW,hw,h16];omega
    rw[hc] at ht
    obtain⟨hN,hn⟩:=copied_node (C:=copyHops W A x) hr.node hy (by rw[hw,h16];omega) f6
    have hN':nodeAt (copyN W 0 A x y).word y=copiedNode W A x:=hN
    have hww:(copiedNode W A x).ways=0:=hw
    have hcost:costW (copyN W 0 A x y).word 0 y=ones 16 (nodeAt W x).routes:=by
      simp only[costW,hN',hww,h16]
      show ones 16 (nodeAt W x).routes+0=_
      omega
    refine⟨⟨hn,?_⟩,?_,?_,?_,?_,f3,f4,?_⟩
    · rw[hN'];exact hw
    · intro a
      rw[hc]
      simp only[fp,hN',hww,h16,Nat.mul_zero,inB_nil,Nat.add_zero]
      show inB a (if ones 16 (nodeAt W x).routes=0 then (nodeAt W x).hops else A.top) (ones 16 (nodeAt W x).routes)=_
      split
      · rename_i e;rw[e,inB_nil,inB_nil]
      · rfl
    · rw[hcost,hc]
    · rw[hc];exact f1
    · rw[hc];exact f2
    · intro a q1 q2
      rw[hc] at q2
      show putNode _ _ _ a=_
      rw[putNode_out q1]
      exact f5 a q2
  | succ d ih =>
    intro len u x y A hr hy ht
    obtain⟨f1,f2,f3,f4,f5,f6⟩:=hops_facts W A x
    have hsel:sumTo 16 (fun f=>if (nodeAt W x).ways.testBit f then costW W d ((nodeAt W x).kid f) else 0)=sumTo (ones 16 (nodeAt W x).ways) (fun k=>costW W d ((nodeAt W x).children+2*k)):=sum_select _ (fun k=>costW W d ((nodeAt W x).children+2*k)) 16
    have hc:costW W (d+1) x=ones 16 (nodeAt W x).routes+2*ones 16 (nodeAt W x).ways+sumTo (ones 16 (nodeAt W x).ways) (fun k=>costW W d ((nodeAt W x).children+2*k)):=by
      simp only[costW];rw[hsel]
    have key:∃C:Ar,copyN W (d+1) A x y=C.putN y (copiedNode W A x)∧C.top=A.top+costW W (d+1) x∧C.free=A.free-costW W (d+1) x∧C.given=A.given∧C.size=A.size ∧
        (∀a,(a<A.top∨A.top+costW W (d+1) x≤a)→C.word a=A.word a)∧(∀i,i<ones 16 (nodeAt W x).routes→C.word (A.top+i)=W ((nodeAt W x).hops+i)) ∧
        ∀f,f<16→(nodeAt W x).ways.testBit f=true→Rep C.word M d (len+4) (16*u+f) ((copiedNode W A x).kid f)∧(∀a,fp C.word d ((copiedNode W A x).kid f) a=inB a ((copyHops W A x).top+2*ones 16 (nodeAt W x).ways+sumTo (ones f (nodeAt W x).ways) (fun k=>costW W d ((nodeAt W x).children+2*k))) (costW W d ((nodeAt W x).children+2*ones f (nodeAt W x).ways)))∧costW C.word d ((copiedNode W A x).kid f)=costW W d ((nodeAt W x).children+2*ones f (nodeAt W x).ways):=by
      unfold copyN
      by_cases hm:ones 16 (nodeAt W x).ways=0
      · rw[if_pos hm]
        rw[hm] at hc
        simp only[sumTo] at hc
        refine⟨copyHops W A x,rfl,by rw[f1,hc];omega,by rw[f2,hc];omega,f3,f4,fun a q=>f5 a (by omega),f6,?_⟩
        intro f hf hb
        have:=ones_lt hf hb
        omega
      · rw[if_neg hm]
        obtain⟨k1,k2,k3,k4,k5,k6⟩:=kids_ok (p:=(copyHops W A x).top) ih hr ((copyHops W A x).bump (2*ones 16 (nodeAt W x).ways)) rfl (by
          show (copyHops W A x).top+_+_≤_
          rw[f1];omega) _ (Nat.le_refl _) _ rfl
        refine⟨_,rfl,?_,?_,?_,?_,?_,?_,?_⟩
        · rw[k1]
          show (copyHops W A x).top+_+_=_
          rw[f1,hc];omega
        · rw[k2]
          show (copyHops W A x).free-_-_=_
          rw[f2,hc];omega
        · rw[k3];exact f3
        · rw[k4];exact f4
        · intro a q
          rw[hc] at q
          have e:((copyHops W A x).bump (2*ones 16 (nodeAt W x).ways)).top=A.top+ones 16 (nodeAt W x).routes+2*ones 16 (nodeAt W x).ways:=by
            show (copyHops W A x).top+_=_
            rw[f1]
          rw[k5 a (by unfold inB;rw[f1,if_neg (by omega)]) (by rw[e];omega)]
          exact f5 a (by omega)
        · intro i hi
          have e:((copyHops W A x).bump (2*ones 16 (nodeAt W x).ways)).top=A.top+ones 16 (nodeAt W x).routes+2*ones 16 (nodeAt W x).ways:=by
            show (copyHops W A x).top+_=_
            rw[f1]
          rw[k5 _ (by unfold inB;rw[f1,if_neg (by omega)]) (by rw[e];omega)]
          exact f6 i hi
        · intro f hf hb
          have hk:(copiedNode W A x).kid f=(copyHops W A x).top+2*ones f (nodeAt W x).ways:=by
            show (if ones 16 (nodeAt W x).ways=0 then (nodeAt W x).children else (copyHops W A x).top)+2*ones f (nodeAt W x).ways=_
            rw[if_neg hm]
          rw[hk]
          exact k6 f hf hb (ones_lt hf hb)
    obtain⟨C,e,c1,c2,c3,c4,c5,c6,c7⟩:=key
    rw[e]
    obtain⟨hN,hn⟩:=copied_node (C:=C) hr.node hy (by omega) c6
    have hww:(copiedNode W A x).ways=(nodeAt W x).ways:=rfl
    have hrr:(copiedNode W A x).routes=(nodeAt W x).routes:=rfl
    have hkids:∀f,f<16→(nodeAt W x).ways.testBit f=true→Rep (C.putN y (copiedNode W A x)).word M d (len+4) (16*u+f) ((copiedNode W A x).kid f)∧(∀a,fp (C.putN y (copiedNode W A x)).word d ((copiedNode W A x).kid f) a=fp C.word d ((copiedNode W A x).kid f) a)∧costW (C.putN y (copiedNode W A x)).word d ((copiedNode W A x).kid f)=costW C.word d ((copiedNode W A x).kid f):=by
      intro f hf hb
      obtain⟨g1,g2,g3⟩:=c7 f hf hb
      have hlt:=ones_lt hf hb
      have hk:(copiedNode W A x).kid f=(copyHops W A x).top+2*ones f (nodeAt W x).ways:=by
        show (if ones 16 (nodeAt W x).ways=0 then (nodeAt W x).children else (copyHops W A x).top)+2*ones f (nodeAt W x).ways=_
        rw[if_neg (by omega)]
      have hout:∀a,A.top≤a→(C.putN y (copiedNode W A x)).word a=C.word a:=by
        intro a q
        apply putNode_out
        unfold inB;rw[if_neg (by omega)]
      refine rep_move g1 (agree_refl _ _ _) (hout _ (by rw[hk,f1];omega)) (hout _ (by rw[hk,f1];omega)) (fun a q=>hout a ?_)
      rw[g2 a] at q
      have:=inB_pos q
      omega
    refine⟨⟨hn,?_⟩,?_,?_,c1,c2,c3,c4,?_⟩
    · rw[hN];intro f hf hb;exact(hkids f hf hb).1
    · intro a
      simp only[fp,hN,hww,hrr]
      have e1:sumTo 16 (fun f=>if (nodeAt W x).ways.testBit f=true then fp (C.putN y (copiedNode W A x)).word d ((copiedNode W A x).kid f) a else 0)=inB a (A.top+ones 16 (nodeAt W x).routes+2*ones 16 (nodeAt W x).ways) (sumTo (ones 16 (nodeAt W x).ways) (fun k=>costW W d ((nodeAt W x).children+2*k))):=by
        rw[←sum_blocks,←sum_select (nodeAt W x).ways (fun k=>inB a (A.top+ones 16 (nodeAt W x).routes+2*ones 16 (nodeAt W x).ways+sumTo k (fun k=>costW W d ((nodeAt W x).children+2*k))) (costW W d ((nodeAt W x).children+2*k))) 16]
        apply sumTo_congr
        intro f hf
        split
        · rename_i hb
          rw[(hkids f hf hb).2.1 a,(c7 f hf hb).2.1 a,f1]
        · rfl
      rw[e1,hc,inB_split,inB_split]
      show inB a (if ones 16 (nodeAt W x).routes=0 then (nodeAt W x).hops else A.top) (ones 16 (nodeAt W x).routes)+inB a (if ones 16 (nodeAt W x).ways=0 then (nodeAt W x).children else (copyHops W A x).top) (2*ones 16 (nodeAt W x).ways)+_=_
      congr 2
      · split
        · rename_i q;rw[q,inB_nil,inB_nil]
        · rfl
      · split
        · rename_i q;rw[q,Nat.mul_zero,inB_nil,inB_nil]
        · rw[f1]
      · omega
    · rw[hc]
      simp only[costW,hN,hww,hrr]
      congr 1
      rw[←sum_select (nodeAt W x).ways (fun k=>costW W d ((nodeAt W x).children+2*k)) 16]
      apply sumTo_congr
      intro f hf
      split
      · rename_i hb
        rw[(hkids f hf hb).2.2,(c7 f hf hb).2.2]
      · rfl
    · intro a q1 q2
      show putNode _ _ _ a=_
      rw[putNode_out q1]
      exact c5 a q2
end Go.Proofs.YtnapboelfimaaaaGreatDoor
