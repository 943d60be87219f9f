/- MathR, MathS, MathT, MathU: parts of the proof, one behind the other. -/
import Derived.Test.YtnapboelfimaaaaGreatDoorB04
namespace Go.Proofs.YtnapboelfimaaaaGreatDoor
structure Root (W:Nat→Nat) (M:Tab) (r dm:Nat):Prop where
 lt:∀b,b<256→W (r+b)/65536<256
 short:∀b l,b<256→l<8→(W (r+b)/65536).testBit l=(M l (b/2^(8-l))).isSome
 hop:∀l v h,l<8→v<2^l→M l v=some h→W (r+256+2^l+v)=h
 node:∀b,b<256→(W (r+b)%65536=0↔anyBelow M 8 b=false)
 rep:∀b,b<256→W (r+b)%65536≠0→Rep W M dm 8 b (W (r+b)%65536)
def live1 (W:Nat→Nat) (r dm a b:Nat):Nat:=if W (r+b)%65536=0 then 0 else inB a (W (r+b)%65536) 2+fp W dm (W (r+b)%65536) a
def cost1 (W:Nat→Nat) (r dm b:Nat):Nat:=if W (r+b)%65536=0 then 0 else 2+costW W dm (W (r+b)%65536)
def liveR (W:Nat→Nat) (r dm a:Nat):Nat:=sumTo 256 fun b=>live1 W r dm a b
def costR (W:Nat→Nat) (r dm:Nat):Nat:=sumTo 256 fun b=>cost1 W r dm b
theorem rep_same {W W':Nat→Nat} {M M':Tab} {r dm b:Nat} (h:Rep W M dm 8 b (W (r+b)%65536)) (ha:Agree M M' 8 b) (h0:W (r+b)%65536≠0) (e:W' (r+b)%65536=W (r+b)%65536) (hw:∀a,1≤live1 W r dm a b→W' a=W a) :
  Rep W' M' dm 8 b (W (r+b)%65536)∧(∀a,live1 W' r dm a b=live1 W r dm a b)∧cost1 W' r dm b=cost1 W r dm b:=by
 have hl:∀a,live1 W r dm a b=inB a (W (r+b)%65536) 2+fp W dm (W (r+b)%65536) a:=fun a=>by unfold live1;rw[if_neg h0]
 obtain⟨r1,r2,r3⟩:=rep_move (W':=W') (M':=M') (x':=W (r+b)%65536) h ha (hw _ (by rw[hl,inB_one (Nat.le_refl _) (by omega)];omega)) (hw _ (by rw[hl,inB_one (by omega) (by omega)];omega)) (fun a q=>hw a (by rw[hl];omega))
 refine⟨r1,?_,?_⟩
 ·intro a
  unfold live1
  rw[e,if_neg h0,if_neg h0,r2 a]
 ·unfold cost1
  rw[e,if_neg h0,if_neg h0,r3]
theorem live1_le (W:Nat→Nat) (r dm a:Nat) {b:Nat} (hb:b<256):live1 W r dm a b≤liveR W r dm a:=le_sumTo (fun b=>live1 W r dm a b) hb
theorem root_move {W W':Nat→Nat} {M:Tab} {r dm:Nat} (h:Root W M r dm) (hw:∀a,r≤a→a<r+512→W' a=W a) (hl:∀a,1≤liveR W r dm a→W' a=W a) :
  Root W' M r dm∧(∀a,liveR W' r dm a=liveR W r dm a)∧costR W' r dm=costR W r dm:=by
 have hb:∀b,b<256→W' (r+b)=W (r+b):=fun b hb=>hw _ (by omega) (by omega)
 have key:∀b,b<256→W (r+b)%65536≠0→Rep W' M dm 8 b (W (r+b)%65536)∧(∀a,live1 W' r dm a b=live1 W r dm a b)∧cost1 W' r dm b=cost1 W r dm b:=by
  intro b hb' h0
  exact rep_same (h.rep b hb' h0) (agree_refl _ _ _) h0 (by rw[hb b hb']) fun a q=>hl a (by have:=live1_le W r dm a hb';omega)
 refine⟨⟨?_,?_,?_,?_,?_⟩,?_,?_⟩
 ·intro b q;rw[hb b q];exact h.lt b q
 ·intro b l q q2;rw[hb b q];exact h.short b l q q2
 ·intro l v x q q2 q3
  have:2^l≤2^7:=Nat.pow_le_pow_right (by decide) (by omega)
  rw[hw _ (by omega) (by omega)];exact h.hop l v x q q2 q3
 ·intro b q;rw[hb b q];exact h.node b q
 ·intro b q q2
  rw[hb b q] at q2 ⊢
  exact(key b q q2).1
 ·intro a
  apply sumTo_congr
  intro b q
  by_cases h0:W (r+b)%65536=0
  ·unfold live1;rw[hb b q,if_pos h0,if_pos h0]
  ·exact(key b q h0).2.1 a
 ·apply sumTo_congr
  intro b q
  by_cases h0:W (r+b)%65536=0
  ·unfold cost1;rw[hb b q,if_pos h0,if_pos h0]
  ·exact(key b q h0).2.2
theorem byte_of {l v:Nat} (h1:8≤l) (hv:v<2^l):v/2^(l-8)<256:=by
 rw[Nat.div_lt_iff_lt_mul (Nat.two_pow_pos _)]
 have:256*2^(l-8)=2^l:=by
  rw[show 256=2^8 from rfl,←Nat.pow_add];congr 1;omega
 omega
theorem root_tree {W W':Nat→Nat} {M:Tab} {r dm l v b:Nat} {o:Option Nat} (h:Root W M r dm) (h1:8≤l) (hb:v/2^(l-8)=b) (hb2:b<256)
  (hw:∀a,r≤a→a<r+512→a≠r+b→W' a=W a) (hsh:W' (r+b)/65536=W (r+b)/65536) (hl:∀b' a,b'<256→b'≠b→1≤live1 W r dm a b'→W' a=W a)
  (hnode:W' (r+b)%65536=0↔anyBelow (updT M l v o) 8 b=false) (hrep:W' (r+b)%65536≠0→Rep W' (updT M l v o) dm 8 b (W' (r+b)%65536)) :
  Root W' (updT M l v o) r dm∧(∀a,liveR W' r dm a+live1 W r dm a b=liveR W r dm a+live1 W' r dm a b)∧costR W' r dm+cost1 W r dm b=costR W r dm+cost1 W' r dm b:=by
 have hag:∀b',b'≠b→Agree M (updT M l v o) 8 b':=fun b' hne=>agree_upd (by rintro ⟨_,e⟩;omega)
 have hwb:∀b',b'<256→b'≠b→W' (r+b')=W (r+b'):=fun b' q1 q2=>hw _ (by omega) (by omega) (by omega)
 have hsho:∀l' v',l'<8→updT M l v o l' v'=M l' v':=fun l' v' q=>updT_ne (by omega)
 have key:∀b',b'<256→b'≠b→W (r+b')%65536≠0→Rep W' (updT M l v o) dm 8 b' (W (r+b')%65536)∧(∀a,live1 W' r dm a b'=live1 W r dm a b')∧cost1 W' r dm b'=cost1 W r dm b':=by
  intro b' q1 q2 h0
  exact rep_same (h.rep b' q1 h0) (hag b' q2) h0 (by rw[hwb b' q1 q2]) fun a q=>hl b' a q1 q2 q
 refine⟨⟨?_,?_,?_,?_,?_⟩,?_,?_⟩
 ·intro b' q
  by_cases e:b'=b
  ·subst e;rw[hsh];exact h.lt b' q
  ·rw[hwb b' q e];exact h.lt b' q
 ·intro b' l' q q2
  rw[hsho l' _ q2]
  by_cases e:b'=b
  ·subst e;rw[hsh];exact h.short b' l' q q2
  ·rw[hwb b' q e];exact h.short b' l' q q2
 ·intro l' v' x q q2 q3
  rw[hsho l' _ q] at q3
  have:2^l'≤2^7:=Nat.pow_le_pow_right (by decide) (by omega)
  rw[hw _ (by omega) (by omega) (by omega)];exact h.hop l' v' x q q2 q3
 ·intro b' q
  by_cases e:b'=b
  ·subst e;exact hnode
  ·rw[hwb b' q e,anyBelow_agree (hag b' e)];exact h.node b' q
 ·intro b' q q2
  by_cases e:b'=b
  ·subst e;exact hrep q2
  ·rw[hwb b' q e] at q2 ⊢
   exact(key b' q e q2).1
 ·intro a
  have:=sumTo_one (n:=256) (k:=b) (g:=fun b=>live1 W r dm a b) (g':=fun b=>live1 W' r dm a b) hb2 (by
   intro b' q e
   by_cases h0:W (r+b')%65536=0
   ·unfold live1;rw[hwb b' q e,if_pos h0,if_pos h0]
   ·exact(key b' q e h0).2.1 a)
  exact this
 ·have:=sumTo_one (n:=256) (k:=b) (g:=fun b=>cost1 W r dm b) (g':=fun b=>cost1 W' r dm b) hb2 (by
   intro b' q e
   by_cases h0:W (r+b')%65536=0
   ·unfold cost1;rw[hwb b' q e,if_pos h0,if_pos h0]
   ·exact(key b' q e h0).2.2)
  exact this
theorem live_two (W:Nat→Nat) (r dm a:Nat) {b b':Nat} (hb:b<256) (hb':b'<256) (hne:b'≠b):live1 W r dm a b+live1 W r dm a b'≤liveR W r dm a:=by
 rcases Nat.lt_or_gt_of_ne hne with h | h
 ·have:=two_sumTo (fun b=>live1 W r dm a b) h hb
  unfold liveR;omega
 ·exact two_sumTo (fun b=>live1 W r dm a b) h hb'
def markW (W:Nat→Nat) (r l v:Nat) (there:Bool):Nat→Nat:=fun a=>if r+v*2^(8-l)≤a∧a<r+(v+1)*2^(8-l) then W a%65536+65536*(if there then W a/65536 ||| 2^l else clr (W a/65536) l) else W a
theorem root_mark {W W':Nat→Nat} {M:Tab} {r dm l v:Nat} {o:Option Nat} (h:Root W M r dm) (hl:l<8) (hv:v<2^l) (hW:∀a,r≤a→a<r+256→W' a=markW W r l v o.isSome a)
  (hhop:∀x,o=some x→W' (r+256+2^l+v)=x) (hhops:∀a,r+256≤a→a<r+512→a≠r+256+2^l+v→W' a=W a) (hlive:∀a,1≤liveR W r dm a→W' a=W a) :
  Root W' (updT M l v o) r dm∧(∀a,liveR W' r dm a=liveR W r dm a)∧costR W' r dm=costR W r dm:=by
 have hp:2^l*2^(8-l)=256:=by rw[←Nat.pow_add,show l+(8-l)=8 by omega]
 have hp0:=Nat.two_pow_pos (8-l)
 have hmod:∀b,b<256→W' (r+b)%65536=W (r+b)%65536:=by
  intro b hb
  rw[hW _ (by omega) (by omega)]
  unfold markW
  split
  ·omega
  ·rfl
 have hin:∀b,b<256→((r+v*2^(8-l)≤r+b∧r+b<r+(v+1)*2^(8-l))↔b/2^(8-l)=v):=by
  intro b _
  constructor
  ·rintro ⟨q1,q2⟩
   have q3:v≤b/2^(8-l):=(Nat.le_div_iff_mul_le hp0).2 (by omega)
   have q4:b/2^(8-l)<v+1:=(Nat.div_lt_iff_lt_mul hp0).2 (by omega)
   omega
  ·intro e
   have q3:=(Nat.le_div_iff_mul_le hp0).1 (show v≤b/2^(8-l) by omega)
   have q4:=(Nat.div_lt_iff_lt_mul hp0).1 (show b/2^(8-l)<v+1 by omega)
   omega
 have hdiv:∀b,b<256→W' (r+b)/65536=if b/2^(8-l)=v then (if o.isSome then W (r+b)/65536 ||| 2^l else clr (W (r+b)/65536) l) else W (r+b)/65536:=by
  intro b hb
  rw[hW _ (by omega) (by omega)]
  unfold markW
  by_cases e:b/2^(8-l)=v
  ·rw[if_pos ((hin b hb).2 e),if_pos e];omega
  ·rw[if_neg (fun q=>e ((hin b hb).1 q)),if_neg e]
 have hag:∀b,Agree M (updT M l v o) 8 b:=fun b=>agree_upd (by omega)
 have key:∀b,b<256→W (r+b)%65536≠0→Rep W' (updT M l v o) dm 8 b (W (r+b)%65536)∧(∀a,live1 W' r dm a b=live1 W r dm a b)∧cost1 W' r dm b=cost1 W r dm b:=by
  intro b hb' h0
  exact rep_same (h.rep b hb' h0) (hag b) h0 (hmod b hb') fun a q=>hlive a (by have:=live1_le W r dm a hb';omega)
 refine⟨⟨?_,?_,?_,?_,?_⟩,?_,?_⟩
 ·intro b hb
  rw[hdiv b hb]
  have:=h.lt b hb
  split
  ·split
   ·exact or_lt (n:=8) this hl
   ·exact clr_lt (n:=8) this hl
  ·exact this
 ·intro b l' hb hl'
  rw[hdiv b hb]
  by_cases e:b/2^(8-l)=v
  ·rw[if_pos e]
   by_cases e2:l'=l
   ·subst e2
    rw[e,updT_same]
    cases ho:o.isSome with
    | true=>simp only[if_true];exact or_bit _ _
    | false=>simp only[Bool.false_eq_true,if_false];exact clr_bit _ _
   ·rw[updT_ne (by omega),←h.short b l' hb hl']
    split
    ·exact or_bits _ _ _ e2
    ·exact clr_bits _ _ _ e2
  ·rw[if_neg e,h.short b l' hb hl']
   rw[updT_ne]
   rintro ⟨rfl,e3⟩
   exact e e3
 ·intro l' v' x q q2 q3
  by_cases e:l'=l∧v'=v
  ·obtain⟨rfl,rfl⟩:=e
   rw[updT_same] at q3
   exact hhop x q3
  ·rw[updT_ne e] at q3
   have e1:2^l'≤2^7:=Nat.pow_le_pow_right (by decide) (by omega)
   have e2:2^l≤2^7:=Nat.pow_le_pow_right (by decide) (by omega)
   rw[hhops _ (by omega) (by omega) ?_]
   ·exact h.hop l' v' x q q2 q3
   ·intro e3
    rcases Nat.lt_trichotomy l' l with c | c | c
    ·have:2^(l'+1)≤2^l:=Nat.pow_le_pow_right (by decide) (by omega)
     rw[Nat.pow_succ] at this
     omega
    ·subst c;omega
    ·have:2^(l+1)≤2^l':=Nat.pow_le_pow_right (by decide) (by omega)
     rw[Nat.pow_succ] at this
     omega
 ·intro b hb
  rw[hmod b hb,anyBelow_agree (hag b)];exact h.node b hb
 ·intro b hb q
  rw[hmod b hb] at q ⊢
  exact(key b hb q).1
 ·intro a
  apply sumTo_congr
  intro b q
  by_cases h0:W (r+b)%65536=0
  ·unfold live1;rw[hmod b q,if_pos h0,if_pos h0]
  ·exact(key b q h0).2.1 a
 ·apply sumTo_congr
  intro b q
  by_cases h0:W (r+b)%65536=0
  ·unfold cost1;rw[hmod b q,if_pos h0,if_pos h0]
  ·exact(key b q h0).2.2
end Go.Proofs.YtnapboelfimaaaaGreatDoor
namespace Go.Proofs.YtnapboelfimaaaaGreatDoor
def Sub (M M':Tab):Prop:=∀l v,(M l v).isSome=true→(M' l v).isSome=true
theorem anyBelow_sub {M M':Tab} (h:Sub M M') {len u:Nat} (ha:anyBelow M len u=true):anyBelow M' len u=true:=by
 rw[anyBelow_iff] at ha ⊢
 obtain⟨k,j,q1,q2,q3⟩:=ha
 exact⟨k,j,q1,q2,h _ _ q3⟩
theorem ones_sub {x y:Nat} (h:∀i,x.testBit i=true→y.testBit i=true) (n:Nat):ones n x≤ones n y:=by
 induction n with
 | zero=>exact Nat.le_refl _
 | succ n ih =>
  rw[ones_succ,ones_succ]
  by_cases hb:x.testBit n=true
  ·rw[if_pos hb,if_pos (h n hb)];omega
  ·rw[if_neg hb];split <;> omega
theorem routes_sub {W W':Nat→Nat} {M M':Tab} (h:Sub M M') {len u x x':Nat} (n:NodeOk W M len u x) (n':NodeOk W' M' len u x'):∀i,(nodeAt W x).routes.testBit i=true→(nodeAt W' x').routes.testBit i=true:=by
 intro i hb
 have hi:i<15:=by
  by_cases q:i<15
  ·exact q
  ·have h2:32768≤2^i:=Nat.pow_le_pow_right (n:=2) (by decide) (show 15≤i by omega)
   have:=n.lt
   rw[Nat.testBit_lt_two_pow (by omega)] at hb
   cases hb
 obtain⟨fu,j,h3,hj,rfl⟩:=num_all hi
 rw[n.route fu j h3 hj] at hb
 rw[n'.route fu j h3 hj]
 exact h _ _ hb
theorem ways_sub {W W':Nat→Nat} {M M':Tab} (h:Sub M M') {len u x x':Nat} (n:NodeOk W M len u x) (n':NodeOk W' M' len u x'):∀i,(nodeAt W x).ways.testBit i=true→(nodeAt W' x').ways.testBit i=true:=by
 intro i hb
 have hi:=testBit_lt16 n.lt2 hb
 rw[n.way i hi] at hb
 rw[n'.way i hi]
 exact anyBelow_sub h hb
theorem cost_le {W W':Nat→Nat} {M M':Tab} (h:Sub M M'):∀ {d len u x x':Nat},Rep W M d len u x→Rep W' M' d len u x'→costW W d x≤costW W' d x':=by
 intro d
 induction d with
 | zero =>
  intro len u x x' r r'
  have h1:=ones_sub (routes_sub h r.node r'.node) 16
  have h2:=ones_sub (ways_sub h r.node r'.node) 16
  simp only[costW];omega
 | succ d ih =>
  intro len u x x' r r'
  have h1:=ones_sub (routes_sub h r.node r'.node) 16
  have h2:=ones_sub (ways_sub h r.node r'.node) 16
  have h3:sumTo 16 (fun f=>if (nodeAt W x).ways.testBit f=true then costW W d ((nodeAt W x).kid f) else 0)≤sumTo 16 (fun f=>if (nodeAt W' x').ways.testBit f=true then costW W' d ((nodeAt W' x').kid f) else 0):=by
   apply sumTo_le
   intro f hf
   by_cases hb:(nodeAt W x).ways.testBit f=true
   ·have hb':=ways_sub h r.node r'.node f hb
    rw[if_pos hb,if_pos hb']
    exact ih (r.2 f hf hb) (r'.2 f hf hb')
   ·rw[if_neg hb];omega
  simp only[costW];omega
theorem sub_refl (M:Tab):Sub M M:=fun _ _ h=>h
theorem bits_eq {x y:Nat} (h1:∀i,x.testBit i=true→y.testBit i=true) (h2:∀i,y.testBit i=true→x.testBit i=true):x=y:=by
 apply Nat.eq_of_testBit_eq
 intro i
 rw[Bool.eq_iff_iff]
 exact⟨h1 i,h2 i⟩
theorem routes_same {W W':Nat→Nat} {M:Tab} {len u x x':Nat} (n:NodeOk W M len u x) (n':NodeOk W' M len u x'):(nodeAt W x).routes=(nodeAt W' x').routes:=bits_eq (routes_sub (sub_refl M) n n') (routes_sub (sub_refl M) n' n)
theorem ways_same {W W':Nat→Nat} {M:Tab} {len u x x':Nat} (n:NodeOk W M len u x) (n':NodeOk W' M len u x'):(nodeAt W x).ways=(nodeAt W' x').ways:=bits_eq (ways_sub (sub_refl M) n n') (ways_sub (sub_refl M) n' n)
theorem reach_same {W W':Nat→Nat} {M:Tab} {l v:Nat}:∀(s d len u x x':Nat),Rep W M d len u x→Rep W' M d len u x'→s≤d→len+4*s≤l→v/2^(l-len)=u →
  (reach W l v s len x).2=(reach W' l v s len x').2∧(nodeAt W (reach W l v s len x).1).routes=(nodeAt W' (reach W' l v s len x').1).routes∧(nodeAt W (reach W l v s len x).1).ways=(nodeAt W' (reach W' l v s len x').1).ways:=by
 intro s
 induction s with
 | zero =>
  intro d len u x x' r r' _ _ _
  exact⟨rfl,routes_same r.node r'.node,ways_same r.node r'.node⟩
 | succ s ih =>
  intro d len u x x' r r' hd hl hu
  obtain⟨d,rfl⟩:∃d',d=d'+1:=⟨d-1,by omega⟩
  have hw:=ways_same r.node r'.node
  unfold reach
  by_cases hb:(nodeAt W x).ways.testBit (fourV l v len)=true
  ·have hb':=hb
   rw[hw] at hb'
   rw[if_pos hb,if_pos hb']
   exact ih d (len+4) (16*u+fourV l v len) _ _ (r.2 _ (fourV_lt _ _ _) hb) (r'.2 _ (fourV_lt _ _ _) hb') (by omega) (by omega) (fourV_next (by omega) hu)
  ·have hb':=hb
   rw[hw] at hb'
   rw[if_neg hb,if_neg hb']
   exact⟨rfl,routes_same r.node r'.node,hw⟩
theorem need_same {W W':Nat→Nat} {M:Tab} {l v d u x x':Nat} (r:Rep W M d 8 u x) (r':Rep W' M d 8 u x') (h1:8≤l) (h3:l≤8+4*d) (h2:v/2^(l-8)=u):needTree l v W x=needTree l v W' x':=by
 obtain⟨e1,e2,e3⟩:=reach_same ((l-8)/4) d 8 u x x' r r' (by omega) (by omega) h2
 unfold needTree
 generalize reach W l v ((l-8)/4) 8 x=R at e1 e2 e3
 generalize reach W' l v ((l-8)/4) 8 x'=R' at e1 e2 e3
 obtain⟨y,len⟩:=R
 obtain⟨y',len'⟩:=R'
 simp only[] at e1 e2 e3
 subst e1
 simp only[e2,e3]
theorem costR_le {W W':Nat→Nat} {M M':Tab} {r r' dm:Nat} (h:Sub M M') (R:Root W M r dm) (R':Root W' M' r' dm):costR W r dm≤costR W' r' dm:=by
 apply sumTo_le
 intro b hb
 unfold cost1
 by_cases h0:W (r+b)%65536=0
 ·rw[if_pos h0];omega
 ·have h0':W' (r'+b)%65536≠0:=by
   intro e
   have q1:=(R'.node b hb).1 e
   have q2:anyBelow M 8 b≠false:=fun q=>h0 ((R.node b hb).2 q)
   have q3:=anyBelow_sub h (show anyBelow M 8 b=true by simpa using q2)
   rw[q1] at q3
   cases q3
  rw[if_neg h0,if_neg h0']
  have:=cost_le h (R.rep b hb h0) (R'.rep b hb h0')
  omega
theorem costR_same {W W':Nat→Nat} {M:Tab} {r r' dm:Nat} (R:Root W M r dm) (R':Root W' M r' dm):costR W r dm=costR W' r' dm:=Nat.le_antisymm (costR_le (sub_refl M) R R') (costR_le (sub_refl M) R' R)
def cntW (W:Nat→Nat):Nat→Nat→Nat
 | 0,x=>ones 16 (nodeAt W x).routes
 | d+1,x=>ones 16 (nodeAt W x).routes+sumTo 16 fun f=>if (nodeAt W x).ways.testBit f then cntW W d ((nodeAt W x).kid f) else 0
theorem cnt_pos {W:Nat→Nat} {M:Tab} {L:Nat} (hT:TabOk L M) (hL:L≤128):∀ {d len u x:Nat},Rep W M d len u x→anyBelow M len u=true→1≤cntW W d x:=by
 intro d
 induction d with
 | zero =>
  intro len u x r ha
  have:=node_empty r.node hT hL
  rw[ha,r.2] at this
  have hne:(nodeAt W x).routes≠0:=by
   intro e
   rw[e] at this
   simp at this
  have hz:=ones16_zero (x:=(nodeAt W x).routes) (by have:=r.node.lt;omega)
  simp only[cntW]
  omega
 | succ d ih =>
  intro len u x r ha
  simp only[cntW]
  by_cases hw:(nodeAt W x).ways=0
  ·have:=node_empty r.node hT hL
   rw[ha,hw] at this
   have hne:(nodeAt W x).routes≠0:=by
    intro e
    rw[e] at this
    simp at this
   have hz:=ones16_zero (x:=(nodeAt W x).routes) (by have:=r.node.lt;omega)
   omega
  ·have hx:∃f,f<16∧(nodeAt W x).ways.testBit f=true:=by
    by_cases q:∃f,f<16∧(nodeAt W x).ways.testBit f=true
    ·exact q
    ·exact absurd (zero_bits16 r.node.lt2 fun i hi=>by
      by_cases hb:(nodeAt W x).ways.testBit i=true
      ·exact absurd ⟨i,hi,hb⟩ q
      ·simpa using hb) hw
   obtain⟨f,hf,hb⟩:=hx
   have h1:=le_sumTo (fun f=>if (nodeAt W x).ways.testBit f then cntW W d ((nodeAt W x).kid f) else 0) hf
   simp only[hb,if_true] at h1
   have h2:=ih (r.2 f hf hb) (by rw[←r.node.way f hf];exact hb)
   omega
theorem cost_cnt {W:Nat→Nat} {M:Tab} {L:Nat} (hT:TabOk L M) (hL:L≤128):∀ {d len u x:Nat},Rep W M d len u x→costW W d x≤(2*d+1)*cntW W d x:=by
 intro d
 induction d with
 | zero =>
  intro len u x r
  have h0:ones 16 0=0:=by decide
  simp only[costW,cntW,r.2,h0];omega
 | succ d ih =>
  intro len u x r
  simp only[costW,cntW]
  have h1:2*ones 16 (nodeAt W x).ways+sumTo 16 (fun f=>if (nodeAt W x).ways.testBit f=true then costW W d ((nodeAt W x).kid f) else 0)≤(2*(d+1)+1)*sumTo 16 (fun f=>if (nodeAt W x).ways.testBit f=true then cntW W d ((nodeAt W x).kid f) else 0):=by
   rw[←sumTo_ones,←sumTo_mul,←sumTo_add,←sumTo_mul]
   apply sumTo_le
   intro f hf
   by_cases hb:(nodeAt W x).ways.testBit f=true
   ·rw[if_pos hb,if_pos hb,if_pos hb]
    have q1:=ih (r.2 f hf hb)
    have q2:=cnt_pos hT hL (r.2 f hf hb) (by rw[←r.node.way f hf];exact hb)
    generalize cntW W d ((nodeAt W x).kid f)=c at q1 q2
    generalize costW W d ((nodeAt W x).kid f)=e at q1
    have:(2*(d+1)+1)*c=(2*d+1)*c+2*c:=by rw[←Nat.add_mul];congr 1
    omega
   ·rw[if_neg hb,if_neg hb,if_neg hb];simp
  rw[Nat.mul_add]
  have h2:ones 16 (nodeAt W x).routes≤(2*(d+1)+1)*ones 16 (nodeAt W x).routes:=Nat.le_mul_of_pos_left _ (by omega)
  omega
end Go.Proofs.YtnapboelfimaaaaGreatDoor
namespace Go.Proofs.YtnapboelfimaaaaGreatDoor
def rt (q:Bool):Nat:=if q then 512 else 0
def dp (q:Bool):Nat:=if q then 30 else 6
theorem rt_le (q:Bool):rt q≤512:=by cases q <;> decide
theorem dp_le (q:Bool):8+4*dp q≤128:=by cases q <;> decide
theorem rt_apart (q:Bool):rt q+512≤rt (!q)∨rt (!q)+512≤rt q:=by cases q <;> decide
def edge (A:Ar) (a:Nat):Nat:=if a<1024∨A.size≤a then 1 else 0
structure Inv (A:Ar) (F:Nat→List Nat) (M:Bool→Tab):Prop where
 ar:ArOk A F
 size:2048≤A.size
 top:1024≤A.top
 root:∀q,Root A.word (M q) (rt q) (dp q)
 tab:∀q,TabOk (8+4*dp q) (M q)
 sep:∀a,edge A a+liveR A.word (rt false) (dp false) a+liveR A.word (rt true) (dp true) a+A.frees F a≤1
 free:A.free+costR A.word (rt false) (dp false)+costR A.word (rt true) (dp true)+1024=A.size
def updM (M:Bool→Tab) (q:Bool) (l v:Nat) (o:Option Nat):Bool→Tab:=fun p=>if p=q then updT (M q) l v o else M p
theorem updM_same (M:Bool→Tab) (q:Bool) (l v:Nat) (o:Option Nat):updM M q l v o q=updT (M q) l v o:=by simp[updM]
theorem updM_not (M:Bool→Tab) (q:Bool) (l v:Nat) (o:Option Nat):updM M q l v o (!q)=M (!q):=by simp[updM]
theorem all_of {P:Bool→Prop} (q:Bool) (h1:P q) (h2:P (!q)):∀p,P p:=by
 intro p
 cases q <;> cases p <;> first | exact h1 | exact h2
theorem Inv.sepq {A:Ar} {F:Nat→List Nat} {M:Bool→Tab} (h:Inv A F M) (q:Bool) (a:Nat):edge A a+liveR A.word (rt q) (dp q) a+liveR A.word (rt (!q)) (dp (!q)) a+A.frees F a≤1:=by
 have:=h.sep a
 cases q
 ·exact this
 ·show edge A a+liveR A.word (rt true) (dp true) a+liveR A.word (rt false) (dp false) a+A.frees F a≤1
  omega
theorem Inv.of {A:Ar} {F:Nat→List Nat} {M:Bool→Tab} (q:Bool) (ar:ArOk A F) (size:2048≤A.size) (top:1024≤A.top) (r1:Root A.word (M q) (rt q) (dp q)) (r2:Root A.word (M (!q)) (rt (!q)) (dp (!q))) (t1:TabOk (8+4*dp q) (M q)) (t2:TabOk (8+4*dp (!q)) (M (!q)))
  (sep:∀a,edge A a+liveR A.word (rt q) (dp q) a+liveR A.word (rt (!q)) (dp (!q)) a+A.frees F a≤1) (free:A.free+costR A.word (rt q) (dp q)+costR A.word (rt (!q)) (dp (!q))+1024=A.size):Inv A F M:=by
 refine⟨ar,size,top,all_of q r1 r2,all_of q t1 t2,?_,?_⟩
 ·intro a
  have:=sep a
  cases q
  ·exact this
  ·have e:edge A a+liveR A.word (rt true) (dp true) a+liveR A.word (rt false) (dp false) a+A.frees F a≤1:=this
   omega
 ·cases q
  ·exact free
  ·have e:A.free+costR A.word (rt true) (dp true)+costR A.word (rt false) (dp false)+1024=A.size:=free
   omega
theorem Inv.freeq {A:Ar} {F:Nat→List Nat} {M:Bool→Tab} (h:Inv A F M) (q:Bool):A.free+costR A.word (rt q) (dp q)+costR A.word (rt (!q)) (dp (!q))+1024=A.size:=by
 have:=h.free
 cases q
 ·exact this
 ·show A.free+costR A.word (rt true) (dp true)+costR A.word (rt false) (dp false)+1024=A.size
  omega
theorem edge_low {A:Ar} {a:Nat} (h:a<1024):edge A a=1:=by unfold edge;rw[if_pos (Or.inl h)]
def shortN (A:Ar) (q:Bool) (l v:Nat) (o:Option Nat):Ar :=
 { A with word:=match o with
  | some h=>setW (markW A.word (rt q) l v true) (rt q+256+2^l+v) h
  | none=>markW A.word (rt q) l v false }
theorem markW_out {W:Nat→Nat} {r l v a:Nat} {t:Bool} (hl:l<8) (hv:v<2^l) (h:a<r∨r+256≤a):markW W r l v t a=W a:=by
 have hp:2^l*2^(8-l)=256:=by rw[←Nat.pow_add,show l+(8-l)=8 by omega]
 have:(v+1)*2^(8-l)≤2^l*2^(8-l):=Nat.mul_le_mul_right _ (by omega)
 unfold markW
 rw[if_neg]
 rintro ⟨q1,q2⟩
 have:v*2^(8-l)+r=r+v*2^(8-l):=Nat.add_comm _ _
 omega
theorem short_ok {A:Ar} {F:Nat→List Nat} {M:Bool→Tab} (h:Inv A F M) (q:Bool) {l v:Nat} (o:Option Nat) (hl:l<8) (hv:v<2^l):Inv (shortN A q l v o) F (updM M q l v o):=by
 have hr:=rt_le q
 have h7:2^l≤2^7:=Nat.pow_le_pow_right (by decide) (by omega)
 have hout:∀a,(a<rt q∨rt q+512≤a)→(shortN A q l v o).word a=A.word a:=by
  intro a ha
  unfold shortN
  cases o with
  | none=>exact markW_out hl hv (by omega)
  | some x=>show setW _ _ _ a=_;rw[setW_ne (by omega)];exact markW_out hl hv (by omega)
 obtain⟨r1,r2,r3⟩:=root_mark (W':=(shortN A q l v o).word) (o:=o) (h.root q) hl hv (by
  intro a h1 h2
  unfold shortN
  cases o with
  | none=>rfl
  | some x=>show setW _ _ _ a=_;rw[setW_ne (by omega)];rfl) (by
  rintro x rfl
  exact setW_same _ _ _) (by
  intro a h1 h2 h3
  unfold shortN
  cases o with
  | none=>exact markW_out hl hv (by omega)
  | some x=>show setW _ _ _ a=_;rw[setW_ne (by omega)];exact markW_out hl hv (by omega)) (by
  intro a ha
  apply hout
  have:=h.sepq q a
  by_cases hlow:a<1024
  ·rw[edge_low hlow] at this;omega
  ·omega)
 obtain⟨s1,s2,s3⟩:=root_move (W':=(shortN A q l v o).word) (h.root (!q)) (fun a h1 h2=>hout a (by have:=rt_apart q;omega)) (by
  intro a ha
  apply hout
  have:=h.sepq q a
  by_cases hlow:a<1024
  ·rw[edge_low hlow] at this;omega
  ·omega)
 refine Inv.of q ?_ h.size h.top (by rw[updM_same];exact r1) (by rw[updM_not];exact s1) ?_ (by rw[updM_not];exact h.tab _) ?_ ?_
 ·refine ok_word h.ar (W':=(shortN A q l v o).word) fun a ha=>hout a ?_
  have:=h.sepq q a
  by_cases hlow:a<1024
  ·rw[edge_low hlow] at this;omega
  ·omega
 ·rw[updM_same]
  cases o with
  | none=>exact tab_upd_none (h.tab q)
  | some x=>exact tab_upd_some (h.tab q) (by omega) hv
 ·intro a
  rw[r2,s2]
  exact h.sepq q a
 ·rw[r3,s3]
  exact h.freeq q
def delLong (A:Ar) (q:Bool) (l v:Nat):Ar × Bool :=
 if A.word (rt q+v/2^(l-8))%65536=0 then (A,false)
 else match removeN l v (dp q) 8 A (A.word (rt q+v/2^(l-8))%65536) with
  | (B,fo,em) =>
   if em then ({ B.give (A.word (rt q+v/2^(l-8))%65536) 2 with word:=setW (B.give (A.word (rt q+v/2^(l-8))%65536) 2).word (rt q+v/2^(l-8)) (65536*(A.word (rt q+v/2^(l-8))/65536)) },fo)
   else (B,fo)
theorem updT_id {M:Tab} {l v:Nat} (h:M l v=none):updT M l v none=M:=by
 funext l' v'
 unfold updT
 split
 ·rename_i e;rw[e.1,e.2,h]
 ·rfl
theorem updM_id {M:Bool→Tab} {q:Bool} {l v:Nat} (h:M q l v=none):updM M q l v none=M:=by
 funext p
 unfold updM
 split
 ·rename_i e;rw[e,updT_id h]
 ·rfl
theorem delLong_ok {A:Ar} {F:Nat→List Nat} {M:Bool→Tab} (h:Inv A F M) (q:Bool) {l v:Nat} (h1:8≤l) (h3:l≤8+4*dp q) (hv:v<2^l) :
  ∃B F',delLong A q l v=(B,(M q l v).isSome)∧Inv B F' (updM M q l v none)∧B.size=A.size:=by
 have hL:=dp_le q
 have hr:=rt_le q
 have hb:=byte_of h1 hv
 unfold delLong
 by_cases h0:A.word (rt q+v/2^(l-8))%65536=0
 ·rw[if_pos h0]
  have hany:=((h.root q).node _ hb).1 h0
  have hm:M q l v=none:=by
   cases hm:M q l v with
   | none=>rfl
   | some x =>
    have:=below_here (h.tab q) hL h1 rfl (by rw[hm];rfl)
    rw[hany] at this
    cases this
  refine⟨A,F,by rw[hm];rfl,?_,rfl⟩
  rw[updM_id hm];exact h
 ·rw[if_neg h0]
  generalize hb':v/2^(l-8)=b at *
  generalize hx:A.word (rt q+b)%65536=x at *
  have hrep:Rep A.word (M q) (dp q) 8 b x:=by
   have:=(h.root q).rep b hb (by rw[hx];exact h0)
   rw[hx] at this;exact this
  have hl1:∀a,live1 A.word (rt q) (dp q) a b=inB a x 2+fp A.word (dp q) x a:=fun a=>by unfold live1;rw[hx,if_neg h0]
  have hliv:∀a,edge A a+(inB a x 2+fp A.word (dp q) x a)+liveR A.word (rt (!q)) (dp (!q)) a+A.frees F a≤1:=by
   intro a
   have e1:=h.sepq q a
   have e2:=live1_le A.word (rt q) (dp q) a hb
   rw[hl1] at e2
   omega
  have hother:∀b' a,b'<256→b'≠b→1≤live1 A.word (rt q) (dp q) a b'→inB a x 2=0∧fp A.word (dp q) x a=0:=by
   intro b' a q1 q2 q3
   have e1:=h.sepq q a
   have e2:=live_two A.word (rt q) (dp q) a hb q1 q2
   rw[hl1] at e2
   omega
  have hlow:∀a,a<1024→inB a x 2=0∧fp A.word (dp q) x a=0:=by
   intro a ha
   have:=hliv a
   rw[edge_low ha] at this
   omega
  have hnot:∀a,1≤liveR A.word (rt (!q)) (dp (!q)) a→inB a x 2=0∧fp A.word (dp q) x a=0:=by
   intro a ha
   have:=hliv a
   omega
  rcases remove_ok (L:=8+4*dp q) (h.tab q) hL (dp q) 8 b x A F h.ar hrep h1 (by omega) hb' (fun a=>by have:=hliv a;omega) (hlow 0 (by omega)).2 with ⟨hm,e⟩ | ⟨hm,B,F',e,R⟩
  ·rw[e]
   refine⟨A,F,by rw[hm];rfl,?_,rfl⟩
   rw[updM_id hm];exact h
  ·rw[e]
   simp only[]
   have hBlow:∀a,a<1024→B.word a=A.word a:=fun a ha=>R.word a (hlow a ha).1 (hlow a ha).2
   have hBb:B.word (rt q+b)=A.word (rt q+b):=hBlow _ (by omega)
   cases hany:anyBelow (updT (M q) l v none) 8 b with
   | true =>
    simp only[Bool.not_true,Bool.false_eq_true,if_false]
    obtain⟨r1,r2,r3⟩:=root_tree (W':=B.word) (o:=none) (h.root q) h1 hb' hb (fun a p1 p2 _=>hBlow a (by omega)) (by rw[hBb]) (fun b' a p1 p2 p3=>R.word a (hother b' a p1 p2 p3).1 (hother b' a p1 p2 p3).2) (by
     rw[hBb,hx,hany]
     exact⟨fun q=>absurd q h0,fun q=>by cases q⟩) (by
     intro _
     rw[hBb,hx];exact R.rep)
    obtain⟨s1,s2,s3⟩:=root_move (W':=B.word) (h.root (!q)) (fun a p1 p2=>hBlow a (by have:=rt_le (!q);omega)) (fun a p=>R.word a (hnot a p).1 (hnot a p).2)
    have hl1':∀a,live1 B.word (rt q) (dp q) a b=inB a x 2+fp B.word (dp q) x a:=fun a=>by unfold live1;rw[hBb,hx,if_neg h0]
    have hc1:cost1 A.word (rt q) (dp q) b=2+costW A.word (dp q) x:=by unfold cost1;rw[hx,if_neg h0]
    have hc1':cost1 B.word (rt q) (dp q) b=2+costW B.word (dp q) x:=by unfold cost1;rw[hBb,hx,if_neg h0]
    refine⟨B,F',by rw[hm],Inv.of q R.ok (by rw[R.size];exact h.size) (by rw[R.top];exact h.top) (by rw[updM_same];exact r1) (by rw[updM_not];exact s1) (by rw[updM_same];exact tab_upd_none (h.tab q)) (by rw[updM_not];exact h.tab _) ?_ ?_,R.size⟩
    ·intro a
     have e1:=h.sepq q a
     have e2:=r2 a
     have e3:=R.frees a
     have e4:edge B a=edge A a:=by unfold edge;rw[R.size]
     rw[s2 a,e4]
     rw[hl1,hl1'] at e2
     omega
    ·have e1:=h.freeq q
     have e3:=R.free
     rw[hc1,hc1'] at r3
     rw[s3,R.size]
     omega
   | false =>
    simp only[Bool.not_false,if_true]
    have hem:=node_empty R.rep.node (tab_upd_none (h.tab q)) hL
    rw[hany] at hem
    have hem':(nodeAt B.word x).routes=0∧(nodeAt B.word x).ways=0:=by simpa using hem.symm
    obtain⟨z1,z2⟩:=fp_nil (d:=dp q) hem'.1 hem'.2
    obtain⟨F'',k1,k2,k3,k4,k5,k6⟩:=give_ok (b:=x) (n:=2) R.ok (by omega) (fun _=>h0) (by
     intro a
     have e1:=hliv a
     have e3:=R.frees a
     have e4:=z1 a
     omega)
    generalize hC:B.give x 2=C at k1 k2 k3 k4 k5 k6
    have hxr:rt q+b≠x:=by
     intro e
     have:=(hlow (rt q+b) (by omega)).1
     rw[e,inB_one (Nat.le_refl _) (by omega)] at this
     omega
    have hlowC:∀a,a<1024→a≠rt q+b→setW C.word (rt q+b) (65536*(A.word (rt q+b)/65536)) a=A.word a:=by
     intro a ha hne
     rw[setW_ne hne,k3 a (Or.inl ?_),hBlow a ha]
     rintro rfl
     have:=(hlow a ha).1
     rw[inB_one (Nat.le_refl _) (by omega)] at this
     omega
    have hW:∀a,1024≤a→inB a x 2=0→fp A.word (dp q) x a=0→setW C.word (rt q+b) (65536*(A.word (rt q+b)/65536)) a=A.word a:=by
     intro a ha p1 p2
     rw[setW_ne (by omega),k3 a (Or.inl ?_),R.word a p1 p2]
     rintro rfl
     rw[inB_one (Nat.le_refl _) (by omega)] at p1
     omega
    have hself:setW C.word (rt q+b) (65536*(A.word (rt q+b)/65536)) (rt q+b)=65536*(A.word (rt q+b)/65536):=setW_same _ _ _
    obtain⟨r1,r2,r3⟩:=root_tree (W':=setW C.word (rt q+b) (65536*(A.word (rt q+b)/65536))) (o:=none) (h.root q) h1 hb' hb (fun a p1 p2 p3=>hlowC a (by omega) p3) (by rw[hself];omega) (fun b' a p1 p2 p3=>by
     by_cases hlo:a<1024
     ·have e1:=h.sepq q a
      have e2:=live1_le A.word (rt q) (dp q) a p1
      rw[edge_low hlo] at e1
      omega
     ·exact hW a (by omega) (hother b' a p1 p2 p3).1 (hother b' a p1 p2 p3).2) (by
     rw[hself,hany]
     exact⟨fun _=>rfl,fun _=>by omega⟩) (by
     intro p
     rw[hself] at p
     omega)
    obtain⟨s1,s2,s3⟩:=root_move (W':=setW C.word (rt q+b) (65536*(A.word (rt q+b)/65536))) (h.root (!q)) (fun a p1 p2=>hlowC a (by have:=rt_le (!q);omega) (by have:=rt_apart q;omega)) (fun a p=>by
     by_cases hlo:a<1024
     ·have e1:=h.sepq q a
      rw[edge_low hlo] at e1
      omega
     ·exact hW a (by omega) (hnot a p).1 (hnot a p).2)
    have hl1':∀a,live1 (setW C.word (rt q+b) (65536*(A.word (rt q+b)/65536))) (rt q) (dp q) a b=0:=fun a=>by unfold live1;rw[hself,if_pos (by omega)]
    have hc1:cost1 A.word (rt q) (dp q) b=2+costW A.word (dp q) x:=by unfold cost1;rw[hx,if_neg h0]
    have hc1':cost1 (setW C.word (rt q+b) (65536*(A.word (rt q+b)/65536))) (rt q) (dp q) b=0:=by unfold cost1;rw[hself,if_pos (by omega)]
    refine⟨_,F'',by rw[hm],Inv.of (A:={ C with word:=setW C.word (rt q+b) (65536*(A.word (rt q+b)/65536)) }) q ?_ (by show 2048≤C.size;rw[k5,R.size];exact h.size) (by show 1024≤C.top;rw[k6,R.top];exact h.top) (by rw[updM_same];exact r1) (by rw[updM_not];exact s1) (by rw[updM_same];exact tab_upd_none (h.tab q)) (by rw[updM_not];exact h.tab _) ?_ ?_,by show C.size=A.size;rw[k5,R.size]⟩
    ·refine ok_word k1 fun a p=>setW_ne ?_
     rintro rfl
     have e1:=k2 (rt q+b)
     have e2:=hliv (rt q+b)
     have e3:=R.frees (rt q+b)
     have e4:=z1 (rt q+b)
     have e5:=hlow (rt q+b) (by omega)
     rw[edge_low (by omega)] at e2
     omega
    ·intro a
     have e1:=h.sepq q a
     have e2:=r2 a
     have e3:=R.frees a
     have e4:edge ({ C with word:=setW C.word (rt q+b) (65536*(A.word (rt q+b)/65536)) }:Ar) a=edge A a:=by
      unfold edge
      show (if a<1024∨C.size≤a then 1 else 0)=_
      rw[k5,R.size]
     have e5:=z1 a
     have e6:({ C with word:=setW C.word (rt q+b) (65536*(A.word (rt q+b)/65536)) }:Ar).frees F'' a=B.frees F' a+inB a x 2:=k2 a
     rw[e4,e6]
     show _+liveR (setW C.word (rt q+b) (65536*(A.word (rt q+b)/65536))) (rt q) (dp q) a+liveR (setW C.word (rt q+b) (65536*(A.word (rt q+b)/65536))) (rt (!q)) (dp (!q)) a+_≤1
     rw[s2 a]
     rw[hl1,hl1'] at e2
     omega
    ·have e1:=h.freeq q
     have e3:=R.free
     rw[hc1,hc1'] at r3
     show C.free+(costR (setW C.word (rt q+b) (65536*(A.word (rt q+b)/65536))) (rt q) (dp q):Nat)+(costR (setW C.word (rt q+b) (65536*(A.word (rt q+b)/65536))) (rt (!q)) (dp (!q)):Nat)+1024=((C.size:Nat):Int)
     rw[s3,k4,k5,R.size]
     omega
end Go.Proofs.YtnapboelfimaaaaGreatDoor
namespace Go.Proofs.YtnapboelfimaaaaGreatDoor
def putRoot (A:Ar) (q:Bool) (l v h:Nat):Ar × Bool :=
 if A.word (rt q+v/2^(l-8))%65536=0 then
  match chainN l v h ((l-8)/4) 8 A with
  | (B,none)=>(B,false)
  | (B,some n) =>
   match B.take 2 with
   | (C,none)=>(C,false)
   | (C,some y)=>({ C with word:=setW (putNode C.word y n) (rt q+v/2^(l-8)) (y+65536*(putNode C.word y n (rt q+v/2^(l-8))/65536)) },true)
 else putTree l v h A (A.word (rt q+v/2^(l-8))%65536)
def needRoot (W:Nat→Nat) (q:Bool) (l v:Nat):Nat:=if W (rt q+v/2^(l-8))%65536=0 then 2*((l-8)/4+1)+1 else needTree l v W (W (rt q+v/2^(l-8))%65536)
theorem edge_high {A:Ar} {a:Nat} (h:A.size≤a):edge A a=1:=by unfold edge;rw[if_pos (Or.inr h)]
theorem putRoot_ok {A:Ar} {F:Nat→List Nat} {M:Bool→Tab} (h:Inv A F M) (q:Bool) {l v x:Nat} (h1:8≤l) (h3:l≤8+4*dp q) (hv:v<2^l) :
  ((putRoot A q l v x).2=false∧(∀a,A.frees F a=0→(putRoot A q l v x).1.word a=A.word a)∧(putRoot A q l v x).1.size=A.size∧¬(A.fresh∧needRoot A.word q l v≤A.size-A.top)) ∨
  ∃B F',putRoot A q l v x=(B,true)∧Inv B F' (updM M q l v (some x))∧B.size=A.size:=by
 have hL:=dp_le q
 have hr:=rt_le q
 have hb:=byte_of h1 hv
 have hsz:=h.ar.size
 have htop:A.top≠0:=by have:=h.top;omega
 unfold putRoot needRoot
 generalize hb':v/2^(l-8)=b at *
 by_cases h0:A.word (rt q+b)%65536=0
 ·rw[if_pos h0,if_pos h0]
  have hany:=((h.root q).node _ hb).1 h0
  have hsi:Single (updT (M q) l v (some x)) l v x 8 (v/2^(l-8)):=by
   rw[hb']
   exact single_new (h.tab q) hL hany
  obtain⟨d3,hd3⟩:∃d3,dp q=d3+(l-8)/4:=⟨dp q-(l-8)/4,by omega⟩
  rcases chainN_ok (d:=d3) (live:=fun a=>edge A a+liveR A.word (rt q) (dp q) a+liveR A.word (rt (!q)) (dp (!q)) a) (by omega) (fun a ha=>by have:=edge_high (A:=A) (a:=a) (by omega);omega) h.ar htop hsi (show 8+4*((l-8)/4)≤l by omega) (by omega) (fun a=>h.sepq q a) with ⟨i1,i2,i3,i4⟩ | ⟨B,n,F',tk,i1,i2,i3,i4⟩
  ·left
   generalize hch:chainN l v x ((l-8)/4) 8 A=R at i1 i2 i3
   obtain⟨B,o⟩:=R
   simp only[] at i1 i2 i3
   subst i1
   refine⟨rfl,i2,i3,?_⟩
   rintro ⟨p1,p2⟩
   exact i4 ⟨p1,by omega⟩
  ·rw[i1]
   simp only[]
   have hBf:=i2.frees
   have hBt:=i2.top
   rcases take_ok (n:=2) i2.ok (by omega) (by omega) (show B.top≠0 by omega) with ⟨e,hlt⟩ | ⟨y,C,F'',e,T⟩
   ·left
    rw[e]
    refine⟨rfl,i2.word,i2.size,?_⟩
    rintro ⟨p1,p2⟩
    obtain⟨p3,p4⟩:=i4 p1
    rw[take_fresh p3 (by omega)] at e
    rw[if_neg (by rw[i2.size,p4];omega)] at e
    simp at e
   ·right
    rw[e]
    simp only[]
    have hTf:=T.frees
    have htop':B.top≤C.top:=by have:=take_top B 2;rw[e] at this;exact this
    have hsep:=h.sepq q
    have hlow:∀a,a<1024→A.frees F a=0∧liveR A.word (rt q) (dp q) a=0∧liveR A.word (rt (!q)) (dp (!q)) a=0:=by
     intro a ha
     have:=hsep a
     rw[edge_low ha] at this
     omega
    have hCw:∀a,A.frees F a=0→C.word a=A.word a:=by
     intro a p
     have e1:=hBf a;have e2:=hTf a
     rw[T.word a (by omega)]
     exact i2.word a p
    have hy2:∀a,A.frees F a=0→inB a y 2=0:=by
     intro a p
     have e1:=hBf a;have e2:=hTf a
     omega
    have hyb:y<65536:=by
     by_cases p:y<65536
     ·exact p
     ·have e1:=hsep y;have e2:=hBf y;have e3:=hTf y
      rw[inB_one (b:=y) (Nat.le_refl _) (by omega)] at e3
      rw[edge_high (by omega)] at e1
      omega
    have hrb:putNode C.word y n (rt q+b)=A.word (rt q+b):=by
     rw[putNode_out (hy2 _ (hlow _ (by omega)).1)]
     exact hCw _ (hlow _ (by omega)).1
    rw[hrb]
    generalize hW:setW (putNode C.word y n) (rt q+b) (y+65536*(A.word (rt q+b)/65536))=W
    have hself:W (rt q+b)=y+65536*(A.word (rt q+b)/65536):=by rw[←hW];exact setW_same _ _ _
    have hWo:∀a,A.frees F a=0→a≠rt q+b→W a=A.word a:=by
     intro a p1 p2
     rw[←hW,setW_ne p2,putNode_out (hy2 a p1)]
     exact hCw a p1
    have hWt:∀a,1≤tk a→W a=B.word a:=by
     intro a p
     have e1:=hBf a;have e2:=hTf a;have e3:=hsep a
     have hne:a≠rt q+b:=by
      rintro rfl
      have:=hlow (rt q+b) (by omega)
      omega
     rw[←hW,setW_ne hne,putNode_out (by omega)]
     exact T.word a (by omega)
    have hNy:nodeAt W y=n:=by
     have p0:∀a,1≤inB a y 2→W a=putNode C.word y n a:=by
      intro a p
      rw[←hW]
      apply setW_ne
      rintro rfl
      have:=hy2 (rt q+b) (hlow _ (by omega)).1
      omega
     rw[node_same (p0 y (by rw[inB_one (Nat.le_refl _) (by omega)];omega)) (p0 (y+1) (by rw[inB_one (by omega) (by omega)];omega))]
     exact nodeAt_put i2.good.1 i2.good.2.2.1
    obtain⟨p1,p2,p3⟩:=i2.pend W y hWt hNy
    rw[←hd3,hb'] at p1
    rw[←hd3] at p2 p3
    have hypos:y≠0:=T.pos
    have hymod:(y+65536*(A.word (rt q+b)/65536))%65536=y:=by omega
    obtain⟨r1,r2,r3⟩:=root_tree (W':=W) (o:=some x) (h.root q) h1 hb' hb (fun a s1 s2 s3=>hWo a (hlow a (by omega)).1 s3) (by rw[hself];omega) (fun b' a s1 s2 s3=>by
     have e1:=hsep a
     have e2:=live1_le A.word (rt q) (dp q) a s1
     refine hWo a (by omega) ?_
     rintro rfl
     have:=hlow (rt q+b) (by omega)
     omega) (by
     rw[hself,hymod,anyBelow_put (by omega) h1 hb']
     exact⟨fun s=>absurd s hypos,fun s=>by cases s⟩) (by
     intro _
     rw[hself,hymod];exact p1)
    obtain⟨s1,s2,s3⟩:=root_move (W':=W) (h.root (!q)) (fun a t1 t2=>hWo a (hlow a (by have:=rt_le (!q);omega)).1 (by have:=rt_apart q;omega)) (fun a t=>by
     have e1:=hsep a
     refine hWo a (by omega) ?_
     rintro rfl
     have:=hlow (rt q+b) (by omega)
     omega)
    have hl0:∀a,live1 A.word (rt q) (dp q) a b=0:=fun a=>by unfold live1;rw[if_pos h0]
    have hl1:∀a,live1 W (rt q) (dp q) a b=inB a y 2+tk a:=fun a=>by unfold live1;rw[hself,hymod,if_neg hypos,p2 a]
    have hc0:cost1 A.word (rt q) (dp q) b=0:=by unfold cost1;rw[if_pos h0]
    have hc1:cost1 W (rt q) (dp q) b=2+(1+2*((l-8)/4)):=by unfold cost1;rw[hself,hymod,if_neg hypos,p3]
    have hCs:C.size=A.size:=by rw[T.size,i2.size]
    refine⟨_,F'',rfl,Inv.of (A:={ C with word:=W }) q ?_ (by show 2048≤C.size;rw[hCs];exact h.size) (by show 1024≤C.top;have:=h.top;omega) (by rw[updM_same];exact r1) (by rw[updM_not];exact s1) (by rw[updM_same];exact tab_upd_some (h.tab q) h3 hv) (by rw[updM_not];exact h.tab _) ?_ ?_,hCs⟩
    ·refine ok_word T.ok fun a p=>?_
     have e1:=hBf a;have e2:=hTf a;have e3:=i2.ok.apart a
     have hne:a≠rt q+b:=by
      rintro rfl
      have:=hlow (rt q+b) (by omega)
      omega
     rw[←hW,setW_ne hne,putNode_out (by omega)]
    ·intro a
     have e1:=hsep a
     have e2:=r2 a
     have e3:=hBf a;have e5:=hTf a
     have e4:edge ({ C with word:=W }:Ar) a=edge A a:=by
      unfold edge
      show (if a<1024∨C.size≤a then 1 else 0)=_
      rw[hCs]
     rw[e4]
     show _+liveR W (rt q) (dp q) a+liveR W (rt (!q)) (dp (!q)) a+C.frees F'' a≤1
     rw[s2 a]
     rw[hl0,hl1] at e2
     omega
    ·have e1:=h.freeq q
     rw[hc0,hc1] at r3
     show C.free+(costR W (rt q) (dp q):Nat)+(costR W (rt (!q)) (dp (!q)):Nat)+1024=((C.size:Nat):Int)
     rw[s3,hCs,T.free,i3]
     omega
 ·rw[if_neg h0,if_neg h0]
  generalize hx:A.word (rt q+b)%65536=y at *
  have hrep:Rep A.word (M q) (dp q) 8 b y:=by
   have:=(h.root q).rep b hb (by rw[hx];exact h0)
   rw[hx] at this;exact this
  have hl1:∀a,live1 A.word (rt q) (dp q) a b=inB a y 2+fp A.word (dp q) y a:=fun a=>by unfold live1;rw[hx,if_neg h0]
  have hlive:=fun a=>live1_le A.word (rt q) (dp q) a hb
  have hsep:=h.sepq q
  rcases putTree_ok (h:=x) (live:=fun a=>edge A a+(liveR A.word (rt q) (dp q) a-(inB a y 2+fp A.word (dp q) y a))+liveR A.word (rt (!q)) (dp (!q)) a) (h.tab q) hL h.ar htop hrep h1 h3 (by omega) hb' (by
   intro a
   have e1:=hsep a;have e2:=hlive a
   rw[hl1] at e2
   omega) (by
   have:=edge_low (A:=A) (show 0<1024 by omega)
   omega) (by
   intro a ha
   have:=edge_high (A:=A) (a:=a) (by omega)
   omega) with ⟨i1,i2,i3,i4⟩ | ⟨B,F',i1,P⟩
  ·left
   exact⟨i1,i2,i3,i4⟩
  ·right
   have hlow:∀a,a<1024→inB a y 2=0∧fp A.word (dp q) y a=0∧A.frees F a=0:=by
    intro a ha
    have e1:=hsep a;have e2:=hlive a
    rw[edge_low ha] at e1
    rw[hl1] at e2
    omega
   have hBlow:∀a,a<1024→B.word a=A.word a:=fun a ha=>P.word a (hlow a ha).1 (hlow a ha).2.1 (hlow a ha).2.2
   have hBb:B.word (rt q+b)=A.word (rt q+b):=hBlow _ (by omega)
   obtain⟨r1,r2,r3⟩:=root_tree (W':=B.word) (o:=some x) (h.root q) h1 hb' hb (fun a p1 p2 _=>hBlow a (by omega)) (by rw[hBb]) (fun b' a p1 p2 p3=>by
    have e1:=hsep a
    have e2:=live_two A.word (rt q) (dp q) a hb p1 p2
    rw[hl1] at e2
    exact P.word a (by omega) (by omega) (by omega)) (by
    rw[hBb,hx,anyBelow_put (by omega) h1 hb']
    exact⟨fun q=>absurd q h0,fun q=>by cases q⟩) (by
    intro _
    rw[hBb,hx];exact P.rep)
   obtain⟨s1,s2,s3⟩:=root_move (W':=B.word) (h.root (!q)) (fun a p1 p2=>hBlow a (by have:=rt_le (!q);omega)) (fun a p=>by
    have e1:=hsep a;have e2:=hlive a
    rw[hl1] at e2
    exact P.word a (by omega) (by omega) (by omega))
   have hl1':∀a,live1 B.word (rt q) (dp q) a b=inB a y 2+fp B.word (dp q) y a:=fun a=>by unfold live1;rw[hBb,hx,if_neg h0]
   have hc1:cost1 A.word (rt q) (dp q) b=2+costW A.word (dp q) y:=by unfold cost1;rw[hx,if_neg h0]
   have hc1':cost1 B.word (rt q) (dp q) b=2+costW B.word (dp q) y:=by unfold cost1;rw[hBb,hx,if_neg h0]
   refine⟨B,F',i1,Inv.of q P.ok (by rw[P.size];exact h.size) (by have:=P.top;have:=h.top;omega) (by rw[updM_same];exact r1) (by rw[updM_not];exact s1) (by rw[updM_same];exact tab_upd_some (h.tab q) h3 hv) (by rw[updM_not];exact h.tab _) ?_ ?_,P.size⟩
   ·intro a
    have e1:=hsep a
    have e2:=r2 a
    have e3:=P.frees a
    have e4:edge B a=edge A a:=by unfold edge;rw[P.size]
    rw[s2 a,e4]
    rw[hl1,hl1'] at e2
    omega
   ·have e1:=h.freeq q
    have e3:=P.free
    rw[hc1,hc1'] at r3
    rw[s3,P.size]
    omega
end Go.Proofs.YtnapboelfimaaaaGreatDoor
