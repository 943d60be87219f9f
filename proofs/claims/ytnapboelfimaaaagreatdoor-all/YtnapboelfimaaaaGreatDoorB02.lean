/- MathF, MathG, MathH, MathI: parts of the proof, one behind the other. -/
import Derived.Test.YtnapboelfimaaaaGreatDoorB01
namespace Go.Proofs.YtnapboelfimaaaaGreatDoor
def pnum (l v len:Nat):Nat:=num (l-len) (v%2^(l-len))
theorem here_iff {l v len u fu j:Nat} (h1:len≤l) (h2:v/2^(l-len)=u) (hj:j<2^fu):(len+fu=l∧u*2^fu+j=v)↔(fu=l-len∧j=v%2^(l-len)):=by
 constructor
 ·rintro ⟨a,b⟩
  have e:fu=l-len:=by omega
  subst e
  refine⟨rfl,?_⟩
  rw[←b,Nat.mul_comm,Nat.mul_add_mod,Nat.mod_eq_of_lt hj]
 ·rintro ⟨rfl,rfl⟩
  refine⟨by omega,?_⟩
  rw[←h2,Nat.mul_comm];exact Nat.div_add_mod v _
theorem pnum_lt {l v len:Nat} (h1:len≤l) (h3:l≤len+3):pnum l v len<15:=num_lt (by omega) (Nat.mod_lt _ (Nat.two_pow_pos _))
theorem node_hops {W W':Nat→Nat} {M:Tab} {l v len u x x':Nat} {o:Option Nat} (n:NodeOk W M len u x) (h1:len≤l) (h2:v/2^(l-len)=u) (h3:l≤len+3)
  (hw:(nodeAt W' x').ways=(nodeAt W x).ways) (hc:(nodeAt W' x').children=(nodeAt W x).children) (hlt:(nodeAt W' x').routes<32768) (h0:(nodeAt W' x').routes=0→(nodeAt W' x').hops=0)
  (hbit:(nodeAt W' x').routes.testBit (pnum l v len)=o.isSome) (hbits:∀i,i≠pnum l v len→(nodeAt W' x').routes.testBit i=(nodeAt W x).routes.testBit i)
  (hhop:∀h,o=some h→W' ((nodeAt W' x').hops+ones (pnum l v len) (nodeAt W' x').routes)=h)
  (hhops:∀i,i≠pnum l v len→(nodeAt W x).routes.testBit i=true→W' ((nodeAt W' x').hops+ones i (nodeAt W' x').routes)=W ((nodeAt W x).hops+ones i (nodeAt W x).routes)) :
  NodeOk W' (updT M l v o) len u x':=by
 have hag:∀f,f<16→Agree M (updT M l v o) (len+4) (16*u+f):=fun f _=>agree_upd (by omega)
 refine⟨hlt,by rw[hw];exact n.lt2,by rw[hc];exact n.lt3,h0,by rw[hw,hc];exact n.kids0,?_,?_,?_⟩
 ·intro fu j hfu hj
  by_cases hh:fu=l-len∧j=v%2^(l-len)
  ·have e:=(here_iff h1 h2 hj).2 hh
   rw[e.1,e.2,updT_same,←hbit]
   obtain⟨rfl,rfl⟩:=hh
   rfl
  ·rw[updT_ne fun e=>hh ((here_iff h1 h2 hj).1 e),hbits,n.route fu j hfu hj]
   intro e
   exact hh (num_inj hfu (by omega) hj (Nat.mod_lt _ (Nat.two_pow_pos _)) e)
 ·intro fu j h hfu hj hm
  by_cases hh:fu=l-len∧j=v%2^(l-len)
  ·have e:=(here_iff h1 h2 hj).2 hh
   rw[e.1,e.2,updT_same] at hm
   obtain⟨rfl,rfl⟩:=hh
   exact hhop h hm
  ·rw[updT_ne fun e=>hh ((here_iff h1 h2 hj).1 e)] at hm
   have hr:=n.route fu j hfu hj
   rw[hm] at hr
   rw[hhops _ (fun e=>hh (num_inj hfu (by omega) hj (Nat.mod_lt _ (Nat.two_pow_pos _)) e)) hr]
   exact n.hop fu j h hfu hj hm
 ·intro f hf
  rw[hw,anyBelow_agree (hag f hf)]
  exact n.way f hf
theorem bit_pnum {W:Nat→Nat} {M:Tab} {l v len u x:Nat} (n:NodeOk W M len u x) (h1:len≤l) (h2:v/2^(l-len)=u) (h3:l≤len+3):(nodeAt W x).routes.testBit (pnum l v len)=(M l v).isSome:=by
 have e:=(here_iff (fu:=l-len) (j:=v%2^(l-len)) h1 h2 (Nat.mod_lt _ (Nat.two_pow_pos _))).2 ⟨rfl,rfl⟩
 have:=n.route (l-len) (v%2^(l-len)) (by omega) (Nat.mod_lt _ (Nat.two_pow_pos _))
 rw[e.1,e.2] at this
 exact this
theorem hop_new {W W':Nat→Nat} {M:Tab} {l v len u x x' h:Nat} (n:NodeOk W M len u x) (h1:len≤l) (h2:v/2^(l-len)=u) (h3:l≤len+3) (hm:M l v=none)
  (hw:(nodeAt W' x').ways=(nodeAt W x).ways) (hc:(nodeAt W' x').children=(nodeAt W x).children) (hlt:(nodeAt W' x').routes<32768)
  (hbit:(nodeAt W' x').routes.testBit (pnum l v len)=true) (hbits:∀i,i≠pnum l v len→(nodeAt W' x').routes.testBit i=(nodeAt W x).routes.testBit i)
  (hnew:W' ((nodeAt W' x').hops+ones (pnum l v len) (nodeAt W x).routes)=h)
  (hhead:∀i,i<ones (pnum l v len) (nodeAt W x).routes→W' ((nodeAt W' x').hops+i)=W ((nodeAt W x).hops+i))
  (htail:∀i,i<ones 16 (nodeAt W x).routes-ones (pnum l v len) (nodeAt W x).routes→W' ((nodeAt W' x').hops+ones (pnum l v len) (nodeAt W x).routes+1+i)=W ((nodeAt W x).hops+ones (pnum l v len) (nodeAt W x).routes+i)) :
  NodeOk W' (updT M l v (some h)) len u x':=by
 have hold:(nodeAt W x).routes.testBit (pnum l v len)=false:=by rw[bit_pnum n h1 h2 h3,hm];rfl
 have hone:∀i,ones i (nodeAt W' x').routes=ones i (nodeAt W x).routes+(if pnum l v len<i then 1 else 0):=fun i=>ones_more hold hbit hbits
 refine node_hops n h1 h2 h3 hw hc hlt ?_ hbit hbits ?_ ?_
 ·intro e;rw[e] at hbit;simp at hbit
 ·intro h' e
  have e':h=h':=by simpa using e
  rw[hone,if_neg (by omega),Nat.add_zero,hnew,e']
 ·intro i hi hb
  rw[hone]
  by_cases hlt':pnum l v len<i
  ·have q1:=ones_mono (nodeAt W x).routes (show pnum l v len≤i by omega)
   have q2:i<16:=testBit_lt16 (by have:=n.lt;omega) hb
   have q3:=ones_lt q2 hb
   have:=htail (ones i (nodeAt W x).routes-ones (pnum l v len) (nodeAt W x).routes) (by omega)
   rw[if_pos hlt',show (nodeAt W' x').hops+(ones i (nodeAt W x).routes+1)=(nodeAt W' x').hops+ones (pnum l v len) (nodeAt W x).routes+1+(ones i (nodeAt W x).routes-ones (pnum l v len) (nodeAt W x).routes) by omega,this]
   congr 1;omega
  ·have q1:ones i (nodeAt W x).routes<ones (pnum l v len) (nodeAt W x).routes:=ones_lt (by omega) hb
   rw[if_neg hlt',Nat.add_zero]
   exact hhead _ q1
theorem hop_set {W W':Nat→Nat} {M:Tab} {l v len u x h:Nat} (n:NodeOk W M len u x) (h1:len≤l) (h2:v/2^(l-len)=u) (h3:l≤len+3) (hm:(M l v).isSome=true) (hn:nodeAt W' x=nodeAt W x)
  (hnew:W' ((nodeAt W x).hops+ones (pnum l v len) (nodeAt W x).routes)=h) (hW:∀i,i<ones 16 (nodeAt W x).routes→i≠ones (pnum l v len) (nodeAt W x).routes→W' ((nodeAt W x).hops+i)=W ((nodeAt W x).hops+i)) :
  NodeOk W' (updT M l v (some h)) len u x:=by
 have hold:(nodeAt W x).routes.testBit (pnum l v len)=true:=by rw[bit_pnum n h1 h2 h3];exact hm
 refine node_hops n h1 h2 h3 (by rw[hn]) (by rw[hn]) (by rw[hn];exact n.lt) (by rw[hn];exact n.hops0) (by rw[hn];exact hold) (by rw[hn];intros;rfl) ?_ ?_
 ·intro h' e
  have e':h=h':=by simpa using e
  rw[hn,hnew,e']
 ·intro i hi hb
  rw[hn]
  have q2:i<16:=testBit_lt16 (by have:=n.lt;omega) hb
  apply hW _ (ones_lt q2 hb)
  intro e
  by_cases hlt':pnum l v len<i
  ·have:=ones_lt hlt' hold;omega
  ·have:=ones_lt (show i<pnum l v len by omega) hb;omega
theorem hop_del {W W':Nat→Nat} {M:Tab} {l v len u x x':Nat} (n:NodeOk W M len u x) (h1:len≤l) (h2:v/2^(l-len)=u) (h3:l≤len+3) (hm:(M l v).isSome=true)
  (hw:(nodeAt W' x').ways=(nodeAt W x).ways) (hc:(nodeAt W' x').children=(nodeAt W x).children) (hlt:(nodeAt W' x').routes<32768)
  (hbit:(nodeAt W' x').routes.testBit (pnum l v len)=false) (hbits:∀i,i≠pnum l v len→(nodeAt W' x').routes.testBit i=(nodeAt W x).routes.testBit i) (h0:(nodeAt W' x').routes=0→(nodeAt W' x').hops=0)
  (hh:(nodeAt W' x').routes≠0→(nodeAt W' x').hops=(nodeAt W x).hops)
  (hhead:∀i,i<ones (pnum l v len) (nodeAt W x).routes→W' ((nodeAt W x).hops+i)=W ((nodeAt W x).hops+i))
  (htail:∀i,i<ones 16 (nodeAt W x).routes-ones (pnum l v len) (nodeAt W x).routes-1→W' ((nodeAt W x).hops+ones (pnum l v len) (nodeAt W x).routes+i)=W ((nodeAt W x).hops+ones (pnum l v len) (nodeAt W x).routes+1+i)) :
  NodeOk W' (updT M l v none) len u x':=by
 have hold:(nodeAt W x).routes.testBit (pnum l v len)=true:=by rw[bit_pnum n h1 h2 h3];exact hm
 have hone:∀i,ones i (nodeAt W x).routes=ones i (nodeAt W' x').routes+(if pnum l v len<i then 1 else 0):=fun i=>ones_more hbit hold (fun i hi=>(hbits i hi).symm)
 refine node_hops n h1 h2 h3 hw hc hlt h0 hbit hbits (by intro h e;cases e) ?_
 intro i hi hb
 have hne:(nodeAt W' x').routes≠0:=by intro e;rw[←hbits i hi,e] at hb;simp at hb
 have q2:i<16:=testBit_lt16 (by have:=n.lt;omega) hb
 have q3:=ones_lt q2 hb
 rw[hh hne]
 have hon:=hone i
 by_cases hlt':pnum l v len<i
 ·rw[if_pos hlt'] at hon
  have q1:=ones_lt hlt' hold
  have:=htail (ones i (nodeAt W x).routes-1-ones (pnum l v len) (nodeAt W x).routes) (by omega)
  rw[show ones i (nodeAt W' x').routes=ones (pnum l v len) (nodeAt W x).routes+(ones i (nodeAt W x).routes-1-ones (pnum l v len) (nodeAt W x).routes) by omega,←Nat.add_assoc,this]
  congr 1;omega
 ·rw[if_neg hlt',Nat.add_zero] at hon
  rw[←hon]
  exact hhead _ (ones_lt (by omega) hb)
end Go.Proofs.YtnapboelfimaaaaGreatDoor
namespace Go.Proofs.YtnapboelfimaaaaGreatDoor
def fourV (l v len:Nat):Nat:=v/2^(l-(len+4))%16
theorem fourV_lt (l v len:Nat):fourV l v len<16:=Nat.mod_lt _ (by decide)
theorem fourV_next {l v len u:Nat} (h1:len+4≤l) (h2:v/2^(l-len)=u):v/2^(l-(len+4))=16*u+fourV l v len:=by
 have e:v/2^(l-len)=v/2^(l-(len+4))/16:=by
  rw[show l-len=(l-(len+4))+4 by omega,Nat.pow_add,←Nat.div_div_eq_div_mul]
 rw[←h2,e]
 unfold fourV
 omega
theorem agree_other {M:Tab} {l v len u f:Nat} {o:Option Nat} (h1:len+4≤l) (h2:v/2^(l-len)=u) (hf:f≠fourV l v len):Agree M (updT M l v o) (len+4) (16*u+f):=by
 apply agree_upd
 rintro ⟨_,e⟩
 rw[fourV_next h1 h2] at e
 omega
theorem node_ways {W W':Nat→Nat} {M:Tab} {l v len u x x':Nat} {o:Option Nat} (n:NodeOk W M len u x) (h1:len+4≤l) (h2:v/2^(l-len)=u)
  (hr:(nodeAt W' x').routes=(nodeAt W x).routes) (hh:(nodeAt W' x').hops=(nodeAt W x).hops) (hlt:(nodeAt W' x').ways<65536) (hlt3:(nodeAt W' x').children<65536) (h0:(nodeAt W' x').ways=0→(nodeAt W' x').children=0)
  (hbit:(nodeAt W' x').ways.testBit (fourV l v len)=anyBelow (updT M l v o) (len+4) (16*u+fourV l v len)) (hbits:∀i,i≠fourV l v len→(nodeAt W' x').ways.testBit i=(nodeAt W x).ways.testBit i)
  (hW:∀i,i<ones 16 (nodeAt W x).routes→W' ((nodeAt W x).hops+i)=W ((nodeAt W x).hops+i)) :
  NodeOk W' (updT M l v o) len u x':=by
 have hM:∀fu j,fu≤3→updT M l v o (len+fu) (u*2^fu+j)=M (len+fu) (u*2^fu+j):=fun fu j hfu=>updT_ne (by omega)
 refine⟨by rw[hr];exact n.lt,hlt,hlt3,by rw[hr,hh];exact n.hops0,h0,?_,?_,?_⟩
 ·intro fu j hfu hj
  rw[hr,hM fu j hfu];exact n.route fu j hfu hj
 ·intro fu j h hfu hj hm
  rw[hM fu j hfu] at hm
  have hb:=n.route fu j hfu hj
  rw[hm] at hb
  rw[hr,hh,hW _ (ones_lt (by have:=num_lt hfu hj;omega) hb)]
  exact n.hop fu j h hfu hj hm
 ·intro f hf
  by_cases hff:f=fourV l v len
  ·rw[hff];exact hbit
  ·rw[hbits f hff,anyBelow_agree (agree_other h1 h2 hff)]
   exact n.way f hf
theorem rep_ways {W W':Nat→Nat} {M:Tab} {d l v len u x x':Nat} {o:Option Nat} (h:Rep W M (d+1) len u x) (h1:len+4≤l) (h2:v/2^(l-len)=u) (hn:NodeOk W' (updT M l v o) len u x')
  (hr:(nodeAt W' x').routes=(nodeAt W x).routes) (hh:(nodeAt W' x').hops=(nodeAt W x).hops)
  (hbits:∀i,i≠fourV l v len→(nodeAt W' x').ways.testBit i=(nodeAt W x).ways.testBit i)
  (hmove:∀f,f<16→f≠fourV l v len→(nodeAt W x).ways.testBit f=true→W' ((nodeAt W' x').kid f)=W ((nodeAt W x).kid f)∧W' ((nodeAt W' x').kid f+1)=W ((nodeAt W x).kid f+1)∧∀a,1≤fp W d ((nodeAt W x).kid f) a→W' a=W a)
  (hnew:(nodeAt W' x').ways.testBit (fourV l v len)=true→Rep W' (updT M l v o) d (len+4) (16*u+fourV l v len) ((nodeAt W' x').kid (fourV l v len))) :
  Rep W' (updT M l v o) (d+1) len u x' ∧
  (∀a,fp W' (d+1) x' a+inB a (nodeAt W x).children (2*ones 16 (nodeAt W x).ways)+(if (nodeAt W x).ways.testBit (fourV l v len) then fp W d ((nodeAt W x).kid (fourV l v len)) a else 0) =
   fp W (d+1) x a+inB a (nodeAt W' x').children (2*ones 16 (nodeAt W' x').ways)+(if (nodeAt W' x').ways.testBit (fourV l v len) then fp W' d ((nodeAt W' x').kid (fourV l v len)) a else 0)) ∧
  costW W' (d+1) x'+2*ones 16 (nodeAt W x).ways+(if (nodeAt W x).ways.testBit (fourV l v len) then costW W d ((nodeAt W x).kid (fourV l v len)) else 0) =
   costW W (d+1) x+2*ones 16 (nodeAt W' x').ways+(if (nodeAt W' x').ways.testBit (fourV l v len) then costW W' d ((nodeAt W' x').kid (fourV l v len)) else 0):=by
 have key:∀f,f<16→f≠fourV l v len→(nodeAt W x).ways.testBit f=true→Rep W' (updT M l v o) d (len+4) (16*u+f) ((nodeAt W' x').kid f)∧(∀a,fp W' d ((nodeAt W' x').kid f) a=fp W d ((nodeAt W x).kid f) a)∧costW W' d ((nodeAt W' x').kid f)=costW W d ((nodeAt W x).kid f):=by
  intro f hf hff hb
  obtain⟨m1,m2,m3⟩:=hmove f hf hff hb
  exact rep_move (h.2 f hf hb) (agree_other h1 h2 hff) m1 m2 m3
 refine⟨⟨hn,?_⟩,?_,?_⟩
 ·intro f hf hb
  by_cases hff:f=fourV l v len
  ·rw[hff] at hb ⊢;exact hnew hb
  ·rw[hbits f hff] at hb;exact(key f hf hff hb).1
 ·intro a
  have:=sumTo_one (n:=16) (k:=fourV l v len) (g:=fun f=>if (nodeAt W x).ways.testBit f then fp W d ((nodeAt W x).kid f) a else 0) (g':=fun f=>if (nodeAt W' x').ways.testBit f then fp W' d ((nodeAt W' x').kid f) a else 0) (fourV_lt _ _ _) (by
   intro f hf hff
   simp only[hbits f hff]
   split
   ·rename_i hb;exact(key f hf hff hb).2.1 a
   ·rfl)
  simp only[fp,hr,hh]
  omega
 ·have:=sumTo_one (n:=16) (k:=fourV l v len) (g:=fun f=>if (nodeAt W x).ways.testBit f then costW W d ((nodeAt W x).kid f) else 0) (g':=fun f=>if (nodeAt W' x').ways.testBit f then costW W' d ((nodeAt W' x').kid f) else 0) (fourV_lt _ _ _) (by
   intro f hf hff
   simp only[hbits f hff]
   split
   ·rename_i hb;exact(key f hf hff hb).2.2
   ·rfl)
  simp only[costW,hr]
  omega
theorem kid_new {W W':Nat→Nat} {w w' c c' k f:Nat} (hk:w.testBit k=false) (hk':w'.testBit k=true) (hbits:∀i,i≠k→w'.testBit i=w.testBit i) (hf:f<16) (hff:f≠k) (hb:w.testBit f=true)
  (hhead:∀i,i<2*ones k w→W' (c'+i)=W (c+i)) (htail:∀i,i<2*ones 16 w-2*ones k w→W' (c'+2*ones k w+2+i)=W (c+2*ones k w+i)) :
  W' (c'+2*ones f w')=W (c+2*ones f w)∧W' (c'+2*ones f w'+1)=W (c+2*ones f w+1):=by
 have hone:ones f w'=ones f w+(if k<f then 1 else 0):=ones_more hk hk' hbits
 have q3:=ones_lt hf hb
 by_cases hlt:k<f
 ·have q1:=ones_mono w (show k≤f by omega)
  rw[if_pos hlt] at hone
  have e1:=htail (2*ones f w-2*ones k w) (by omega)
  have e2:=htail (2*ones f w-2*ones k w+1) (by omega)
  rw[show c'+2*ones k w+2+(2*ones f w-2*ones k w)=c'+2*ones f w' by omega,show c+2*ones k w+(2*ones f w-2*ones k w)=c+2*ones f w by omega] at e1
  rw[show c'+2*ones k w+2+(2*ones f w-2*ones k w+1)=c'+2*ones f w'+1 by omega,show c+2*ones k w+(2*ones f w-2*ones k w+1)=c+2*ones f w+1 by omega] at e2
  exact⟨e1,e2⟩
 ·have q1:ones f w<ones k w:=ones_lt (by omega) hb
  rw[if_neg hlt,Nat.add_zero] at hone
  rw[hone]
  exact⟨hhead _ (by omega),by rw[Nat.add_assoc,hhead _ (by omega),Nat.add_assoc]⟩
theorem kid_del {W W':Nat→Nat} {w w' c k f:Nat} (hk:w.testBit k=true) (hk':w'.testBit k=false) (hbits:∀i,i≠k→w'.testBit i=w.testBit i) (hf:f<16) (hff:f≠k) (hb:w.testBit f=true)
  (hhead:∀i,i<2*ones k w→W' (c+i)=W (c+i)) (htail:∀i,i<2*ones 16 w-2*ones k w-2→W' (c+2*ones k w+i)=W (c+2*ones k w+2+i)) :
  W' (c+2*ones f w')=W (c+2*ones f w)∧W' (c+2*ones f w'+1)=W (c+2*ones f w+1):=by
 have hone:ones f w=ones f w'+(if k<f then 1 else 0):=ones_more hk' hk (fun i hi=>(hbits i hi).symm)
 have q3:=ones_lt hf hb
 by_cases hlt:k<f
 ·have q1:=ones_lt hlt hk
  rw[if_pos hlt] at hone
  have e1:=htail (2*ones f w'-2*ones k w) (by omega)
  have e2:=htail (2*ones f w'-2*ones k w+1) (by omega)
  rw[show c+2*ones k w+2+(2*ones f w'-2*ones k w)=c+2*ones f w by omega,show c+2*ones k w+(2*ones f w'-2*ones k w)=c+2*ones f w' by omega] at e1
  rw[show c+2*ones k w+2+(2*ones f w'-2*ones k w+1)=c+2*ones f w+1 by omega,show c+2*ones k w+(2*ones f w'-2*ones k w+1)=c+2*ones f w'+1 by omega] at e2
  exact⟨e1,e2⟩
 ·have q1:ones f w<ones k w:=ones_lt (by omega) hb
  rw[if_neg hlt,Nat.add_zero] at hone
  rw[←hone]
  exact⟨hhead _ (by omega),by rw[Nat.add_assoc];exact hhead _ (by omega)⟩
end Go.Proofs.YtnapboelfimaaaaGreatDoor
namespace Go.Proofs.YtnapboelfimaaaaGreatDoor
structure TabOk (L:Nat) (M:Tab):Prop where
 len:∀l v,(M l v).isSome=true→l≤L
 val:∀l v,(M l v).isSome=true→v<2^l
theorem anyBelow_split {M:Tab} {L len u:Nat} (h:TabOk L M) (hL:L≤128):anyBelow M len u=true↔(∃fu j,fu≤3∧j<2^fu∧(M (len+fu) (u*2^fu+j)).isSome=true)∨∃f,f<16∧anyBelow M (len+4) (16*u+f)=true:=by
 rw[anyBelow_iff]
 constructor
 ·rintro ⟨k,j,hk,hj,hm⟩
  by_cases h3:k≤3
  ·exact Or.inl ⟨k,j,h3,hj,hm⟩
  ·right
   obtain⟨k',rfl⟩:∃k',k=k'+4:=⟨k-4,by omega⟩
   rw[Nat.pow_add] at hj
   have hp:=Nat.two_pow_pos k'
   have hdm:=Nat.div_add_mod j (2^k')
   refine⟨j/2^k',?_,?_⟩
   ·rw[Nat.div_lt_iff_lt_mul hp];rw[Nat.mul_comm];exact hj
   ·rw[anyBelow_iff]
    refine⟨k',j%2^k',by omega,Nat.mod_lt _ hp,?_⟩
    rw[show len+4+k'=len+(k'+4) by omega]
    have e:(16*u+j/2^k')*2^k'+j%2^k'=u*2^(k'+4)+j:=by
     have e1:u*(2^k'*2^4)=16*u*2^k':=by rw[Nat.mul_comm (2^k'),←Nat.mul_assoc,Nat.mul_comm u]
     have e2:j/2^k'*2^k'=2^k'*(j/2^k'):=Nat.mul_comm _ _
     rw[Nat.pow_add,Nat.add_mul]
     omega
    rw[e];exact hm
 ·rintro (⟨fu,j,h3,hj,hm⟩ | ⟨f,hf,ha⟩)
  ·have:=h.len _ _ hm
   exact⟨fu,j,by omega,hj,hm⟩
  ·rw[anyBelow_iff] at ha
   obtain⟨k,j,hk,hj,hm⟩:=ha
   refine⟨k+4,f*2^k+j,by omega,?_,?_⟩
   ·have:(f+1)*2^k≤16*2^k:=Nat.mul_le_mul_right _ (by omega)
    rw[Nat.pow_add];rw[Nat.add_mul] at this;omega
   ·have e:u*2^(k+4)+(f*2^k+j)=(16*u+f)*2^k+j:=by
     have:u*(2^k*2^4)=16*u*2^k:=by rw[Nat.mul_comm (2^k),←Nat.mul_assoc,Nat.mul_comm u]
     rw[Nat.pow_add,Nat.add_mul]
     omega
    rw[show len+(k+4)=len+4+k by omega,e];exact hm
theorem zero_bits16 {x:Nat} (hx:x<65536) (h:∀i,i<16→x.testBit i=false):x=0:=nat_bits16 hx (by decide) (by simpa using h)
theorem node_empty {W:Nat→Nat} {M:Tab} {L len u x:Nat} (n:NodeOk W M len u x) (h:TabOk L M) (hL:L≤128):anyBelow M len u=!((nodeAt W x).routes==0&&(nodeAt W x).ways==0):=by
 rw[Bool.eq_iff_iff,anyBelow_split h hL]
 simp only[Bool.not_eq_true',Bool.and_eq_false_iff,beq_eq_false_iff_ne,ne_eq]
 constructor
 ·rintro (⟨fu,j,h3,hj,hm⟩ | ⟨f,hf,ha⟩)
  ·left
   intro e
   have:=n.route fu j h3 hj
   rw[hm,e] at this
   simp at this
  ·right
   intro e
   have:=n.way f hf
   rw[ha,e] at this
   simp at this
 ·rintro (hr | hw)
  ·left
   by_cases hx:∃i,i<16∧(nodeAt W x).routes.testBit i=true
   ·obtain⟨i,hi,hb⟩:=hx
    have hi15:i<15:=by
     by_cases h15:i<15
     ·exact h15
     ·have hlt:=n.lt
      have:i=15:=by omega
      subst this
      rw[Nat.testBit_lt_two_pow (by omega)] at hb
      cases hb
    obtain⟨fu,j,h3,hj,rfl⟩:=num_all hi15
    exact⟨fu,j,h3,hj,by rw[←n.route fu j h3 hj];exact hb⟩
   ·exact absurd (zero_bits16 (by have:=n.lt;omega) fun i hi=>by
     by_cases hb:(nodeAt W x).routes.testBit i=true
     ·exact absurd ⟨i,hi,hb⟩ hx
     ·simpa using hb) hr
  ·right
   by_cases hx:∃i,i<16∧(nodeAt W x).ways.testBit i=true
   ·obtain⟨i,hi,hb⟩:=hx
    exact⟨i,hi,by rw[←n.way i hi];exact hb⟩
   ·exact absurd (zero_bits16 n.lt2 fun i hi=>by
     by_cases hb:(nodeAt W x).ways.testBit i=true
     ·exact absurd ⟨i,hi,hb⟩ hx
     ·simpa using hb) hw
theorem tab_upd_none {L:Nat} {M:Tab} {l v:Nat} (h:TabOk L M):TabOk L (updT M l v none):=by
 have:∀l' v',(updT M l v none l' v').isSome=true→(M l' v').isSome=true:=by
  intro l' v' hm
  unfold updT at hm
  split at hm
  ·cases hm
  ·exact hm
 exact⟨fun l' v' hm=>h.len _ _ (this l' v' hm),fun l' v' hm=>h.val _ _ (this l' v' hm)⟩
theorem tab_upd_some {L:Nat} {M:Tab} {l v x:Nat} (h:TabOk L M) (hl:l≤L) (hv:v<2^l):TabOk L (updT M l v (some x)):=by
 constructor
 ·intro l' v' hm
  unfold updT at hm
  split at hm
  ·rename_i e;omega
  ·exact h.len _ _ hm
 ·intro l' v' hm
  unfold updT at hm
  split at hm
  ·rename_i e;rw[e.1,e.2];exact hv
  ·exact h.val _ _ hm
theorem ok_word {A:Ar} {F:Nat→List Nat} {W':Nat→Nat} (h:ArOk A F) (hw:∀a,1≤A.frees F a→W' a=A.word a):ArOk ({ A with word:=W' }:Ar) F:=by
 refine⟨?_,h.top,h.size,h.zero,h.apart⟩
 intro s s1 s2
 refine chain_congr ?_ (h.lists s s1 s2)
 intro y hy
 apply hw
 have q1:=ffp_mem (F:=F) (show s<33 by omega) hy (Nat.le_refl _) (by omega)
 unfold Ar.frees
 omega
theorem fp_two {W:Nat→Nat} {x f g:Nat} (d a:Nat) (hf:f<16) (hg:g<16) (hne:f≠g) (hbf:(nodeAt W x).ways.testBit f=true) (hbg:(nodeAt W x).ways.testBit g=true) :
  (inB a ((nodeAt W x).kid f) 2+fp W d ((nodeAt W x).kid f) a)+(inB a ((nodeAt W x).kid g) 2+fp W d ((nodeAt W x).kid g) a)≤fp W (d+1) x a:=by
 have hin:∀p q,p<q→q<16→(nodeAt W x).ways.testBit p=true→(nodeAt W x).ways.testBit q=true→inB a ((nodeAt W x).kid p) 2+inB a ((nodeAt W x).kid q) 2≤inB a (nodeAt W x).children (2*ones 16 (nodeAt W x).ways):=by
  intro p q h1 h2 hp hq
  have q1:=ones_lt h1 hp
  have q2:=ones_lt h2 hq
  have q3:=ones_lt (Nat.lt_trans h1 h2) hp
  unfold NodeD.kid
  unfold inB
  split
  ·rw[if_neg (by omega),if_pos (by omega)];omega
  ·split
   ·rw[if_pos (by omega)];omega
   ·omega
 rcases Nat.lt_or_gt_of_ne hne with h | h
 ·have h1:=hin f g h hg hbf hbg
  have h2:=two_sumTo (fun f=>if (nodeAt W x).ways.testBit f then fp W d ((nodeAt W x).kid f) a else 0) h hg
  simp only[hbf,hbg,if_true] at h2
  simp only[fp]
  omega
 ·have h1:=hin g f h hf hbg hbf
  have h2:=two_sumTo (fun f=>if (nodeAt W x).ways.testBit f then fp W d ((nodeAt W x).kid f) a else 0) h hf
  simp only[hbf,hbg,if_true] at h2
  simp only[fp]
  omega
def clr (x k:Nat):Nat:=(x ||| 2^k) ^^^ 2^k
theorem clr_bit (x k:Nat):(clr x k).testBit k=false:=by simp[clr,Nat.testBit_xor,Nat.testBit_or]
theorem clr_bits (x k i:Nat) (h:i≠k):(clr x k).testBit i=x.testBit i:=by
 simp only[clr,Nat.testBit_xor,Nat.testBit_or,Nat.testBit_two_pow]
 simp[Ne.symm h]
theorem clr_lt {x k n:Nat} (h:x<2^n) (hk:k<n):clr x k<2^n:=Nat.xor_lt_two_pow (Nat.or_lt_two_pow h (Nat.pow_lt_pow_right (by decide) hk)) (Nat.pow_lt_pow_right (by decide) hk)
def NodeD.dropHop (n:NodeD) (k:Nat):NodeD:={ n with routes:=clr n.routes k,hops:=if ones 16 n.routes=1 then 0 else n.hops }
def NodeD.dropKid (n:NodeD) (f:Nat):NodeD:={ n with ways:=clr n.ways f,children:=if 2*ones 16 n.ways=2 then 0 else n.children }
def NodeD.isEmpty (n:NodeD):Bool:=n.routes==0&&n.ways==0
def Ar.putN (A:Ar) (x:Nat) (n:NodeD):Ar:={ A with word:=putNode A.word x n }
def removeN (l v:Nat):Nat→Nat→Ar→Nat→Ar × Bool × Bool
 | d,len,A,x =>
  if l<len+4 then
   if (nodeAt A.word x).routes.testBit (pnum l v len) then
    ((A.shrink (nodeAt A.word x).hops (ones 16 (nodeAt A.word x).routes) (ones (pnum l v len) (nodeAt A.word x).routes) 1).putN x ((nodeAt A.word x).dropHop (pnum l v len)),true,((nodeAt A.word x).dropHop (pnum l v len)).isEmpty)
   else (A,false,false)
  else match d with
   | 0=>(A,false,false)
   | d+1 =>
    if (nodeAt A.word x).ways.testBit (fourV l v len) then
     match removeN l v d (len+4) A ((nodeAt A.word x).kid (fourV l v len)) with
     | (B,fo,em) =>
      if em then
       ((B.shrink (nodeAt A.word x).children (2*ones 16 (nodeAt A.word x).ways) (2*ones (fourV l v len) (nodeAt A.word x).ways) 2).putN x ((nodeAt A.word x).dropKid (fourV l v len)),true,((nodeAt A.word x).dropKid (fourV l v len)).isEmpty)
      else (B,fo,false)
    else (A,false,false)
end Go.Proofs.YtnapboelfimaaaaGreatDoor
namespace Go.Proofs.YtnapboelfimaaaaGreatDoor
structure Removed (A:Ar) (F:Nat→List Nat) (B:Ar) (F':Nat→List Nat) (M:Tab) (l v d len u x:Nat):Prop where
 ok:ArOk B F'
 rep:Rep B.word (updT M l v none) d len u x
 frees:∀a,B.frees F' a+fp B.word d x a=A.frees F a+fp A.word d x a
 free:B.free+costW B.word d x=A.free+costW A.word d x
 word:∀a,inB a x 2=0→fp A.word d x a=0→B.word a=A.word a
 size:B.size=A.size
 top:B.top=A.top
theorem below_here {M:Tab} {l v len u L:Nat} (h:TabOk L M) (hL:L≤128) (h1:len≤l) (h2:v/2^(l-len)=u) (hm:(M l v).isSome=true):anyBelow M len u=true:=by
 rw[anyBelow_iff]
 have:=h.len _ _ hm
 refine⟨l-len,v%2^(l-len),by omega,Nat.mod_lt _ (Nat.two_pow_pos _),?_⟩
 have e:=(here_iff (fu:=l-len) (j:=v%2^(l-len)) h1 h2 (Nat.mod_lt _ (Nat.two_pow_pos _))).2 ⟨rfl,rfl⟩
 rw[e.1,e.2];exact hm
theorem ones16_clr {x k:Nat} (hk:k<16) (hb:x.testBit k=true):ones 16 x=ones 16 (clr x k)+1:=by
 have:=ones_more (n:=16) (clr_bit x k) hb (fun i hi=>(clr_bits x k i hi).symm)
 rw[if_pos hk] at this
 exact this
theorem ones16_zero {x:Nat} (hx:x<65536):ones 16 x=0↔x=0:=by
 constructor
 ·intro h;exact zero_bits16 hx (ones_zero_iff h)
 ·rintro rfl;decide
theorem remove_leaf {A:Ar} {F:Nat→List Nat} {M:Tab} {l v d len u x:Nat} (h:ArOk A F) (hr:Rep A.word M d len u x) (h1:len≤l) (h2:v/2^(l-len)=u) (h3:l<len+4)
  (hs:∀a,inB a x 2+fp A.word d x a+A.frees F a≤1) (hz:fp A.word d x 0=0) (hm:(M l v).isSome=true) :
  ∃F',Removed A F ((A.shrink (nodeAt A.word x).hops (ones 16 (nodeAt A.word x).routes) (ones (pnum l v len) (nodeAt A.word x).routes) 1).putN x ((nodeAt A.word x).dropHop (pnum l v len))) F' M l v d len u x:=by
 have n:=hr.node
 have hb:(nodeAt A.word x).routes.testBit (pnum l v len)=true:=by rw[bit_pnum n h1 h2 (by omega)];exact hm
 have hp:=pnum_lt (v:=v) h1 (show l≤len+3 by omega)
 have hlt:=ones_lt (show pnum l v len<16 by omega) hb
 have hle:=ones_le 16 (nodeAt A.word x).routes
 have hcl:=ones16_clr (show pnum l v len<16 by omega) hb
 have hown:=fp_own A.word d x
 have hh0:(nodeAt A.word x).hops≠0:=by
  intro e
  have:=hown 0
  rw[e,inB_one (Nat.le_refl 0) (by omega)] at this
  omega
 generalize hN:nodeAt A.word x=N at *
 obtain⟨F',S⟩:=shrink_ok (b:=N.hops) (n:=ones 16 N.routes) (gap:=ones (pnum l v len) N.routes) (less:=1) h (by omega) (by omega) (by omega) hh0 (by
  intro a
  have q1:=hs a
  have q2:=hown a
  omega)
 generalize hB:A.shrink N.hops (ones 16 N.routes) (ones (pnum l v len) N.routes) 1=B at S
 have hlt2:clr N.routes (pnum l v len)<32768:=clr_lt (n:=15) (by have:=n.lt;rw[hN] at this;exact this) (by omega)
 have hN':nodeAt (B.putN x (N.dropHop (pnum l v len))).word x=N.dropHop (pnum l v len):=by
  apply nodeAt_put
  ·show clr N.routes (pnum l v len)<65536
   omega
  ·show (if ones 16 N.routes=1 then 0 else N.hops)<65536
   have:N.hops<65536:=by rw[←hN];exact Nat.mod_lt _ (by decide)
   split <;> omega
 have hout:∀a,inB a x 2=0→(B.putN x (N.dropHop (pnum l v len))).word a=B.word a:=fun a q=>putNode_out q
 have hcnt0:clr N.routes (pnum l v len)=0↔ones 16 N.routes=1:=by
  rw[←ones16_zero (show clr N.routes (pnum l v len)<65536 by omega)];omega
 have hin:∀i,i<ones 16 N.routes→inB (N.hops+i) x 2=0:=by
  intro i hi
  have q1:=hs (N.hops+i)
  have q2:=hown (N.hops+i)
  rw[inB_one (b:=N.hops) (by omega) (by omega)] at q2
  omega
 have hn':NodeOk (B.putN x (N.dropHop (pnum l v len))).word (updT M l v none) len u x:=by
  refine hop_del n h1 h2 (by omega) hm ?_ ?_ ?_ ?_ ?_ ?_ ?_ ?_ ?_
  ·rw[hN',hN];rfl
  ·rw[hN',hN];rfl
  ·rw[hN'];exact hlt2
  ·rw[hN'];exact clr_bit _ _
  ·intro i hi;rw[hN',hN];exact clr_bits _ _ i hi
  ·rw[hN'];intro e
   show (if ones 16 N.routes=1 then 0 else N.hops)=0
   rw[if_pos (hcnt0.1 e)]
  ·rw[hN',hN];intro e
   show (if ones 16 N.routes=1 then 0 else N.hops)=N.hops
   rw[if_neg fun q=>e (hcnt0.2 q)]
  ·rw[hN];intro i hi
   rw[hout _ (hin i (by omega))]
   exact S.head i hi
  ·rw[hN];intro i hi
   rw[Nat.add_assoc,hout _ (hin _ (by omega)),←Nat.add_assoc]
   exact S.tail i hi
 obtain⟨r1,r2,r3⟩:=rep_hops (M':=updT M l v none) hr hn' (by rw[hN',hN];rfl) (by rw[hN',hN];rfl) (fun f hf=>agree_upd (by omega)) (fun a=>by have:=hs a;omega) (by
  intro a q1 q2
  rw[hN] at q2
  rw[hout a (by have:=hs a;omega)]
  exact S.word a q2)
 rw[hN',hN] at r2 r3
 have hd:(N.dropHop (pnum l v len)).routes=clr N.routes (pnum l v len):=rfl
 have hd2:∀a,inB a N.hops (ones 16 N.routes)=inB a (N.dropHop (pnum l v len)).hops (ones 16 (clr N.routes (pnum l v len)))+inB a (N.hops+ones 16 N.routes-1) 1:=by
  intro a
  show _=inB a (if ones 16 N.routes=1 then 0 else N.hops) _+_
  by_cases q:ones 16 N.routes=1
  ·rw[if_pos q,hcl.symm.trans q |> fun e=>(by omega:ones 16 (clr N.routes (pnum l v len))=0),inB_nil,q]
   simp
  ·rw[if_neg q]
   have:=@inB_split a N.hops 1 (ones 16 (clr N.routes (pnum l v len)))
   rw[←hcl] at this
   rw[this]
   congr 2
   omega
 refine⟨F',⟨?_,r1,?_,?_,?_,S.size,S.top⟩⟩
 ·apply ok_word S.ok
  intro a q
  apply putNode_out
  have q1:=S.frees a
  have q2:=hs a
  have q3:=hown a
  have q4:=hd2 a
  omega
 ·intro a
  have q1:=S.frees a
  have q2:=r2 a
  have q4:=hd2 a
  rw[hd] at q2
  show B.frees F' a+_=_
  omega
 ·rw[hd] at r3
  show B.free+_=_
  rw[S.free]
  omega
 ·intro a q1 q2
  rw[hout a q1]
  apply S.word
  have:=hown a
  omega
end Go.Proofs.YtnapboelfimaaaaGreatDoor
