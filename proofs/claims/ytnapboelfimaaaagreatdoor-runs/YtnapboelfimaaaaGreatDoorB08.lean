/- BitsA, NodeA, LookA, NodeC: parts of the proof, one behind the other. -/
import Derived.Test.YtnapboelfimaaaaGreatDoorB00
import Derived.Test.YtnapboelfimaaaaGreatDoorB04
import Derived.Test.YtnapboelfimaaaaGreatDoorB06
import Derived.BigQuiet
import Derived.Deep.QuietTactic
import Derived.Laws.BitsAllLaws
import Derived.Lib.BitFns
namespace Go.Proofs.YtnapboelfimaaaaGreatDoor
open Go.RowKit Go.Deep
theorem retI {k:IntKind} {a b:Int} (h:a=b):Ending.returned (.int k a)=.returned (.int k b):=by rw[h]
theorem retB {a b:Bool} (h:a=b):Ending.returned (.bool a)=.returned (.bool b):=by rw[h]
theorem ones_split (x:Nat):ones 16 x=ones 8 (x/256)+ones 8 (x%256):=by
 have e:List.range 16=List.range 8++(List.range 8).map (8 + ·):=by decide
 unfold ones
 rw[e,List.countP_append,List.countP_map,Nat.add_comm]
 congr 1
 ·apply List.countP_congr
  intro i _
  simp only[Function.comp]
  rw[show x/256=x/2^8 from rfl,Nat.testBit_div_two_pow,Nat.add_comm]
 ·apply List.countP_congr
  intro i hi
  have:=List.mem_range.1 hi
  rw[show x%256=x%2^8 from rfl,Nat.testBit_mod_two_pow]
  simp[this]
theorem pop_ones:∀n:Fin 256,Lib.pop8 (n.val:Int)=(ones 8 n.val:Int):=by decide +kernel
theorem ones_mask (bm bit:Nat) (h:bit≤16):ones 16 (bm%2^bit)=ones bit bm:=by
 unfold ones
 obtain⟨k,hk⟩:∃k,16=bit+k:=⟨16-bit,by omega⟩
 rw[hk,List.range_add,List.countP_append,List.countP_map]
 have e1:(List.range bit).countP (fun i=>(bm%2^bit).testBit i)=(List.range bit).countP (fun i=>bm.testBit i):=by
  apply List.countP_congr
  intro i hi
  have:=List.mem_range.1 hi
  rw[Nat.testBit_mod_two_pow]
  simp[this]
 have e2:(List.range k).countP ((fun i=>(bm%2^bit).testBit i) ∘ fun x=>bit+x)=0:=by
  rw[List.countP_eq_zero]
  intro i _
  simp only[Function.comp]
  rw[Nat.testBit_mod_two_pow]
  simp;omega
 rw[e1,e2,Nat.add_zero]
section
attribute [local go_sem] List.append_eq List.cons_append List.nil_append
set_option maxHeartbeats 1000000 in
set_option maxRecDepth 10000 in
theorem onesCount_any (x:Nat) (w:World) (h:x<65536):Calls Tryz.prog 76 #[.int .u16 x] w fun e w'=>e=.returned (.int .i64 (ones 16 x))∧∃n,w'=w.drewN n:=by
 have h1:(0:Int)≤(x:Int)/256:=by omega
 have h2:(x:Int)/256≤255:=by omega
 have h3:bits BinOp.and IntKind.u16 (x:Int) 255=(x:Int)%256:=by
  have e:=u16_and_nat x 255 h (by omega)
  rw[nat_mask8] at e
  exact e.trans (by omega)
 go_enter Tryz.func76,Tryz.ntmps76
 go_wp2
 go_quiet (fail)
 go_wp2
 go_ret
 refine⟨retI ?_,_,rfl⟩
 show ((Lib.pop8 ((x:Int)/256)+Lib.pop8 ((x:Int)%256))%256)=_
 have e1:=pop_ones ⟨x/256,by omega⟩
 have e2:=pop_ones ⟨x%256,by omega⟩
 simp only[Int.natCast_ediv,Int.natCast_emod] at e1 e2
 rw[show (x:Int)/256=(x:Int)/(256:Nat) from rfl,show (x:Int)%256=(x:Int)%(256:Nat) from rfl,e1,e2,ones_split]
 have:=ones_le 8 (x/256)
 have:=ones_le 8 (x%256)
 omega
end
theorem two_pow_le {k n:Nat} (h:k≤n):(1:Int)≤(2:Int)^k∧(2:Int)^k≤(2:Int)^n:=by
 have h1:1≤2^k:=Nat.one_le_two_pow
 have h2:2^k≤2^n:=Nat.pow_le_pow_right (by decide) h
 exact⟨by exact_mod_cast h1,by exact_mod_cast h2⟩
theorem mask_mod (bm bit:Nat) (h:bm<65536) (hb:bit≤15):bits BinOp.and IntKind.u16 (bm:Int) ((2:Int)^bit-1)=((bm%2^bit:Nat):Int):=by
 have h1:1≤2^bit:=Nat.one_le_two_pow
 have h2:2^bit≤2^15:=Nat.pow_le_pow_right (by decide) hb
 have e:=u16_and_nat bm (2^bit-1) h (by omega)
 rw[Nat.and_two_pow_sub_one_eq_mod] at e
 rw[←e]
 congr 1
 rw[Int.natCast_sub h1]
 norm_cast
set_option maxHeartbeats 400000 in
set_option maxRecDepth 10000 in
theorem before_any (bm bit:Nat) (w:World) (h:bm<65536) (hb:bit≤15):Calls Tryz.prog 75 #[.int .u16 bm,.int .i64 bit] w fun e w'=>e=.returned (.int .i64 (ones bit bm))∧∃n,w'=w.drewN n:=by
 obtain⟨p1,p2⟩:=two_pow_le hb
 rw[show (2:Int)^15=32768 from rfl] at p2
 have HM:=hide (mask_mod bm bit h hb)
 have hlt:bm%2^bit<65536:=Nat.lt_of_le_of_lt (Nat.mod_le _ _) h
 have HO:=hide (ones_mask bm bit (by omega))
 go_enter Tryz.func75,Tryz.ntmps75
 go_wp2_with fail
 rw[HM.out]
 refine(onesCount_any _ _ hlt).mono ?_
 rintro e w' ⟨rfl,n,rfl⟩
 rw[HO.out]
 go_wp2
 go_ret
 exact⟨rfl,n,rfl⟩
set_option maxHeartbeats 400000 in
theorem numberOf_any (further value:Nat) (w:World) (h:further≤3) (hv:value≤15):Calls Tryz.prog 68 #[.int .i64 further,.int .i64 value] w fun e w'=>e=.returned (.int .i64 ((2^further-1+value:Nat):Int))∧w'=w:=by
 obtain⟨p1,p2⟩:=two_pow_le h
 rw[show (2:Int)^3=8 from rfl] at p2
 go_enter Tryz.func68,Tryz.ntmps68
 go_wp2
 go_ret
 refine⟨retI ?_,rfl⟩
 show (2:Int)^further-1+value=_
 have h1:1≤2^further:=Nat.one_le_two_pow
 rw[Int.natCast_add,Int.natCast_sub h1]
 norm_cast
end Go.Proofs.YtnapboelfimaaaaGreatDoor
namespace Go.Proofs.YtnapboelfimaaaaGreatDoor
open Go.RowKit Go.Deep
theorem bit_of (x k:Nat) (hx:x<65536):(bits BinOp.and IntKind.u16 ((x:Int)/2^k) 1==1)=x.testBit k:=by
 have e1:((x:Int)/2^k)=((x/2^k:Nat):Int):=by rw[Int.natCast_ediv];norm_cast
 have h2:x/2^k<65536:=Nat.lt_of_le_of_lt (Nat.div_le_self _ _) hx
 have e:=u16_and_nat (x/2^k) 1 h2 (by omega)
 rw[e1,show (1:Int)=((1:Nat):Int) from rfl,e,nat_mask1,Nat.testBit_eq_decide_div_mod_eq,Bool.eq_iff_iff]
 simp only[beq_iff_eq,decide_eq_true_eq]
 omega
set_option maxHeartbeats 400000 in
theorem hasRoute_any (n:NodeD) (k:Nat) (w:World) (hn:n.ok) (hk:k≤15):Calls Tryz.prog 69 #[.agg #[.int .u16 n.routes,.int .u16 n.ways,.int .i64 n.hops,.int .i64 n.children],.int .i64 k] w fun e w'=>e=.returned (.bool (n.routes.testBit k))∧Below w.heap.size w w':=by
 have HB:=hide (bit_of n.routes k hn.1)
 go_enter Tryz.func69,Tryz.ntmps69
 go_wp2
 go_ret
 exact⟨retB HB.out,ext_alloc _ _⟩
set_option maxHeartbeats 400000 in
theorem hasWay_any (n:NodeD) (k:Nat) (w:World) (hn:n.ok) (hk:k≤15):Calls Tryz.prog 73 #[.agg #[.int .u16 n.routes,.int .u16 n.ways,.int .i64 n.hops,.int .i64 n.children],.int .i64 k] w fun e w'=>e=.returned (.bool (n.ways.testBit k))∧Below w.heap.size w w':=by
 have HB:=hide (bit_of n.ways k hn.2.1)
 go_enter Tryz.func73,Tryz.ntmps73
 go_wp2
 go_ret
 exact⟨retB HB.out,ext_alloc _ _⟩
set_option maxHeartbeats 400000 in
set_option maxRecDepth 10000 in
theorem hopPlace_any (n:NodeD) (k:Nat) (w:World) (hn:n.ok) (hk:k≤15):Calls Tryz.prog 71 #[.agg #[.int .u16 n.routes,.int .u16 n.ways,.int .i64 n.hops,.int .i64 n.children],.int .i64 k] w fun e w'=>e=.returned (.int .i64 ((n.hops+ones k n.routes:Nat):Int))∧Below w.heap.size w w':=by
 obtain⟨h1,h2,h3,h4⟩:=hn
 have ho:=ones_le k n.routes
 go_enter Tryz.func71,Tryz.ntmps71
 go_wp2
 go_quiet ((go_at_call 75;exact Calls.quiet_of (before_any _ _ _ h1 hk)))
 go_wp2
 go_ret
 exact⟨retI (by first | rfl | omega),below_drewN (ext_alloc _ _) _⟩
set_option maxHeartbeats 400000 in
set_option maxRecDepth 10000 in
theorem childPlace_any (n:NodeD) (k:Nat) (w:World) (hn:n.ok) (hk:k≤15):Calls Tryz.prog 74 #[.agg #[.int .u16 n.routes,.int .u16 n.ways,.int .i64 n.hops,.int .i64 n.children],.int .i64 k] w fun e w'=>e=.returned (.int .i64 ((n.children+2*ones k n.ways:Nat):Int))∧Below w.heap.size w w':=by
 obtain⟨h1,h2,h3,h4⟩:=hn
 have ho:=ones_le k n.ways
 go_enter Tryz.func74,Tryz.ntmps74
 go_wp2
 go_quiet ((go_at_call 75;exact Calls.quiet_of (before_any _ _ _ h2 hk)))
 go_wp2
 go_ret
 exact⟨retI (by first | rfl | omega),below_drewN (ext_alloc _ _) _⟩
set_option maxHeartbeats 400000 in
theorem empty_any (n:NodeD) (w:World):Calls Tryz.prog 130 #[.agg #[.int .u16 n.routes,.int .u16 n.ways,.int .i64 n.hops,.int .i64 n.children]] w fun e w'=>e=.returned (.bool (n.routes==0&&n.ways==0))∧Below w.heap.size w w':=by
 by_cases h:n.routes=0
 ·have e0:((n.routes:Int)==0)=true:=by simp[h]
  have e1:((n.ways:Int)==0)=(n.ways==0):=by rw[Bool.eq_iff_iff];simp
  have HR:=hide h
  clear h
  go_enter Tryz.func130,Tryz.ntmps130
  go_wp2
  go_ret
  exact⟨retB (by simp[HR.out]),ext_alloc _ _⟩
 ·have e0:((n.routes:Int)==0)=false:=by simp[h]
  have HR:=hide h
  clear h
  go_enter Tryz.func130,Tryz.ntmps130
  go_wp2
  go_ret
  exact⟨retB (by simp[HR.out]),ext_alloc _ _⟩
end Go.Proofs.YtnapboelfimaaaaGreatDoor
namespace Go.Proofs.YtnapboelfimaaaaGreatDoor
open Go
def fitK (K l:Nat):Nat:=K/2^(136-l)
def bestL (M:Tab) (K:Nat):Nat→Option Nat
  | 0 => none
  | n + 1 => if (M n (fitK K n)).isSome then M n (fitK K n) else bestL M K n
theorem fit_step {K len k:Nat} (hl:len+4≤136) (hk:k≤4):fitK K (len+k)=fitK K len*2^k+fitK K (len+4)%16/2^(4-k):=by
  have h1:∀j,j≤4→fitK K (len+j)=fitK K (len+4)/2^(4-j):=by
    intro j hj
    unfold fitK
    rw[Nat.div_div_eq_div_mul,←Nat.pow_add]
    congr 2;omega
  have h0:=h1 0 (by omega)
  have hk':=h1 k hk
  rw[hk']
  rw[Nat.add_zero] at h0
  rw[h0]
  generalize fitK K (len+4)=X
  rcases k with _ | _ | _ | _ | _ | k
  all_goals first | omega | (simp;done) | (simp;omega)
theorem bitLen_spec:∀(x:Nat),x≠0→x<2^64→2^(Lib.bitLen x-1)≤x∧x<2^Lib.bitLen x∧1≤Lib.bitLen x:=by
  intro x
  induction x using Nat.strongRecOn with
  | ind x ih =>
    intro h0 hx
    rw[Lib.bitLen_half x h0 hx]
    by_cases h1:x/2=0
    · rw[h1]
      have:Lib.bitLen 0=0:=by decide
      rw[this]
      refine⟨by simp;omega,by simp;omega,by omega⟩
    · obtain⟨a,b,c⟩:=ih (x/2) (by omega) h1 (by omega)
      generalize hL:Lib.bitLen (x/2)=L at a b c
      obtain⟨m,rfl⟩:∃m,L=m+1:=⟨L-1,by omega⟩
      rw[show 1+(m+1)-1=m+1 by omega,show 1+(m+1)=m+2 by omega]
      rw[show m+1-1=m by omega] at a
      rw[Nat.pow_succ] at b ⊢
      rw[Nat.pow_succ,Nat.pow_succ]
      refine⟨by omega,by omega,by omega⟩
theorem bitLen_top {x:Nat} (h0:x≠0) (hx:x<2^64):x.testBit (Lib.bitLen x-1)=true∧∀i,Lib.bitLen x≤i→x.testBit i=false:=by
  obtain⟨a,b,c⟩:=bitLen_spec x h0 hx
  constructor
  · obtain⟨m,hm⟩:∃m,Lib.bitLen x=m+1:=⟨Lib.bitLen x-1,by omega⟩
    rw[hm] at a b ⊢
    rw[show m+1-1=m by omega] at a ⊢
    rw[Nat.testBit_eq_decide_div_mod_eq,decide_eq_true_eq]
    have h1:x/2^m=1:=by
      rw[Nat.pow_succ] at b
      have h2:1≤x/2^m:=(Nat.le_div_iff_mul_le (Nat.two_pow_pos m)).2 (by omega)
      have h3:x/2^m<2:=(Nat.div_lt_iff_lt_mul (Nat.two_pow_pos m)).2 (by omega)
      omega
    rw[h1]
  · intro i hi
    exact Nat.testBit_lt_two_pow (Nat.lt_of_lt_of_le b (Nat.pow_le_pow_right (by decide) hi))
def fitMask (four:Nat):Nat→Nat
  | 0 => 0
  | k + 1 => fitMask four k ||| 2 ^ (2 ^ k - 1 + four / 2 ^ (4 - k))
theorem fitMask_bit {four n i:Nat}:(fitMask four n).testBit i=true↔∃k,k<n∧i=num k (four/2^(4-k)):=by
  induction n with
  | zero => simp [fitMask]
  | succ n ih =>
    rw[fitMask,Nat.testBit_or,Bool.or_eq_true,ih,Nat.testBit_two_pow,decide_eq_true_eq]
    constructor
    · rintro (⟨k,h1,h2⟩ | h)
      · exact⟨k,by omega,h2⟩
      · exact⟨n,by omega,h.symm⟩
    · rintro ⟨k,h1,h2⟩
      by_cases e:k=n
      · subst e;exact Or.inr h2.symm
      · exact Or.inl ⟨k,by omega,h2⟩
theorem num_mono {k k' j j':Nat} (h:k<k') (hj:j<2^k):num k j<num k' j':=by
  unfold num
  have h1:2^(k+1)≤2^k':=Nat.pow_le_pow_right (by decide) h
  rw[Nat.pow_succ] at h1
  have:=Nat.two_pow_pos k
  omega
theorem four_div {four k:Nat} (hf:four<16) (hk:k≤3):four/2^(4-k)<2^k:=by
  rw[Nat.div_lt_iff_lt_mul (Nat.two_pow_pos _),←Nat.pow_add,show k+(4-k)=4 by omega]
  exact hf
theorem node_best {W:Nat→Nat} {M:Tab} {len u x K:Nat} (n:NodeOk W M len u x) (hu:u=fitK K len) (hl:len+4≤136) :
    (Lib.bitLen ((nodeAt W x).routes &&& fitMask (fitK K (len+4)%16) 4)=0∧bestL M K (len+4)=bestL M K len) ∨
    ∃k h,k≤3∧Lib.bitLen ((nodeAt W x).routes &&& fitMask (fitK K (len+4)%16) 4)=num k (fitK K (len+4)%16/2^(4-k))+1∧bestL M K (len+4)=some h∧W ((nodeAt W x).hops+ones (num k (fitK K (len+4)%16/2^(4-k))) (nodeAt W x).routes)=h∧(nodeAt W x).routes.testBit (num k (fitK K (len+4)%16/2^(4-k)))=true:=by
  have hf:fitK K (len+4)%16<16:=Nat.mod_lt _ (by decide)
  generalize hfour:fitK K (len+4)%16=four at hf
  have hbit:∀k,k≤3→(nodeAt W x).routes.testBit (num k (four/2^(4-k)))=(M (len+k) (fitK K (len+k))).isSome:=by
    intro k hk
    rw[n.route k _ hk (four_div hf hk),fit_step hl (show k≤4 by omega),hfour,hu]
  have hhop:∀k h,k≤3→M (len+k) (fitK K (len+k))=some h→W ((nodeAt W x).hops+ones (num k (four/2^(4-k))) (nodeAt W x).routes)=h:=by
    intro k h hk hm
    apply n.hop k _ h hk (four_div hf hk)
    rw[←hm,fit_step hl (show k≤4 by omega),hfour,hu]
  have hlt:=n.lt
  have hy:(nodeAt W x).routes &&& fitMask four 4<2^64:=Nat.lt_of_le_of_lt Nat.and_le_left (by omega)
  have hand:∀i,((nodeAt W x).routes &&& fitMask four 4).testBit i=true↔∃k,k≤3∧i=num k (four/2^(4-k))∧(M (len+k) (fitK K (len+k))).isSome=true:=by
    intro i
    rw[Nat.testBit_and,Bool.and_eq_true,fitMask_bit]
    constructor
    · rintro ⟨h1,k,h2,rfl⟩
      exact⟨k,by omega,rfl,by rw[←hbit k (by omega)];exact h1⟩
    · rintro ⟨k,h1,rfl,h2⟩
      exact⟨by rw[hbit k h1];exact h2,k,by omega,rfl⟩
  by_cases hz:(nodeAt W x).routes &&& fitMask four 4=0
  · left
    have hno:∀k,k≤3→(M (len+k) (fitK K (len+k))).isSome=false:=by
      intro k hk
      cases hm:(M (len+k) (fitK K (len+k))).isSome with
      | false => rfl
      | true =>
        have:=(hand (num k (four/2^(4-k)))).2 ⟨k,hk,rfl,hm⟩
        rw[hz] at this
        simp at this
    refine⟨by rw[hz];decide,?_⟩
    have h0:=hno 0 (by omega);have h1:=hno 1 (by omega);have h2:=hno 2 (by omega);have h3:=hno 3 (by omega)
    rw[Nat.add_zero] at h0
    show bestL M K (len+3+1)=_
    rw[bestL,h3]
    show bestL M K (len+2+1)=_
    rw[bestL,h2]
    show bestL M K (len+1+1)=_
    rw[bestL,h1]
    show bestL M K (len+1)=_
    rw[bestL,h0]
    rfl
  · right
    obtain⟨t1,t2⟩:=bitLen_top hz hy
    obtain⟨_,_,t3⟩:=bitLen_spec _ hz hy
    obtain⟨k,k1,k2,k3⟩:=(hand _).1 t1
    have habove:∀k',k<k'→k'≤3→(M (len+k') (fitK K (len+k'))).isSome=false:=by
      intro k' h1 h2
      cases hm:(M (len+k') (fitK K (len+k'))).isSome with
      | false => rfl
      | true =>
        have e1:=(hand (num k' (four/2^(4-k')))).2 ⟨k',h2,rfl,hm⟩
        have e2:=num_mono (j':=four/2^(4-k')) h1 (four_div hf k1)
        rw[t2 _ (by omega)] at e1
        cases e1
    obtain⟨h,hh⟩:=Option.isSome_iff_exists.1 k3
    refine⟨k,h,k1,by omega,?_,hhop k h k1 hh,by rw[hbit k k1];exact k3⟩
    have hdown:∀j,k+1+j≤4→bestL M K (len+(k+1+j))=some h:=by
      intro j
      induction j with
      | zero =>
        intro _
        show bestL M K (len+k+1)=_
        rw[bestL,k3,hh]
        rfl
      | succ j ih =>
        intro hj
        show bestL M K (len+(k+1+j)+1)=_
        rw[bestL,habove (k+1+j) (by omega) (by omega)]
        exact ih (by omega)
    have:=hdown (3-k) (by omega)
    rw[show k+1+(3-k)=4 by omega] at this
    exact this
theorem best_end {M:Tab} {K len L:Nat} (hT:TabOk L M) (hL:L≤128) (hany:anyBelow M len (fitK K len)=false) (hl:len≤136):∀n,len≤n→n≤136→bestL M K n=bestL M K len:=by
  intro n
  induction n with
  | zero => intro h _; have : len = 0 := by omega
            subst this;rfl
  | succ n ih =>
    intro h1 h2
    by_cases e:len=n+1
    · subst e;rfl
    · rw[bestL]
      have:(M n (fitK K n)).isSome=false:=by
        cases hm:(M n (fitK K n)).isSome with
        | false => rfl
        | true =>
          have q:=hT.len _ _ hm
          have:anyBelow M len (fitK K len)=true:=by
            refine below_here hT hL (l:=n) (v:=fitK K n) (by omega) ?_ hm
            unfold fitK
            rw[Nat.div_div_eq_div_mul,←Nat.pow_add]
            congr 2;omega
          rw[hany] at this
          cases this
      rw[this]
      exact ih (by omega) (by omega)
theorem best_short {W:Nat→Nat} {M:Tab} {r dm K:Nat} (R:Root W M r dm) (hK:K<2^136) :
    (Lib.bitLen (W (r+fitK K 8)/65536)=0∧bestL M K 8=none) ∨
    ∃l h,l<8∧Lib.bitLen (W (r+fitK K 8)/65536)=l+1∧bestL M K 8=some h∧W (r+256+2^l+fitK K 8/2^(8-l))=h:=by
  have hb:fitK K 8<256:=by
    unfold fitK
    rw[Nat.div_lt_iff_lt_mul (Nat.two_pow_pos _)]
    have:256*2^(136-8)=2^136:=by decide
    omega
  have hfit:∀l,l≤8→fitK K l=fitK K 8/2^(8-l):=by
    intro l hl
    unfold fitK
    rw[Nat.div_div_eq_div_mul,←Nat.pow_add]
    congr 2;omega
  have hbit:∀l,l<8→(W (r+fitK K 8)/65536).testBit l=(M l (fitK K l)).isSome:=by
    intro l hl
    rw[R.short _ l hb hl,hfit l (by omega)]
  have hlt:=R.lt _ hb
  have hnone:∀n,n≤8→(∀l,l<n→(M l (fitK K l)).isSome=false)→bestL M K n=none:=by
    intro n
    induction n with
    | zero => intro _ _; rfl
    | succ n ih =>
      intro hn h
      rw[bestL,h n (by omega)]
      exact ih (by omega) fun l hl=>h l (by omega)
  by_cases hz:W (r+fitK K 8)/65536=0
  · left
    refine⟨by rw[hz];decide,hnone 8 (by omega) ?_⟩
    intro l hl
    rw[←hbit l hl,hz]
    simp
  · right
    obtain⟨t1,t2⟩:=bitLen_top hz (by omega)
    obtain⟨_,_,t3⟩:=bitLen_spec _ hz (by omega)
    have hle:=Lib.bitLen_le (W (r+fitK K 8)/65536) 8 (by omega) (by omega)
    generalize hl:Lib.bitLen (W (r+fitK K 8)/65536)-1=l at t1
    rw[hbit l (by omega)] at t1
    obtain⟨h,hh⟩:=Option.isSome_iff_exists.1 t1
    refine⟨l,h,by omega,by omega,?_,?_⟩
    · have hdown:∀j,l+1+j≤8→bestL M K (l+1+j)=some h:=by
        intro j
        induction j with
        | zero => intro _; rw [Nat.add_zero, bestL, t1, hh]; rfl
        | succ j ih =>
          intro hj
          show bestL M K (l+1+j+1)=_
          have:(M (l+1+j) (fitK K (l+1+j))).isSome=false:=by rw[←hbit _ (by omega)];exact t2 _ (by omega)
          rw[bestL,this]
          exact ih (by omega)
      have:=hdown (7-l) (by omega)
      rw[show l+1+(7-l)=8 by omega] at this
      exact this
    · rw[←hfit l (by omega)]
      apply R.hop l _ h (by omega) _ hh
      rw[hfit l (by omega),Nat.div_lt_iff_lt_mul (Nat.two_pow_pos _),←Nat.pow_add,show l+(8-l)=8 by omega]
      exact hb
end Go.Proofs.YtnapboelfimaaaaGreatDoor
namespace Go.Proofs.YtnapboelfimaaaaGreatDoor
open Go.RowKit Go.Deep
section
attribute [local go_sem] List.append_eq List.cons_append List.nil_append
set_option maxHeartbeats 1000000 in
set_option maxRecDepth 10000 in
theorem len16_any (x:Nat) (w:World) (h:x<65536):Calls Tryz.prog 138 #[.int .u16 x] w fun e w'=>e=.returned (.int .i64 (Lib.bitLen x))∧w'=w:=by
 by_cases hx:256≤x
 ·have hx':(256:Int)≤x:=by omega
  have g0:(0:Int)≤(x:Int)/256:=by omega
  have g1:(x:Int)/256≤255:=by omega
  have l:=Lib.bitLen_le8' ((x:Int)/256) g0 g1
  have e:=Lib.len8_of ((x:Int)/256) g0 g1
  have sh:=Lib.bitLen_shift8 x hx (by omega)
  have et:((x:Int)/256).toNat=x/256:=by omega
  rw[et] at l e
  have E:=hide e
  have S:=hide sh
  clear e sh et
  go_enter Tryz.func138,Tryz.ntmps138
  go_wp2
  go_ret
  refine⟨retI ?_,rfl⟩
  rw[S.out]
  show wrap64 (8+wrap64 (Lib.len8 ((x:Int)/256)))=_
  rw[E.out,IntWalk.wrap64_in ((Lib.bitLen (x/256):Nat):Int) ⟨by omega,by omega⟩,IntWalk.wrap64_in _ ⟨by omega,by omega⟩]
  omega
 ·have hx':(x:Int)<256:=by omega
  have g0:(0:Int)≤(x:Int):=by omega
  have g1:(x:Int)≤255:=by omega
  have l:=Lib.bitLen_le8' (x:Int) g0 g1
  have e:=Lib.len8_of (x:Int) g0 g1
  rw[Int.toNat_natCast] at l e
  have E:=hide e
  clear e
  go_enter Tryz.func138,Tryz.ntmps138
  go_wp2
  go_ret
  refine⟨retI ?_,rfl⟩
  show wrap64 (wrap64 (Lib.len8 (x:Int)))=_
  rw[E.out,IntWalk.wrap64_in ((Lib.bitLen x:Nat):Int) ⟨by omega,by omega⟩,IntWalk.wrap64_in _ ⟨by omega,by omega⟩]
set_option maxHeartbeats 1000000 in
set_option maxRecDepth 10000 in
theorem len8_any (x:Nat) (w:World) (h:x<256):Calls Tryz.prog 137 #[.int .u8 x] w fun e w'=>e=.returned (.int .i64 (Lib.bitLen x))∧w'=w:=by
 have g0:(0:Int)≤(x:Int):=by omega
 have g1:(x:Int)≤255:=by omega
 have l:=Lib.bitLen_le8' (x:Int) g0 g1
 have e:=Lib.len8_of (x:Int) g0 g1
 rw[Int.toNat_natCast] at l e
 have E:=hide e
 clear e
 go_enter Tryz.func137,Tryz.ntmps137
 go_wp2
 go_ret
 refine⟨retI ?_,rfl⟩
 show wrap64 (Lib.len8 (x:Int))=_
 rw[E.out,IntWalk.wrap64_in _ ⟨by omega,by omega⟩]
end
theorem fit_num {four k:Nat} (hf:four≤15) (hk:k≤3):four/2^(4-k)≤7∧2^k-1+four/2^(4-k)≤14:=by
 rcases k with _ | _ | _ | _ | k
 ·have:four/2^4=0:=by omega
  simp[this]
 ·have:four/2^3≤1:=by omega
  exact⟨by show four/2^3≤7;omega,by show 2^1-1+four/2^3≤14;omega⟩
 ·have:four/2^2≤3:=by omega
  exact⟨by show four/2^2≤7;omega,by show 2^2-1+four/2^2≤14;omega⟩
 ·have:four/2^1≤7:=by omega
  exact⟨by show four/2^1≤7;omega,by show 2^3-1+four/2^1≤14;omega⟩
 ·omega
theorem fitMask_lt {four k:Nat} (hf:four≤15) (hk:k≤4):fitMask four k<65536:=by
 induction k with
 | zero=>exact(by decide:0<65536)
 | succ k ih =>
  have h1:=ih (by omega)
  have h2:=(fit_num hf (show k≤3 by omega)).2
  have h3:2^(2^k-1+four/2^(4-k))<2^16:=Nat.pow_lt_pow_right (by decide) (by omega)
  exact Nat.or_lt_two_pow (n:=16) h1 h3
def longestN (n:NodeD) (four:Nat):Nat:=Lib.bitLen (n.routes &&& fitMask four 4)
set_option maxHeartbeats 1000000 in
set_option maxRecDepth 10000 in
theorem longest_any (n:NodeD) (four:Nat) (w:World) (hn:n.ok) (hf:four≤15):Calls Tryz.prog 135 #[.agg #[.int .u16 n.routes,.int .u16 n.ways,.int .i64 n.hops,.int .i64 n.children],.int .i64 four] w fun e w'=>e=.returned (.int .i64 ((longestN n four:Int)-1))∧Below w.heap.size w w':=by
 obtain⟨h1,h2,h3,h4⟩:=hn
 go_enter Tryz.func135,Tryz.ntmps135
 go_wp2
 go_loop [5,7] (fun t i=>∃k:Nat,k≤4∧i=.int .i64 k∧t=.int .u16 (fitMask four k)) (fun _ i=>4-(intOf i).toNat)
 case atStart=>exact⟨0,by omega,rfl,rfl⟩
 case round =>
  obtain⟨k,hk,rfl,rfl⟩:=hrel
  have hm:=fitMask_lt hf hk
  by_cases hk4:k<4
  ·obtain⟨q1,q2⟩:=fit_num hf (show k≤3 by omega)
   have hk3:(k:Int)≤3:=by omega
   have e1:((four:Int)/2^(4-k))=((four/2^(4-k):Nat):Int):=by rw[Int.natCast_ediv];norm_cast
   have E1:=hide e1
   have hfm:fitMask four (k+1)=fitMask four k ||| 2^(2^k-1+four/2^(4-k)):=rfl
   have HF:=hide hfm
   clear e1 hfm
   go_wp2_with fail
   rw[E1.out]
   refine(numberOf_any k _ _ (by omega) (by omega)).mono ?_
   rintro e w' ⟨rfl,rfl⟩
   generalize 2^k-1+four/2^(4-k)=m at q2 HF
   obtain⟨p1,p2⟩:=two_pow_le q2
   rw[show (2:Int)^14=16384 from rfl] at p2
   have HO:=hide (show bits BinOp.or IntKind.u16 ((fitMask four k:Nat):Int) ((2:Int)^m)=((fitMask four k ||| 2^m:Nat):Int) by
    have h2m:2^m≤2^14:=Nat.pow_le_pow_right (by decide) q2
    have:=u16_or_nat (fitMask four k) (2^m) hm (by omega)
    rw[←this]
    congr 1)
   go_wp2
   rw[HO.out,←HF.out]
   go_round
   case rel=>exact⟨k+1,by omega,by go_num,rfl⟩
   case measure=>simp[intOf];omega
  ·have hk':k=4:=by omega
   subst hk'
   have HA:=hide (show bits BinOp.and IntKind.u16 ((n.routes:Nat):Int) ((fitMask four 4:Nat):Int)=((n.routes &&& fitMask four 4:Nat):Int) from u16_and_nat _ _ h1 hm)
   have hlt:n.routes &&& fitMask four 4<65536:=Nat.lt_of_le_of_lt Nat.and_le_left h1
   have hb:Lib.bitLen (n.routes &&& fitMask four 4)≤16:=Lib.bitLen_le _ 16 (by omega) (by omega)
   go_wp2_with fail
   rw[HA.out]
   refine(len16_any _ _ hlt).mono ?_
   rintro e w' ⟨rfl,rfl⟩
   go_wp2
   go_ret
   exact⟨retI (by first | rfl | (unfold longestN;omega)),ext_alloc _ _⟩
end Go.Proofs.YtnapboelfimaaaaGreatDoor
