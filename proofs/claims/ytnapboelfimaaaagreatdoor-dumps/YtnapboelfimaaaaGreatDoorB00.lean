/- Lib, Fra, New, MathA: parts of the proof, one behind the other. -/
import Derived.Test.YtnapboelfimaaaaGreatDoorRows
import Derived.WalkKit
import Derived.WalkSpells
import Derived.WalkLawsBesides
import Derived.Deep.OwnRows
namespace Go.Proofs.YtnapboelfimaaaaGreatDoor
open Go.RowKit Go.Deep
theorem hide {p:Prop} (h:p):Hid p:=h
theorem cell_two0 {w:World} {b:Nat} {u v:Value} {t:TypeId} (h:w.heap[b]?=some (.cells #[u,v] t (0,0))):w.cell? ⟨b,0,none⟩=some u:=by simp[World.cell?,h]
theorem cell_two1 {w:World} {b:Nat} {u v:Value} {t:TypeId} (h:w.heap[b]?=some (.cells #[u,v] t (0,0))):w.cell? ⟨b,1,none⟩=some v:=by simp[World.cell?,h]
theorem free_two {w:World} {b:Nat} {u v:Value} {t:TypeId} (i:Nat) (h:w.heap[b]?=some (.cells #[u,v] t (0,0))):w.frozen? ⟨b,i,none⟩=false:=by simp[World.frozen?,h]
theorem owns_ext {w w':World} {base:Nat} {e:TypeId} {size:Nat} {v:Value} {n:Nat} {xs:List Value} (h:w.ownsRow base e size v n xs) (hb:Below w.heap.size w w'):w'.ownsRow base e size v n xs :=
 h.kept (row:=none) ⟨hb.os,hb.tape,hb.output,hb.size,fun k hk _=>hb.block k hk⟩ (by cases hv:v.ownBlock <;> simp)
theorem block_ext {w w':World} {b:Nat} {o:Obj} (h:w.heap[b]?=some o) (hb:Below w.heap.size w w'):w'.heap[b]?=some o:=(hb.block b (lt_of_block h)).trans h
theorem ext_trans {a b c:World} (h:Below a.heap.size a b) (k:Below b.heap.size b c):Below a.heap.size a c:=h.trans (k.mono h.size)
theorem ext_alloc (w:World) (o:Obj):Below w.heap.size w (w.alloc o):=(Below.refl _ _).alloc (Nat.le_refl _) _
theorem cell_new {w:World} {c:Array Value} {t:TypeId} {n j:Nat} (h:n=w.heap.size):(w.alloc (.cells c t)).cell? ⟨n,j,none⟩=c[j]?:=by
 subst h
 have e:(w.alloc (.cells c t)).heap[w.heap.size]?=some (.cells c t):=heap_alloc_new w _
 unfold World.cell?
 rw[e]
 rfl
theorem heap_setCell_at {w:World} {b off:Nat} {c:Array Value} {t:TypeId} {fz:Nat × Nat} (v:Value) (h:w.heap[b]?=some (.cells c t fz)):(w.setCell ⟨b,off,none⟩ v).heap[b]?=some (.cells (c.setIfInBounds off v) t fz):=by
 have hlt:=lt_of_block h
 have h':w.heap[b]=.cells c t fz:=by simpa [Array.getElem?_eq_getElem hlt] using h
 show (w.heap.modify b _)[b]?=_
 rw[Array.getElem?_eq_getElem (by simpa using hlt),Array.getElem_modify_self,h']
 rfl
theorem cell_at {w:World} {b:Nat} {c:Array Value} {t:TypeId} {fz:Nat × Nat} (h:w.heap[b]?=some (.cells c t fz)) (i:Nat):w.cell? ⟨b,i,none⟩=c[i]?:=by simp[World.cell?,h]
theorem free_at {w:World} {b:Nat} {c:Array Value} {t:TypeId} (h:w.heap[b]?=some (.cells c t (0,0))) (i:Nat):w.frozen? ⟨b,i,none⟩=false:=by simp[World.frozen?,h]
def KeepsT (t:TypeId) (w w':World):Prop:=∀(k:Nat) (c:Array Value) (fz:Nat × Nat),w.heap[k]?=some (.cells c t fz)→w'.heap[k]?=some (.cells c t fz)
theorem KeepsT.ext {t:TypeId} {w w':World} (hb:Below w.heap.size w w'):KeepsT t w w':=fun _ _ _ h=>block_ext h hb
theorem KeepsT.trans {t:TypeId} {a b c:World} (h:KeepsT t a b) (k:KeepsT t b c):KeepsT t a c:=fun i x fz e=>k i x fz (h i x fz e)
theorem KeepsT.setCell {t t':TypeId} {w:World} {b:Nat} {c:Array Value} {fz:Nat × Nat} (h:w.heap[b]?=some (.cells c t' fz)) (hne:t'≠t) (off:Nat) (v:Value):KeepsT t w (w.setCell ⟨b,off,none⟩ v):=by
 intro k x f e
 rw[Below.heap_setCell]
 ·exact e
 ·rintro rfl
  rw[h] at e
  simp at e
  exact hne e.2.1
theorem KeepsT.grown {t e:TypeId} {w w':World} {base size n:Nat} {v:Value} {xs:List Value} (hown:w.ownsRow base e size v n xs) (hne:e≠t) (hg:w.grownBy w' v.ownBlock):KeepsT t w w':=by
 intro k x f ek
 rw[hg.block k (lt_of_block ek) ?_]
 ·exact ek
 ·intro er
  rcases hown.2 with ⟨rfl,_⟩ | ⟨g,cap,cur,rfl,hb,hh,_⟩
  ·simp[Value.ownBlock] at er
  ·simp[Value.ownBlock] at er
   subst er
   rw[hh] at ek
   simp at ek
   exact hne ek.2.1
end Go.Proofs.YtnapboelfimaaaaGreatDoor
namespace Go.Proofs.YtnapboelfimaaaaGreatDoor
open Go.RowKit Go.Deep
structure Fr (S:List Nat) (w w':World):Prop where
 os:w'.os=w.os
 tape:w'.tape=w.tape
 output:w'.output=w.output
 size:w.heap.size≤w'.heap.size
 block:∀k,k<w.heap.size→k ∉ S→w'.heap[k]?=w.heap[k]?
theorem Fr.of_below {S:List Nat} {w w':World} (h:Below w.heap.size w w'):Fr S w w':=⟨h.os,h.tape,h.output,h.size,fun k hk _=>h.block k hk⟩
theorem Fr.refl (S:List Nat) (w:World):Fr S w w:=Fr.of_below (Below.refl _ _)
theorem Fr.trans {S:List Nat} {a b c:World} (h:Fr S a b) (k:Fr S b c):Fr S a c :=
 ⟨k.os.trans h.os,k.tape.trans h.tape,k.output.trans h.output,Nat.le_trans h.size k.size,fun i hi hn=>(k.block i (Nat.lt_of_lt_of_le hi h.size) hn).trans (h.block i hi hn)⟩
theorem Fr.mono {S T:List Nat} {w w':World} (h:Fr S w w') (hs:∀k,k∈S→k<w.heap.size→k∈T):Fr T w w' :=
 ⟨h.os,h.tape,h.output,h.size,fun k hk hn=>h.block k hk (fun hm=>hn (hs k hm hk))⟩
theorem Fr.setCell {S:List Nat} {a w:World} (h:Fr S a w) {b off:Nat} (hb:b∈S∨a.heap.size≤b) (v:Value):Fr S a (w.setCell ⟨b,off,none⟩ v):=by
 refine⟨h.os,h.tape,h.output,by simpa [World.setCell] using h.size,fun k hk hn=>?_⟩
 rw[Below.heap_setCell]
 ·exact h.block k hk hn
 ·rintro rfl
  rcases hb with hb | hb
  ·exact hn hb
  ·omega
theorem Fr.below {S:List Nat} {w w':World} {B:Nat} (h:Fr S w w') (hB:B≤w.heap.size) (hS:∀k∈S,B≤k):Below B w w' :=
 ⟨h.os,h.tape,h.output,h.size,fun k hk=>h.block k (by omega) (fun hm=>by have:=hS k hm;omega)⟩
theorem Fr.at {S:List Nat} {w w':World} {k:Nat} {o:Obj} (h:Fr S w w') (hk:w.heap[k]?=some o) (hn:k ∉ S):w'.heap[k]?=some o:=(h.block k (lt_of_block hk) hn).trans hk
end Go.Proofs.YtnapboelfimaaaaGreatDoor
namespace Go.Proofs.YtnapboelfimaaaaGreatDoor
open Go.RowKit Go.Deep
theorem infoWord:(Tryz.prog.info? 136).map (fun i=>(i.zero,i.size,i.bytes))=some (some (.int .u32 0),1,4):=by kernel_rfl
def zeros33:List Value:=List.replicate 33 (.int .i64 0)
def arenaCells (n:Nat) (bw:Nat):Array Value:=(.slice (some ⟨bw,0,none⟩) n n :: .int .i64 1024 :: (zeros33++[.int .i64 ((n:Int)-1024)])).toArray
def afterNew (w:World) (n:Nat):World :=
 (((w.alloc (.cells (madeCells #[.int .u32 0] n) 136)).alloc (.cells (arenaCells n w.heap.size) 103)).alloc (.cells #[.pointer (some ⟨w.heap.size+1,0,none⟩)] 81)).alloc (.cells #[.pointer (some ⟨w.heap.size+2,0,none⟩)] 69)
set_option maxHeartbeats 400000 in
theorem arenaNew_any (n:Nat) (w:World) (h:2048≤n) (h2:n≤65536):Calls Tryz.prog 38 #[.int .i64 n,.int .i64 1024] w fun e w'=>e=.returned (.pointer (some ⟨w.heap.size+1,0,none⟩))∧w'=(w.alloc (.cells (madeCells #[.int .u32 0] n) 136)).alloc (.cells (arenaCells n w.heap.size) 103):=by
 obtain⟨i0,hi,hz0,hz1,hz2⟩:=info_parts infoWord
 have hmk:=run_make_row (P:=Tryz.prog) 100 136 i0 (.int .u32 0) Tryz.underlying100 hi hz0 hz1 rfl .i64 .i64 n (by rw[hz2];omega) (by omega)
 go_enter Tryz.func38,Tryz.ntmps38
 go_wp2
 go_ret
 exact⟨rfl,rfl⟩
set_option maxHeartbeats 400000 in
theorem trieNew_any (n:Nat) (w:World) (h:2048≤n) (h2:n≤65536):Calls Tryz.prog 26 #[.int .i64 n] w fun e w'=>e=.returned (.pointer (some ⟨w.heap.size+2,0,none⟩))∧w'=((w.alloc (.cells (madeCells #[.int .u32 0] n) 136)).alloc (.cells (arenaCells n w.heap.size) 103)).alloc (.cells #[.pointer (some ⟨w.heap.size+1,0,none⟩)] 81):=by
 go_enter Tryz.func26,Tryz.ntmps26
 go_wp2_with (go_at_call 38;refine(arenaNew_any n _ h h2).mono ?_;rintro e w' ⟨rfl,rfl⟩)
 go_ret
 exact⟨rfl,rfl⟩
set_option maxHeartbeats 400000 in
theorem bywayNew_yes (n:Nat) (w:World) (h:2048≤n) (h2:n≤65536):Calls Tryz.prog 17 #[.int .i64 n] w fun e w'=>e=.returned (.tuple #[.pointer (some ⟨w.heap.size+3,0,none⟩),.int .i64 0])∧w'=afterNew w n:=by
 go_enter Tryz.func17,Tryz.ntmps17
 go_wp2_with (go_at_call 26;refine(trieNew_any n _ h h2).mono ?_;rintro e w' ⟨rfl,rfl⟩)
 go_ret2
 exact⟨rfl,rfl⟩
set_option maxHeartbeats 400000 in
theorem bywayNew_no (n:Int) (w:World) (h:n<2048∨65536<n):Calls Tryz.prog 17 #[.int .i64 n] w fun e w'=>e=.returned (.tuple #[.pointer none,.int .i64 1])∧w'=w:=by
 rcases h with h | h
 ·go_enter Tryz.func17,Tryz.ntmps17
  go_wp2
  go_ret2
  exact⟨rfl,rfl⟩
 ·have h':¬n<2048:=by omega
  go_enter Tryz.func17,Tryz.ntmps17
  go_wp2
  go_ret2
  exact⟨rfl,rfl⟩
theorem bywayNew_ext (n:Nat) (w:World) (h:2048≤n) (h2:n≤65536):Calls Tryz.prog 17 #[.int .i64 n] w fun e w'=>e=.returned (.tuple #[.pointer (some ⟨w.heap.size+3,0,none⟩),.int .i64 0])∧Below w.heap.size w w'∧w.heap.size+3<w'.heap.size∧w'.cell? ⟨w.heap.size+3,0,none⟩=some (.pointer (some ⟨w.heap.size+2,0,none⟩))∧w'.cell? ⟨w.heap.size+2,0,none⟩=some (.pointer (some ⟨w.heap.size+1,0,none⟩))∧w'.cell? ⟨w.heap.size+1,35,none⟩=some (.int .i64 ((n:Int)-1024)):=by
 refine(bywayNew_yes n w h h2).mono ?_
 rintro e w' ⟨rfl,rfl⟩
 refine⟨rfl,?_,?_,?_,?_,?_⟩
 ·unfold afterNew
  exact((((Below.refl _ _).alloc (Nat.le_refl _) _).alloc (by simp) _).alloc (by simp;omega) _).alloc (by simp;omega) _
 ·unfold afterNew;simp
 ·unfold afterNew;rw[cell_new (by simp)];rfl
 ·unfold afterNew;rw[World.cell?_alloc_past _ _ _ (by simp),cell_new (by simp)];rfl
 ·unfold afterNew;rw[World.cell?_alloc_past _ _ _ (by simp),World.cell?_alloc_past _ _ _ (by simp),cell_new (by simp)];rfl
set_option maxHeartbeats 400000 in
theorem arenaFree_any (ab:Nat) (v:Int) (w:World) (h3:w.cell? ⟨ab,35,none⟩=some (.int .i64 v)):Calls Tryz.prog 37 #[.pointer (some ⟨ab,0,none⟩)] w fun e w'=>e=.returned (.int .i64 v)∧w'=w:=by
 go_enter Tryz.func37,Tryz.ntmps37
 go_wp2
 go_ret
 exact⟨rfl,rfl⟩
set_option maxHeartbeats 400000 in
theorem tablesFree_any (tb ab:Nat) (v:Int) (w:World) (h2:w.cell? ⟨tb,0,none⟩=some (.pointer (some ⟨ab,0,none⟩))) (h3:w.cell? ⟨ab,35,none⟩=some (.int .i64 v)):Calls Tryz.prog 25 #[.pointer (some ⟨tb,0,none⟩)] w fun e w'=>e=.returned (.int .i64 v)∧w'=w:=by
 go_enter Tryz.func25,Tryz.ntmps25
 go_wp2_with (go_at_call 37;refine(arenaFree_any ab v _ h3).mono ?_;rintro e w' ⟨rfl,rfl⟩)
 go_ret
 exact⟨rfl,rfl⟩
set_option maxHeartbeats 400000 in
theorem free_any (fb tb ab:Nat) (v:Int) (w:World) (h1:w.cell? ⟨fb,0,none⟩=some (.pointer (some ⟨tb,0,none⟩))) (h2:w.cell? ⟨tb,0,none⟩=some (.pointer (some ⟨ab,0,none⟩))) (h3:w.cell? ⟨ab,35,none⟩=some (.int .i64 v)):Calls Tryz.prog 15 #[.pointer (some ⟨fb,0,none⟩)] w fun e w'=>e=.returned (.int .i64 v)∧w'=w:=by
 go_enter Tryz.func15,Tryz.ntmps15
 go_wp2_with (go_at_call 25;refine(tablesFree_any tb ab v _ h2 h3).mono ?_;rintro e w' ⟨rfl,rfl⟩)
 go_ret
 exact⟨rfl,rfl⟩
end Go.Proofs.YtnapboelfimaaaaGreatDoor
namespace Go.Proofs.YtnapboelfimaaaaGreatDoor
def ones (n x:Nat):Nat:=(List.range n).countP fun i=>x.testBit i
theorem ones_zero (x:Nat):ones 0 x=0:=rfl
theorem ones_succ (n x:Nat):ones (n+1) x=ones n x+(if x.testBit n then 1 else 0):=by
  unfold ones
  rw[List.range_succ,List.countP_append]
  simp[List.countP_cons]
theorem ones_le (n x:Nat):ones n x≤n:=by
  unfold ones
  exact Nat.le_trans List.countP_le_length (by simp)
theorem ones_mono {k n:Nat} (x:Nat) (h:k≤n):ones k x≤ones n x:=by
  induction n with
  | zero => have : k = 0 := by omega
            subst this;exact Nat.le_refl _
  | succ n ih =>
    by_cases hk:k=n+1
    · subst hk;exact Nat.le_refl _
    · have:=ih (by omega)
      rw[ones_succ];omega
theorem ones_lt {k n x:Nat} (h:k<n) (hb:x.testBit k=true):ones k x<ones n x:=by
  have h1:=ones_mono x (show k+1≤n by omega)
  rw[ones_succ,hb] at h1
  simp at h1;omega
theorem ones_congr {n x y:Nat} (h:∀i,i<n→x.testBit i=y.testBit i):ones n x=ones n y:=by
  induction n with
  | zero => rfl
  | succ n ih => rw [ones_succ, ones_succ, ih fun i hi => h i (by omega), h n (by omega)]
theorem ones_more {n x y k:Nat} (hx:x.testBit k=false) (hy:y.testBit k=true) (h:∀i,i≠k→y.testBit i=x.testBit i):ones n y=ones n x+(if k<n then 1 else 0):=by
  induction n with
  | zero => rfl
  | succ n ih =>
    rw[ones_succ,ones_succ,ih]
    by_cases hn:n=k
    · subst hn;rw[hx,hy];simp
    · rw[h n hn]
      by_cases hk:k<n
      · simp[hk,show k<n+1 by omega];omega
      · simp[hk,show ¬k<n+1 by omega]
theorem ones_zero_iff {n x:Nat} (h:ones n x=0):∀i,i<n→x.testBit i=false:=by
  intro i hi
  by_cases hb:x.testBit i=true
  · have:=ones_lt hi hb;omega
  · simpa using hb
theorem nat_bits16 {x y:Nat} (hx:x<65536) (hy:y<65536) (h:∀i,i<16→x.testBit i=y.testBit i):x=y:=by
  apply Nat.eq_of_testBit_eq
  intro i
  by_cases hi:i<16
  · exact h i hi
  · have h2:65536≤2^i:=Nat.pow_le_pow_right (n:=2) (by decide) (show 16≤i by omega)
    rw[Nat.testBit_lt_two_pow (by omega),Nat.testBit_lt_two_pow (by omega)]
def sumTo:Nat→(Nat→Nat)→Nat
  | 0, _ => 0
  | n + 1, g => sumTo n g + g n
theorem sumTo_congr {n:Nat} {g g':Nat→Nat} (h:∀i,i<n→g i=g' i):sumTo n g=sumTo n g':=by
  induction n with
  | zero => rfl
  | succ n ih => rw [sumTo, sumTo, ih fun i hi => h i (by omega), h n (by omega)]
theorem sumTo_add (n:Nat) (g g':Nat→Nat):sumTo n (fun i=>g i+g' i)=sumTo n g+sumTo n g':=by
  induction n with
  | zero => rfl
  | succ n ih => simp only [sumTo, ih]; omega
theorem sumTo_le {n:Nat} {g g':Nat→Nat} (h:∀i,i<n→g i≤g' i):sumTo n g≤sumTo n g':=by
  induction n with
  | zero => exact Nat.le_refl _
  | succ n ih =>
    have h1:=ih fun i hi=>h i (by omega)
    have h2:=h n (by omega)
    simp only[sumTo];omega
theorem sumTo_zero {n:Nat} {g:Nat→Nat} (h:∀i,i<n→g i=0):sumTo n g=0:=by
  induction n with
  | zero => rfl
  | succ n ih => rw [sumTo, ih fun i hi => h i (by omega), h n (by omega)]
theorem le_sumTo {n:Nat} (g:Nat→Nat) {i:Nat} (h:i<n):g i≤sumTo n g:=by
  induction n with
  | zero => omega
  | succ n ih =>
    simp only[sumTo]
    by_cases hi:i=n
    · subst hi;omega
    · have:=ih (by omega);omega
theorem two_sumTo {n:Nat} (g:Nat→Nat) {i j:Nat} (h:i<j) (hj:j<n):g i+g j≤sumTo n g:=by
  induction n with
  | zero => omega
  | succ n ih =>
    simp only[sumTo]
    by_cases hn:j=n
    · subst hn;have:=le_sumTo g h;omega
    · have:=ih (by omega);omega
theorem sumTo_one {n k:Nat} {g g':Nat→Nat} (hk:k<n) (h:∀i,i<n→i≠k→g' i=g i):sumTo n g'+g k=sumTo n g+g' k:=by
  induction n with
  | zero => omega
  | succ n ih =>
    simp only[sumTo]
    by_cases hn:k=n
    · subst hn
      rw[sumTo_congr (g:=g') (g':=g) fun i hi=>h i (by omega) (by omega)]
      omega
    · have h1:=ih (by omega) fun i hi=>h i (by omega)
      have h2:=h n (by omega) (by omega)
      omega
theorem sumTo_mul (n c:Nat) (g:Nat→Nat):sumTo n (fun i=>c*g i)=c*sumTo n g:=by
  induction n with
  | zero => rfl
  | succ n ih => simp only [sumTo, ih, Nat.mul_add]
theorem sumTo_ones (n x:Nat):sumTo n (fun i=>if x.testBit i then 1 else 0)=ones n x:=by
  induction n with
  | zero => rfl
  | succ n ih => rw [sumTo, ih, ones_succ]
def inB (a b n:Nat):Nat:=if b≤a∧a<b+n then 1 else 0
theorem inB_le (a b n:Nat):inB a b n≤1:=by unfold inB;split <;> omega
theorem inB_one {a b n:Nat} (h1:b≤a) (h2:a<b+n):inB a b n=1:=by unfold inB;rw[if_pos ⟨h1,h2⟩]
theorem inB_pos {a b n:Nat} (h:1≤inB a b n):b≤a∧a<b+n:=by
  unfold inB at h
  split at h
  · assumption
  · omega
theorem inB_nil (a b:Nat):inB a b 0=0:=by unfold inB;rw[if_neg (by omega)]
theorem inB_split {a b n k:Nat}:inB a b (k+n)=inB a b k+inB a (b+k) n:=by
  unfold inB
  by_cases h1:b≤a∧a<b+k
  · rw[if_pos h1,if_pos (by omega),if_neg (by omega)]
  · by_cases h2:b+k≤a∧a<b+k+n
    · rw[if_neg h1,if_pos h2,if_pos (by omega)]
    · rw[if_neg h1,if_neg h2,if_neg (by omega)]
def setW (W:Nat→Nat) (a v:Nat):Nat→Nat:=fun b=>if b=a then v else W b
theorem setW_same (W:Nat→Nat) (a v:Nat):setW W a v a=v:=by simp[setW]
theorem setW_ne {W:Nat→Nat} {a v b:Nat} (h:b≠a):setW W a v b=W b:=by simp[setW,h]
def copyW (W:Nat→Nat) (dst src n:Nat):Nat→Nat:=fun a=>if dst≤a∧a<dst+n then W (src+(a-dst)) else W a
end Go.Proofs.YtnapboelfimaaaaGreatDoor
