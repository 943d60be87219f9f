/- Sfi, Fir, Dro, Drk: parts of the proof, one behind the other. -/
import Derived.Test.YtnapboelfimaaaaGreatDoorB17
import Derived.Test.YtnapboelfimaaaaGreatDoorB19
namespace Go.Proofs.YtnapboelfimaaaaGreatDoor
open Go.RowKit Go.Deep
theorem key_first {b:Nat} (hb:b<256):(keyL (b*2^128)).toArray=#[.int .u8 (b:Int),.int .u8 0,.int .u8 0,.int .u8 0,.int .u8 0,.int .u8 0,.int .u8 0,.int .u8 0,.int .u8 0,.int .u8 0,.int .u8 0,.int .u8 0,.int .u8 0,.int .u8 0,.int .u8 0,.int .u8 0,.int .u8 0]:=by
 have h0:kbyte (b*2^128) 0=b:=by
  unfold kbyte
  rw[show 8*(16-0)=128 from rfl,Nat.mul_div_cancel _ (Nat.two_pow_pos _),Nat.mod_eq_of_lt hb]
 have hi:∀i,1≤i→i≤16→kbyte (b*2^128) i=0:=by
  intro i h1 h2
  unfold kbyte
  rw[show 128=(8*i)+8*(16-i) by omega,Nat.pow_add,←Nat.mul_assoc,Nat.mul_div_cancel _ (Nat.two_pow_pos _),show 8*i=8*(i-1)+8 by omega,Nat.pow_add,←Nat.mul_assoc]
  exact Nat.mul_mod_left _ _
 unfold keyL
 simp only[List.range,List.range.loop,List.map_cons,List.map_nil,h0,hi 1 (by omega) (by omega),hi 2 (by omega) (by omega),hi 3 (by omega) (by omega),hi 4 (by omega) (by omega),hi 5 (by omega) (by omega),hi 6 (by omega) (by omega),hi 7 (by omega) (by omega),hi 8 (by omega) (by omega),hi 9 (by omega) (by omega),hi 10 (by omega) (by omega),hi 11 (by omega) (by omega),hi 12 (by omega) (by omega),hi 13 (by omega) (by omega),hi 14 (by omega) (by omega),hi 15 (by omega) (by omega),hi 16 (by omega) (by omega)]
 rfl
theorem pref_first {b:Nat} (l:Nat) (hb:b<256):(prefL (b*2^128) l).toArray=#[.int .u8 (b:Int),.int .u8 0,.int .u8 0,.int .u8 0,.int .u8 0,.int .u8 0,.int .u8 0,.int .u8 0,.int .u8 0,.int .u8 0,.int .u8 0,.int .u8 0,.int .u8 0,.int .u8 0,.int .u8 0,.int .u8 0,.int .u8 0,.int .i64 (l:Int)]:=by
 have h:=congrArg Array.toList (key_first hb)
 simp only at h
 unfold prefL
 rw[h]
 rfl
structure DumpIn (A:Ar) (M:Tab) (q:Bool) (f:Int) (n:Nat):Prop where
 root:Root A.word M (rt q) (dp q)
 on:∀b,b<256→A.word (rt q+b)%65536≠0→On A M (dp q) 8 b (A.word (rt q+b)%65536)
 sane:Sane A
 size:2048≤A.size
 fam:q=decide (f=6)
 bytes:famBytes f=n
theorem DumpAt.ext {ab rb:Nat} {f:Int} {n:Nat} {w0 w w':World} {L:List (Nat × Nat × Nat)} (h:DumpAt ab rb f n w0 L w) (hb:Below w.heap.size w w'):DumpAt ab rb f n w0 L w':=by
 obtain⟨k,rs,hr,hown⟩:=h.blk
 exact⟨⟨k,rs,block_ext hr hb,owns_ext hown hb⟩,h.fr.trans (fr_below hb)⟩
theorem DFr.ext {rb:Nat} {w w':World} (hb:Below w.heap.size w w'):DFr rb w w':=DFr.of_fr (S:=[]) (fr_below hb) (fun k hk _=>by cases hk)
theorem gb_none {M:Tab} {len u fu v:Nat} (h:M (len+fu) (u*2^fu+v)=none):gbN M len u fu v=[]:=by unfold gbN;rw[h];rfl
theorem gb_some {M:Tab} {len u fu v x:Nat} (h:M (len+fu) (u*2^fu+v)=some x):gbN M len u fu v=[(len+fu,u*2^fu+v,x)]:=by unfold gbN;rw[h];rfl
theorem cell_ext {w w':World} {a:Addr} {v:Value} (h:w.cell? a=some v) (hb:Below w.heap.size w w'):w'.cell? a=some v:=(World.cell?_of_block (hb.block _ (World.block_lt_of_cell? w a h))).trans h
theorem first_set {w:World} {b:Nat} {a0 a1 c0 c1:Value} {t:TypeId} (h:w.heap[b]?=some (.cells #[a0,a1] t (0,0))):((w.setCell ⟨b,0,none⟩ c0).setCell ⟨b,1,none⟩ c1).heap[b]?=some (.cells #[c0,c1] t (0,0)):=by
 rw[heap_setCell_at _ (heap_setCell_at _ h)]
 rfl
set_option maxHeartbeats 2000000 in
set_option maxRecDepth 10000 in
theorem dshort_any (A:Ar) (M:Tab) (q:Bool) (ab wb rb:Nat) (f:Int) (n:Nat) (w0:World) (hD:DumpOk A ab wb rb w0) (hI:DumpIn A M q f n) (hrb:rb<w0.heap.size) (l v:Nat) (hl:l<8) (hv:v<2^l) (L:List (Nat × Nat × Nat)) (hL:(L++gbN M 0 0 l v).length≤4194304) (w:World) (h:DumpAt ab rb f n w0 L w) :
  Calls Tryz.prog 48 #[.pointer (some ⟨rb,0,none⟩),.int .i64 (l:Int),.int .i64 (v:Int)] w fun e w'=>e=.returned (.tuple #[])∧DumpAt ab rb f n w0 (L++gbN M 0 0 l v) w'∧DFr rb w w':=by
 obtain⟨k,rs,hr,hown⟩:=h.blk
 have hA:=hD.arAt h.fr
 have HQ:=hide hI.fam
 obtain⟨b,hb⟩:∃b,b=v*2^(8-l):=⟨_,rfl⟩
 have hb256:b<256:=by
  rw[hb]
  have h1:v*2^(8-l)<2^l*2^(8-l):=Nat.mul_lt_mul_of_pos_right hv (Nat.two_pow_pos _)
  rw[←Nat.pow_add,show l+(8-l)=8 by omega] at h1
  exact h1
 have hbv:b/2^(8-l)=v:=by rw[hb,Nat.mul_div_cancel _ (Nat.two_pow_pos _)]
 have EB:wrap64 ((v:Int)*2^(8-l))%256=(b:Int):=by
  have:((v:Int)*2^(8-l))=(b:Int):=by rw[hb];norm_cast
  rw[this]
  clear hb hv this hL hbv
  rw[IntWalk.wrap64_in _ ⟨by omega,by omega⟩]
  omega
 have hrt:rt q+b<A.size∧rt q≤512:=by
  have h1:=hI.size
  have h2:rt q≤512:=by cases q <;> decide
  clear hL EB hb hv hbv
  generalize rt q=r at *
  omega
 obtain⟨sh,hsh⟩:∃sh,sh=A.word (rt q+b)/65536:=⟨_,rfl⟩
 obtain⟨nd,hnd⟩:∃nd,nd=A.word (rt q+b)%65536:=⟨_,rfl⟩
 have hsh256:sh<256:=by rw[hsh];exact hI.root.lt b hb256
 have HRF:=hide (fun (x:Int) (w:World) (hA:ArAt w ab wb A) (hx:x=(rt q+b:Nat)) (hr:w.heap[rb]?=some (.cells #[.pointer (some ⟨ab,0,none⟩),.int .i64 k,.int .i64 f,rs] 96 (0,0)))=>readFirst_in A ab wb rb (.int .i64 f) rs x (rt q+b) k w hA hI.sane hx hrt.1 (hI.root.lt b hb256) hr)
 rw[←hsh,←hnd] at HRF
 have hbit:sh.testBit l=(M l v).isSome:=by rw[hsh,hI.root.short b l hb256 hl,hbv]
 have HBIT:=hide hbit
 have HIX:=hide (show IntKind.i64.wrap (((rt q:Nat):Int)+(b:Int))=((rt q+b:Nat):Int) by
  have h2:=hrt.2
  clear hL EB hb hv hbv HRF hrt
  generalize rt q=r at *
  rw[IntKind.wrap_i64]
  omega)
 have EWB:IntKind.i64.wrap (b:Int)=(b:Int):=by
  clear hL EB hb hv hbv HRF hrt
  rw[IntKind.wrap_i64]
  omega
 have HBV:=hide hbv
 have HBE:=hide hb
 have HA:=hide hA
 have HR:=hide hr
 have HOWN:=hide hown
 have HH:=hide h
 have hlr:=lt_of_block hr
 have r2:w.cell? ⟨rb,2,none⟩=some (.int .i64 f):=by rw[cell_at hr];rfl
 have KS:∀w':World,w'.cell? ⟨rb,2,none⟩=some (.int .i64 f)→(fun w':World=>w'.cell? ⟨rb,2,none⟩=some (.int .i64 f)) w':=fun _ h=>h
 clear hr hown hA hb hbv hsh hnd hbit h
 go_enter Tryz.func48,Tryz.ntmps48
 go_wp2_with fail
 clear EB
 (go_cut [7] (fun x wc=>∃fb,x=.pointer (some ⟨fb,0,none⟩)∧w.heap.size≤fb∧wc.heap[fb]?=some (.cells #[.int .i64 (nd:Int),.int .u8 (sh:Int)] 121 (0,0))∧(∃k':Int,wc.heap[rb]?=some (.cells #[.pointer (some ⟨ab,0,none⟩),.int .i64 k',.int .i64 f,rs] 96 (0,0)))∧Fr [rb] w wc))
 case first =>
  refine wp_region_held_drew (S:=(fun w':World=>w'.cell? ⟨rb,2,none⟩=some (.int .i64 f))) (by kernel_rfl) (KS _ r2) (fun hHeld=>?_)
  (refine wpAnyH_take (i:=0) (oi:=_) (v:=?_) rfl (by kernel_rfl) (by kernel_rfl) (by kernel_rfl) (fun _ _ _ h=>h) (Or.inl ⟨by rfl,?_⟩) (by assumption) ?_;rotate_left;(intro w hSw;(try dsimp only at hSw);go_simp;try with_reducible rfl);(try simp only[Act.put]);(try simp only[List.setIfInBounds_toArray]))
  (refine wpAnyH_take (i:=1) (oi:=_) (v:=?_) rfl (by kernel_rfl) (by kernel_rfl) (by kernel_rfl) (fun _ _ _ h=>h) (Or.inl ⟨by rfl,?_⟩) (by assumption) ?_;rotate_left;(intro w hSw;(try dsimp only at hSw);go_simp;try with_reducible rfl);(try simp only[Act.put]);(try simp only[List.setIfInBounds_toArray]))
  (refine wpAnyH_take (i:=2) (oi:=_) (v:=?_) rfl (by kernel_rfl) (by kernel_rfl) (by kernel_rfl) (fun _ _ _ h=>h) (Or.inl ⟨by rfl,?_⟩) (by assumption) ?_;rotate_left;(intro w hSw;(try dsimp only at hSw);go_simp;try with_reducible rfl);(try simp only[Act.put]);(try simp only[List.setIfInBounds_toArray]))
  (refine wpAnyH_take (i:=3) (oi:=_) (v:=?_) rfl (by kernel_rfl) (by kernel_rfl) (by kernel_rfl) (fun _ _ _ h=>h) (Or.inl ⟨by rfl,?_⟩) (by assumption) ?_;rotate_left;(intro w hSw;(try dsimp only at hSw);go_simp;try with_reducible rfl);(try simp only[Act.put]);(try simp only[List.setIfInBounds_toArray]))
  (refine wpAnyH_take (i:=4) (oi:=_) (v:=?_) rfl (by kernel_rfl) (by kernel_rfl) (by kernel_rfl) (fun _ _ _ h=>h) (Or.inl ⟨by rfl,?_⟩) (by assumption) ?_;rotate_left;(intro w hSw;(try dsimp only at hSw);go_simp;try with_reducible rfl);(try simp only[Act.put]);(try simp only[List.setIfInBounds_toArray]))
  (refine wpAnyH_take (i:=5) (oi:=_) (v:=?_) rfl (by kernel_rfl) (by kernel_rfl) (by kernel_rfl) (fun _ _ _ h=>h) (Or.inl ⟨by rfl,?_⟩) (by assumption) ?_;rotate_left;(intro w hSw;(try dsimp only at hSw);go_simp;try with_reducible rfl);(try simp only[Act.put]);(try simp only[List.setIfInBounds_toArray]))
  (refine wpAnyH_take (i:=6) (oi:=_) (v:=?_) rfl (by kernel_rfl) (by kernel_rfl) (by kernel_rfl) (fun _ _ _ h=>h) (Or.inl ⟨by rfl,?_⟩) (by assumption) ?_;rotate_left;(intro w hSw;(try dsimp only at hSw);go_simp;try with_reducible rfl);(try simp only[Act.put]);(try simp only[List.setIfInBounds_toArray]))
  (refine wpAnyH_take (i:=8) (oi:=_) (v:=?_) rfl (by kernel_rfl) (by kernel_rfl) (by kernel_rfl) (fun _ _ _ h=>h) (Or.inl ⟨by rfl,?_⟩) (by assumption) ?_;rotate_left;(intro w hSw;(try dsimp only at hSw);go_simp;try with_reducible rfl);(try simp only[Act.put]);(try simp only[List.setIfInBounds_toArray]))
  (refine wpAnyH_take (i:=9) (oi:=_) (v:=?_) rfl (by kernel_rfl) (by kernel_rfl) (by kernel_rfl) (fun _ _ _ h=>h) (Or.inl ⟨by rfl,?_⟩) (by assumption) ?_;rotate_left;(intro w hSw;(try dsimp only at hSw);go_simp;try with_reducible rfl);(try simp only[Act.put]);(try simp only[List.setIfInBounds_toArray]))
  (refine wpAnyH_ready (rs:=[7,12]) (by kernel_rfl) (by simp) ?_)
  (refine AllReadyH.cons (o:=_) rfl (fun KK hK=>?_) ?_)
  ·go_simp
   (go_at_call 57;refine(base_any f q _ HQ.out).mono ?_;rintro e w4 ⟨rfl,rfl⟩;go_wp2_with fail)
   (refine hK.out _ _ (KS _ r2) (fun hHeld=>?_);clear hK KK;(try simp only[Act.put]);(try simp only[List.getElem_toArray]);(try simp only[List.getElem_cons_succ]);(try simp only[List.getElem_cons_zero]);(try simp only[List.setIfInBounds_toArray]))
   (refine wpAnyH_take (i:=10) (oi:=_) (v:=?_) rfl (by kernel_rfl) (by kernel_rfl) (by kernel_rfl) (fun _ _ _ h=>h) (Or.inl ⟨by rfl,?_⟩) (by assumption) ?_;rotate_left;(intro w hSw;(try dsimp only at hSw);go_simp;try with_reducible rfl);(try simp only[Act.put]);(try simp only[List.setIfInBounds_toArray]))
   (refine wpAnyH_ready (rs:=[11,12]) (by kernel_rfl) (by simp) ?_)
   (refine AllReadyH.cons (o:=_) rfl (fun KK hK=>?_) ?_)
   ·go_simp
    (go_at_call 56;refine(HRF.out _ w.drew HA.out.drew HIX.out (block_ext HR.out (drew_ext _))).mono ?_;rintro e w5 ⟨rfl,hA5,⟨k5,hr5⟩,hF5⟩;have F5:=(Fr.after (fr_below (drew_ext w)) hF5 (fun y hy=>Or.inl hy):Fr [rb] w w5);have z5:=F5.size;have r5:w5.cell? ⟨rb,2,none⟩=some (.int .i64 f):=(by rw[cell_at hr5];rfl);clear hF5 hA5;go_wp2_with fail;(refine hK.out _ _ (KS _ r5) (fun hHeld=>?_);clear hK KK;(try simp only[Act.put]);(try simp only[List.getElem_toArray]);(try simp only[List.getElem_cons_succ]);(try simp only[List.getElem_cons_zero]);(try simp only[List.setIfInBounds_toArray])))
    ((refine wpAnyH_ready (rs:=[12]) (by kernel_rfl) (by simp) ?_);(refine AllReadyH.cons (o:=_) rfl (fun KK hK=>?_) ?_);rotate_left;exact AllReadyH.nil)
    go_simp
    (refine hK.out _ _ (KS _ (cell_ext r5 (ext_alloc _ _))) (fun hHeld=>?_);clear hK KK;(try simp only[Act.put]);(try simp only[List.getElem_toArray]);(try simp only[List.getElem_cons_succ]);(try simp only[List.getElem_cons_zero]);(try simp only[List.setIfInBounds_toArray]))
    ((refine wpAnyH_ready (rs:=[13]) (by kernel_rfl) (by simp) ?_);(refine AllReadyH.cons (o:=_) rfl (fun KK hK=>?_) ?_);rotate_left;exact AllReadyH.nil)
    (go_simp;(refine hK.out _ _ (KS _ (cell_ext r5 (ext_alloc _ _))) (fun hHeld=>?_);clear hK KK;(try simp only[Act.put]);(try simp only[List.getElem_toArray]);(try simp only[List.getElem_cons_succ]);(try simp only[List.getElem_cons_zero]);(try simp only[List.setIfInBounds_toArray]));(refine wpAnyH_done (by kernel_rfl) ?_ _);go_wp2_with fail;go_meet;case rel=>exact⟨w5.heap.size,rfl,z5,heap_alloc_new _ _,⟨k5,block_ext hr5 (ext_alloc _ _)⟩,F5.alloc _⟩)
   ·(refine AllReadyH.cons (o:=_) rfl (fun KK hK=>?_) ?_)
    ·go_simp
     (refine hK.out _ _ (KS _ (cell_ext r2 (Below.drew (ext_alloc _ _)))) (fun hHeld=>?_);clear hK KK;(try simp only[Act.put]);(try simp only[List.getElem_toArray]);(try simp only[List.getElem_cons_succ]);(try simp only[List.getElem_cons_zero]);(try simp only[List.setIfInBounds_toArray]))
     ((refine wpAnyH_ready (rs:=[11]) (by kernel_rfl) (by simp) ?_);(refine AllReadyH.cons (o:=_) rfl (fun KK hK=>?_) ?_);rotate_left;exact AllReadyH.nil)
     go_simp
     (go_at_call 56;refine(HRF.out _ (w.alloc (.cells #[.int .i64 0,.int .u8 0] 121)).drew (HA.out.ext (Below.drew (ext_alloc _ _))) HIX.out (block_ext HR.out (Below.drew (ext_alloc _ _)))).mono ?_;rintro e w5 ⟨rfl,hA5,⟨k5,hr5⟩,hF5⟩;have F5:=(Fr.after (fr_below (Below.drew (ext_alloc w (.cells #[.int .i64 0,.int .u8 0] 121)))) hF5 (fun y hy=>Or.inl hy):Fr [rb] w w5);have z5:=F5.size;have r5:w5.cell? ⟨rb,2,none⟩=some (.int .i64 f):=(by rw[cell_at hr5];rfl);have b5:=hF5.at (show ((w.alloc (.cells #[.int .i64 0,.int .u8 0] 121)).drew).heap[w.heap.size]?=some (.cells #[.int .i64 0,.int .u8 0] 121 (0,0)) from heap_alloc_new w _) (by simp;omega);have g0:=cell_two0 b5;have g1:=cell_two1 b5;have g2:=free_two 0 b5;have g3:=free_two 1 b5;have lt5:=lt_of_block b5;have hne:rb≠w.heap.size:=(by omega);clear hF5 hA5;go_wp2_with fail;(refine hK.out _ _ (KS _ r5) (fun hHeld=>?_);clear hK KK;(try simp only[Act.put]);(try simp only[List.getElem_toArray]);(try simp only[List.getElem_cons_succ]);(try simp only[List.getElem_cons_zero]);(try simp only[List.setIfInBounds_toArray])))
     ((refine wpAnyH_ready (rs:=[13]) (by kernel_rfl) (by simp) ?_);(refine AllReadyH.cons (o:=_) rfl (fun KK hK=>?_) ?_);rotate_left;exact AllReadyH.nil)
     (go_simp;(refine hK.out _ _ (KS _ (by rw[cell_at ((Below.heap_setCell _ _ _ _ hne).trans ((Below.heap_setCell _ _ _ _ hne).trans hr5))];rfl)) (fun hHeld=>?_);clear hK KK;(try simp only[Act.put]);(try simp only[List.getElem_toArray]);(try simp only[List.getElem_cons_succ]);(try simp only[List.getElem_cons_zero]);(try simp only[List.setIfInBounds_toArray]));(refine wpAnyH_done (by kernel_rfl) ?_ _);go_wp2_with fail;go_meet;case rel=>exact⟨w.heap.size,rfl,Nat.le_refl _,first_set b5,⟨k5,(Below.heap_setCell _ _ _ _ hne).trans ((Below.heap_setCell _ _ _ _ hne).trans hr5)⟩,(F5.setCell (Or.inr (Nat.le_refl _)) _).setCell (Or.inr (Nat.le_refl _)) _⟩)
    ·exact AllReadyH.nil
  ·(refine AllReadyH.cons (o:=_) rfl (fun KK hK=>?_) ?_)
   ·go_simp
    (refine hK.out _ _ (KS _ (cell_ext r2 (Below.drew (ext_alloc _ _)))) (fun hHeld=>?_);clear hK KK;(try simp only[Act.put]);(try simp only[List.getElem_toArray]);(try simp only[List.getElem_cons_succ]);(try simp only[List.getElem_cons_zero]);(try simp only[List.setIfInBounds_toArray]))
    ((refine wpAnyH_ready (rs:=[7]) (by kernel_rfl) (by simp) ?_);(refine AllReadyH.cons (o:=_) rfl (fun KK hK=>?_) ?_);rotate_left;exact AllReadyH.nil)
    go_simp
    (go_at_call 57;refine(base_any f q _ HQ.out).mono ?_;rintro e w4 ⟨rfl,rfl⟩;go_wp2_with fail)
    (refine hK.out _ _ (KS _ (cell_ext r2 (Below.drew (ext_alloc _ _)))) (fun hHeld=>?_);clear hK KK;(try simp only[Act.put]);(try simp only[List.getElem_toArray]);(try simp only[List.getElem_cons_succ]);(try simp only[List.getElem_cons_zero]);(try simp only[List.setIfInBounds_toArray]))
    (refine wpAnyH_take (i:=10) (oi:=_) (v:=?_) rfl (by kernel_rfl) (by kernel_rfl) (by kernel_rfl) (fun _ _ _ h=>h) (Or.inl ⟨by rfl,?_⟩) (by assumption) ?_;rotate_left;(intro w hSw;(try dsimp only at hSw);go_simp;try with_reducible rfl);(try simp only[Act.put]);(try simp only[List.setIfInBounds_toArray]))
    ((refine wpAnyH_ready (rs:=[11]) (by kernel_rfl) (by simp) ?_);(refine AllReadyH.cons (o:=_) rfl (fun KK hK=>?_) ?_);rotate_left;exact AllReadyH.nil)
    go_simp
    (go_at_call 56;refine(HRF.out _ (w.alloc (.cells #[.int .i64 0,.int .u8 0] 121)).drew (HA.out.ext (Below.drew (ext_alloc _ _))) HIX.out (block_ext HR.out (Below.drew (ext_alloc _ _)))).mono ?_;rintro e w5 ⟨rfl,hA5,⟨k5,hr5⟩,hF5⟩;have F5:=(Fr.after (fr_below (Below.drew (ext_alloc w (.cells #[.int .i64 0,.int .u8 0] 121)))) hF5 (fun y hy=>Or.inl hy):Fr [rb] w w5);have z5:=F5.size;have r5:w5.cell? ⟨rb,2,none⟩=some (.int .i64 f):=(by rw[cell_at hr5];rfl);have b5:=hF5.at (show ((w.alloc (.cells #[.int .i64 0,.int .u8 0] 121)).drew).heap[w.heap.size]?=some (.cells #[.int .i64 0,.int .u8 0] 121 (0,0)) from heap_alloc_new w _) (by simp;omega);have g0:=cell_two0 b5;have g1:=cell_two1 b5;have g2:=free_two 0 b5;have g3:=free_two 1 b5;have lt5:=lt_of_block b5;have hne:rb≠w.heap.size:=(by omega);clear hF5 hA5;go_wp2_with fail;(refine hK.out _ _ (KS _ r5) (fun hHeld=>?_);clear hK KK;(try simp only[Act.put]);(try simp only[List.getElem_toArray]);(try simp only[List.getElem_cons_succ]);(try simp only[List.getElem_cons_zero]);(try simp only[List.setIfInBounds_toArray])))
    ((refine wpAnyH_ready (rs:=[13]) (by kernel_rfl) (by simp) ?_);(refine AllReadyH.cons (o:=_) rfl (fun KK hK=>?_) ?_);rotate_left;exact AllReadyH.nil)
    (go_simp;(refine hK.out _ _ (KS _ (by rw[cell_at ((Below.heap_setCell _ _ _ _ hne).trans ((Below.heap_setCell _ _ _ _ hne).trans hr5))];rfl)) (fun hHeld=>?_);clear hK KK;(try simp only[Act.put]);(try simp only[List.getElem_toArray]);(try simp only[List.getElem_cons_succ]);(try simp only[List.getElem_cons_zero]);(try simp only[List.setIfInBounds_toArray]));(refine wpAnyH_done (by kernel_rfl) ?_ _);go_wp2_with fail;go_meet;case rel=>exact⟨w.heap.size,rfl,Nat.le_refl _,first_set b5,⟨k5,(Below.heap_setCell _ _ _ _ hne).trans ((Below.heap_setCell _ _ _ _ hne).trans hr5)⟩,(F5.setCell (Or.inr (Nat.le_refl _)) _).setCell (Or.inr (Nat.le_refl _)) _⟩)
   ·exact AllReadyH.nil
 case rest =>
  obtain⟨fb,rfl,hfq,bf,⟨kc,hrc⟩,hFc⟩:=hcut
  have hDc:DumpAt ab rb f n w0 L wc:=DumpAt.read HH.out.fr HOWN.out hrc hFc hrb
  have hdf:DFr rb w wc:=DFr.of_fr hFc (fun j hj _=>by simpa using hj)
  have m0:=cell_two0 bf
  have m1:=cell_two1 bf
  have hlf:=lt_of_block bf
  have hlc:=lt_of_block hrc
  have c2:wc.cell? ⟨rb,2,none⟩=some (.int .i64 f):=by rw[cell_at hrc];rfl
  have HD:=hide (And.intro hDc hdf)
  clear hrc hFc hDc hdf KS
  go_wp2_with fail
  refine(hasShort_any nd sh l _ hsh256 hl).mono ?_
  rintro e w6 ⟨rfl,hb6⟩
  rw[HBIT.out]
  have c6:=cell_ext c2 hb6
  have hl6:=Nat.lt_of_lt_of_le hlc hb6.size
  have HD6:=hide (And.intro (HD.out.1.ext hb6) (HD.out.2.trans (DFr.ext hb6)))
  clear hb6
  cases hM:M l v with
  | none =>
   have hg:gbN M 0 0 l v=[]:=gb_none (by rw[Nat.zero_add,Nat.zero_mul,Nat.zero_add];exact hM)
   have HG:=hide hg
   clear hg hM
   go_wp2
   go_end0
   rw[HG.out,List.append_nil]
   exact⟨rfl,HD6.out.1,HD6.out.2⟩
  | some x =>
   have hg:gbN M 0 0 l v=[(l,v,x)]:=by
    rw[gb_some (x:=x) (by rw[Nat.zero_add,Nat.zero_mul,Nat.zero_add];exact hM),Nat.zero_add,Nat.zero_mul,Nat.zero_add]
   have hx:x=A.word (rt q+256+2^l+v):=(hI.root.hop l v x hl hv hM).symm
   rw[hg,List.length_append] at hL
   have HKP:=hide (pref_first l hb256)
   have HPS:=hide (show rt q+256+2^l+v<A.size by
    have h1:=hI.size
    have h2:=hrt.2
    have h9:2^l≤2^7:=Nat.pow_le_pow_right (by decide) (by omega)
    clear hL HRF
    generalize rt q=r at *
    generalize 2^l=y at *
    omega)
   have HG:=hide hg
   have HX:=hide hx
   clear hg hM hx
   go_wp2_with fail
   refine(shortPlace_any f l q l b _ HQ.out rfl hl hb256).mono ?_
   rintro e w7 ⟨rfl,nn,rfl⟩
   rw[HBV.out]
   go_wp2_with fail
   rw[←HKP.out]
   refine(tell_any A ab wb rb f n w0 hD hI.sane hrb hI.bytes (b*2^128) l (rt q+256+2^l+v) x _ rfl HPS.out HX.out L (by simpa using hL) _ (HD6.out.1.ext (drewN_ext _ _)) (l,v,x) ?_).mono ?_
   ·unfold rdOf
    rw[←short_key (by omega),HBE.out]
   rintro e w8 ⟨rfl,hD8,hF8⟩
   have HD8:=hide (And.intro hD8 ((HD6.out.2.trans (DFr.ext (drewN_ext _ _))).trans hF8))
   clear hD8 hF8
   go_wp2
   go_end0
   rw[HG.out]
   exact⟨rfl,HD8.out.1,HD8.out.2⟩
end Go.Proofs.YtnapboelfimaaaaGreatDoor
namespace Go.Proofs.YtnapboelfimaaaaGreatDoor
open Go.RowKit Go.Deep
def geR (M:Tab) (dm v:Nat):List (Nat × Nat × Nat):=if anyBelow M 8 v then dumpN M dm 8 v else []
set_option maxHeartbeats 2000000 in
set_option maxRecDepth 10000 in
theorem dfirst_any (A:Ar) (M:Tab) (q:Bool) (ab wb rb:Nat) (f:Int) (n:Nat) (w0:World) (hD:DumpOk A ab wb rb w0) (hI:DumpIn A M q f n) (hrb:rb<w0.heap.size) (v:Nat) (hv:v<256) (L:List (Nat × Nat × Nat)) (w:World) (h:DumpAt ab rb f n w0 L w)
  (hN:∀w:World,A.word (rt q+v)%65536≠0→anyBelow M 8 v=true→DumpAt ab rb f n w0 L w→Calls Tryz.prog 61 #[.pointer (some ⟨rb,0,none⟩),.int .i64 ((A.word (rt q+v)%65536:Nat):Int),.int .i64 0,.agg (keyL (v*2^128)).toArray] w fun e w'=>e=.returned (.tuple #[])∧DumpAt ab rb f n w0 (L++dumpN M (dp q) 8 v) w'∧DFr rb w w') :
  Calls Tryz.prog 49 #[.pointer (some ⟨rb,0,none⟩),.int .i64 (v:Int)] w fun e w'=>e=.returned (.tuple #[])∧DumpAt ab rb f n w0 (L++geR M (dp q) v) w'∧DFr rb w w':=by
 obtain⟨k,rs,hr,hown⟩:=h.blk
 have hA:=hD.arAt h.fr
 have HQ:=hide hI.fam
 have hrt:rt q+v<A.size∧rt q≤512:=by
  have h1:=hI.size
  have h2:rt q≤512:=by cases q <;> decide
  generalize rt q=r at *
  omega
 obtain⟨sh,hsh⟩:∃sh,sh=A.word (rt q+v)/65536:=⟨_,rfl⟩
 obtain⟨nd,hnd⟩:∃nd,nd=A.word (rt q+v)%65536:=⟨_,rfl⟩
 have hsh256:sh<256:=by rw[hsh];exact hI.root.lt v hv
 have hnd65:nd<65536:=by rw[hnd];exact Nat.mod_lt _ (by decide)
 have HRF:=hide (fun (x:Int) (w:World) (hA:ArAt w ab wb A) (hx:x=(rt q+v:Nat)) (hr:w.heap[rb]?=some (.cells #[.pointer (some ⟨ab,0,none⟩),.int .i64 k,.int .i64 f,rs] 96 (0,0)))=>readFirst_in A ab wb rb (.int .i64 f) rs x (rt q+v) k w hA hI.sane hx hrt.1 (hI.root.lt v hv) hr)
 rw[←hsh,←hnd] at HRF
 have HNO:=hide (hI.root.node v hv)
 rw[←hnd] at HNO hN
 have HN:=hide hN
 have HIX:=hide (show IntKind.i64.wrap (((rt q:Nat):Int)+(v:Int))=((rt q+v:Nat):Int) by
  have h2:=hrt.2
  clear HRF hrt HNO HN
  generalize rt q=r at *
  rw[IntKind.wrap_i64]
  omega)
 have EWV:(v:Int)%256=(v:Int):=by
  clear HRF hrt HNO HN
  omega
 have HA:=hide hA
 have HR:=hide hr
 have HOWN:=hide hown
 have HH:=hide h
 have hlr:=lt_of_block hr
 have r2:w.cell? ⟨rb,2,none⟩=some (.int .i64 f):=by rw[cell_at hr];rfl
 have KS:∀w':World,w'.cell? ⟨rb,2,none⟩=some (.int .i64 f)→(fun w':World=>w'.cell? ⟨rb,2,none⟩=some (.int .i64 f)) w':=fun _ h=>h
 clear hr hown hA hsh hnd h hN
 go_enter Tryz.func49,Tryz.ntmps49
 go_wp2_with fail
 (go_cut [4] (fun x wc=>∃fb,x=.pointer (some ⟨fb,0,none⟩)∧w.heap.size≤fb∧wc.heap[fb]?=some (.cells #[.int .i64 (nd:Int),.int .u8 (sh:Int)] 121 (0,0))∧(∃k':Int,wc.heap[rb]?=some (.cells #[.pointer (some ⟨ab,0,none⟩),.int .i64 k',.int .i64 f,rs] 96 (0,0)))∧Fr [rb] w wc))
 case first =>
  refine wp_region_held_drew (S:=(fun w':World=>w'.cell? ⟨rb,2,none⟩=some (.int .i64 f))) (by kernel_rfl) (KS _ r2) (fun hHeld=>?_)
  (refine wpAnyH_take (i:=0) (oi:=_) (v:=?_) rfl (by kernel_rfl) (by kernel_rfl) (by kernel_rfl) (fun _ _ _ h=>h) (Or.inl ⟨by rfl,?_⟩) (by assumption) ?_;rotate_left;(intro w hSw;(try dsimp only at hSw);go_simp;try with_reducible rfl);(try simp only[Act.put]);(try simp only[List.setIfInBounds_toArray]))
  (refine wpAnyH_take (i:=1) (oi:=_) (v:=?_) rfl (by kernel_rfl) (by kernel_rfl) (by kernel_rfl) (fun _ _ _ h=>h) (Or.inl ⟨by rfl,?_⟩) (by assumption) ?_;rotate_left;(intro w hSw;(try dsimp only at hSw);go_simp;try with_reducible rfl);(try simp only[Act.put]);(try simp only[List.setIfInBounds_toArray]))
  (refine wpAnyH_take (i:=2) (oi:=_) (v:=?_) rfl (by kernel_rfl) (by kernel_rfl) (by kernel_rfl) (fun _ _ _ h=>h) (Or.inl ⟨by rfl,?_⟩) (by assumption) ?_;rotate_left;(intro w hSw;(try dsimp only at hSw);go_simp;try with_reducible rfl);(try simp only[Act.put]);(try simp only[List.setIfInBounds_toArray]))
  (refine wpAnyH_take (i:=3) (oi:=_) (v:=?_) rfl (by kernel_rfl) (by kernel_rfl) (by kernel_rfl) (fun _ _ _ h=>h) (Or.inl ⟨by rfl,?_⟩) (by assumption) ?_;rotate_left;(intro w hSw;(try dsimp only at hSw);go_simp;try with_reducible rfl);(try simp only[Act.put]);(try simp only[List.setIfInBounds_toArray]))
  (refine wpAnyH_take (i:=4) (oi:=_) (v:=?_) rfl (by kernel_rfl) (by kernel_rfl) (by kernel_rfl) (fun _ _ _ h=>h) (Or.inl ⟨by rfl,?_⟩) (by assumption) ?_;rotate_left;(intro w hSw;(try dsimp only at hSw);go_simp;try with_reducible rfl);(try simp only[Act.put]);(try simp only[List.setIfInBounds_toArray]))
  (refine wpAnyH_take (i:=5) (oi:=_) (v:=?_) rfl (by kernel_rfl) (by kernel_rfl) (by kernel_rfl) (fun _ _ _ h=>h) (Or.inl ⟨by rfl,?_⟩) (by assumption) ?_;rotate_left;(intro w hSw;(try dsimp only at hSw);go_simp;try with_reducible rfl);(try simp only[Act.put]);(try simp only[List.setIfInBounds_toArray]))
  (refine wpAnyH_take (i:=6) (oi:=_) (v:=?_) rfl (by kernel_rfl) (by kernel_rfl) (by kernel_rfl) (fun _ _ _ h=>h) (Or.inl ⟨by rfl,?_⟩) (by assumption) ?_;rotate_left;(intro w hSw;(try dsimp only at hSw);go_simp;try with_reducible rfl);(try simp only[Act.put]);(try simp only[List.setIfInBounds_toArray]))
  (refine wpAnyH_take (i:=8) (oi:=_) (v:=?_) rfl (by kernel_rfl) (by kernel_rfl) (by kernel_rfl) (fun _ _ _ h=>h) (Or.inl ⟨by rfl,?_⟩) (by assumption) ?_;rotate_left;(intro w hSw;(try dsimp only at hSw);go_simp;try with_reducible rfl);(try simp only[Act.put]);(try simp only[List.setIfInBounds_toArray]))
  (refine wpAnyH_ready (rs:=[7,11]) (by kernel_rfl) (by simp) ?_)
  (refine AllReadyH.cons (o:=_) rfl (fun KK hK=>?_) ?_)
  ·go_simp
   (go_at_call 57;refine(base_any f q _ HQ.out).mono ?_;rintro e w4 ⟨rfl,rfl⟩;go_wp2_with fail)
   (refine hK.out _ _ (KS _ r2) (fun hHeld=>?_);clear hK KK;(try simp only[Act.put]);(try simp only[List.getElem_toArray]);(try simp only[List.getElem_cons_succ]);(try simp only[List.getElem_cons_zero]);(try simp only[List.setIfInBounds_toArray]))
   (refine wpAnyH_take (i:=9) (oi:=_) (v:=?_) rfl (by kernel_rfl) (by kernel_rfl) (by kernel_rfl) (fun _ _ _ h=>h) (Or.inl ⟨by rfl,?_⟩) (by assumption) ?_;rotate_left;(intro w hSw;(try dsimp only at hSw);go_simp;try with_reducible rfl);(try simp only[Act.put]);(try simp only[List.setIfInBounds_toArray]))
   (refine wpAnyH_ready (rs:=[10,11]) (by kernel_rfl) (by simp) ?_)
   (refine AllReadyH.cons (o:=_) rfl (fun KK hK=>?_) ?_)
   ·go_simp
    (go_at_call 56;refine(HRF.out _ w.drew HA.out.drew HIX.out (block_ext HR.out (drew_ext _))).mono ?_;rintro e w5 ⟨rfl,hA5,⟨k5,hr5⟩,hF5⟩;have F5:=(Fr.after (fr_below (drew_ext w)) hF5 (fun y hy=>Or.inl hy):Fr [rb] w w5);have z5:=F5.size;have r5:w5.cell? ⟨rb,2,none⟩=some (.int .i64 f):=(by rw[cell_at hr5];rfl);clear hF5 hA5;go_wp2_with fail;(refine hK.out _ _ (KS _ r5) (fun hHeld=>?_);clear hK KK;(try simp only[Act.put]);(try simp only[List.getElem_toArray]);(try simp only[List.getElem_cons_succ]);(try simp only[List.getElem_cons_zero]);(try simp only[List.setIfInBounds_toArray])))
    ((refine wpAnyH_ready (rs:=[11]) (by kernel_rfl) (by simp) ?_);(refine AllReadyH.cons (o:=_) rfl (fun KK hK=>?_) ?_);rotate_left;exact AllReadyH.nil)
    go_simp
    (refine hK.out _ _ (KS _ (cell_ext r5 (ext_alloc _ _))) (fun hHeld=>?_);clear hK KK;(try simp only[Act.put]);(try simp only[List.getElem_toArray]);(try simp only[List.getElem_cons_succ]);(try simp only[List.getElem_cons_zero]);(try simp only[List.setIfInBounds_toArray]))
    ((refine wpAnyH_ready (rs:=[12]) (by kernel_rfl) (by simp) ?_);(refine AllReadyH.cons (o:=_) rfl (fun KK hK=>?_) ?_);rotate_left;exact AllReadyH.nil)
    (go_simp;(refine hK.out _ _ (KS _ (cell_ext r5 (ext_alloc _ _))) (fun hHeld=>?_);clear hK KK;(try simp only[Act.put]);(try simp only[List.getElem_toArray]);(try simp only[List.getElem_cons_succ]);(try simp only[List.getElem_cons_zero]);(try simp only[List.setIfInBounds_toArray]));(refine wpAnyH_done (by kernel_rfl) ?_ _);go_wp2_with fail;go_meet;case rel=>exact⟨w5.heap.size,rfl,z5,heap_alloc_new _ _,⟨k5,block_ext hr5 (ext_alloc _ _)⟩,F5.alloc _⟩)
   ·(refine AllReadyH.cons (o:=_) rfl (fun KK hK=>?_) ?_)
    ·go_simp
     (refine hK.out _ _ (KS _ (cell_ext r2 (Below.drew (ext_alloc _ _)))) (fun hHeld=>?_);clear hK KK;(try simp only[Act.put]);(try simp only[List.getElem_toArray]);(try simp only[List.getElem_cons_succ]);(try simp only[List.getElem_cons_zero]);(try simp only[List.setIfInBounds_toArray]))
     ((refine wpAnyH_ready (rs:=[10]) (by kernel_rfl) (by simp) ?_);(refine AllReadyH.cons (o:=_) rfl (fun KK hK=>?_) ?_);rotate_left;exact AllReadyH.nil)
     go_simp
     (go_at_call 56;refine(HRF.out _ (w.alloc (.cells #[.int .i64 0,.int .u8 0] 121)).drew (HA.out.ext (Below.drew (ext_alloc _ _))) HIX.out (block_ext HR.out (Below.drew (ext_alloc _ _)))).mono ?_;rintro e w5 ⟨rfl,hA5,⟨k5,hr5⟩,hF5⟩;have F5:=(Fr.after (fr_below (Below.drew (ext_alloc w (.cells #[.int .i64 0,.int .u8 0] 121)))) hF5 (fun y hy=>Or.inl hy):Fr [rb] w w5);have z5:=F5.size;have r5:w5.cell? ⟨rb,2,none⟩=some (.int .i64 f):=(by rw[cell_at hr5];rfl);have b5:=hF5.at (show ((w.alloc (.cells #[.int .i64 0,.int .u8 0] 121)).drew).heap[w.heap.size]?=some (.cells #[.int .i64 0,.int .u8 0] 121 (0,0)) from heap_alloc_new w _) (by simp;omega);have g0:=cell_two0 b5;have g1:=cell_two1 b5;have g2:=free_two 0 b5;have g3:=free_two 1 b5;have lt5:=lt_of_block b5;have hne:rb≠w.heap.size:=(by omega);clear hF5 hA5;go_wp2_with fail;(refine hK.out _ _ (KS _ r5) (fun hHeld=>?_);clear hK KK;(try simp only[Act.put]);(try simp only[List.getElem_toArray]);(try simp only[List.getElem_cons_succ]);(try simp only[List.getElem_cons_zero]);(try simp only[List.setIfInBounds_toArray])))
     ((refine wpAnyH_ready (rs:=[12]) (by kernel_rfl) (by simp) ?_);(refine AllReadyH.cons (o:=_) rfl (fun KK hK=>?_) ?_);rotate_left;exact AllReadyH.nil)
     (go_simp;(refine hK.out _ _ (KS _ (by rw[cell_at ((Below.heap_setCell _ _ _ _ hne).trans ((Below.heap_setCell _ _ _ _ hne).trans hr5))];rfl)) (fun hHeld=>?_);clear hK KK;(try simp only[Act.put]);(try simp only[List.getElem_toArray]);(try simp only[List.getElem_cons_succ]);(try simp only[List.getElem_cons_zero]);(try simp only[List.setIfInBounds_toArray]));(refine wpAnyH_done (by kernel_rfl) ?_ _);go_wp2_with fail;go_meet;case rel=>exact⟨w.heap.size,rfl,Nat.le_refl _,first_set b5,⟨k5,(Below.heap_setCell _ _ _ _ hne).trans ((Below.heap_setCell _ _ _ _ hne).trans hr5)⟩,(F5.setCell (Or.inr (Nat.le_refl _)) _).setCell (Or.inr (Nat.le_refl _)) _⟩)
    ·exact AllReadyH.nil
  ·(refine AllReadyH.cons (o:=_) rfl (fun KK hK=>?_) ?_)
   ·go_simp
    (refine hK.out _ _ (KS _ (cell_ext r2 (Below.drew (ext_alloc _ _)))) (fun hHeld=>?_);clear hK KK;(try simp only[Act.put]);(try simp only[List.getElem_toArray]);(try simp only[List.getElem_cons_succ]);(try simp only[List.getElem_cons_zero]);(try simp only[List.setIfInBounds_toArray]))
    ((refine wpAnyH_ready (rs:=[7]) (by kernel_rfl) (by simp) ?_);(refine AllReadyH.cons (o:=_) rfl (fun KK hK=>?_) ?_);rotate_left;exact AllReadyH.nil)
    go_simp
    (go_at_call 57;refine(base_any f q _ HQ.out).mono ?_;rintro e w4 ⟨rfl,rfl⟩;go_wp2_with fail)
    (refine hK.out _ _ (KS _ (cell_ext r2 (Below.drew (ext_alloc _ _)))) (fun hHeld=>?_);clear hK KK;(try simp only[Act.put]);(try simp only[List.getElem_toArray]);(try simp only[List.getElem_cons_succ]);(try simp only[List.getElem_cons_zero]);(try simp only[List.setIfInBounds_toArray]))
    (refine wpAnyH_take (i:=9) (oi:=_) (v:=?_) rfl (by kernel_rfl) (by kernel_rfl) (by kernel_rfl) (fun _ _ _ h=>h) (Or.inl ⟨by rfl,?_⟩) (by assumption) ?_;rotate_left;(intro w hSw;(try dsimp only at hSw);go_simp;try with_reducible rfl);(try simp only[Act.put]);(try simp only[List.setIfInBounds_toArray]))
    ((refine wpAnyH_ready (rs:=[10]) (by kernel_rfl) (by simp) ?_);(refine AllReadyH.cons (o:=_) rfl (fun KK hK=>?_) ?_);rotate_left;exact AllReadyH.nil)
    go_simp
    (go_at_call 56;refine(HRF.out _ (w.alloc (.cells #[.int .i64 0,.int .u8 0] 121)).drew (HA.out.ext (Below.drew (ext_alloc _ _))) HIX.out (block_ext HR.out (Below.drew (ext_alloc _ _)))).mono ?_;rintro e w5 ⟨rfl,hA5,⟨k5,hr5⟩,hF5⟩;have F5:=(Fr.after (fr_below (Below.drew (ext_alloc w (.cells #[.int .i64 0,.int .u8 0] 121)))) hF5 (fun y hy=>Or.inl hy):Fr [rb] w w5);have z5:=F5.size;have r5:w5.cell? ⟨rb,2,none⟩=some (.int .i64 f):=(by rw[cell_at hr5];rfl);have b5:=hF5.at (show ((w.alloc (.cells #[.int .i64 0,.int .u8 0] 121)).drew).heap[w.heap.size]?=some (.cells #[.int .i64 0,.int .u8 0] 121 (0,0)) from heap_alloc_new w _) (by simp;omega);have g0:=cell_two0 b5;have g1:=cell_two1 b5;have g2:=free_two 0 b5;have g3:=free_two 1 b5;have lt5:=lt_of_block b5;have hne:rb≠w.heap.size:=(by omega);clear hF5 hA5;go_wp2_with fail;(refine hK.out _ _ (KS _ r5) (fun hHeld=>?_);clear hK KK;(try simp only[Act.put]);(try simp only[List.getElem_toArray]);(try simp only[List.getElem_cons_succ]);(try simp only[List.getElem_cons_zero]);(try simp only[List.setIfInBounds_toArray])))
    ((refine wpAnyH_ready (rs:=[12]) (by kernel_rfl) (by simp) ?_);(refine AllReadyH.cons (o:=_) rfl (fun KK hK=>?_) ?_);rotate_left;exact AllReadyH.nil)
    (go_simp;(refine hK.out _ _ (KS _ (by rw[cell_at ((Below.heap_setCell _ _ _ _ hne).trans ((Below.heap_setCell _ _ _ _ hne).trans hr5))];rfl)) (fun hHeld=>?_);clear hK KK;(try simp only[Act.put]);(try simp only[List.getElem_toArray]);(try simp only[List.getElem_cons_succ]);(try simp only[List.getElem_cons_zero]);(try simp only[List.setIfInBounds_toArray]));(refine wpAnyH_done (by kernel_rfl) ?_ _);go_wp2_with fail;go_meet;case rel=>exact⟨w.heap.size,rfl,Nat.le_refl _,first_set b5,⟨k5,(Below.heap_setCell _ _ _ _ hne).trans ((Below.heap_setCell _ _ _ _ hne).trans hr5)⟩,(F5.setCell (Or.inr (Nat.le_refl _)) _).setCell (Or.inr (Nat.le_refl _)) _⟩)
   ·exact AllReadyH.nil
 case rest =>
  obtain⟨fb,rfl,hfq,bf,⟨kc,hrc⟩,hFc⟩:=hcut
  have hDc:DumpAt ab rb f n w0 L wc:=DumpAt.read HH.out.fr HOWN.out hrc hFc hrb
  have hdf:DFr rb w wc:=DFr.of_fr hFc (fun j hj _=>by simpa using hj)
  have m0:=cell_two0 bf
  have m1:=cell_two1 bf
  have hlf:=lt_of_block bf
  have hlc:=lt_of_block hrc
  have HD:=hide (And.intro hDc hdf)
  clear hrc hFc hDc hdf KS
  by_cases h0:nd=0
  ·have hg:geR M (dp q) v=[]:=by unfold geR;rw[if_neg (by rw[HNO.out.1 h0];simp)]
   have HG:=hide hg
   have e0:((nd:Int) != 0)=false:=by simp;omega
   clear hg
   go_wp2
   go_end0
   rw[HG.out,List.append_nil]
   exact⟨rfl,HD.out.1,HD.out.2⟩
  ·have hany:anyBelow M 8 v=true:=by
    have:anyBelow M 8 v≠false:=fun e=>h0 (HNO.out.2 e)
    simpa using this
   have hg:geR M (dp q) v=dumpN M (dp q) 8 v:=by unfold geR;rw[if_pos hany]
   have e0:((nd:Int) != 0)=true:=by simp;omega
   have HG:=hide hg
   have HKP:=hide (key_first hv)
   have HC:=hide (HN.out wc h0 hany HD.out.1)
   clear hg hany h0
   go_wp2_with fail
   rw[←HKP.out]
   refine HC.out.mono ?_
   rintro e w8 ⟨rfl,hD8,hF8⟩
   have HD8:=hide (And.intro hD8 (HD.out.2.trans hF8))
   clear hD8 hF8
   go_wp2
   go_end0
   rw[HG.out]
   exact⟨rfl,HD8.out.1,HD8.out.2⟩
end Go.Proofs.YtnapboelfimaaaaGreatDoor
namespace Go.Proofs.YtnapboelfimaaaaGreatDoor
open Go.RowKit Go.Deep
theorem shrink_x (A:Ar) (ab wb b n gap less p:Nat) (x y z u:Int) (w:World) (h:ArAt w ab wb A) (hs:Sane A) (hx:x=b) (hy:y=n) (hz:z=gap) (hu:u=less) (h1:1≤less) (h2:n≤32) (h3:gap+less≤n) (h4:b+n≤A.size) (hp:p=if n=less then 0 else b) :
  Calls Tryz.prog 131 #[.pointer (some ⟨ab,0,none⟩),.agg #[.int .i64 x,.int .i64 y],.int .i64 z,.int .i64 u] w fun e w'=>(∃r:Int,e=.returned (.agg #[.int .i64 p,.int .i64 r]))∧ArAt w' ab wb (A.shrink b n gap less)∧Fr [ab,wb] w w':=by
 subst hx hy hz hu
 refine(shrink_any A ab wb b n gap less w h hs h1 h2 h3 h4 p hp).mono ?_
 rintro e w' ⟨rfl,hA,hF⟩
 exact⟨⟨_,rfl⟩,hA,hF⟩
theorem cell_far {w:World} {b i j:Nat} {u v:Value} (h:w.cell? ⟨b,i,none⟩=some u) (hij:j≠i):(w.setCell ⟨b,j,none⟩ v).cell? ⟨b,i,none⟩=some u:=by
 rw[World.cell?_setCell_other]
 ·exact h
 ·intro e;cases e;exact hij rfl
theorem block_drop {w:World} {b:Nat} {n:NodeD} {r p:Nat} {t:TypeId} (h:w.heap[b]?=some (.cells #[.int .u16 n.routes,.int .u16 n.ways,.int .i64 n.hops,.int .i64 n.children] t (0,0))):(((w.setCell ⟨b,2,none⟩ (.int .i64 (p:Int))).setCell ⟨b,0,none⟩ (.int .u16 (r:Int))).drew).heap[b]?=some (.cells #[.int .u16 (r:Int),.int .u16 n.ways,.int .i64 (p:Int),.int .i64 n.children] t (0,0)):=by
 show ((w.setCell _ _).setCell _ _).heap[b]?=_
 rw[heap_setCell_at _ (heap_setCell_at _ h)]
 rfl
theorem block_dropK {w:World} {b:Nat} {n:NodeD} {r p:Nat} {t:TypeId} (h:w.heap[b]?=some (.cells #[.int .u16 n.routes,.int .u16 n.ways,.int .i64 n.hops,.int .i64 n.children] t (0,0))):(((w.setCell ⟨b,3,none⟩ (.int .i64 (p:Int))).setCell ⟨b,1,none⟩ (.int .u16 (r:Int))).drew).heap[b]?=some (.cells #[.int .u16 n.routes,.int .u16 (r:Int),.int .i64 n.hops,.int .i64 (p:Int)] t (0,0)):=by
 show ((w.setCell _ _).setCell _ _).heap[b]?=_
 rw[heap_setCell_at _ (heap_setCell_at _ h)]
 rfl
set_option maxHeartbeats 4000000 in
set_option maxRecDepth 10000 in
theorem dropHop_any (A:Ar) (tb ab wb k:Nat) (nn nd:NodeD) (w:World) (h:TabAt w tb ab wb A) (hs:Sane A) (hok:nn.ok) (hk:k≤15) (hbit:nn.routes.testBit k=true) (hin:nn.hops+ones 16 nn.routes≤A.size) (hnd:nd=nn.dropHop k) :
  Calls Tryz.prog 128 #[.pointer (some ⟨tb,0,none⟩),.agg #[.int .u16 nn.routes,.int .u16 nn.ways,.int .i64 nn.hops,.int .i64 nn.children],.int .i64 (k:Nat)] w fun e w'=>e=.returned (.agg #[.int .u16 nd.routes,.int .u16 nd.ways,.int .i64 nd.hops,.int .i64 nd.children])∧TabAt w' tb ab wb (A.shrink nn.hops (ones 16 nn.routes) (ones k nn.routes) 1)∧Fr [ab,wb] w w':=by
 have h16:=ones_le 16 nn.routes
 have hlt16:=ones_lt (show k<16 by omega) hbit
 obtain⟨p,hp⟩:∃p,p=if ones 16 nn.routes=1 then 0 else nn.hops:=⟨_,rfl⟩
 have hndc:(#[.int .u16 nd.routes,.int .u16 nd.ways,.int .i64 nd.hops,.int .i64 nd.children]:Array Value)=#[.int .u16 ((clr nn.routes k:Nat):Int),.int .u16 nn.ways,.int .i64 (p:Int),.int .i64 nn.children]:=by rw[hnd,hp];rfl
 rw[hndc]
 clear hnd hndc
 have HSR:=hide (fun (x z:Int) (w:World) (h:ArAt w ab wb A) (hx:x=(nn.hops:Nat)) (hz:z=(ones k nn.routes:Nat))=>shrink_x A ab wb nn.hops (ones 16 nn.routes) (ones k nn.routes) 1 p x (ones 16 nn.routes:Nat) z 1 w h hs hx rfl hz rfl (by omega) (by omega) (by omega) hin hp)
 have HHB:=hide (fun (w:World)=>hopBlock_any nn w hok)
 have HBE:=hide (fun (w:World)=>before_x nn.routes k k w rfl hok.1 hk)
 obtain⟨R,hR⟩:∃R,R=A.shrink nn.hops (ones 16 nn.routes) (ones k nn.routes) 1:=⟨_,rfl⟩
 rw[←hR] at HSR ⊢
 clear hR
 obtain⟨c1,hc1⟩:∃c,c=ones 16 nn.routes:=⟨_,rfl⟩
 obtain⟨c3,hc3⟩:∃c,c=ones k nn.routes:=⟨_,rfl⟩
 rw[←hc1] at HHB HSR
 rw[←hc3] at HBE HSR
 have HAN:=hide (andNot16 nn.routes k hok.1 (by omega))
 have HWK:=hide (wrap16 hk)
 have hfd:=field_block0
 have hk':(k:Int)≤15:=by omega
 have hna:=h.na
 have hnw:=h.nw
 have hla:=h.ar.la
 have hlw:=h.ar.lw
 have hlt:=h.lt
 obtain⟨cr,hcr⟩:∃cr,cr=clr nn.routes k:=⟨_,rfl⟩
 rw[←hcr] at HAN ⊢
 obtain⟨wq,hwq⟩:∃wq,wq=(w.alloc (.cells #[.int .u16 nn.routes,.int .u16 nn.ways,.int .i64 nn.hops,.int .i64 nn.children] 142)).alloc (.cells #[.int .u16 0,.int .u16 0,.int .i64 0,.int .i64 0] 142):=⟨_,rfl⟩
 have HBX:Below w.heap.size w wq:=by rw[hwq];exact ext_trans (ext_alloc _ _) (ext_alloc _ _)
 have bz:wq.heap[w.heap.size+1]?=some (.cells #[.int .u16 0,.int .u16 0,.int .i64 0,.int .i64 0] 142 (0,0)):=by rw[hwq,←World.size_alloc w (.cells #[.int .u16 nn.routes,.int .u16 nn.ways,.int .i64 nn.hops,.int .i64 nn.children] 142)];exact heap_alloc_new _ _
 have b2:wq.heap[w.heap.size]?=some (.cells #[.int .u16 nn.routes,.int .u16 nn.ways,.int .i64 nn.hops,.int .i64 nn.children] 142 (0,0)):=by rw[hwq];exact block_ext (heap_alloc_new _ _) (ext_alloc _ _)
 have HTW:=hide (h.ext HBX)
 have hlz:=lt_of_block bz
 obtain⟨nb,hnb⟩:∃nb,nb=w.heap.size:=⟨_,rfl⟩
 obtain⟨rb,hrb⟩:∃rb,rb=w.heap.size+1:=⟨_,rfl⟩
 rw[←hrb] at bz
 rw[←hnb] at b2
 have hns:nb ∉ [ab,wb]:=by simp;omega
 have hrs:rb ∉ [ab,wb]:=by simp;omega
 have hts:tb ∉ [ab,wb]:=by simp;omega
 have hrn:rb≠nb:=by omega
 have hnt:tb≠nb:=by omega
 have hnba:ab≠nb:=by omega
 have hnbw:wb≠nb:=by omega
 have hrt:tb≠rb:=by omega
 have hrba:ab≠rb:=by omega
 have hrbw:wb≠rb:=by omega
 have hwnb:w.heap.size≤nb:=by omega
 have hwrb:w.heap.size≤rb:=by omega
 obtain⟨q0,q1,q2,q3⟩:=cells4n b2
 have HB0:=hide HBX
 have HWQ:=hide hwq
 have HNB:=hide hnb
 have HRB:=hide hrb
 have HBZ:=hide bz
 have KS:∀w',Fr [ab,wb] wq w'→(fun w':World=>Fr [ab,wb,nb] wq w'∧w'.cell? ⟨tb,0,none⟩=some (.pointer (some ⟨ab,0,none⟩))∧w'.cell? ⟨nb,0,none⟩=some (.int .u16 nn.routes)) w':=fun w' hf=>⟨hf.mono (fun y hy _=>by simp at hy ⊢;omega),HTW.out.frw hf hts,(cells4n (hf.at b2 hns)).1⟩
 have KZ:∀(w':World) (v:Value),(fun w':World=>Fr [ab,wb,nb] wq w'∧w'.cell? ⟨tb,0,none⟩=some (.pointer (some ⟨ab,0,none⟩))∧w'.cell? ⟨nb,0,none⟩=some (.int .u16 nn.routes)) w'→(fun w':World=>Fr [ab,wb,nb] wq w'∧w'.cell? ⟨tb,0,none⟩=some (.pointer (some ⟨ab,0,none⟩))∧w'.cell? ⟨nb,0,none⟩=some (.int .u16 nn.routes)) (w'.setCell ⟨nb,2,none⟩ v):=fun w' v hS=>⟨hS.1.setCell (Or.inl (by simp)) _,by rw[World.cell?_setCell_far _ _ _ _ (Ne.symm hnt)];exact hS.2.1,cell_far hS.2.2 (by omega)⟩
 simp only[] at KS KZ
 clear h hwq hnb hrb hc1 hc3 hp hcr HBX bz
 go_enter Tryz.func128,Tryz.ntmps128
 go_wp2_with fail
 rw[←HWQ.out,←HRB.out,←HNB.out]
 refine wp_region_held_drew (S:=(fun w':World=>Fr [ab,wb,nb] wq w'∧w'.cell? ⟨tb,0,none⟩=some (.pointer (some ⟨ab,0,none⟩))∧w'.cell? ⟨nb,0,none⟩=some (.int .u16 nn.routes))) (by kernel_rfl) (KS _ (fr_below (drew_ext wq))) (fun hHeld=>?_)
 (refine wpAnyH_take (i:=0) (oi:=_) (v:=?_) rfl (by kernel_rfl) (by kernel_rfl) (by kernel_rfl) (fun _ _ _ h=>h) (Or.inl ⟨by rfl,?_⟩) (by assumption) ?_;rotate_left;(intro w hSw;(try dsimp only at hSw);go_simp;try with_reducible rfl);(try simp only[Act.put]);(try simp only[List.setIfInBounds_toArray]))
 (refine wpAnyH_take (i:=1) (oi:=_) (v:=?_) rfl (by kernel_rfl) (by kernel_rfl) (by kernel_rfl) (fun _ _ _ h=>h) (Or.inl ⟨by rfl,?_⟩) (by assumption) ?_;rotate_left;(intro w hSw;(try dsimp only at hSw);go_simp;try with_reducible rfl);(try simp only[Act.put]);(try simp only[List.setIfInBounds_toArray]))
 (refine wpAnyH_take (i:=2) (oi:=_) (v:=?_) rfl (by kernel_rfl) (by kernel_rfl) (by kernel_rfl) (fun _ _ _ h=>h) (Or.inl ⟨by rfl,?_⟩) (by assumption) ?_;rotate_left;(intro w hSw;(try dsimp only at hSw);go_simp;try with_reducible rfl);(try simp only[Act.put]);(try simp only[List.setIfInBounds_toArray]))
 (refine wpAnyH_take (i:=3) (oi:=_) (v:=?_) rfl (by kernel_rfl) (by kernel_rfl) (by kernel_rfl) (fun _ _ _ h=>h) (Or.inl ⟨by rfl,?_⟩) (by assumption) ?_;rotate_left;(intro w hSw;(try dsimp only at hSw);go_simp;try with_reducible rfl);(try simp only[Act.put]);(try simp only[List.setIfInBounds_toArray]))
 (refine wpAnyH_take (i:=6) (oi:=_) (v:=?_) rfl (by kernel_rfl) (by kernel_rfl) (by kernel_rfl) (fun _ _ _ h=>h) (Or.inl ⟨by rfl,?_⟩) (by assumption) ?_;rotate_left;(intro w hSw;(try dsimp only at hSw);go_simp;try with_reducible rfl);(try simp only[Act.put]);(try simp only[List.setIfInBounds_toArray]))
 (refine wpAnyH_take (i:=7) (oi:=_) (v:=?_) rfl (by kernel_rfl) (by kernel_rfl) (by kernel_rfl) (fun _ _ _ h=>h) (Or.inl ⟨by rfl,?_⟩) (by assumption) ?_;rotate_left;(intro w hSw;(try dsimp only at hSw);go_simp;try with_reducible rfl);(try simp only[Act.put]);(try simp only[List.setIfInBounds_toArray]))
 (refine wpAnyH_take (i:=8) (oi:=_) (v:=?_) rfl (by kernel_rfl) (by kernel_rfl) (by kernel_rfl) (fun _ _ _ h=>h) (Or.inl ⟨by rfl,?_⟩) (by assumption) ?_;rotate_left;(intro w hSw;(try dsimp only at hSw);go_simp;try with_reducible rfl);(try simp only[Act.put]);(try simp only[List.setIfInBounds_toArray]))
 ((refine wpAnyH_ready (rs:=[4]) (by kernel_rfl) (by simp) ?_);(refine AllReadyH.cons (o:=_) rfl (fun K hK=>?_) ?_);rotate_left;exact AllReadyH.nil)
 go_simp
 (refine hK.out _ _ (KS _ (fr_below (drew_ext wq))) (fun hHeld=>?_);clear hK K;(try simp only[Act.put]);(try simp only[List.setIfInBounds_toArray]))
 ((refine wpAnyH_ready (rs:=[5]) (by kernel_rfl) (by simp) ?_);(refine AllReadyH.cons (o:=_) rfl (fun K hK=>?_) ?_);rotate_left;exact AllReadyH.nil)
 go_simp
 (go_at_call 110;refine(HHB.out _).mono ?_;rintro e w5 ⟨rfl,hb5⟩;with_reducible (first | (have S5:=(ext_trans (drew_ext wq) hb5:Below wq.heap.size wq w5)) | (have S5:=(ext_trans S6 hb5:Below wq.heap.size wq w5)));obtain⟨a0,a1,a2,a3⟩:=cells4n (block_ext b2 S5);clear hb5)
 go_wp2_with fail
 (refine hK.out _ _ (KS _ (fr_below S5)) (fun hHeld=>?_);clear hK K;(try simp only[Act.put]);(try simp only[List.setIfInBounds_toArray]))
 ((refine wpAnyH_ready (rs:=[9]) (by kernel_rfl) (by simp) ?_);(refine AllReadyH.cons (o:=_) rfl (fun K hK=>?_) ?_);rotate_left;exact AllReadyH.nil)
 go_simp
 (go_at_call 75;refine(HBE.out _).mono ?_;rintro e w6 ⟨rfl,hb6⟩;with_reducible (first | (have S6:=(ext_trans S5 hb6:Below wq.heap.size wq w6)) | (have S6:=(ext_trans (drew_ext wq) hb6:Below wq.heap.size wq w6)));obtain⟨e0,e1,e2,e3⟩:=cells4n (block_ext b2 S6);clear hb6)
 go_wp2_with fail
 (refine hK.out _ _ (KS _ (fr_below S6)) (fun hHeld=>?_);clear hK K;(try simp only[Act.put]);(try simp only[List.setIfInBounds_toArray]))
 ((refine wpAnyH_ready (rs:=[10]) (by kernel_rfl) (by simp) ?_);(refine AllReadyH.cons (o:=_) rfl (fun K hK=>?_) ?_);rotate_left;exact AllReadyH.nil)
 go_simp
 (go_at_call 131;with_reducible (first | refine(HSR.out _ _ _ (HTW.out.ar.ext S6) rfl rfl).mono ?_ | refine(HSR.out _ _ _ (HTW.out.ar.ext S5) rfl rfl).mono ?_);rintro e w7 ⟨⟨r,rfl⟩,hA7,hF7⟩;with_reducible (first | (have F7:=(Fr.after (fr_below S6) hF7 (fun y hy=>Or.inl hy):Fr [ab,wb] wq w7)) | (have F7:=(Fr.after (fr_below S5) hF7 (fun y hy=>Or.inl hy):Fr [ab,wb] wq w7)));have b7:=F7.at b2 hns;obtain⟨g0,g1,g2,g3,g4,g5,g6,g7⟩:=cells4 b7;clear hF7)
 go_wp2_with fail
 (refine hK.out _ _ (KS _ F7) (fun hHeld=>?_);clear hK K;(try simp only[Act.put]);(try simp only[List.setIfInBounds_toArray]))
 (refine wpAnyH_take (i:=11) (oi:=_) (v:=?_) rfl (by kernel_rfl) (by kernel_rfl) (by kernel_rfl) (fun _ _ _ h=>h) (Or.inl ⟨by rfl,?_⟩) (by assumption) ?_;rotate_left;(intro w hSw;(try dsimp only at hSw);go_simp;try with_reducible rfl);(try simp only[Act.put]);(try simp only[List.setIfInBounds_toArray]))
 (refine wpAnyH_take (i:=12) (oi:=_) (v:=?_) rfl (by kernel_rfl) (by kernel_rfl) (by kernel_rfl) (fun _ _ _ h=>h) (Or.inl ⟨by rfl,?_⟩) (by assumption) ?_;rotate_left;(intro w hSw;(try dsimp only at hSw);go_simp;try with_reducible rfl);(try simp only[Act.put]);(try simp only[List.setIfInBounds_toArray]))
 ((refine wpAnyH_ready (rs:=[13]) (by kernel_rfl) (by simp) ?_);(refine AllReadyH.cons (o:=_) rfl (fun K hK=>?_) ?_);rotate_left;exact AllReadyH.nil)
 go_simp
 (refine hK.out _ _ (KZ _ _ (KS _ F7)) (fun hHeld=>?_);clear hK K;(try simp only[Act.put]);(try simp only[List.setIfInBounds_toArray]))
 (refine wpAnyH_done (by kernel_rfl) ?_ _)
 have bz7:=F7.at HBZ.out hrs
 obtain⟨z0,z1,z2,z3,z4,z5,z6,z7⟩:=cells4 bz7
 have hl7:=lt_of_block b7
 have hlz7:=lt_of_block bz7
 have HT7:=hide (HTW.out.of F7 hts hA7)
 have HF7:=hide (Fr.after (fr_below HB0.out) F7 (fun y hy=>Or.inl hy):Fr [ab,wb] w w7)
 have HB7:=hide b7
 have HBZ7:=hide bz7
 clear F7 hA7 KS KZ b2 b7 bz7 q0 q1 q2 q3 hHeld a0 a1 a2 a3 e0 e1 e2 e3 S5 S6
 go_wp2_with fail
 go_region
 rw[HWK.out,HAN.out]
 have bn8:=block_drop (r:=cr) (p:=p) HB7.out
 have bz8:(((w7.setCell ⟨nb,2,none⟩ (.int .i64 (p:Int))).setCell ⟨nb,0,none⟩ (.int .u16 (cr:Int))).drew).heap[rb]?=some (.cells #[.int .u16 0,.int .u16 0,.int .i64 0,.int .i64 0] 142 (0,0)):=((Below.heap_setCell _ _ _ _ hrn).trans (Below.heap_setCell _ _ _ _ hrn)).trans HBZ7.out
 have hT8:TabAt (((w7.setCell ⟨nb,2,none⟩ (.int .i64 (p:Int))).setCell ⟨nb,0,none⟩ (.int .u16 (cr:Int))).drew) tb ab wb R:=((HT7.out.other hnt hnba hnbw).other hnt hnba hnbw).ext (drew_ext _)
 have hF8:Fr [ab,wb] w (((w7.setCell ⟨nb,2,none⟩ (.int .i64 (p:Int))).setCell ⟨nb,0,none⟩ (.int .u16 (cr:Int))).drew):=two_setFr HF7.out hwnb
 obtain⟨w8,hw8⟩:∃w8,w8=((w7.setCell ⟨nb,2,none⟩ (.int .i64 (p:Int))).setCell ⟨nb,0,none⟩ (.int .u16 (cr:Int))).drew:=⟨_,rfl⟩
 rw[←hw8] at bn8 bz8 hT8 hF8 ⊢
 clear g0 g1 g2 g3 g4 g5 g6 g7 z0 z1 z2 z3 z4 z5 z6 z7 HB7 HBZ7 HT7 HF7
 obtain⟨g0,g1,g2,g3,g4,g5,g6,g7⟩:=cells4 bn8
 obtain⟨z0,z1,z2,z3,z4,z5,z6,z7⟩:=cells4 bz8
 have hl8:=lt_of_block bn8
 have hlz8:=lt_of_block bz8
 have bz9:=store4 (c0:=.int .u16 (cr:Int)) (c1:=.int .u16 nn.ways) (c2:=.int .i64 (p:Int)) (c3:=.int .i64 nn.children) bz8
 have hT9:=hT8.set4 (b:=rb) (v0:=.int .u16 (cr:Int)) (v1:=.int .u16 nn.ways) (v2:=.int .i64 (p:Int)) (v3:=.int .i64 nn.children) hrt hrba hrbw
 have hF9:=hF8.set4 (b:=rb) (v0:=.int .u16 (cr:Int)) (v1:=.int .u16 nn.ways) (v2:=.int .i64 (p:Int)) (v3:=.int .i64 nn.children) (Or.inr hwrb)
 obtain⟨w9,hw9⟩:∃w9,w9=((((w8.setCell ⟨rb,0,none⟩ (.int .u16 (cr:Int))).setCell ⟨rb,1,none⟩ (.int .u16 nn.ways)).setCell ⟨rb,2,none⟩ (.int .i64 (p:Int))).setCell ⟨rb,3,none⟩ (.int .i64 nn.children)):=⟨_,rfl⟩
 rw[←hw9] at bz9 hT9 hF9
 have HX:=hide (And.intro bz9 (And.intro hT9 hF9))
 have HW9:=hide hw9
 clear bz9 hT9 hF9 hw8 hw9 hT8 hF8 bn8 bz8
 go_wp2
 rw[←HW9.out]
 obtain⟨y0,y1,y2,y3,y4,y5,y6,y7⟩:=cells4 HX.out.1
 exact bodyPost_ret (v:=.agg #[.int .u16 (cr:Int),.int .u16 nn.ways,.int .i64 (p:Int),.int .i64 nn.children]) (by simp[results,Tryz.results128,go_sem,y0,y1,y2,y3]) rfl ⟨rfl,HX.out.2.1,HX.out.2.2⟩
end Go.Proofs.YtnapboelfimaaaaGreatDoor
namespace Go.Proofs.YtnapboelfimaaaaGreatDoor
open Go.RowKit Go.Deep
set_option maxHeartbeats 4000000 in
set_option maxRecDepth 10000 in
theorem dropChild_any (A:Ar) (tb ab wb k:Nat) (nn nd:NodeD) (w:World) (h:TabAt w tb ab wb A) (hs:Sane A) (hok:nn.ok) (hk:k≤15) (hbit:nn.ways.testBit k=true) (hin:nn.children+2*ones 16 nn.ways≤A.size) (hnd:nd=nn.dropKid k) :
  Calls Tryz.prog 129 #[.pointer (some ⟨tb,0,none⟩),.agg #[.int .u16 nn.routes,.int .u16 nn.ways,.int .i64 nn.hops,.int .i64 nn.children],.int .i64 (k:Nat)] w fun e w'=>e=.returned (.agg #[.int .u16 nd.routes,.int .u16 nd.ways,.int .i64 nd.hops,.int .i64 nd.children])∧TabAt w' tb ab wb (A.shrink nn.children (2*ones 16 nn.ways) (2*ones k nn.ways) 2)∧Fr [ab,wb] w w':=by
 have h16:=ones_le 16 nn.ways
 have hlt16:=ones_lt (show k<16 by omega) hbit
 obtain⟨p,hp⟩:∃p,p=if 2*ones 16 nn.ways=2 then 0 else nn.children:=⟨_,rfl⟩
 have hndc:(#[.int .u16 nd.routes,.int .u16 nd.ways,.int .i64 nd.hops,.int .i64 nd.children]:Array Value)=#[.int .u16 nn.routes,.int .u16 ((clr nn.ways k:Nat):Int),.int .i64 nn.hops,.int .i64 (p:Int)]:=by rw[hnd,hp];rfl
 rw[hndc]
 clear hnd hndc
 have HSR:=hide (fun (x z:Int) (w:World) (h:ArAt w ab wb A) (hx:x=(nn.children:Nat)) (hz:z=IntKind.i64.wrap (2*(ones k nn.ways:Int)))=>shrink_x A ab wb nn.children (2*ones 16 nn.ways) (2*ones k nn.ways) 2 p x (2*ones 16 nn.ways:Nat) z 2 w h hs hx rfl (by rw[hz,IntKind.wrap_i64];omega) rfl (by omega) (by omega) (by omega) hin hp)
 have HCB:=hide (fun (w:World)=>childBlock_any nn w hok)
 have HBE:=hide (fun (w:World)=>before_x nn.ways k k w rfl hok.2.1 hk)
 obtain⟨R,hR⟩:∃R,R=A.shrink nn.children (2*ones 16 nn.ways) (2*ones k nn.ways) 2:=⟨_,rfl⟩
 rw[←hR] at HSR ⊢
 clear hR
 obtain⟨c1,hc1⟩:∃c,c=2*ones 16 nn.ways:=⟨_,rfl⟩
 obtain⟨c3,hc3⟩:∃c,c=ones k nn.ways:=⟨_,rfl⟩
 rw[←hc1] at HCB HSR
 rw[←hc3] at HBE HSR
 have HAN:=hide (andNot16 nn.ways k hok.2.1 (by omega))
 have HWK:=hide (wrap16 hk)
 have hfd:=field_block0
 have hk':(k:Int)≤15:=by omega
 have hna:=h.na
 have hnw:=h.nw
 have hla:=h.ar.la
 have hlw:=h.ar.lw
 have hlt:=h.lt
 obtain⟨cr,hcr⟩:∃cr,cr=clr nn.ways k:=⟨_,rfl⟩
 rw[←hcr] at HAN ⊢
 obtain⟨wq,hwq⟩:∃wq,wq=(w.alloc (.cells #[.int .u16 nn.routes,.int .u16 nn.ways,.int .i64 nn.hops,.int .i64 nn.children] 142)).alloc (.cells #[.int .u16 0,.int .u16 0,.int .i64 0,.int .i64 0] 142):=⟨_,rfl⟩
 have HBX:Below w.heap.size w wq:=by rw[hwq];exact ext_trans (ext_alloc _ _) (ext_alloc _ _)
 have bz:wq.heap[w.heap.size+1]?=some (.cells #[.int .u16 0,.int .u16 0,.int .i64 0,.int .i64 0] 142 (0,0)):=by rw[hwq,←World.size_alloc w (.cells #[.int .u16 nn.routes,.int .u16 nn.ways,.int .i64 nn.hops,.int .i64 nn.children] 142)];exact heap_alloc_new _ _
 have b2:wq.heap[w.heap.size]?=some (.cells #[.int .u16 nn.routes,.int .u16 nn.ways,.int .i64 nn.hops,.int .i64 nn.children] 142 (0,0)):=by rw[hwq];exact block_ext (heap_alloc_new _ _) (ext_alloc _ _)
 have HTW:=hide (h.ext HBX)
 have hlz:=lt_of_block bz
 obtain⟨nb,hnb⟩:∃nb,nb=w.heap.size:=⟨_,rfl⟩
 obtain⟨rb,hrb⟩:∃rb,rb=w.heap.size+1:=⟨_,rfl⟩
 rw[←hrb] at bz
 rw[←hnb] at b2
 have hns:nb ∉ [ab,wb]:=by simp;omega
 have hrs:rb ∉ [ab,wb]:=by simp;omega
 have hts:tb ∉ [ab,wb]:=by simp;omega
 have hrn:rb≠nb:=by omega
 have hnt:tb≠nb:=by omega
 have hnba:ab≠nb:=by omega
 have hnbw:wb≠nb:=by omega
 have hrt:tb≠rb:=by omega
 have hrba:ab≠rb:=by omega
 have hrbw:wb≠rb:=by omega
 have hwnb:w.heap.size≤nb:=by omega
 have hwrb:w.heap.size≤rb:=by omega
 obtain⟨q0,q1,q2,q3⟩:=cells4n b2
 have HB0:=hide HBX
 have HWQ:=hide hwq
 have HNB:=hide hnb
 have HRB:=hide hrb
 have HBZ:=hide bz
 have KS:∀w',Fr [ab,wb] wq w'→(fun w':World=>Fr [ab,wb,nb] wq w'∧w'.cell? ⟨tb,0,none⟩=some (.pointer (some ⟨ab,0,none⟩))∧w'.cell? ⟨nb,1,none⟩=some (.int .u16 nn.ways)) w':=fun w' hf=>⟨hf.mono (fun y hy _=>by simp at hy ⊢;omega),HTW.out.frw hf hts,(cells4n (hf.at b2 hns)).2.1⟩
 have KZ:∀(w':World) (v:Value),(fun w':World=>Fr [ab,wb,nb] wq w'∧w'.cell? ⟨tb,0,none⟩=some (.pointer (some ⟨ab,0,none⟩))∧w'.cell? ⟨nb,1,none⟩=some (.int .u16 nn.ways)) w'→(fun w':World=>Fr [ab,wb,nb] wq w'∧w'.cell? ⟨tb,0,none⟩=some (.pointer (some ⟨ab,0,none⟩))∧w'.cell? ⟨nb,1,none⟩=some (.int .u16 nn.ways)) (w'.setCell ⟨nb,3,none⟩ v):=fun w' v hS=>⟨hS.1.setCell (Or.inl (by simp)) _,by rw[World.cell?_setCell_far _ _ _ _ (Ne.symm hnt)];exact hS.2.1,cell_far hS.2.2 (by omega)⟩
 simp only[] at KS KZ
 clear h hwq hnb hrb hc1 hc3 hp hcr HBX bz
 go_enter Tryz.func129,Tryz.ntmps129
 go_wp2_with fail
 rw[←HWQ.out,←HRB.out,←HNB.out]
 refine wp_region_held_drew (S:=(fun w':World=>Fr [ab,wb,nb] wq w'∧w'.cell? ⟨tb,0,none⟩=some (.pointer (some ⟨ab,0,none⟩))∧w'.cell? ⟨nb,1,none⟩=some (.int .u16 nn.ways))) (by kernel_rfl) (KS _ (fr_below (drew_ext wq))) (fun hHeld=>?_)
 (refine wpAnyH_take (i:=0) (oi:=_) (v:=?_) rfl (by kernel_rfl) (by kernel_rfl) (by kernel_rfl) (fun _ _ _ h=>h) (Or.inl ⟨by rfl,?_⟩) (by assumption) ?_;rotate_left;(intro w hSw;(try dsimp only at hSw);go_simp;try with_reducible rfl);(try simp only[Act.put]);(try simp only[List.setIfInBounds_toArray]))
 (refine wpAnyH_take (i:=1) (oi:=_) (v:=?_) rfl (by kernel_rfl) (by kernel_rfl) (by kernel_rfl) (fun _ _ _ h=>h) (Or.inl ⟨by rfl,?_⟩) (by assumption) ?_;rotate_left;(intro w hSw;(try dsimp only at hSw);go_simp;try with_reducible rfl);(try simp only[Act.put]);(try simp only[List.setIfInBounds_toArray]))
 (refine wpAnyH_take (i:=2) (oi:=_) (v:=?_) rfl (by kernel_rfl) (by kernel_rfl) (by kernel_rfl) (fun _ _ _ h=>h) (Or.inl ⟨by rfl,?_⟩) (by assumption) ?_;rotate_left;(intro w hSw;(try dsimp only at hSw);go_simp;try with_reducible rfl);(try simp only[Act.put]);(try simp only[List.setIfInBounds_toArray]))
 (refine wpAnyH_take (i:=3) (oi:=_) (v:=?_) rfl (by kernel_rfl) (by kernel_rfl) (by kernel_rfl) (fun _ _ _ h=>h) (Or.inl ⟨by rfl,?_⟩) (by assumption) ?_;rotate_left;(intro w hSw;(try dsimp only at hSw);go_simp;try with_reducible rfl);(try simp only[Act.put]);(try simp only[List.setIfInBounds_toArray]))
 (refine wpAnyH_take (i:=6) (oi:=_) (v:=?_) rfl (by kernel_rfl) (by kernel_rfl) (by kernel_rfl) (fun _ _ _ h=>h) (Or.inl ⟨by rfl,?_⟩) (by assumption) ?_;rotate_left;(intro w hSw;(try dsimp only at hSw);go_simp;try with_reducible rfl);(try simp only[Act.put]);(try simp only[List.setIfInBounds_toArray]))
 (refine wpAnyH_take (i:=7) (oi:=_) (v:=?_) rfl (by kernel_rfl) (by kernel_rfl) (by kernel_rfl) (fun _ _ _ h=>h) (Or.inl ⟨by rfl,?_⟩) (by assumption) ?_;rotate_left;(intro w hSw;(try dsimp only at hSw);go_simp;try with_reducible rfl);(try simp only[Act.put]);(try simp only[List.setIfInBounds_toArray]))
 (refine wpAnyH_take (i:=8) (oi:=_) (v:=?_) rfl (by kernel_rfl) (by kernel_rfl) (by kernel_rfl) (fun _ _ _ h=>h) (Or.inl ⟨by rfl,?_⟩) (by assumption) ?_;rotate_left;(intro w hSw;(try dsimp only at hSw);go_simp;try with_reducible rfl);(try simp only[Act.put]);(try simp only[List.setIfInBounds_toArray]))
 ((refine wpAnyH_ready (rs:=[4]) (by kernel_rfl) (by simp) ?_);(refine AllReadyH.cons (o:=_) rfl (fun K hK=>?_) ?_);rotate_left;exact AllReadyH.nil)
 go_simp
 (refine hK.out _ _ (KS _ (fr_below (drew_ext wq))) (fun hHeld=>?_);clear hK K;(try simp only[Act.put]);(try simp only[List.setIfInBounds_toArray]))
 ((refine wpAnyH_ready (rs:=[5]) (by kernel_rfl) (by simp) ?_);(refine AllReadyH.cons (o:=_) rfl (fun K hK=>?_) ?_);rotate_left;exact AllReadyH.nil)
 go_simp
 (go_at_call 108;refine(HCB.out _).mono ?_;rintro e w5 ⟨rfl,hb5⟩;with_reducible (first | (have S5:=(ext_trans (drew_ext wq) hb5:Below wq.heap.size wq w5)) | (have S5:=(ext_trans S6 hb5:Below wq.heap.size wq w5)));obtain⟨a0,a1,a2,a3⟩:=cells4n (block_ext b2 S5);clear hb5)
 go_wp2_with fail
 (refine hK.out _ _ (KS _ (fr_below S5)) (fun hHeld=>?_);clear hK K;(try simp only[Act.put]);(try simp only[List.setIfInBounds_toArray]))
 ((refine wpAnyH_ready (rs:=[9]) (by kernel_rfl) (by simp) ?_);(refine AllReadyH.cons (o:=_) rfl (fun K hK=>?_) ?_);rotate_left;exact AllReadyH.nil)
 go_simp
 (go_at_call 75;refine(HBE.out _).mono ?_;rintro e w6 ⟨rfl,hb6⟩;with_reducible (first | (have S6:=(ext_trans S5 hb6:Below wq.heap.size wq w6)) | (have S6:=(ext_trans (drew_ext wq) hb6:Below wq.heap.size wq w6)));obtain⟨e0,e1,e2,e3⟩:=cells4n (block_ext b2 S6);clear hb6)
 go_wp2_with fail
 (refine hK.out _ _ (KS _ (fr_below S6)) (fun hHeld=>?_);clear hK K;(try simp only[Act.put]);(try simp only[List.setIfInBounds_toArray]))
 (refine wpAnyH_take (i:=10) (oi:=_) (v:=?_) rfl (by kernel_rfl) (by kernel_rfl) (by kernel_rfl) (fun _ _ _ h=>h) (Or.inl ⟨by rfl,?_⟩) (by assumption) ?_;rotate_left;(intro w hSw;(try dsimp only at hSw);go_simp;try with_reducible rfl);(try simp only[Act.put]);(try simp only[List.setIfInBounds_toArray]))
 ((refine wpAnyH_ready (rs:=[11]) (by kernel_rfl) (by simp) ?_);(refine AllReadyH.cons (o:=_) rfl (fun K hK=>?_) ?_);rotate_left;exact AllReadyH.nil)
 go_simp
 (go_at_call 131;with_reducible (first | refine(HSR.out _ _ _ (HTW.out.ar.ext S6) rfl rfl).mono ?_ | refine(HSR.out _ _ _ (HTW.out.ar.ext S5) rfl rfl).mono ?_);rintro e w7 ⟨⟨r,rfl⟩,hA7,hF7⟩;with_reducible (first | (have F7:=(Fr.after (fr_below S6) hF7 (fun y hy=>Or.inl hy):Fr [ab,wb] wq w7)) | (have F7:=(Fr.after (fr_below S5) hF7 (fun y hy=>Or.inl hy):Fr [ab,wb] wq w7)));have b7:=F7.at b2 hns;obtain⟨g0,g1,g2,g3,g4,g5,g6,g7⟩:=cells4 b7;clear hF7)
 go_wp2_with fail
 (refine hK.out _ _ (KS _ F7) (fun hHeld=>?_);clear hK K;(try simp only[Act.put]);(try simp only[List.setIfInBounds_toArray]))
 (refine wpAnyH_take (i:=12) (oi:=_) (v:=?_) rfl (by kernel_rfl) (by kernel_rfl) (by kernel_rfl) (fun _ _ _ h=>h) (Or.inl ⟨by rfl,?_⟩) (by assumption) ?_;rotate_left;(intro w hSw;(try dsimp only at hSw);go_simp;try with_reducible rfl);(try simp only[Act.put]);(try simp only[List.setIfInBounds_toArray]))
 (refine wpAnyH_take (i:=13) (oi:=_) (v:=?_) rfl (by kernel_rfl) (by kernel_rfl) (by kernel_rfl) (fun _ _ _ h=>h) (Or.inl ⟨by rfl,?_⟩) (by assumption) ?_;rotate_left;(intro w hSw;(try dsimp only at hSw);go_simp;try with_reducible rfl);(try simp only[Act.put]);(try simp only[List.setIfInBounds_toArray]))
 ((refine wpAnyH_ready (rs:=[14]) (by kernel_rfl) (by simp) ?_);(refine AllReadyH.cons (o:=_) rfl (fun K hK=>?_) ?_);rotate_left;exact AllReadyH.nil)
 go_simp
 (refine hK.out _ _ (KZ _ _ (KS _ F7)) (fun hHeld=>?_);clear hK K;(try simp only[Act.put]);(try simp only[List.setIfInBounds_toArray]))
 (refine wpAnyH_done (by kernel_rfl) ?_ _)
 have bz7:=F7.at HBZ.out hrs
 obtain⟨z0,z1,z2,z3,z4,z5,z6,z7⟩:=cells4 bz7
 have hl7:=lt_of_block b7
 have hlz7:=lt_of_block bz7
 have HT7:=hide (HTW.out.of F7 hts hA7)
 have HF7:=hide (Fr.after (fr_below HB0.out) F7 (fun y hy=>Or.inl hy):Fr [ab,wb] w w7)
 have HB7:=hide b7
 have HBZ7:=hide bz7
 clear F7 hA7 KS KZ b2 b7 bz7 q0 q1 q2 q3 hHeld a0 a1 a2 a3 e0 e1 e2 e3 S5 S6
 go_wp2_with fail
 go_region
 rw[HWK.out,HAN.out]
 have bn8:=block_dropK (r:=cr) (p:=p) HB7.out
 have bz8:(((w7.setCell ⟨nb,3,none⟩ (.int .i64 (p:Int))).setCell ⟨nb,1,none⟩ (.int .u16 (cr:Int))).drew).heap[rb]?=some (.cells #[.int .u16 0,.int .u16 0,.int .i64 0,.int .i64 0] 142 (0,0)):=((Below.heap_setCell _ _ _ _ hrn).trans (Below.heap_setCell _ _ _ _ hrn)).trans HBZ7.out
 have hT8:TabAt (((w7.setCell ⟨nb,3,none⟩ (.int .i64 (p:Int))).setCell ⟨nb,1,none⟩ (.int .u16 (cr:Int))).drew) tb ab wb R:=((HT7.out.other hnt hnba hnbw).other hnt hnba hnbw).ext (drew_ext _)
 have hF8:Fr [ab,wb] w (((w7.setCell ⟨nb,3,none⟩ (.int .i64 (p:Int))).setCell ⟨nb,1,none⟩ (.int .u16 (cr:Int))).drew):=two_setFr HF7.out hwnb
 obtain⟨w8,hw8⟩:∃w8,w8=((w7.setCell ⟨nb,3,none⟩ (.int .i64 (p:Int))).setCell ⟨nb,1,none⟩ (.int .u16 (cr:Int))).drew:=⟨_,rfl⟩
 rw[←hw8] at bn8 bz8 hT8 hF8 ⊢
 clear g0 g1 g2 g3 g4 g5 g6 g7 z0 z1 z2 z3 z4 z5 z6 z7 HB7 HBZ7 HT7 HF7
 obtain⟨g0,g1,g2,g3,g4,g5,g6,g7⟩:=cells4 bn8
 obtain⟨z0,z1,z2,z3,z4,z5,z6,z7⟩:=cells4 bz8
 have hl8:=lt_of_block bn8
 have hlz8:=lt_of_block bz8
 have bz9:=store4 (c0:=.int .u16 nn.routes) (c1:=.int .u16 (cr:Int)) (c2:=.int .i64 nn.hops) (c3:=.int .i64 (p:Int)) bz8
 have hT9:=hT8.set4 (b:=rb) (v0:=.int .u16 nn.routes) (v1:=.int .u16 (cr:Int)) (v2:=.int .i64 nn.hops) (v3:=.int .i64 (p:Int)) hrt hrba hrbw
 have hF9:=hF8.set4 (b:=rb) (v0:=.int .u16 nn.routes) (v1:=.int .u16 (cr:Int)) (v2:=.int .i64 nn.hops) (v3:=.int .i64 (p:Int)) (Or.inr hwrb)
 obtain⟨w9,hw9⟩:∃w9,w9=((((w8.setCell ⟨rb,0,none⟩ (.int .u16 nn.routes)).setCell ⟨rb,1,none⟩ (.int .u16 (cr:Int))).setCell ⟨rb,2,none⟩ (.int .i64 nn.hops)).setCell ⟨rb,3,none⟩ (.int .i64 (p:Int))):=⟨_,rfl⟩
 rw[←hw9] at bz9 hT9 hF9
 have HX:=hide (And.intro bz9 (And.intro hT9 hF9))
 have HW9:=hide hw9
 clear bz9 hT9 hF9 hw8 hw9 hT8 hF8 bn8 bz8
 go_wp2
 rw[←HW9.out]
 obtain⟨y0,y1,y2,y3,y4,y5,y6,y7⟩:=cells4 HX.out.1
 exact bodyPost_ret (v:=.agg #[.int .u16 nn.routes,.int .u16 (cr:Int),.int .i64 nn.hops,.int .i64 (p:Int)]) (by simp[results,Tryz.results129,go_sem,y0,y1,y2,y3]) rfl ⟨rfl,HX.out.2.1,HX.out.2.2⟩
end Go.Proofs.YtnapboelfimaaaaGreatDoor
