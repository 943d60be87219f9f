/- ChaM, PuR, PuG: parts of the proof, one behind the other. -/
import Derived.Test.YtnapboelfimaaaaDoorK16
import Derived.Test.YtnapboelfimaaaaDoorK24
import Derived.Test.YtnapboelfimaaaaDoorK29
/- What a chain that found room leaves as it was. -/
namespace Go.Proofs.YtnapboelfimaaaaDoor
theorem chain_facts {A B : Ar} {F : Nat → List Nat} {M : Tab} {L m l v h len : Nat} {n : NodeD} (hA : Good A F m) (hT : TabOk L M) (hL : L ≤ 128) (hh : h < 4294967296) (hl : l ≤ 128) (h1 : len ≤ l) (hany : anyBelow M len (v / 2 ^ (l - len)) = false) (ec : chainN l v h ((l - len) / 4) len A = (B, some n)) :
    ∃ F', Good B F' (m + 2 * ((l - len) / 4) + 1) ∧ n.ok ∧ (∀ a, A.frees F a = 0 → B.word a = A.word a) ∧ B.size = A.size ∧ ∀ (M2 : Tab) (d len2 u y : Nat), OnF A F M2 d len2 u y → OnF B F' M2 d len2 u y ∧ nodeAt B.word y = nodeAt A.word y := by
  have hp : pnum l v (len + 4 * ((l - len) / 4)) < 15 := pnum_lt (by omega) (by omega)
  have hs := single_new (l := l) (v := v) (h := h) hT hL hany
  obtain ⟨⟨F2, k1⟩, k2⟩ := chainN_good (l := l) (v := v) (h := h) (s := (l - len) / 4) (len := len) hA hh hp
  rcases chainN_ok (h := h) (d := 0) (live := edge A) hl (fun a ha => by have := hA.ok.size; rw [edge_high (by omega)]; omega) hA.ok (by have := hA.top; omega) hs (show len + 4 * ((l - len) / 4) ≤ l by omega) (by omega) (fun a => by
    unfold edge
    split
    · rename_i h; rw [hA.out a h]; omega
    · have := hA.ok.apart a; omega) with ⟨c1, _⟩ | ⟨B', n', F', tk, c1, C, _⟩
  · rw [ec] at c1; cases c1
  · rw [ec] at c1
    simp only [Prod.mk.injEq, Option.some.injEq] at c1
    obtain ⟨e1, e2⟩ := c1
    subst e1 e2
    rw [ec] at k1 k2
    have k3 : Good B F' (m + 2 * ((l - len) / 4) + 1) := by
      refine ⟨C.ok, k1.wok, ?_, k1.top, k1.lo, k1.hi⟩
      intro a ha
      have e1 := C.frees a
      rw [C.size] at ha
      have e2 := hA.out a ha
      omega
    exact ⟨F', k3, k2 n rfl, C.word, C.size, fun M2 d len2 u y hO => hO.chained C⟩
end Go.Proofs.YtnapboelfimaaaaDoor
/- A route is put into a table: once. -/
namespace Go.Proofs.YtnapboelfimaaaaDoor
open Go.RowKit Go.Deep
def afterChain (B : Ar) (o : Option NodeD) (g : NodeD → Ar × Bool) : Ar × Bool := match o with | none => (B, false) | some n => g n
set_option maxHeartbeats 2000000 in
set_option maxRecDepth 10000 in
theorem put_none (A B : Ar) (F : Nat → List Nat) (M : Bool → Tab) (tb ab wb : Nat) (f : Int) (q : Bool) (K l hop : Nat) (w : World) (h : TabAt w tb ab wb A) (hI : Inv A F M) (hw : WOk A.word) (hq : q = decide (f = 6)) (hK : K < 2 ^ 136) (h8 : 8 ≤ l) (hl : l ≤ 8 + 4 * dp q) (hhop : hop < 65536) (h0 : A.word (rt q + kbyte K 0) % 65536 = 0) (o : Option NodeD) (hc : chainN l (fitK K l) hop ((l - 8) / 4) 8 A = (B, o)) (R : Ar × Bool) (hR : afterChain B o (putFirstN B (rt q + kbyte K 0)) = R) : Calls Tryd.prog 83 #[.pointer (some ⟨tb, 0, none⟩), .int .i64 f, .agg (prefL K l).toArray, .int .i64 (hop : Nat)] w fun e w' => e = .returned (.bool R.2) ∧ TabAt w' tb ab wb R.1 ∧ Fr [ab, wb] w w' := by
  have hd := dp_le q
  have hG := hI.good hw
  have hs := hG.sane (by omega)
  have hk0 := kbyte_lt K 0
  have hr := rt_le q
  have hsz := hI.size
  have HDE := hide (fun (w : World) (h : TabAt w tb ab wb A) => deepest_none A F M tb ab wb f q K l w h hs hI hq h0)
  have HDP := hide (fun (w : World) => depth_any K l w (by omega) h8)
  have HCH := hide (fun (w : World) (h : TabAt w tb ab wb A) => chain_any A B F 0 tb ab wb K l 0 ((l - 8) / 4) hop 0 hop o w h hG (by omega) h8 (by omega) rfl rfl (by omega) hhop hc)
  obtain ⟨s, hsd⟩ : ∃ s, s = (l - 8) / 4 := ⟨_, rfl⟩
  rw [← hsd] at HDP
  have hna := h.na
  have hnw := h.nw
  have hla := h.ar.la
  have hlw := h.ar.lw
  have hlt := h.lt
  obtain ⟨wx, hwx⟩ : ∃ wx, wx = w.alloc (.cells (prefL K l).toArray 98) := ⟨_, rfl⟩
  have bp : wx.heap[w.heap.size]? = some (.cells (prefL K l).toArray 98 (0, 0)) := by rw [hwx]; exact heap_alloc_new _ _
  have HBX : Below w.heap.size w wx := by rw [hwx]; exact ext_alloc _ _
  have HT := hide (h.ext HBX)
  have HBX := hide HBX
  have HWX := hide hwx
  have hsx := lt_of_block bp
  have hpw : w.heap.size ∉ [ab, wb] := by simp; omega
  have htw : tb ∉ [ab, wb] := by simp; omega
  have hs0 : ((-1 : Int) == (s : Int)) = false := by simp
  cases o with
  | none =>
    simp only [afterChain] at hR
    subst hR
    clear h hq hwx h0 hc hI hsd
    go_enter Tryd.func83, Tryd.ntmps83
    go_wp2_with (first | rw [← HWX.out] | (show wpList _ _ _ (⟨_, .load 98 _, _, _, _, _⟩ :: _) _ _; refine wpList_load_whole rfl 98 _ rfl w.heap.size rfl (prefL K l) _ 98 (0, 0) (by assumption) Tryd.underlying98 rfl (pref_info K l) ?_) | fail)
    refine (HDE.out _ HT.out).mono ?_
    rintro e w1 ⟨rfl, hb1⟩
    have bp1 := block_ext bp hb1
    have HT1 := hide (HT.out.ext hb1)
    have HB1 := hide (ext_trans HBX.out hb1)
    clear hb1
    go_wp2_with (show wpList _ _ _ (⟨_, .load 98 _, _, _, _, _⟩ :: _) _ _; refine wpList_load_whole rfl 98 _ rfl w.heap.size rfl (prefL K l) _ 98 (0, 0) (by assumption) Tryd.underlying98 rfl (pref_info K l) ?_)
    refine (HDP.out _).mono ?_
    rintro e w2 ⟨rfl, hb2⟩
    have bp2 := block_ext bp1 hb2
    have HT2 := hide (HT1.out.ext hb2)
    have HB2 := hide (ext_trans HB1.out hb2)
    clear hb2 bp1
    go_wp2_with (show wpList _ _ _ (⟨_, .load 98 _, _, _, _, _⟩ :: _) _ _; refine wpList_load_whole rfl 98 _ rfl w.heap.size rfl (prefL K l) _ 98 (0, 0) (by assumption) Tryd.underlying98 rfl (pref_info K l) ?_)
    refine (HCH.out _ HT2.out).mono ?_
    rintro e w3 ⟨rfl, hT3, hF3⟩
    have HX := hide (And.intro hT3 (Fr.after (fr_below HB2.out) hF3 (fun y hy => Or.inl hy) : Fr [ab, wb] w w3))
    clear hT3 hF3
    simp only [chainVal]
    go_wp2
    go_ret
    exact ⟨rfl, HX.out.1.ext (ext_alloc _ _), HX.out.2.alloc _⟩
  | some nn =>
    simp only [afterChain] at hR
    have hany : anyBelow (M q) 8 (fitK K l / 2 ^ (l - 8)) = false := by rw [byte_fit hK h8 (by omega)]; exact ((hI.root q).node _ hk0).1 h0
    obtain ⟨F', hGB, hnok, hwd, hBs, _⟩ := chain_facts hG (hI.tab q) (by omega) (by omega) (by omega) h8 hany hc
    have hwd2 := hwd (rt q + kbyte K 0) (hG.out _ (Or.inl (by omega)))
    have HPF := hide (fun (w : World) (h : TabAt w tb ab wb B) => putFirst_any B F' _ tb ab wb (kbyte K 0) f q nn w h hGB (by omega) hq hk0 (by omega) (by rw [hwd2]; exact (hI.root q).lt _ hk0) hnok R hR)
    clear h hq hwx h0 hc hI hany hGB hwd hwd2 hsd hR
    go_enter Tryd.func83, Tryd.ntmps83
    go_wp2_with (first | rw [← HWX.out] | (show wpList _ _ _ (⟨_, .load 98 _, _, _, _, _⟩ :: _) _ _; refine wpList_load_whole rfl 98 _ rfl w.heap.size rfl (prefL K l) _ 98 (0, 0) (by assumption) Tryd.underlying98 rfl (pref_info K l) ?_) | fail)
    refine (HDE.out _ HT.out).mono ?_
    rintro e w1 ⟨rfl, hb1⟩
    have bp1 := block_ext bp hb1
    have HT1 := hide (HT.out.ext hb1)
    have HB1 := hide (ext_trans HBX.out hb1)
    clear hb1
    go_wp2_with (show wpList _ _ _ (⟨_, .load 98 _, _, _, _, _⟩ :: _) _ _; refine wpList_load_whole rfl 98 _ rfl w.heap.size rfl (prefL K l) _ 98 (0, 0) (by assumption) Tryd.underlying98 rfl (pref_info K l) ?_)
    refine (HDP.out _).mono ?_
    rintro e w2 ⟨rfl, hb2⟩
    have bp2 := block_ext bp1 hb2
    have HT2 := hide (HT1.out.ext hb2)
    have HB2 := hide (ext_trans HB1.out hb2)
    clear hb2 bp1
    go_wp2_with (show wpList _ _ _ (⟨_, .load 98 _, _, _, _, _⟩ :: _) _ _; refine wpList_load_whole rfl 98 _ rfl w.heap.size rfl (prefL K l) _ 98 (0, 0) (by assumption) Tryd.underlying98 rfl (pref_info K l) ?_)
    refine (HCH.out _ HT2.out).mono ?_
    rintro e w3 ⟨rfl, hT3, hF3⟩
    have bp3 := hF3.at bp2 hpw
    have d0 := pref_at K l bp3 0 (by omega)
    have hl3 := lt_of_block bp3
    have HT3 := hide hT3
    have HF3 := hide (Fr.after (fr_below HB2.out) hF3 (fun y hy => Or.inl hy) : Fr [ab, wb] w w3)
    clear hT3 hF3 bp2
    simp only [chainVal]
    go_wp2_with fail
    refine (HPF.out _ (HT3.out.ext (ext_alloc _ _))).mono ?_
    rintro e w4 ⟨rfl, hT4, hF4⟩
    have HX := hide (And.intro hT4 (Fr.after (HF3.out.alloc _) hF4 (fun y hy => Or.inl hy) : Fr [ab, wb] w w4))
    clear hT4 hF4
    go_wp2
    go_ret
    exact ⟨rfl, HX.out.1, HX.out.2⟩
set_option maxHeartbeats 2000000 in
set_option maxRecDepth 10000 in
theorem put_hop (A : Ar) (F : Nat → List Nat) (M : Bool → Tab) (tb ab wb : Nat) (f : Int) (q : Bool) (K l hop y T d2 u : Nat) (w : World) (h : TabAt w tb ab wb A) (hI : Inv A F M) (hw : WOk A.word) (hq : q = decide (f = 6)) (hK : K < 2 ^ 136) (h8 : 8 ≤ l) (hl : l ≤ 8 + 4 * dp q) (hhop : hop < 65536) (h0 : A.word (rt q + kbyte K 0) % 65536 ≠ 0) (hr : reach A.word l (fitK K l) ((l - 8) / 4) 8 (A.word (rt q + kbyte K 0) % 65536) = (y, 8 + 4 * T)) (hT : T = (l - 8) / 4) (hO : OnF A F (M q) d2 (8 + 4 * T) u y) (R : Ar × Bool) (hR : putHopN l (fitK K l) hop (8 + 4 * T) A y = R) : Calls Tryd.prog 83 #[.pointer (some ⟨tb, 0, none⟩), .int .i64 f, .agg (prefL K l).toArray, .int .i64 (hop : Nat)] w fun e w' => e = .returned (.bool R.2) ∧ TabAt w' tb ab wb R.1 ∧ Fr [ab, wb] w w' := by
  have hd := dp_le q
  have hG := hI.good hw
  have hs := hG.sane (by omega)
  have HDE := hide (fun (w : World) (h : TabAt w tb ab wb A) => deepest_some A F M tb ab wb f q K l _ y T w h hs hI hq hK h8 hl rfl h0 hr)
  have HDP := hide (fun (w : World) => depth_any K l w (by omega) h8)
  rw [← hT] at HDP
  have HNU := hide (fun (w : World) => number_any K l w (by omega) h8)
  have hnp : numK K l = pnum l (fitK K l) (8 + 4 * T) := by rw [hT]; exact numK_pnum h8 (by omega)
  obtain ⟨nk, hnk⟩ : ∃ nk, nk = numK K l := ⟨_, rfl⟩
  rw [← hnk] at HNU hnp
  have HPH := hide (fun (w : World) (h : TabAt w tb ab wb A) => putHop_any A F (M q) 0 tb ab wb d2 (8 + 4 * T) u y l (fitK K l) hop y nk hop w h hG (by omega) hO rfl (by rw [hnp]) rfl (by omega) (by omega) hhop R hR)
  have hna := h.na
  have hnw := h.nw
  have hla := h.ar.la
  have hlw := h.ar.lw
  have hlt := h.lt
  obtain ⟨wx, hwx⟩ : ∃ wx, wx = w.alloc (.cells (prefL K l).toArray 98) := ⟨_, rfl⟩
  have bp : wx.heap[w.heap.size]? = some (.cells (prefL K l).toArray 98 (0, 0)) := by rw [hwx]; exact heap_alloc_new _ _
  have HBX : Below w.heap.size w wx := by rw [hwx]; exact ext_alloc _ _
  have HT := hide (h.ext HBX)
  have HBX := hide HBX
  have HWX := hide hwx
  have hsx := lt_of_block bp
  clear h hq hwx h0 hI hr hT hR hnk hnp hO
  go_enter Tryd.func83, Tryd.ntmps83
  go_wp2_with (first | rw [← HWX.out] | (show wpList _ _ _ (⟨_, .load 98 _, _, _, _, _⟩ :: _) _ _; refine wpList_load_whole rfl 98 _ rfl w.heap.size rfl (prefL K l) _ 98 (0, 0) (by assumption) Tryd.underlying98 rfl (pref_info K l) ?_) | fail)
  refine (HDE.out _ HT.out).mono ?_
  rintro e w1 ⟨rfl, hb1⟩
  have bp1 := block_ext bp hb1
  have HT1 := hide (HT.out.ext hb1)
  have HB1 := hide (ext_trans HBX.out hb1)
  clear hb1
  go_wp2_with (show wpList _ _ _ (⟨_, .load 98 _, _, _, _, _⟩ :: _) _ _; refine wpList_load_whole rfl 98 _ rfl w.heap.size rfl (prefL K l) _ 98 (0, 0) (by assumption) Tryd.underlying98 rfl (pref_info K l) ?_)
  refine (HDP.out _).mono ?_
  rintro e w2 ⟨rfl, hb2⟩
  have bp2 := block_ext bp1 hb2
  have HT2 := hide (HT1.out.ext hb2)
  have HB2 := hide (ext_trans HB1.out hb2)
  clear hb2 bp1
  go_wp2_with (show wpList _ _ _ (⟨_, .load 98 _, _, _, _, _⟩ :: _) _ _; refine wpList_load_whole rfl 98 _ rfl w.heap.size rfl (prefL K l) _ 98 (0, 0) (by assumption) Tryd.underlying98 rfl (pref_info K l) ?_)
  refine (HNU.out _).mono ?_
  rintro e w3 ⟨rfl, hb3⟩
  have HT3 := hide (HT2.out.ext hb3)
  have HB3 := hide (ext_trans HB2.out hb3)
  clear hb3 bp2
  go_wp2_with fail
  refine (HPH.out _ HT3.out).mono ?_
  rintro e w4 ⟨rfl, hT4, hF4⟩
  have HX := hide (And.intro hT4 (Fr.after (fr_below HB3.out) hF4 (fun y hy => Or.inl hy) : Fr [ab, wb] w w4))
  clear hT4 hF4
  go_wp2
  go_ret
  exact ⟨rfl, HX.out.1, HX.out.2⟩
set_option maxHeartbeats 4000000 in
set_option maxRecDepth 10000 in
theorem put_kid (A B : Ar) (F : Nat → List Nat) (M : Bool → Tab) (tb ab wb : Nat) (f : Int) (q : Bool) (K l hop y T d2 u : Nat) (w : World) (h : TabAt w tb ab wb A) (hI : Inv A F M) (hw : WOk A.word) (hq : q = decide (f = 6)) (hK : K < 2 ^ 136) (h8 : 8 ≤ l) (hl : l ≤ 8 + 4 * dp q) (hhop : hop < 65536) (h0 : A.word (rt q + kbyte K 0) % 65536 ≠ 0) (hr : reach A.word l (fitK K l) ((l - 8) / 4) 8 (A.word (rt q + kbyte K 0) % 65536) = (y, 8 + 4 * T)) (hT : T < (l - 8) / 4) (hO : OnF A F (M q) d2 (8 + 4 * T) u y) (hu : u = fitK K l / 2 ^ (l - (8 + 4 * T)))
    (hbit : (nodeAt A.word y).ways.testBit (fourV l (fitK K l) (8 + 4 * T)) = false) (o : Option NodeD) (hc : chainN l (fitK K l) hop ((l - (8 + 4 * T + 4)) / 4) (8 + 4 * T + 4) A = (B, o)) (R : Ar × Bool) (hR : afterChain B o (putKidN (fourV l (fitK K l) (8 + 4 * T)) B y) = R) : Calls Tryd.prog 83 #[.pointer (some ⟨tb, 0, none⟩), .int .i64 f, .agg (prefL K l).toArray, .int .i64 (hop : Nat)] w fun e w' => e = .returned (.bool R.2) ∧ TabAt w' tb ab wb R.1 ∧ Fr [ab, wb] w w' := by
  have hd := dp_le q
  have hG := hI.good hw
  have hs := hG.sane (by omega)
  have hylt := hO.on.lt
  have HDE := hide (fun (w : World) (h : TabAt w tb ab wb A) => deepest_some A F M tb ab wb f q K l _ y T w h hs hI hq hK h8 hl rfl h0 hr)
  have HDP := hide (fun (w : World) => depth_any K l w (by omega) h8)
  have HCH := hide (fun (w : World) (h : TabAt w tb ab wb A) => chain_any A B F 0 tb ab wb K l (T + 1) ((l - (8 + 4 * T + 4)) / 4) hop ((T : Int) + 1) hop o w h hG (by omega) h8 (by omega) (by omega) rfl (by omega) hhop hc)
  have hfv : fourV l (fitK K l) (8 + 4 * T) = kfour K T := by rw [fourV_key (by omega) (by omega), kfour_fit]
  have hf16 := kfour_lt K T
  obtain ⟨s, hsd⟩ : ∃ s, s = (l - 8) / 4 := ⟨_, rfl⟩
  rw [← hsd] at HDP hT
  have hna := h.na
  have hnw := h.nw
  have hla := h.ar.la
  have hlw := h.ar.lw
  have hlt := h.lt
  obtain ⟨wx, hwx⟩ : ∃ wx, wx = w.alloc (.cells (prefL K l).toArray 98) := ⟨_, rfl⟩
  have bp : wx.heap[w.heap.size]? = some (.cells (prefL K l).toArray 98 (0, 0)) := by rw [hwx]; exact heap_alloc_new _ _
  have HBX : Below w.heap.size w wx := by rw [hwx]; exact ext_alloc _ _
  have HT := hide (h.ext HBX)
  have HBX := hide HBX
  have HWX := hide hwx
  have hsx := lt_of_block bp
  have hpw : w.heap.size ∉ [ab, wb] := by simp; omega
  have htw : tb ∉ [ab, wb] := by simp; omega
  have hTs : (T : Int) < s := by omega
  have hs30 : (s : Int) ≤ 30 := by omega
  have hT30 : T ≤ 30 := by omega
  cases o with
  | none =>
    simp only [afterChain] at hR
    subst hR
    clear h hq hwx h0 hc hI hsd hr hO hbit hfv hu
    go_enter Tryd.func83, Tryd.ntmps83
    go_wp2_with (first | rw [← HWX.out] | (show wpList _ _ _ (⟨_, .load 98 _, _, _, _, _⟩ :: _) _ _; refine wpList_load_whole rfl 98 _ rfl w.heap.size rfl (prefL K l) _ 98 (0, 0) (by assumption) Tryd.underlying98 rfl (pref_info K l) ?_) | fail)
    refine (HDE.out _ HT.out).mono ?_
    rintro e w1 ⟨rfl, hb1⟩
    have bp1 := block_ext bp hb1
    have HT1 := hide (HT.out.ext hb1)
    have HB1 := hide (ext_trans HBX.out hb1)
    clear hb1
    go_wp2_with (show wpList _ _ _ (⟨_, .load 98 _, _, _, _, _⟩ :: _) _ _; refine wpList_load_whole rfl 98 _ rfl w.heap.size rfl (prefL K l) _ 98 (0, 0) (by assumption) Tryd.underlying98 rfl (pref_info K l) ?_)
    refine (HDP.out _).mono ?_
    rintro e w2 ⟨rfl, hb2⟩
    have bp2 := block_ext bp1 hb2
    have HT2 := hide (HT1.out.ext hb2)
    have HB2 := hide (ext_trans HB1.out hb2)
    clear hb2 bp1
    go_wp2_with (show wpList _ _ _ (⟨_, .load 98 _, _, _, _, _⟩ :: _) _ _; refine wpList_load_whole rfl 98 _ rfl w.heap.size rfl (prefL K l) _ 98 (0, 0) (by assumption) Tryd.underlying98 rfl (pref_info K l) ?_)
    refine (HCH.out _ HT2.out).mono ?_
    rintro e w3 ⟨rfl, hT3, hF3⟩
    have HX := hide (And.intro hT3 (Fr.after (fr_below HB2.out) hF3 (fun y hy => Or.inl hy) : Fr [ab, wb] w w3))
    clear hT3 hF3
    simp only [chainVal]
    go_wp2
    go_ret
    exact ⟨rfl, HX.out.1.ext (ext_alloc _ _), HX.out.2.alloc _⟩
  | some nn =>
    simp only [afterChain] at hR
    have hany : anyBelow (M q) (8 + 4 * T + 4) (fitK K l / 2 ^ (l - (8 + 4 * T + 4))) = false := by
      have hnext := fourV_next (l := l) (v := fitK K l) (len := 8 + 4 * T) (by omega) rfl
      have hway := hO.rep.node.way _ (fourV_lt l (fitK K l) (8 + 4 * T))
      rw [hnext, ← hu, ← hway]
      exact hbit
    obtain ⟨F', hGB, hnok, hwd, hBs, hOB⟩ := chain_facts hG (hI.tab q) (by omega) (by omega) (by omega) (by omega) hany hc
    obtain ⟨hO2, hen⟩ := hOB _ _ _ _ _ hO
    have HPC := hide (fun (w : World) (h : TabAt w tb ab wb B) => putChild_any B F' (M q) _ tb ab wb d2 (8 + 4 * T) u y (kfour K T) nn y (kfour K T) w h hGB (by omega) hO2 rfl rfl hf16 (by rw [hen, ← hfv]; exact hbit) hnok R (by rw [← hfv]; exact hR))
    have hy0 : ((y : Int) == 0) = false := by simp; omega
    have HFO := hide (fun (w : World) => four_any K T T w (by omega) rfl)
    clear h hq hwx h0 hc hI hany hGB hwd hsd hR hO hO2 hen hOB hfv hr hbit hu
    go_enter Tryd.func83, Tryd.ntmps83
    go_wp2_with (first | rw [← HWX.out] | (show wpList _ _ _ (⟨_, .load 98 _, _, _, _, _⟩ :: _) _ _; refine wpList_load_whole rfl 98 _ rfl w.heap.size rfl (prefL K l) _ 98 (0, 0) (by assumption) Tryd.underlying98 rfl (pref_info K l) ?_) | fail)
    refine (HDE.out _ HT.out).mono ?_
    rintro e w1 ⟨rfl, hb1⟩
    have bp1 := block_ext bp hb1
    have HT1 := hide (HT.out.ext hb1)
    have HB1 := hide (ext_trans HBX.out hb1)
    clear hb1
    go_wp2_with (show wpList _ _ _ (⟨_, .load 98 _, _, _, _, _⟩ :: _) _ _; refine wpList_load_whole rfl 98 _ rfl w.heap.size rfl (prefL K l) _ 98 (0, 0) (by assumption) Tryd.underlying98 rfl (pref_info K l) ?_)
    refine (HDP.out _).mono ?_
    rintro e w2 ⟨rfl, hb2⟩
    have bp2 := block_ext bp1 hb2
    have HT2 := hide (HT1.out.ext hb2)
    have HB2 := hide (ext_trans HB1.out hb2)
    clear hb2 bp1
    go_wp2_with (show wpList _ _ _ (⟨_, .load 98 _, _, _, _, _⟩ :: _) _ _; refine wpList_load_whole rfl 98 _ rfl w.heap.size rfl (prefL K l) _ 98 (0, 0) (by assumption) Tryd.underlying98 rfl (pref_info K l) ?_)
    refine (HCH.out _ HT2.out).mono ?_
    rintro e w3 ⟨rfl, hT3, hF3⟩
    have bp3 := hF3.at bp2 hpw
    have HF3 := hide (Fr.after (fr_below HB2.out) hF3 (fun y hy => Or.inl hy) : Fr [ab, wb] w w3)
    obtain ⟨wq, hwq⟩ : ∃ wq, wq = w3.alloc (.cells #[.int .u16 nn.routes, .int .u16 nn.ways, .int .i64 nn.hops, .int .i64 nn.children] 116) := ⟨_, rfl⟩
    have hBq : Below w3.heap.size w3 wq := by rw [hwq]; exact ext_alloc _ _
    obtain ⟨nb, hnb⟩ : ∃ nb, nb = w3.heap.size := ⟨_, rfl⟩
    have bn : wq.heap[nb]? = some (.cells #[.int .u16 nn.routes, .int .u16 nn.ways, .int .i64 nn.hops, .int .i64 nn.children] 116 (0, 0)) := by rw [hwq, hnb]; exact heap_alloc_new _ _
    have bpq := block_ext bp3 hBq
    obtain ⟨pb, hpb⟩ : ∃ pb, pb = w.heap.size := ⟨_, rfl⟩
    rw [← hpb] at bpq hpw
    have HTW := hide (hT3.ext hBq)
    have HFQ := hide (Fr.after HF3.out (fr_below (S := []) hBq) (fun y hy => by cases hy) : Fr [ab, wb] w wq)
    have hl3 := lt_of_block bp3
    have hnbw : nb ∉ [ab, wb] := by simp; omega
    have HWQ := hide hwq
    have HNB := hide hnb
    have HPB := hide hpb
    have hlq := lt_of_block bn
    have hlpq := lt_of_block bpq
    clear hT3 hF3 bp2 bp3 hwq hBq hnb hpb
    have KS : ∀ w', Fr [ab, wb] wq w' → (fun w' : World => Fr [ab, wb] wq w' ∧ w'.rangeAt pb 0 (keyL K) ∧ w'.cell? ⟨nb, 0, none⟩ = some (.int .u16 nn.routes) ∧ w'.cell? ⟨nb, 1, none⟩ = some (.int .u16 nn.ways) ∧ w'.cell? ⟨nb, 2, none⟩ = some (.int .i64 nn.hops) ∧ w'.cell? ⟨nb, 3, none⟩ = some (.int .i64 nn.children)) w' := fun w' hf => ⟨hf, range_pref K l (hf.at bpq hpw), cells4n (hf.at bn hnbw)⟩
    simp only [] at KS
    have hu := Tryd.underlying96
    have hi := key_info K
    simp only [chainVal]
    go_wp2_with fail
    rw [← HWQ.out, ← HNB.out, ← HPB.out]
    go_region_held3 (fun w' : World => Fr [ab, wb] wq w' ∧ w'.rangeAt pb 0 (keyL K) ∧ w'.cell? ⟨nb, 0, none⟩ = some (.int .u16 nn.routes) ∧ w'.cell? ⟨nb, 1, none⟩ = some (.int .u16 nn.ways) ∧ w'.cell? ⟨nb, 2, none⟩ = some (.int .i64 nn.hops) ∧ w'.cell? ⟨nb, 3, none⟩ = some (.int .i64 nn.children)) (with_reducible (first | assumption | exact KS _ (fr_below (drew_ext wq)) | exact KS _ (by assumption) | exact KS _ (fr_below (by assumption)) | exact KS _ (fr_below (ext_trans (by assumption) (ext_alloc _ _))) | exact KS _ (fr_below (Below.drew (ext_alloc _ _))) | exact KS _ (Fr.alloc (by assumption) _) | (refine KS _ (Fr.setCell (Fr.setCell (by assumption) (Or.inr ?_) _) (Or.inr ?_) _) <;> first | assumption | exact Nat.le_refl _))) (first | (go_at_call 99; refine (HFO.out _).mono ?_; rintro e w5 ⟨rfl, hb5⟩; have S5 := (ext_trans (drew_ext wq) hb5 : Below wq.heap.size wq w5); clear hb5) | (go_at_call 98; refine (HPC.out _ (HTW.out.ext S5)).mono ?_; rintro e w6 ⟨rfl, hT6, hF6⟩; have F6 := (Fr.after (fr_below S5) hF6 (fun y hy => Or.inl hy) : Fr [ab, wb] wq w6); clear hF6))
    have HX := hide (And.intro hT6 (Fr.after HFQ.out F6 (fun y hy => Or.inl hy) : Fr [ab, wb] w w6))
    clear hT6 F6 KS
    go_wp2
    go_ret
    exact ⟨rfl, HX.out.1, HX.out.2⟩
/-- put does what putRoot says -/
theorem put_any (A : Ar) (F : Nat → List Nat) (M : Bool → Tab) (tb ab wb : Nat) (f : Int) (q : Bool) (K l hop : Nat) (w : World) (h : TabAt w tb ab wb A) (hI : Inv A F M) (hw : WOk A.word) (hq : q = decide (f = 6)) (hK : K < 2 ^ 136) (h8 : 8 ≤ l) (hl : l ≤ 8 + 4 * dp q) (hhop : hop < 65536) (R : Ar × Bool) (hR : putRoot A q l (fitK K l) hop = R) : Calls Tryd.prog 83 #[.pointer (some ⟨tb, 0, none⟩), .int .i64 f, .agg (prefL K l).toArray, .int .i64 (hop : Nat)] w fun e w' => e = .returned (.bool R.2) ∧ TabAt w' tb ab wb R.1 ∧ Fr [ab, wb] w w' := by
  have hd := dp_le q
  have hbf := byte_fit hK h8 (show l ≤ 128 by omega)
  unfold putRoot at hR
  rw [hbf] at hR
  split at hR
  · rename_i h0
    cases hc : chainN l (fitK K l) hop ((l - 8) / 4) 8 A with
    | mk B o =>
      rw [hc] at hR
      refine put_none A B F M tb ab wb f q K l hop w h hI hw hq hK h8 hl hhop h0 o hc R ?_
      cases o with
      | none => exact hR
      | some n => exact hR
  · rename_i h0
    obtain ⟨t, d2, y, hr, ht1, ht2, hO, hbit⟩ := (OnF.root hI q (kbyte_lt K 0) h0).reach h8 hl hbf
    unfold putTree at hR
    rw [hr] at hR
    simp only at hR
    split at hR
    · exact put_hop A F M tb ab wb f q K l hop y t d2 _ w h hI hw hq hK h8 hl hhop h0 hr (by omega) hO R hR
    · cases hc : chainN l (fitK K l) hop ((l - (8 + 4 * t + 4)) / 4) (8 + 4 * t + 4) A with
      | mk B o =>
        rw [hc] at hR
        refine put_kid A B F M tb ab wb f q K l hop y t d2 _ w h hI hw hq hK h8 hl hhop h0 hr (by omega) hO rfl (hbit (by omega)) o hc R ?_
        cases o with
        | none => exact hR
        | some n => exact hR
end Go.Proofs.YtnapboelfimaaaaDoor
/- An arena in which a put found no room. -/
namespace Go.Proofs.YtnapboelfimaaaaDoor
theorem putKid_no {A B : Ar} {F : Nat → List Nat} {m f y : Nat} {child : NodeD} (hA : Good A F m) (hf : f < 16) (hb : (nodeAt A.word y).ways.testBit f = false) (e : putKidN f A y child = (B, false)) : B = A := by
  have h16 := ones16_room (x := (nodeAt A.word y).ways) hf hb
  unfold putKidN at e
  cases eg : A.grow (nodeAt A.word y).children (2 * ones 16 (nodeAt A.word y).ways) (2 * ones f (nodeAt A.word y).ways) 2 with
  | mk C o =>
    rw [eg] at e
    cases o with
    | none =>
      have := grow_none hA (by omega) (by omega) eg
      simp only [Prod.mk.injEq] at e
      rw [← e.1, this]
    | some p => simp at e
theorem putHop_none {A B : Ar} {F : Nat → List Nat} {m l v h len y : Nat} (hA : Good A F m) (h1 : len ≤ l) (h3 : l < len + 4) (e : putHopN l v h len A y = (B, false)) : B = A := by
  have hp := pnum_lt (v := v) h1 (show l ≤ len + 3 by omega)
  unfold putHopN at e
  split at e
  · simp at e
  · rename_i hb
    have hb' : (nodeAt A.word y).routes.testBit (pnum l v len) = false := by simpa using hb
    have h16 := ones16_room (x := (nodeAt A.word y).routes) (f := pnum l v len) (by omega) hb'
    cases eg : A.grow (nodeAt A.word y).hops (ones 16 (nodeAt A.word y).routes) (ones (pnum l v len) (nodeAt A.word y).routes) 1 with
    | mk C o =>
      rw [eg] at e
      cases o with
      | none =>
        have := grow_none hA (by omega) (by omega) eg
        simp only [Prod.mk.injEq] at e
        rw [← e.1, this]
      | some p => simp at e
theorem putRoot_good {A : Ar} {F : Nat → List Nat} {M : Bool → Tab} (h : Inv A F M) (hw : WOk A.word) (q : Bool) {l v x : Nat} (h1 : 8 ≤ l) (h3 : l ≤ 8 + 4 * dp q) (hv : v < 2 ^ l) (hx : x < 4294967296) (hf : (putRoot A q l v x).2 = false) : ∃ F', Good (putRoot A q l v x).1 F' 200 := by
  have hb : v / 2 ^ (l - 8) < 256 := by
    rw [Nat.div_lt_iff_lt_mul (Nat.two_pow_pos _)]
    have : 256 * 2 ^ (l - 8) = 2 ^ l := by rw [show (256 : Nat) = 2 ^ 8 from rfl, ← Nat.pow_add]; congr 1; omega
    omega
  have hg := h.good hw
  have hd := dp_le q
  unfold putRoot at hf ⊢
  split at hf
  · rename_i h0
    rw [if_pos h0]
    have hp : pnum l v (8 + 4 * ((l - 8) / 4)) < 15 := pnum_lt (by omega) (by omega)
    obtain ⟨⟨F2, k1⟩, k2⟩ := chainN_good (l := l) (v := v) (h := x) (s := (l - 8) / 4) (len := 8) hg hx hp
    cases ec : chainN l v x ((l - 8) / 4) 8 A with
    | mk B o =>
      rw [ec] at k1 k2 hf
      cases o with
      | none => exact ⟨F2, k1.mono (by omega)⟩
      | some n =>
        simp only [] at hf ⊢
        cases et : B.take 2 with
        | mk C o =>
          rw [et] at hf
          cases o with
          | none =>
            have := good_none k1 (by omega) (by omega) et
            subst this
            exact ⟨F2, k1.mono (by omega)⟩
          | some y => simp at hf
  · rename_i h0
    rw [if_neg h0]
    have hO := OnF.root h q hb h0
    obtain ⟨t, d2, y, e, q1, q2, O, q5⟩ := hO.reach h1 h3 rfl
    unfold putTree at hf ⊢
    rw [e] at hf ⊢
    simp only [] at hf ⊢
    split at hf
    · rename_i hlt
      rw [if_pos hlt]
      cases eh : putHopN l v x (8 + 4 * t) A y with
      | mk B r =>
        rw [eh] at hf
        simp only at hf
        subst hf
        have := putHop_none hg (by omega) hlt eh
        subst this
        exact ⟨F, hg.mono (by omega)⟩
    · rename_i hge
      rw [if_neg hge]
      have hp : pnum l v (8 + 4 * t + 4 + 4 * ((l - (8 + 4 * t + 4)) / 4)) < 15 := pnum_lt (by omega) (by omega)
      have hbit := q5 (by omega)
      have hnext := fourV_next (l := l) (v := v) (len := 8 + 4 * t) (by omega) rfl
      have hany : anyBelow (M q) (8 + 4 * t + 4) (v / 2 ^ (l - (8 + 4 * t + 4))) = false := by
        have hway := O.rep.node.way _ (fourV_lt l v (8 + 4 * t))
        rw [hnext, ← hway]
        exact hbit
      obtain ⟨⟨F2, k1⟩, k2⟩ := chainN_good (l := l) (v := v) (h := x) (s := (l - (8 + 4 * t + 4)) / 4) (len := 8 + 4 * t + 4) hg hx hp
      cases ec : chainN l v x ((l - (8 + 4 * t + 4)) / 4) (8 + 4 * t + 4) A with
      | mk B o =>
        rw [ec] at k1 k2 hf
        cases o with
        | none => exact ⟨F2, k1.mono (by omega)⟩
        | some n =>
          simp only [] at hf ⊢
          obtain ⟨F', g', _, _, _, hOB⟩ := chain_facts hg (h.tab q) (by omega) hx (by omega) (by omega) hany ec
          obtain ⟨_, hen⟩ := hOB _ _ _ _ _ O
          cases ek : putKidN (fourV l v (8 + 4 * t)) B y n with
          | mk C r =>
            rw [ek] at hf
            simp only at hf
            subst hf
            have := putKid_no g' (fourV_lt _ _ _) (by rw [hen]; exact hbit) ek
            subst this
            exact ⟨F', g'.mono (by omega)⟩
end Go.Proofs.YtnapboelfimaaaaDoor
