/- No2, No3, DmL: parts of the proof, one behind the other. -/
import Derived.Test.YtnapboelfimaaaaDoorK14
import Derived.Test.YtnapboelfimaaaaDoorK37
/- dump.node: what is done at each way; and the whole. -/
namespace Go.Proofs.YtnapboelfimaaaaDoor
open Go.RowKit Go.Deep
set_option maxHeartbeats 2000000 in
set_option maxRecDepth 10000 in
theorem neach_any (ab rb : Nat) (f : Int) (n : Nat) (w0 : World) (D : Nat) (hDm : D ≤ 30) (v : Nat) (hv : v < 16) (nn : NodeD) (hok : nn.ok) (K : Nat) (hK : K % 2 ^ (128 - 4 * D) = 0) (nb kb db pb : Nat) (L E : List (Nat × Nat × Nat)) (h0 : nn.ways.testBit v = false → E = []) (w : World) (h : DumpAt ab rb f n w0 L w) (hB : Boxes nn K D nb kb db pb rb w)
    (hIH : ∀ w : World, nn.ways.testBit v = true → DumpAt ab rb f n w0 L w → Calls Tryd.prog 45 #[.pointer (some ⟨rb, 0, none⟩), .int .i64 ((nn.children + 2 * ones v nn.ways : Nat) : Int), .int .i64 ((D + 1 : Nat) : Int), .agg (keyL (withK K D v)).toArray] w fun e w' => e = .returned (.tuple #[]) ∧ DumpAt ab rb f n w0 (L ++ E) w' ∧ DFr rb w w') :
    Calls Tryd.prog 56 #[.int .i64 (v : Int), .pointer (some ⟨nb, 0, none⟩), .pointer (some ⟨pb, 0, none⟩), .pointer (some ⟨db, 0, none⟩), .pointer (some ⟨kb, 0, none⟩)] w fun e w' => e = .returned (.tuple #[]) ∧ DumpAt ab rb f n w0 (L ++ E) w' ∧ DFr rb w w' := by
  obtain ⟨m0, m1, m2, m3, _, _, _, _⟩ := cells4 hB.node
  have hln := lt_of_block hB.node
  have HH := hide h
  have HB := hide hB
  have HIH := hide hIH
  clear h hB hIH
  go_enter Tryd.func56, Tryd.ntmps56
  go_wp2_with fail
  refine (hasWay_any nn v _ hok (by omega)).mono ?_
  rintro e wc ⟨rfl, hb6⟩
  have HD6 := hide (And.intro (HH.out.ext hb6) (And.intro (DFr.ext hb6 : DFr rb w wc) (HB.out.ext hb6)))
  clear hb6
  cases hbit : nn.ways.testBit v with
  | false =>
    have HE := hide (h0 hbit)
    clear h0 hbit
    go_wp2
    go_end0
    rw [HE.out, List.append_nil]
    exact ⟨rfl, HD6.out.1, HD6.out.2.1⟩
  | true =>
    have HC := hide (fun (w : World) (hd : DumpAt ab rb f n w0 L w) => HIH.out w hbit hd)
    obtain ⟨K2, hK2⟩ : ∃ K2, K2 = withK K D v := ⟨_, rfl⟩
    obtain ⟨ch, hch⟩ : ∃ ch, ch = nn.children + 2 * ones v nn.ways := ⟨_, rfl⟩
    obtain ⟨D1, hD1⟩ : ∃ D1, D1 = D + 1 := ⟨_, rfl⟩
    have HWI := hide (fun (w : World) => with_any K D v w (by omega) hv hK)
    have HCP := hide (fun (w : World) => childPlace_any nn v w hok (by omega))
    rw [← hK2] at HWI HC
    rw [← hch] at HCP HC
    rw [← hD1] at HC
    have E1 : IntKind.i64.wrap ((D : Int) + 1) = (D1 : Int) := by rw [IntKind.wrap_i64]; omega
    have hBx := HD6.out.2.2
    have hDc := HD6.out.1
    have KS : ∀ w', DFr rb wc w' → (fun w' : World => w'.cell? ⟨pb, 0, none⟩ = some (.pointer (some ⟨rb, 0, none⟩)) ∧ w'.rangeAt kb 0 (keyL K) ∧ w'.cell? ⟨db, 0, none⟩ = some (.int .i64 (D : Int)) ∧ w'.cell? ⟨nb, 0, none⟩ = some (.int .u16 nn.routes) ∧ w'.cell? ⟨nb, 1, none⟩ = some (.int .u16 nn.ways) ∧ w'.cell? ⟨nb, 2, none⟩ = some (.int .i64 nn.hops) ∧ w'.cell? ⟨nb, 3, none⟩ = some (.int .i64 nn.children)) w' := fun w' hf => by
      obtain ⟨kc, rc, hrc, _⟩ := hDc.blk
      have b1 := hf.block _ _ hBx.dump (ty_ne hBx.dump hrc (by decide)) (fun _ e => by cases e)
      have b2 := hf.block _ _ hBx.key (ty_ne hBx.key hrc (by decide)) (fun _ e => by cases e)
      have b3 := hf.block _ _ hBx.node (ty_ne hBx.node hrc (by decide)) (fun _ e => by cases e)
      have b4 := hf.block _ _ hBx.depth (ty_ne hBx.depth hrc (by decide)) (fun _ e => by cases e)
      obtain ⟨c0, c1, c2, c3, _, _, _, _⟩ := cells4 b3
      exact ⟨by rw [cell_at b1]; rfl, key_range b2, by rw [cell_at b4]; rfl, c0, c1, c2, c3⟩
    simp only [] at KS
    clear hBx hDc hK2 hch hD1 hbit m0 m1 m2 m3 h0
    go_wp2_with fail
    refine wp_region_held_drew (S := (fun w' : World => w'.cell? ⟨pb, 0, none⟩ = some (.pointer (some ⟨rb, 0, none⟩)) ∧ w'.rangeAt kb 0 (keyL K) ∧ w'.cell? ⟨db, 0, none⟩ = some (.int .i64 (D : Int)) ∧ w'.cell? ⟨nb, 0, none⟩ = some (.int .u16 nn.routes) ∧ w'.cell? ⟨nb, 1, none⟩ = some (.int .u16 nn.ways) ∧ w'.cell? ⟨nb, 2, none⟩ = some (.int .i64 nn.hops) ∧ w'.cell? ⟨nb, 3, none⟩ = some (.int .i64 nn.children))) (by kernel_rfl) (KS _ (DFr.ext (drew_ext wc))) (fun hHeld => ?_)
    (refine wpAnyH_take (i := 0) (oi := _) (v := ?_) rfl (by kernel_rfl) (by kernel_rfl) (by kernel_rfl) (fun _ _ _ h => h) (Or.inl ⟨by rfl, ?_⟩) (by assumption) ?_; rotate_left; (intro w hSw; (try dsimp only at hSw); go_simp; try with_reducible rfl); (try simp only [Act.put]); (try simp only [List.getElem_toArray]); (try simp only [List.getElem_cons_succ]); (try simp only [List.getElem_cons_zero]); (try simp only [List.setIfInBounds_toArray]))
    (refine wpAnyH_take (i := 1) (oi := _) (v := ?_) rfl (by kernel_rfl) (by kernel_rfl) (by kernel_rfl) (fun _ _ _ h => h) (Or.inl ⟨by rfl, ?_⟩) (by assumption) ?_; rotate_left; (intro w hSw; (try dsimp only at hSw); go_simp; try with_reducible rfl); (try simp only [Act.put]); (try simp only [List.getElem_toArray]); (try simp only [List.getElem_cons_succ]); (try simp only [List.getElem_cons_zero]); (try simp only [List.setIfInBounds_toArray]))
    (refine wpAnyH_take (i := 2) (oi := _) (v := ?_) rfl (by kernel_rfl) (by kernel_rfl) (by kernel_rfl) (fun _ _ _ h => h) (Or.inl ⟨by rfl, ?_⟩) (by assumption) ?_; rotate_left; (intro w hSw; (try dsimp only at hSw); go_simp; try with_reducible rfl); (try simp only [Act.put]); (try simp only [List.getElem_toArray]); (try simp only [List.getElem_cons_succ]); (try simp only [List.getElem_cons_zero]); (try simp only [List.setIfInBounds_toArray]))
    (refine wpAnyH_take (i := 4) (oi := _) (v := ?_) rfl (by kernel_rfl) (by kernel_rfl) (by kernel_rfl) (fun _ _ _ h => h) (Or.inl ⟨by rfl, ?_⟩) (by assumption) ?_; rotate_left; (intro w hSw; (try dsimp only at hSw); go_simp; try with_reducible rfl); (try simp only [Act.put]); (try simp only [List.getElem_toArray]); (try simp only [List.getElem_cons_succ]); (try simp only [List.getElem_cons_zero]); (try simp only [List.setIfInBounds_toArray]))
    (refine wpAnyH_take (i := 5) (oi := _) (v := ?_) rfl (by kernel_rfl) (by kernel_rfl) (by kernel_rfl) (fun _ _ _ h => h) (Or.inl ⟨by rfl, ?_⟩) (by assumption) ?_; rotate_left; (intro w hSw; (try dsimp only at hSw); go_simp; try with_reducible rfl); (try simp only [Act.put]); (try simp only [List.getElem_toArray]); (try simp only [List.getElem_cons_succ]); (try simp only [List.getElem_cons_zero]); (try simp only [List.setIfInBounds_toArray]))
    (refine wpAnyH_take (i := 6) (oi := _) (v := _) rfl (by kernel_rfl) (by kernel_rfl) (by kernel_rfl) (fun _ _ _ h => h) (yieldsIf_load_mid (by rfl) _ _ rfl _ _ rfl (keyL K) _ (fun w hSw => hSw.2.1) Tryd.underlying96 rfl (key_info K)) (by assumption) ?_; (try simp only [Act.put]); (try simp only [List.getElem_toArray]); (try simp only [List.getElem_cons_succ]); (try simp only [List.getElem_cons_zero]); (try simp only [List.setIfInBounds_toArray]))
    (refine wpAnyH_take (i := 7) (oi := _) (v := ?_) rfl (by kernel_rfl) (by kernel_rfl) (by kernel_rfl) (fun _ _ _ h => h) (Or.inl ⟨by rfl, ?_⟩) (by assumption) ?_; rotate_left; (intro w hSw; (try dsimp only at hSw); go_simp; try with_reducible rfl); (try simp only [Act.put]); (try simp only [List.getElem_toArray]); (try simp only [List.getElem_cons_succ]); (try simp only [List.getElem_cons_zero]); (try simp only [List.setIfInBounds_toArray]))
    (refine wpAnyH_take (i := 8) (oi := _) (v := ?_) rfl (by kernel_rfl) (by kernel_rfl) (by kernel_rfl) (fun _ _ _ h => h) (Or.inl ⟨by rfl, ?_⟩) (by assumption) ?_; rotate_left; (intro w hSw; (try dsimp only at hSw); go_simp; try with_reducible rfl); (try simp only [Act.put]); (try simp only [List.getElem_toArray]); (try simp only [List.getElem_cons_succ]); (try simp only [List.getElem_cons_zero]); (try simp only [List.setIfInBounds_toArray]))
    ((refine wpAnyH_ready (rs := [3]) (by kernel_rfl) (by simp) ?_); (refine AllReadyH.cons (o := _) rfl (fun KK hK => ?_) ?_); rotate_left; exact AllReadyH.nil)
    go_simp
    go_at_call 58
    refine (HCP.out _).mono ?_
    rintro e w5 ⟨rfl, hb5⟩
    have S5 := (ext_trans (drew_ext wc) hb5 : Below wc.heap.size wc w5)
    clear hb5
    go_wp2_with fail
    (refine hK.out _ _ (KS _ (DFr.ext S5)) (fun hHeld => ?_); clear hK KK; (try simp only [Act.put]); (try simp only [List.getElem_toArray]); (try simp only [List.getElem_cons_succ]); (try simp only [List.getElem_cons_zero]); (try simp only [List.setIfInBounds_toArray]))
    ((refine wpAnyH_ready (rs := [9]) (by kernel_rfl) (by simp) ?_); (refine AllReadyH.cons (o := _) rfl (fun KK hK => ?_) ?_); rotate_left; exact AllReadyH.nil)
    go_simp
    go_at_call 54
    refine (HWI.out _).mono ?_
    rintro e w6 ⟨rfl, hb6⟩
    have S6 := (ext_trans S5 hb6 : Below wc.heap.size wc w6)
    clear hb6
    go_wp2_with fail
    (refine hK.out _ _ (KS _ (DFr.ext S6)) (fun hHeld => ?_); clear hK KK; (try simp only [Act.put]); (try simp only [List.getElem_toArray]); (try simp only [List.getElem_cons_succ]); (try simp only [List.getElem_cons_zero]); (try simp only [List.setIfInBounds_toArray]))
    ((refine wpAnyH_ready (rs := [10]) (by kernel_rfl) (by simp) ?_); (refine AllReadyH.cons (o := _) rfl (fun KK hK => ?_) ?_); rotate_left; exact AllReadyH.nil)
    go_simp
    go_at_call 45
    refine (HC.out _ (HD6.out.1.ext S6)).mono ?_
    rintro e w7 ⟨rfl, hD7, hF7⟩
    have F7 : DFr rb wc w7 := (DFr.ext S6).trans hF7
    have HE := hide (And.intro hD7 (HD6.out.2.1.trans F7))
    clear hD7 hF7
    go_wp2_with fail
    (refine hK.out _ _ (KS _ F7) (fun hHeld => ?_); clear hK KK; (try simp only [Act.put]); (try simp only [List.getElem_toArray]); (try simp only [List.getElem_cons_succ]); (try simp only [List.getElem_cons_zero]); (try simp only [List.setIfInBounds_toArray]))
    (refine wpAnyH_done (by kernel_rfl) ?_ _)
    go_wp2_with fail
    go_end0
    exact ⟨rfl, HE.out.1, HE.out.2⟩
end Go.Proofs.YtnapboelfimaaaaDoor
/- dump.node: a node and all below it. -/
namespace Go.Proofs.YtnapboelfimaaaaDoor
open Go.RowKit Go.Deep
set_option maxHeartbeats 2000000 in
set_option maxRecDepth 10000 in
theorem dnode_step (A : Ar) (M : Tab) (ab wb rb : Nat) (f : Int) (n : Nat) (w0 : World) (hD : DumpOk A ab wb rb w0) (hs : Sane A) (hrb : rb < w0.heap.size) (hfn : famBytes f = n) (d D u x : Nat) (hO : On A M d (8 + 4 * D) u x) (hDm : D ≤ 30) (nn : NodeD) (hnn : nn = nodeAt A.word x) (K : Nat) (hK : K = u * 2 ^ (128 - 4 * D)) (L : List (Nat × Nat × Nat)) (hL : (L ++ dumpN M d (8 + 4 * D) u).length ≤ 4194304) (w : World) (h : DumpAt ab rb f n w0 L w)
    (h0 : ∀ v, v < 16 → nn.ways.testBit v = false → geN M (8 + 4 * D) u d v = [])
    (hIH : ∀ (v : Nat) (L : List (Nat × Nat × Nat)) (w : World), v < 16 → nn.ways.testBit v = true → DumpAt ab rb f n w0 L w → (L ++ geN M (8 + 4 * D) u d v).length ≤ 4194304 → Calls Tryd.prog 45 #[.pointer (some ⟨rb, 0, none⟩), .int .i64 ((nn.children + 2 * ones v nn.ways : Nat) : Int), .int .i64 ((D + 1 : Nat) : Int), .agg (keyL (withK K D v)).toArray] w fun e w' => e = .returned (.tuple #[]) ∧ DumpAt ab rb f n w0 (L ++ geN M (8 + 4 * D) u d v) w' ∧ DFr rb w w') :
    Calls Tryd.prog 45 #[.pointer (some ⟨rb, 0, none⟩), .int .i64 (x : Int), .int .i64 (D : Int), .agg (keyL K).toArray] w fun e w' => e = .returned (.tuple #[]) ∧ DumpAt ab rb f n w0 (L ++ dumpN M d (8 + 4 * D) u) w' ∧ DFr rb w w' := by
  obtain ⟨k, rs, hr, hown⟩ := h.blk
  have hA := hD.arAt h.fr
  have hlr := lt_of_block hr
  have hxs := hO.lt.2
  obtain ⟨wx, hwx⟩ : ∃ wx, wx = ((w.alloc (.cells #[.pointer (some ⟨rb, 0, none⟩)] 88)).alloc (.cells #[.int .i64 (D : Int)] 3)).alloc (.cells (keyL K).toArray 96) := ⟨_, rfl⟩
  have hbx : Below w.heap.size w wx := by rw [hwx]; exact ext_trans (ext_trans (ext_alloc _ _) (ext_alloc _ _)) (ext_alloc _ _)
  have b1 : wx.heap[w.heap.size]? = some (.cells #[.pointer (some ⟨rb, 0, none⟩)] 88 (0, 0)) := by rw [hwx]; simp only [heap_al, World.size_alloc]; rw [if_neg (by omega), if_neg (by omega), if_pos trivial]
  have b2 : wx.heap[w.heap.size + 1]? = some (.cells #[.int .i64 (D : Int)] 3 (0, 0)) := by rw [hwx]; simp only [heap_al, World.size_alloc]; rw [if_neg (by omega), if_pos trivial]
  have b3 : wx.heap[w.heap.size + 1 + 1]? = some (.cells (keyL K).toArray 96 (0, 0)) := by rw [hwx]; simp only [heap_al, World.size_alloc]; rw [if_pos trivial]
  obtain ⟨pb, hpb⟩ : ∃ pb, pb = w.heap.size := ⟨_, rfl⟩
  obtain ⟨db, hdb⟩ : ∃ db, db = pb + 1 := ⟨_, rfl⟩
  obtain ⟨kb, hkb⟩ : ∃ kb, kb = db + 1 := ⟨_, rfl⟩
  rw [← hpb] at b1 b2 b3
  rw [← hdb] at b2 b3
  rw [← hkb] at b3
  have hlx := lt_of_block b3
  have HRN := hide (readNode_in A ab wb rb (.int .i64 f) rs (x : Int) x k wx (hA.ext hbx) hs rfl hxs (block_ext hr hbx))
  rw [← hnn] at HRN
  have HH := hide (And.intro h hbx)
  have HBX := hide (And.intro b1 (And.intro b2 b3))
  have HOWN := hide (owns_ext hown hbx)
  have HWX := hide hwx
  have HPB := hide hpb
  have HDB := hide hdb
  have HKB := hide hkb
  have HNN := hide hnn
  have HKK := hide hK
  have HL := hide hL
  have HIH := hide hIH
  have HE0 := hide h0
  clear h hr hown hA hbx b1 b2 b3 hwx hpb hdb hkb hnn hK hL hIH h0
  go_enter Tryd.func45, Tryd.ntmps45
  go_wp2_with fail
  rw [← HWX.out]
  refine HRN.out.mono ?_
  rintro e w2 ⟨rfl, hA2, ⟨k2, hr2⟩, hF2⟩
  simp only [NodeD.agg]
  go_wp2_with fail
  rw [← HPB.out, ← HDB.out, ← HKB.out]
  obtain ⟨nb, hnb⟩ : ∃ nb, nb = w2.heap.size := ⟨_, rfl⟩
  obtain ⟨w3, hw3⟩ : ∃ w3, w3 = w2.alloc (.cells #[.int .u16 nn.routes, .int .u16 nn.ways, .int .i64 nn.hops, .int .i64 nn.children] 116) := ⟨_, rfl⟩
  rw [← hw3, ← hnb]
  have hb3 : Below w2.heap.size w2 w3 := by rw [hw3]; exact ext_alloc _ _
  have hx2 := HBX.out
  have hzx := hF2.size
  have hpl := lt_of_block hx2.1
  have hdl := lt_of_block hx2.2.1
  have e1 := HPB.out
  have e2 := HDB.out
  have e3 := HKB.out
  have hF02 : Fr [rb] w0 w2 := (HH.out.1.fr.trans (fr_below HH.out.2)).trans hF2
  have hD2 : DumpAt ab rb f n w0 L w2 := DumpAt.read (HH.out.1.fr.trans (fr_below HH.out.2)) HOWN.out hr2 hF2 hrb
  have hD3 := hD2.ext hb3
  have hdf : DFr rb w w3 := ((DFr.ext HH.out.2).trans (DFr.of_fr hF2 (fun j hj _ => by simpa using hj))).trans (DFr.ext hb3)
  have hnr : nb ≠ rb ∧ kb ≠ rb ∧ db ≠ rb ∧ pb ≠ rb := by omega
  have hBx : Boxes nn K D nb kb db pb rb w3 := by
    refine ⟨by rw [hw3, hnb]; exact heap_alloc_new _ _, ?_, ?_, ?_⟩
    · exact block_ext (hF2.at hx2.2.2 (by simp; omega)) hb3
    · exact block_ext (hF2.at hx2.2.1 (by simp; omega)) hb3
    · exact block_ext (hF2.at hx2.1 (by simp; omega)) hb3
  have hLL := HL.out
  rw [dumpN_out] at hLL
  have hok : nn.ok := by rw [HNN.out]; exact hO.ok
  refine (inOrder_any (fun L' w' => DumpAt ab rb f n w0 L' w' ∧ DFr rb w3 w') (gbN M (8 + 4 * D) u) (geN M (8 + 4 * D) u d) 4 51 56 #[] #[.pointer (some ⟨nb, 0, none⟩), .pointer (some ⟨kb, 0, none⟩), .pointer (some ⟨db, 0, none⟩), .pointer (some ⟨pb, 0, none⟩)] #[] #[.pointer (some ⟨nb, 0, none⟩), .pointer (some ⟨pb, 0, none⟩), .pointer (some ⟨db, 0, none⟩), .pointer (some ⟨kb, 0, none⟩)] L 4194304 w3 (by decide) hLL ⟨hD3, DFr.refl _ _⟩ (fun L' w' hp => hD.tzAt hp.1.fr) (fun _ _ => by kernel_rfl) (fun _ _ => by kernel_rfl) ?_ ?_).mono ?_
  · intro fu v L' w' hfu hv hp hlen
    have hc := nbegin_any A M ab wb rb f n w0 hD hs hrb hfn d D u x hO hDm fu v hfu hv nn HNN.out K HKK.out nb kb db pb L' hlen w' hp.1 (hBx.dfr hp.2 hnr)
    simp only [List.append_toArray, List.cons_append, List.nil_append]
    refine hc.mono ?_
    rintro e w'' ⟨rfl, h1, h2⟩
    exact ⟨rfl, h1, hp.2.trans h2⟩
  · intro v L' w' hv hp hlen
    have hc := neach_any ab rb f n w0 D hDm v hv nn hok K (by rw [HKK.out]; exact key_zero D u) nb kb db pb L' (geN M (8 + 4 * D) u d v) (HE0.out v hv) w' hp.1 (hBx.dfr hp.2 hnr) (fun w'' hb hd => HIH.out v L' w'' hv hb hd hlen)
    simp only [List.push_toArray, List.append_toArray, List.cons_append, List.nil_append]
    refine hc.mono ?_
    rintro e w'' ⟨rfl, h1, h2⟩
    exact ⟨rfl, h1, hp.2.trans h2⟩
  rintro e w4 ⟨rfl, h4, h5⟩
  have HE := hide (And.intro h4 (hdf.trans h5))
  clear h4 h5
  go_wp2
  go_end0
  rw [dumpN_out]
  exact ⟨rfl, HE.out.1, HE.out.2⟩
/-- a node and all below it -/
theorem dnode_any (A : Ar) (M : Tab) (ab wb rb : Nat) (f : Int) (n : Nat) (w0 : World) (hD : DumpOk A ab wb rb w0) (hs : Sane A) (hrb : rb < w0.heap.size) (hfn : famBytes f = n) : ∀ (d D u x : Nat) (L : List (Nat × Nat × Nat)) (w : World), D + d ≤ 30 → On A M d (8 + 4 * D) u x → (L ++ dumpN M d (8 + 4 * D) u).length ≤ 4194304 → DumpAt ab rb f n w0 L w →
    Calls Tryd.prog 45 #[.pointer (some ⟨rb, 0, none⟩), .int .i64 (x : Int), .int .i64 (D : Int), .agg (keyL (u * 2 ^ (128 - 4 * D))).toArray] w fun e w' => e = .returned (.tuple #[]) ∧ DumpAt ab rb f n w0 (L ++ dumpN M d (8 + 4 * D) u) w' ∧ DFr rb w w' := by
  intro d
  induction d with
  | zero =>
    intro D u x L w hDm hO hL h
    refine dnode_step A M ab wb rb f n w0 hD hs hrb hfn 0 D u x hO (by omega) _ rfl _ rfl L hL w h (fun v _ _ => rfl) ?_
    intro v L' w' _ hb
    have e : (nodeAt A.word x).ways = 0 := hO.rep.2
    rw [e] at hb
    simp at hb
  | succ d ih =>
    intro D u x L w hDm hO hL h
    refine dnode_step A M ab wb rb f n w0 hD hs hrb hfn (d + 1) D u x hO (by omega) _ rfl _ rfl L hL w h ?_ ?_
    · intro v hv hb
      rw [hO.rep.node.way v hv] at hb
      rw [geN, if_neg (by rw [hb]; decide)]
    · intro v L' w' hv hb hd hlen
      have hge : geN M (8 + 4 * D) u (d + 1) v = dumpN M d (8 + 4 * (D + 1)) (16 * u + v) := by
        have hb' := hb
        rw [hO.rep.node.way v hv] at hb'
        rw [geN, if_pos hb', show 8 + 4 * D + 4 = 8 + 4 * (D + 1) by omega]
      rw [hge] at hlen ⊢
      rw [kid_key (by omega)]
      have hO2 := hO.kid hv hb
      rw [show 8 + 4 * D + 4 = 8 + 4 * (D + 1) by omega] at hO2
      exact ih (D + 1) (16 * u + v) _ L' w' (by omega) hO2 hlen hd
end Go.Proofs.YtnapboelfimaaaaDoor
/- How long a dump may be. -/
namespace Go.Proofs.YtnapboelfimaaaaDoor
theorem cnt_cost (W : Nat → Nat) : ∀ d x, cntW W d x ≤ costW W d x := by
  intro d
  induction d with
  | zero => intro x; simp only [cntW, costW]; omega
  | succ d ih =>
    intro x
    simp only [cntW, costW]
    have : sumTo 16 (fun f => if (nodeAt W x).ways.testBit f then cntW W d ((nodeAt W x).kid f) else 0) ≤ sumTo 16 (fun f => if (nodeAt W x).ways.testBit f then costW W d ((nodeAt W x).kid f) else 0) := by
      apply sumTo_le
      intro f _
      split
      · exact ih _
      · exact Nat.le_refl _
    omega
theorem dumpR_le {W : Nat → Nat} {M : Tab} {r dm : Nat} (R : Root W M r dm) : (dumpR M dm).length ≤ 2048 + costR W r dm := by
  unfold dumpR costR
  rw [length_flat]
  have h1 : sumTo 256 (fun b => (begins M 8 0 0 b ++ (if anyBelow M 8 b then dumpN M dm 8 b else [])).length) ≤ sumTo 256 (fun b => 8 + cost1 W r dm b) := by
    apply sumTo_le
    intro b hb
    rw [List.length_append]
    have h2 : (begins M 8 0 0 b).length ≤ 8 := by
      unfold begins
      exact Nat.le_trans (List.length_filterMap_le _ _) (by simp)
    unfold cost1
    by_cases h0 : W (r + b) % 65536 = 0
    · rw [if_pos h0, if_neg (by rw [(R.node b hb).1 h0]; simp)]
      simp only [List.length_nil]
      omega
    · have hany : anyBelow M 8 b = true := by
        have : anyBelow M 8 b ≠ false := fun e => h0 ((R.node b hb).2 e)
        simpa using this
      rw [if_neg h0, if_pos hany, length_dumpN (R.rep b hb h0)]
      have := cnt_cost W dm (W (r + b) % 65536)
      omega
  rw [sumTo_add] at h1
  have h3 : ∀ n, sumTo n (fun _ => 8) = 8 * n := by
    intro n
    induction n with
    | zero => rfl
    | succ n ih => rw [sumTo, ih]; omega
  rw [h3] at h1
  exact h1
theorem Inv.dump_le {A : Ar} {F : Nat → List Nat} {M : Bool → Tab} (h : Inv A F M) (hs : A.size ≤ 65536) (q : Bool) : (dumpR (M q) (dp q)).length ≤ 67584 := by
  have h1 := dumpR_le (h.root q)
  have h2 := h.free
  have h3 := h.pos
  cases q <;> omega
end Go.Proofs.YtnapboelfimaaaaDoor
