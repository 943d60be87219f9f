/- Cha, Dro, Drk: parts of the proof, one behind the other. -/
import Derived.Test.YtnapboelfimaaaaDoorK23
/- The chain of nodes down to where a prefix ends. -/
namespace Go.Proofs.YtnapboelfimaaaaDoor
open Go.RowKit Go.Deep
theorem TabAt.set4 {w : World} {tb ab wb b : Nat} {A : Ar} {v0 v1 v2 v3 : Value} (h : TabAt w tb ab wb A) (h0 : tb ≠ b) (h1 : ab ≠ b) (h2 : wb ≠ b) : TabAt ((((w.setCell ⟨b, 0, none⟩ v0).setCell ⟨b, 1, none⟩ v1).setCell ⟨b, 2, none⟩ v2).setCell ⟨b, 3, none⟩ v3) tb ab wb A := (((h.other h0 h1 h2).other h0 h1 h2).other h0 h1 h2).other h0 h1 h2
theorem Fr.set4 {S : List Nat} {a w : World} {b : Nat} {v0 v1 v2 v3 : Value} (h : Fr S a w) (hb : b ∈ S ∨ a.heap.size ≤ b) : Fr S a ((((w.setCell ⟨b, 0, none⟩ v0).setCell ⟨b, 1, none⟩ v1).setCell ⟨b, 2, none⟩ v2).setCell ⟨b, 3, none⟩ v3) := (((h.setCell hb _).setCell hb _).setCell hb _).setCell hb _
theorem heap_set4 {w : World} {b c : Nat} {v0 v1 v2 v3 : Value} {o : Obj} (h : w.heap[c]? = some o) (hc : c ≠ b) : ((((w.setCell ⟨b, 0, none⟩ v0).setCell ⟨b, 1, none⟩ v1).setCell ⟨b, 2, none⟩ v2).setCell ⟨b, 3, none⟩ v3).heap[c]? = some o := ((((Below.heap_setCell _ _ _ _ hc).trans (Below.heap_setCell _ _ _ _ hc)).trans (Below.heap_setCell _ _ _ _ hc)).trans (Below.heap_setCell _ _ _ _ hc)).trans h
theorem heap_set2 {w : World} {b c : Nat} {v0 v1 : Value} {o : Obj} (h : w.heap[c]? = some o) (hc : c ≠ b) : ((w.setCell ⟨b, 0, none⟩ v0).setCell ⟨b, 1, none⟩ v1).heap[c]? = some o := ((Below.heap_setCell _ _ _ _ hc).trans (Below.heap_setCell _ _ _ _ hc)).trans h
def chainVal : Option NodeD → Value
  | none => .tuple #[.agg #[.int .u16 0, .int .u16 0, .int .i64 0, .int .i64 0], .bool false]
  | some nn => .tuple #[.agg #[.int .u16 nn.routes, .int .u16 nn.ways, .int .i64 nn.hops, .int .i64 nn.children], .bool true]
set_option maxHeartbeats 2000000 in
set_option maxRecDepth 10000 in
/-- no room for the hop itself -/
theorem chain_no (A B : Ar) (F : Nat → List Nat) (m tb ab wb K l : Nat) (x t : Int) (w : World) (h : TabAt w tb ab wb A) (hG : Good A F m) (hm : m ≤ 2000) (hR : A.take 1 = (B, none)) :
    Calls Tryd.prog 96 #[.pointer (some ⟨tb, 0, none⟩), .agg (prefL K l).toArray, .int .i64 x, .int .i64 t] w fun e w' => e = .returned (chainVal none) ∧ TabAt w' tb ab wb B ∧ Fr [ab, wb] w w' := by
  have hs := hG.sane (by omega)
  have hna := h.na
  have hnw := h.nw
  have hla := h.ar.la
  have hlw := h.ar.lw
  have hlt := h.lt
  obtain ⟨wx, hwx⟩ : ∃ wx, wx = (w.alloc (.cells (prefL K l).toArray 98)).alloc (.cells #[.int .u16 0, .int .u16 0, .int .i64 0, .int .i64 0] 116) := ⟨_, rfl⟩
  have HBX : Below w.heap.size w wx := by rw [hwx]; exact ext_trans (ext_alloc _ _) (ext_alloc _ _)
  have bz : wx.heap[w.heap.size + 1]? = some (.cells #[.int .u16 0, .int .u16 0, .int .i64 0, .int .i64 0] 116 (0, 0)) := by rw [hwx, ← World.size_alloc w (.cells (prefL K l).toArray 98)]; exact heap_alloc_new _ _
  have HT := hide (h.ext HBX)
  have c0 := (h.ext HBX).cell
  have hsx := lt_of_block bz
  have HTK := hide (take_no A ab wb 1 1 wx HT.out.ar hs rfl (by omega) (by omega) B hR)
  have HBX := hide HBX
  have HWX := hide hwx
  have HBZ := hide bz
  clear h hG hR hwx bz
  go_enter Tryd.func96, Tryd.ntmps96
  go_wp2_with (first | rw [← HWX.out] | fail)
  refine HTK.out.mono ?_
  rintro e w1 ⟨rfl, hA1, hF1⟩
  have bz1 := hF1.at HBZ.out (by simp; omega)
  obtain ⟨z0, z1, z2, z3, z4, z5, z6, z7⟩ := cells4 bz1
  have hz1 := lt_of_block bz1
  have hT1 := HT.out.of hF1 (by simp; omega) hA1
  have HF1 := hide (Fr.after (fr_below HBX.out) hF1 (fun y hy => Or.inl hy) : Fr [ab, wb] w w1)
  have HT1 := hide hT1
  clear hA1 hF1 hT1
  go_wp2
  refine bodyPost_ret (v := chainVal none) (by simp [results, Tryd.results96, go_sem, chainVal, z0, z1, z2, z3, hz1]) rfl ⟨rfl, ?_, ?_⟩
  · exact (HT1.out.set4 (by omega) (by omega) (by omega)).ext (ext_alloc _ _)
  · exact (HF1.out.set4 (Or.inr (by omega))).alloc _
set_option maxHeartbeats 4000000 in
set_option maxRecDepth 10000 in
theorem chain_some (A B1 R1 : Ar) (F : Nat → List Nat) (m tb ab wb K l D s hop b : Nat) (o : Option NodeD) (w : World) (h : TabAt w tb ab wb A) (hG : Good A F m) (hm : m ≤ 2000) (h8 : 8 ≤ l) (hl : l ≤ 128) (hDs : D + s = (l - 8) / 4) (hhop : hop < 65536) (hR0 : A.take 1 = (B1, some b))
    (hR : chainLoop l (fitK K l) s (8 + 4 * D) ({ B1 with word := setW B1.word b hop } : Ar) ⟨2 ^ numK K l, 0, b, 0⟩ = (R1, o)) :
    Calls Tryd.prog 96 #[.pointer (some ⟨tb, 0, none⟩), .agg (prefL K l).toArray, .int .i64 (D : Nat), .int .i64 (hop : Nat)] w fun e w' => e = .returned (chainVal o) ∧ TabAt w' tb ab wb R1 ∧ Fr [ab, wb] w w' := by
  have hs := hG.sane (by omega)
  have hna := h.na
  have hnw := h.nw
  have hla := h.ar.la
  have hlw := h.ar.lw
  have hlt := h.lt
  have hz := hs.size
  obtain ⟨F1, hG1, hTk, hb1, hb2⟩ := good_take hG (by omega) (by omega) hR0
  have hbs := hTk.size
  have hfb : B1.frees F1 b = 0 := by
    have h1 := hTk.frees b
    have h2 := hTk.ok.apart b
    have h3 := hG.ok.apart b
    have h4 := inB_one (a := b) (b := b) (n := 1) (by omega) (by omega)
    omega
  have hG2 := good_set (v := hop) hG1 hfb (by omega)
  have hnk : numK K l ≤ 14 := by rw [numK_pnum h8 hl]; have := pnum_lt (l := l) (v := fitK K l) (len := 8 + 4 * ((l - 8) / 4)) (by omega) (by omega); omega
  have hp15 : 2 ^ numK K l ≤ 2 ^ 14 := Nat.pow_le_pow_right (by decide) hnk
  obtain ⟨wx, hwx⟩ : ∃ wx, wx = (w.alloc (.cells (prefL K l).toArray 98)).alloc (.cells #[.int .u16 0, .int .u16 0, .int .i64 0, .int .i64 0] 116) := ⟨_, rfl⟩
  have HBX : Below w.heap.size w wx := by rw [hwx]; exact ext_trans (ext_alloc _ _) (ext_alloc _ _)
  have bz : wx.heap[w.heap.size + 1]? = some (.cells #[.int .u16 0, .int .u16 0, .int .i64 0, .int .i64 0] 116 (0, 0)) := by rw [hwx, ← World.size_alloc w (.cells (prefL K l).toArray 98)]; exact heap_alloc_new _ _
  have bp : wx.heap[w.heap.size]? = some (.cells (prefL K l).toArray 98 (0, 0)) := by rw [hwx]; exact block_ext (heap_alloc_new _ _) (ext_alloc _ _)
  have HT := hide (h.ext HBX)
  have c0 := (h.ext HBX).cell
  have hsx := lt_of_block bz
  have HTK := hide (take_some A ab wb 1 1 wx HT.out.ar hs rfl (by omega) (by omega) B1 b hR0)
  have HBX := hide HBX
  have HWX := hide hwx
  have HBZ := hide bz
  have HBP := hide bp
  have HG2 := hide hG2
  have hwh : IntKind.u32.wrap (hop : Int) = (hop : Int) := by rw [IntKind.wrap_u32]; omega
  have HNU := hide (fun (w : World) => number_any K l w hl h8)
  obtain ⟨nk, hnkd⟩ : ∃ nk, nk = numK K l := ⟨_, rfl⟩
  rw [← hnkd] at HNU hnk hp15 hR
  clear hnkd
  obtain ⟨r0, hr0⟩ : ∃ r0, r0 = 2 ^ nk := ⟨_, rfl⟩
  have HWK := hide (show IntKind.u16.wrap ((2 : Int) ^ nk) = (r0 : Int) by rw [wrap16 (k := nk) (by omega), hr0]; push_cast; rfl)
  rw [← hr0] at hp15 hR
  clear hr0
  have hnk' : (nk : Int) ≤ 14 := by omega
  have hn0ok : NodeD.ok ⟨r0, 0, b, 0⟩ := by refine ⟨?_, ?_, ?_, ?_⟩ <;> simp only <;> omega
  have hn0c : (#[.int .u16 ((⟨r0, 0, b, 0⟩ : NodeD).routes : Int), .int .u16 ((⟨r0, 0, b, 0⟩ : NodeD).ways : Int), .int .i64 ((⟨r0, 0, b, 0⟩ : NodeD).hops : Int), .int .i64 ((⟨r0, 0, b, 0⟩ : NodeD).children : Int)] : Array Value) = #[.int .u16 (r0 : Int), .int .u16 0, .int .i64 (b : Int), .int .i64 0] := rfl
  obtain ⟨n0, hn0⟩ : ∃ n0 : NodeD, n0 = ⟨r0, 0, b, 0⟩ := ⟨_, rfl⟩
  rw [← hn0] at hn0ok hn0c hR
  clear hn0
  have HN0K := hide hn0ok
  have HN0C := hide hn0c
  have HR := hide hR
  have HDP := hide (fun (w : World) => depth_any K l w hl h8)
  rw [← hDs] at HDP
  obtain ⟨rb, hrb⟩ : ∃ rb, rb = w.heap.size + 1 := ⟨_, rfl⟩
  obtain ⟨pb, hpb⟩ : ∃ pb, pb = w.heap.size := ⟨_, rfl⟩
  rw [← hrb] at HBZ hsx
  rw [← hpb] at HBP
  have HRB := hide hrb
  have HPB := hide hpb
  have hrw : rb ∉ [ab, wb] := by simp; omega
  have hpw : pb ∉ [ab, wb] := by simp; omega
  have htw : tb ∉ [ab, wb] := by simp; omega
  have htw1 : tb ∉ [wb] := by simp; omega
  have hpr : pb < rb := by omega
  have htp : tb < pb := by omega
  have hap : ab < pb := by omega
  have hwp : wb < pb := by omega
  have hwpb : w.heap.size ≤ pb := by omega
  clear h hG hR hwx bz bp hG1 hTk hG2 hR0 hrb hpb hn0ok hn0c
  go_enter Tryd.func96, Tryd.ntmps96
  go_wp2_with (first | rw [← HWX.out] | fail)
  refine HTK.out.mono ?_
  rintro e w1 ⟨rfl, hA1, hF1⟩
  have bz1 := hF1.at HBZ.out hrw
  have bp1 := hF1.at HBP.out hpw
  have hT1 := HT.out.of hF1 htw hA1
  have HF1 := hide (Fr.after (fr_below HBX.out) hF1 (fun y hy => Or.inl hy) : Fr [ab, wb] w w1)
  have hl1 := lt_of_block bz1
  obtain ⟨wq, hwq⟩ : ∃ wq, wq = w1.alloc (.cells #[.int .i64 (b : Int), .int .i64 1] 146) := ⟨_, rfl⟩
  obtain ⟨bb, hbb⟩ : ∃ bb, bb = w1.heap.size := ⟨_, rfl⟩
  have bq : wq.heap[bb]? = some (.cells #[.int .i64 (b : Int), .int .i64 1] 146 (0, 0)) := by rw [hwq, hbb]; exact heap_alloc_new _ _
  have hB1q : Below w1.heap.size w1 wq := by rw [hwq]; exact ext_alloc _ _
  have bzq := block_ext bz1 hB1q
  have bpq := block_ext bp1 hB1q
  have HTW := hide (hT1.ext hB1q)
  have HFQ := hide (Fr.after HF1.out (fr_below (S := []) hB1q) (fun y hy => by cases hy) : Fr [ab, wb] w wq)
  rw [← hbb] at hl1
  have HBB := hide hbb
  have HWQ := hide hwq
  have hlq := lt_of_block bq
  clear hA1 hF1 hT1 hB1q hbb hwq bz1 bp1
  have hbbw : bb ∉ [wb] := by simp; omega
  have hfit : b + [hop].length ≤ B1.size := by simp; omega
  have KS : ∀ w', Fr [wb] wq w' → (fun w' : World => Fr [wb] wq w' ∧ w'.cell? ⟨tb, 0, none⟩ = some (.pointer (some ⟨ab, 0, none⟩)) ∧ w'.cell? ⟨bb, 0, none⟩ = some (.int .i64 (b : Int))) w' := fun w' hf => ⟨hf, HTW.out.frw hf htw1, (cells2 (hf.at bq hbbw)).1⟩
  simp only [] at KS
  go_wp2_with fail
  rw [← HWQ.out, ← HBB.out, ← HRB.out, ← HPB.out]
  go_region_held3 (fun w' : World => Fr [wb] wq w' ∧ w'.cell? ⟨tb, 0, none⟩ = some (.pointer (some ⟨ab, 0, none⟩)) ∧ w'.cell? ⟨bb, 0, none⟩ = some (.int .i64 (b : Int))) (with_reducible (first | assumption | exact KS _ (fr_below (drew_ext wq)) | exact KS _ (by assumption) | exact KS _ (fr_below (by assumption)) | exact KS _ (fr_below (ext_trans (by assumption) (ext_alloc _ _))) | exact KS _ (fr_below (Below.drew (ext_alloc _ _))) | exact KS _ (Fr.alloc (by assumption) _) | (refine KS _ (Fr.setCell (Fr.setCell (by assumption) (Or.inr ?_) _) (Or.inr ?_) _) <;> first | assumption | exact Nat.le_refl _))) ((go_at_call 88; refine (write_any B1 ab wb _ b 1 1 [hop] _ _ (HTW.out.ar.ext (Below.drew (ext_alloc _ _))) rfl (by simp) rfl hfit (by intro j u hj; rw [addr_add]; exact one_src 0 0 hj (cell_new (w := wq) rfl))).mono ?_; rintro e w6 ⟨rfl, hA6, hF6⟩; have F6 := (Fr.after (fr_below (Below.drew (ext_alloc _ _))) hF6 (fun y hy => Or.inl hy) : Fr [wb] wq w6); clear hF6))
  have bq6 := F6.at bq hbbw
  have bz6 := F6.at bzq (show rb ∉ [wb] by simp; omega)
  have bp6 := F6.at bpq (show pb ∉ [wb] by simp; omega)
  have hT6 := HTW.out.of F6 htw1 hA6
  rw [lay_one] at hT6
  have HF6 := hide (Fr.after HFQ.out F6 (fun y hy => Or.inl (by simp at hy ⊢; exact Or.inr hy)) : Fr [ab, wb] w w6)
  clear KS hA6 F6 bq bzq bpq HTW HFQ HWQ
  obtain ⟨wq, hwq⟩ : ∃ wz, wz = w6 := ⟨_, rfl⟩
  subst hwq
  have HT6 := hide hT6
  have hlq := lt_of_block bq6
  clear hT6
  have KS : ∀ w', Below wq.heap.size wq w' → (fun w' : World => Below wq.heap.size wq w' ∧ w'.rangeAt pb 0 (prefL K l) ∧ w'.cell? ⟨bb, 0, none⟩ = some (.int .i64 (b : Int))) w' := fun w' hf => ⟨hf, range_whole K l (block_ext bp6 hf), (cells2 (block_ext bq6 hf)).1⟩
  simp only [] at KS
  go_wp2_with fail
  go_cut [12] (fun v wc => ∃ nb, v = .pointer (some ⟨nb, 0, none⟩) ∧ wq.heap.size ≤ nb ∧ wc.heap[nb]? = some (.cells #[.int .u16 n0.routes, .int .u16 n0.ways, .int .i64 n0.hops, .int .i64 n0.children] 116 (0, 0)) ∧ Below wq.heap.size wq wc)
  case first =>
    refine wp_region_held_drew (S := (fun w' : World => Below wq.heap.size wq w' ∧ w'.rangeAt pb 0 (prefL K l) ∧ w'.cell? ⟨bb, 0, none⟩ = some (.int .i64 (b : Int)))) (by kernel_rfl) (KS _ (drew_ext wq)) (fun hHeld => ?_)
    (refine wpAnyH_take (i := 0) (oi := _) (v := _) rfl (by kernel_rfl) (by kernel_rfl) (by kernel_rfl) (fun _ _ _ h => h) (yieldsIf_load_mid (by rfl) _ _ rfl _ _ rfl (prefL K l) _ (fun w hSw => hSw.2.1) Tryd.underlying98 rfl (pref_info K l)) (by assumption) ?_; (try simp only [Act.put]); (try simp only [List.setIfInBounds_toArray]))
    (refine wpAnyH_take (i := 3) (oi := _) (v := ?_) rfl (by kernel_rfl) (by kernel_rfl) (by kernel_rfl) (fun _ _ _ h => h) (Or.inl ⟨by rfl, ?_⟩) (by assumption) ?_; rotate_left; (intro w hSw; (try dsimp only at hSw); go_simp; try with_reducible rfl); (try simp only [Act.put]); (try simp only [List.setIfInBounds_toArray]))
    (refine wpAnyH_take (i := 4) (oi := _) (v := ?_) rfl (by kernel_rfl) (by kernel_rfl) (by kernel_rfl) (fun _ _ _ h => h) (Or.inl ⟨by rfl, ?_⟩) (by assumption) ?_; rotate_left; (intro w hSw; (try dsimp only at hSw); go_simp; try with_reducible rfl); (try simp only [Act.put]); (try simp only [List.setIfInBounds_toArray]))
    (refine wpAnyH_ready (rs := [1, 6]) (by kernel_rfl) (by simp) ?_)
    (refine AllReadyH.cons (o := _) rfl (fun K hK => ?_) ?_)
    · go_simp
      go_at_call 93
      refine (HNU.out _).mono ?_
      rintro e w5 ⟨rfl, hb5⟩
      have S5 := (ext_trans (drew_ext wq) hb5 : Below wq.heap.size wq w5)
      have z5 := S5.size
      clear hb5
      go_wp2_with fail
      (refine hK.out _ _ (KS _ S5) (fun hHeld => ?_); clear hK K; (try simp only [Act.put]); (try simp only [List.setIfInBounds_toArray]))
      (refine wpAnyH_take (i := 2) (oi := _) (v := ?_) rfl (by kernel_rfl) (by kernel_rfl) (by kernel_rfl) (fun _ _ _ h => h) (Or.inl ⟨by rfl, ?_⟩) (by assumption) ?_; rotate_left; (intro w hSw; (try dsimp only at hSw); go_simp; try with_reducible rfl); (try simp only [Act.put]); (try simp only [List.setIfInBounds_toArray]))
      (refine wpAnyH_take (i := 5) (oi := _) (v := ?_) rfl (by kernel_rfl) (by kernel_rfl) (by kernel_rfl) (fun _ _ _ h => h) (Or.inl ⟨by rfl, ?_⟩) (by assumption) ?_; rotate_left; (intro w hSw; (try dsimp only at hSw); go_simp; try with_reducible rfl); (try simp only [Act.put]); (try simp only [List.setIfInBounds_toArray]))
      (refine wpAnyH_ready (rs := [6]) (by kernel_rfl) (by simp) ?_)
      (refine AllReadyH.cons (o := _) rfl (fun K hK => ?_) ?_)
      · go_simp
        (refine hK.out _ _ (KS _ (ext_trans S5 (ext_alloc _ _))) (fun hHeld => ?_); clear hK K; (try simp only [Act.put]); (try simp only [List.setIfInBounds_toArray]))
        (refine wpAnyH_ready (rs := [7]) (by kernel_rfl) (by simp) ?_)
        (refine AllReadyH.cons (o := _) rfl (fun K hK => ?_) ?_)
        · go_simp
          (refine hK.out _ _ (KS _ (ext_trans S5 (ext_alloc _ _))) (fun hHeld => ?_); clear hK K; (try simp only [Act.put]); (try simp only [List.setIfInBounds_toArray]))
          (refine wpAnyH_done (by kernel_rfl) ?_ _)
          go_wp2_with fail
          go_meet
          case rel =>
            refine ⟨w5.heap.size, rfl, z5, ?_, ext_trans S5 (ext_alloc _ _)⟩
            rw [HWK.out, HN0C.out]
            exact heap_alloc_new _ _
        · exact AllReadyH.nil
      · exact AllReadyH.nil
    · (refine AllReadyH.cons (o := _) rfl (fun K hK => ?_) ?_)
      · go_simp
        (refine hK.out _ _ (KS _ (Below.drew (ext_alloc _ _))) (fun hHeld => ?_); clear hK K; (try simp only [Act.put]); (try simp only [List.setIfInBounds_toArray]))
        (refine wpAnyH_ready (rs := [1]) (by kernel_rfl) (by simp) ?_)
        (refine AllReadyH.cons (o := _) rfl (fun K hK => ?_) ?_)
        · go_simp
          go_at_call 93
          refine (HNU.out _).mono ?_
          rintro e w5 ⟨rfl, hb5⟩
          have S5 := (ext_trans (Below.drew (ext_alloc _ _)) hb5 : Below wq.heap.size wq w5)
          have z5 := S5.size
          have b5 := new_drew hb5
          obtain ⟨g0, g1, g2, g3, g4, g5, g6, g7⟩ := cells4 b5
          clear hb5
          go_wp2_with fail
          (refine hK.out _ _ (KS _ S5) (fun hHeld => ?_); clear hK K; (try simp only [Act.put]); (try simp only [List.setIfInBounds_toArray]))
          (refine wpAnyH_take (i := 2) (oi := _) (v := ?_) rfl (by kernel_rfl) (by kernel_rfl) (by kernel_rfl) (fun _ _ _ h => h) (Or.inl ⟨by rfl, ?_⟩) (by assumption) ?_; rotate_left; (intro w hSw; (try dsimp only at hSw); go_simp; try with_reducible rfl); (try simp only [Act.put]); (try simp only [List.setIfInBounds_toArray]))
          (refine wpAnyH_take (i := 5) (oi := _) (v := ?_) rfl (by kernel_rfl) (by kernel_rfl) (by kernel_rfl) (fun _ _ _ h => h) (Or.inl ⟨by rfl, ?_⟩) (by assumption) ?_; rotate_left; (intro w hSw; (try dsimp only at hSw); go_simp; try with_reducible rfl); (try simp only [Act.put]); (try simp only [List.setIfInBounds_toArray]))
          (refine wpAnyH_ready (rs := [7]) (by kernel_rfl) (by simp) ?_)
          (refine AllReadyH.cons (o := _) rfl (fun K hK => ?_) ?_)
          · go_simp
            (refine hK.out _ _ (KS _ (Below.setCell (Below.setCell (Below.setCell (Below.setCell S5 (Nat.le_refl _) _) (Nat.le_refl _) _) (Nat.le_refl _) _) (Nat.le_refl _) _)) (fun hHeld => ?_); clear hK K; (try simp only [Act.put]); (try simp only [List.setIfInBounds_toArray]))
            (refine wpAnyH_done (by kernel_rfl) ?_ _)
            go_wp2_with fail
            go_meet
            case rel =>
              refine ⟨wq.heap.size, rfl, Nat.le_refl _, ?_, Below.setCell (Below.setCell (Below.setCell (Below.setCell S5 (Nat.le_refl _) _) (Nat.le_refl _) _) (Nat.le_refl _) _) (Nat.le_refl _) _⟩
              rw [HWK.out, HN0C.out]
              exact store4 b5
          · exact AllReadyH.nil
        · exact AllReadyH.nil
      · exact AllReadyH.nil
  case rest =>
    obtain ⟨nb, rfl, hnb, bnc, hBc⟩ := hcut
    have bpc := block_ext bp6 hBc
    have HBQ := hide (block_ext bq6 hBc)
    have HBR := hide (block_ext bz6 hBc)
    have HBN := hide bnc
    have HTC := hide (HT6.out.ext hBc)
    have HFC := hide (Fr.after HF6.out (fr_below (S := []) hBc) (fun y hy => by cases hy) : Fr [ab, wb] w wc)
    have hlc := lt_of_block bnc
    have hwq := hBc.size
    clear KS hBc bnc bq6 bz6 bp6 HT6 HF6
    go_wp2_with (show wpList _ _ _ (⟨_, .load 98 _, _, _, _, _⟩ :: _) _ _; refine wpList_load_whole rfl 98 _ rfl pb rfl (prefL K l) _ 98 (0, 0) (by assumption) Tryd.underlying98 rfl (pref_info K l) ?_)
    refine (HDP.out _).mono ?_
    rintro e w2 ⟨rfl, hb2⟩
    have HBP2 := hide (block_ext bpc hb2)
    have HBQ2 := hide (block_ext HBQ.out hb2)
    have HBR2 := hide (block_ext HBR.out hb2)
    have HBN2 := hide (block_ext HBN.out hb2)
    have HTC2 := hide (HTC.out.ext hb2)
    have HFC2 := hide (Fr.after HFC.out (fr_below (S := []) hb2) (fun y hy => by cases hy) : Fr [ab, wb] w w2)
    clear hb2 bpc HBQ HBR HBN HTC HFC
    have hD30 : (D : Int) + s ≤ 30 := by omega
    have hnw1 : nb ∉ [ab, wb] := by simp; omega
    have hbbw2 : bb ∉ [ab, wb] := by simp; omega
    have hnbw0 : nb ≠ wb := by omega
    have hnba0 : nb ≠ ab := by omega
    have hnbt0 : tb ≠ nb := by omega
    have hnbw00 : w.heap.size ≤ nb := by omega
    have hnbb : nb ≠ bb := by omega
    have hnbr : nb ≠ rb := by omega
    have hnbp : nb ≠ pb := by omega
    have hbbr : bb ≠ rb := by omega
    have hbbp : bb ≠ pb := by omega
    clear hlc hwq hlq
    go_wp2_with fail
    go_loopw [13] (fun i wr => ∃ (s' : Nat) (A' : Ar) (nn : NodeD) (F' : Nat → List Nat) (m' : Nat) (y z : Int), i = .int .i64 ((D : Int) + s' - 1) ∧ s' ≤ s ∧ chainLoop l (fitK K l) s' (8 + 4 * D) A' nn = (R1, o) ∧ Good A' F' m' ∧ m' + 2 * s' ≤ m + 1 + 2 * s ∧ nn.ok ∧ TabAt wr tb ab wb A' ∧ wr.heap[nb]? = some (.cells #[.int .u16 nn.routes, .int .u16 nn.ways, .int .i64 nn.hops, .int .i64 nn.children] 116 (0, 0)) ∧ wr.heap[bb]? = some (.cells #[.int .i64 y, .int .i64 z] 146 (0, 0)) ∧ wr.heap[rb]? = some (.cells #[.int .u16 0, .int .u16 0, .int .i64 0, .int .i64 0] 116 (0, 0)) ∧ wr.heap[pb]? = some (.cells (prefL K l).toArray 98 (0, 0)) ∧ Fr [ab, wb] w wr) (fun i _ => (intOf i - (D : Int) + 1).toNat)
    case atStart =>
      refine ⟨s, _, n0, F1, m + 1, _, _, ?_, by omega, HR.out, HG2.out, by omega, HN0K.out, HTC2.out, HBN2.out, HBQ2.out, HBR2.out, HBP2.out, HFC2.out⟩
      exact congrArg (Value.int .i64) (by omega)
    case round =>
      obtain ⟨s', A', nn, F', m', y, z, rfl, hs', hR', hG', hm', hnok, hTr, bn, bq, bz, bp, hFr⟩ := hrel
      have hlr := lt_of_block bz
      have hlb := lt_of_block bq
      have hlp := lt_of_block bp
      have hln := lt_of_block bn
      have HTR := hide hTr
      have c0 := hTr.cell
      have hltr := hTr.lt
      have HFR := hide hFr
      have HBN := hide bn
      have HBQ := hide bq
      have HBZ2 := hide bz
      have HBP3 := hide bp
      have HRR := hide hR'
      have HGG := hide hG'
      clear hTr hFr hR' hG'
      cases s' with
      | zero =>
        have hend := HRR.out
        rw [chainLoop] at hend
        simp only [Prod.mk.injEq] at hend
        obtain ⟨e1, e2⟩ := hend
        subst e1 e2
        obtain ⟨k0, k1, k2, k3, k4, k5, k6, k7⟩ := cells4 bn
        obtain ⟨z0, z1, z2, z3, z4, z5, z6, z7⟩ := cells4 bz
        clear bn bq bz bp
        have bzz := store4 (c0 := .int .u16 nn.routes) (c1 := .int .u16 nn.ways) (c2 := .int .i64 nn.hops) (c3 := .int .i64 nn.children) HBZ2.out
        have hTT := HTR.out.set4 (b := rb) (v0 := .int .u16 nn.routes) (v1 := .int .u16 nn.ways) (v2 := .int .i64 nn.hops) (v3 := .int .i64 nn.children) (by omega) (by omega) (by omega)
        have hFF := HFR.out.set4 (b := rb) (v0 := .int .u16 nn.routes) (v1 := .int .u16 nn.ways) (v2 := .int .i64 nn.hops) (v3 := .int .i64 nn.children) (Or.inr (by omega))
        obtain ⟨wz, hwz⟩ : ∃ wz, wz = ((((wr.setCell ⟨rb, 0, none⟩ (.int .u16 nn.routes)).setCell ⟨rb, 1, none⟩ (.int .u16 nn.ways)).setCell ⟨rb, 2, none⟩ (.int .i64 nn.hops)).setCell ⟨rb, 3, none⟩ (.int .i64 nn.children)) := ⟨_, rfl⟩
        rw [← hwz] at bzz hTT hFF
        have HX := hide (And.intro bzz (And.intro hTT hFF))
        have HWZ := hide hwz
        clear hwz bzz hTT hFF
        go_wp2
        rw [← HWZ.out]
        obtain ⟨y0, y1, y2, y3, y4, y5, y6, y7⟩ := cells4 HX.out.1
        exact bodyPost_ret (v := chainVal (some nn)) (by simp [results, Tryd.results96, go_sem, chainVal, y0, y1, y2, y3]) rfl ⟨rfl, HX.out.2.1, HX.out.2.2⟩
      | succ s' =>
        have hcl := HRR.out
        rw [chainLoop] at hcl
        have hs0 := HGG.out.sane (by omega)
        have hf4 := kfour_lt K (D + s')
        have hfv : fourV l (fitK K l) (8 + 4 * D + 4 * s') = kfour K (D + s') := by rw [fourV_key (by omega) (by omega), kfour_fit]; rw [show 8 + 4 * D + 4 * s' + 4 = 8 + 4 * (D + s') + 4 by omega]
        rw [hfv] at hcl
        cases hT2 : A'.take 2 with
        | mk B' o' =>
          rw [hT2] at hcl
          cases o' with
          | none =>
            simp only [Prod.mk.injEq] at hcl
            obtain ⟨e1, e2⟩ := hcl
            subst e1 e2
            have HTK2 := hide (take_no A' ab wb 2 2 wr HTR.out.ar hs0 rfl (by omega) (by omega) B' hT2)
            clear bn bz bp bq
            go_wp2_with fail
            refine HTK2.out.mono ?_
            rintro e w3 ⟨rfl, hA3, hF3⟩
            have bq3 := hF3.at HBQ.out hbbw2
            have bz3 := hF3.at HBZ2.out hrw
            obtain ⟨k0, k1, k2, k3⟩ := cells2 bq3
            obtain ⟨z0, z1, z2, z3, z4, z5, z6, z7⟩ := cells4 bz3
            have hT3 := HTR.out.of hF3 htw hA3
            have hF3' := (Fr.after HFR.out hF3 (fun y hy => Or.inl hy) : Fr [ab, wb] w w3)
            have hlb3 := lt_of_block bq3
            have hlz3 := lt_of_block bz3
            have bzz := store4 (c0 := .int .u16 0) (c1 := .int .u16 0) (c2 := .int .i64 0) (c3 := .int .i64 0) (heap_set2 (v0 := .int .i64 0) (v1 := .int .i64 0) bz3 hbbr.symm)
            have hTT := ((hT3.other (v := .int .i64 0) (off := 0) (b := bb) (by omega) (by omega) (by omega)).other (v := .int .i64 0) (off := 1) (b := bb) (by omega) (by omega) (by omega)).set4 (b := rb) (v0 := .int .u16 0) (v1 := .int .u16 0) (v2 := .int .i64 0) (v3 := .int .i64 0) (by omega) (by omega) (by omega)
            have hFF := ((hF3'.setCell (b := bb) (off := 0) (Or.inr (by omega)) (.int .i64 0)).setCell (b := bb) (off := 1) (Or.inr (by omega)) (.int .i64 0)).set4 (b := rb) (v0 := .int .u16 0) (v1 := .int .u16 0) (v2 := .int .i64 0) (v3 := .int .i64 0) (Or.inr (by omega))
            obtain ⟨wz, hwz⟩ : ∃ wz, wz = ((((((w3.setCell ⟨bb, 0, none⟩ (.int .i64 0)).setCell ⟨bb, 1, none⟩ (.int .i64 0)).setCell ⟨rb, 0, none⟩ (.int .u16 0)).setCell ⟨rb, 1, none⟩ (.int .u16 0)).setCell ⟨rb, 2, none⟩ (.int .i64 0)).setCell ⟨rb, 3, none⟩ (.int .i64 0)) := ⟨_, rfl⟩
            rw [← hwz] at bzz hTT hFF
            have HX := hide (And.intro bzz (And.intro hTT hFF))
            have HWZ := hide hwz
            clear bzz hTT hFF hT3 hF3' hA3 hF3 hwz
            go_wp2
            rw [← HWZ.out]
            obtain ⟨y0, y1, y2, y3, y4, y5, y6, y7⟩ := cells4 HX.out.1
            exact bodyPost_ret (v := chainVal none) (by simp [results, Tryd.results96, go_sem, chainVal, y0, y1, y2, y3]) rfl ⟨rfl, HX.out.2.1, HX.out.2.2⟩
          | some b' =>
            obtain ⟨F2, hG2, hTk2, hx1, hx2⟩ := good_take HGG.out (by omega) (by omega) hT2
            have hap : ∀ a, inB a b' 2 + B'.frees F2 a ≤ 1 := fun a => by have h1 := hTk2.frees a; have h2 := HGG.out.ok.apart a; omega
            have HGN := hide (good_put hG2 hnok hap)
            have hbsz := hTk2.size
            have hsz2 := hs0.size
            have HCL := hide hcl
            have HTK2 := hide (take_some A' ab wb 2 2 wr HTR.out.ar hs0 rfl (by omega) (by omega) B' b' hT2)
            clear bn bz bp bq hTk2 hG2 hap hcl hT2
            go_wp2_with fail
            refine HTK2.out.mono ?_
            rintro e w3 ⟨rfl, hA3, hF3⟩
            have bq3 := hF3.at HBQ.out hbbw2
            obtain ⟨k0, k1, k2, k3⟩ := cells2 bq3
            have hlb3 := lt_of_block bq3
            have hT3 := (((HTR.out.of hF3 htw hA3).other (v := .int .i64 (b' : Int)) (off := 0) (b := bb) (by omega) (by omega) (by omega)).other (v := .int .i64 2) (off := 1) (b := bb) (by omega) (by omega) (by omega))
            have hF3' := ((Fr.after HFR.out hF3 (fun y hy => Or.inl hy) : Fr [ab, wb] w w3).setCell (b := bb) (off := 0) (Or.inr (by omega)) (.int .i64 (b' : Int))).setCell (b := bb) (off := 1) (Or.inr (by omega)) (.int .i64 2)
            have bqq := store2 (c0 := .int .i64 (b' : Int)) (c1 := .int .i64 2) bq3
            have bnq := heap_set2 (v0 := .int .i64 (b' : Int)) (v1 := .int .i64 2) (hF3.at HBN.out hnw1) hnbb
            have bzq := heap_set2 (v0 := .int .i64 (b' : Int)) (v1 := .int .i64 2) (hF3.at HBZ2.out hrw) hbbr.symm
            have bpq := heap_set2 (v0 := .int .i64 (b' : Int)) (v1 := .int .i64 2) (hF3.at HBP3.out hpw) hbbp.symm
            obtain ⟨wq, hwq⟩ : ∃ wq, wq = ((w3.setCell ⟨bb, 0, none⟩ (.int .i64 (b' : Int))).setCell ⟨bb, 1, none⟩ (.int .i64 2)) := ⟨_, rfl⟩
            rw [← hwq] at hT3 hF3' bqq bnq bzq bpq
            have HWQ := hide hwq
            have HTW := hide hT3
            have HFQ := hide hF3'
            have hlnq := lt_of_block bnq
            have hlbq := lt_of_block bqq
            have hltq := hT3.lt
            have hbbw1 : bb ∉ [wb] := by simp; omega
            have hnbw1 : nb ∉ [wb] := by simpa using hnbw0
            have KS : ∀ w', Fr [wb] wq w' → (fun w' : World => Fr [wb] wq w' ∧ w'.cell? ⟨tb, 0, none⟩ = some (.pointer (some ⟨ab, 0, none⟩)) ∧ w'.cell? ⟨nb, 0, none⟩ = some (.int .u16 nn.routes) ∧ w'.cell? ⟨nb, 1, none⟩ = some (.int .u16 nn.ways) ∧ w'.cell? ⟨nb, 2, none⟩ = some (.int .i64 nn.hops) ∧ w'.cell? ⟨nb, 3, none⟩ = some (.int .i64 nn.children) ∧ w'.cell? ⟨bb, 0, none⟩ = some (.int .i64 (b' : Int))) w' := fun w' hf => ⟨hf, HTW.out.frw hf htw1, (cells4n (hf.at bnq hnbw1)).1, (cells4n (hf.at bnq hnbw1)).2.1, (cells4n (hf.at bnq hnbw1)).2.2.1, (cells4n (hf.at bnq hnbw1)).2.2.2, (cells2 (hf.at bqq hbbw1)).1⟩
            simp only [] at KS
            clear hA3 hF3 hwq hT3 hF3' bq3
            go_wp2_with fail
            rw [← HWQ.out]
            go_region_held3 (fun w' : World => Fr [wb] wq w' ∧ w'.cell? ⟨tb, 0, none⟩ = some (.pointer (some ⟨ab, 0, none⟩)) ∧ w'.cell? ⟨nb, 0, none⟩ = some (.int .u16 nn.routes) ∧ w'.cell? ⟨nb, 1, none⟩ = some (.int .u16 nn.ways) ∧ w'.cell? ⟨nb, 2, none⟩ = some (.int .i64 nn.hops) ∧ w'.cell? ⟨nb, 3, none⟩ = some (.int .i64 nn.children) ∧ w'.cell? ⟨bb, 0, none⟩ = some (.int .i64 (b' : Int))) (with_reducible (first | assumption | exact KS _ (fr_below (drew_ext wq)) | exact KS _ (by assumption) | exact KS _ (fr_below (by assumption)) | exact KS _ (fr_below (ext_trans (by assumption) (ext_alloc _ _))) | exact KS _ (fr_below (Below.drew (ext_alloc _ _))) | exact KS _ (Fr.alloc (by assumption) _) | (refine KS _ (Fr.setCell (Fr.setCell (by assumption) (Or.inr ?_) _) (Or.inr ?_) _) <;> first | assumption | exact Nat.le_refl _))) ((go_at_call 105; refine (writeNode_any B' ab wb _ b' nn _ HTW.out.ar.drew hnok rfl (by omega)).mono ?_; rintro e w5 ⟨rfl, hA5, hF5⟩; have F5 := (Fr.after (fr_below (drew_ext wq)) hF5 (fun y hy => Or.inl hy) : Fr [wb] wq w5); clear hF5))
            have hT5 := HTW.out.of F5 htw1 hA5
            have HF5 := hide (Fr.after HFQ.out F5 (fun y hy => Or.inl (by simp at hy ⊢; exact Or.inr hy)) : Fr [ab, wb] w w5)
            have bn5 := F5.at bnq hnbw1
            have bq5 := F5.at bqq hbbw1
            have bz5 := F5.at bzq (show rb ∉ [wb] by simp; omega)
            have bp5 := F5.at bpq (show pb ∉ [wb] by simp; omega)
            have HT5 := hide hT5
            clear KS F5 hA5 hT5 bnq bqq bzq bpq HTW HFQ HWQ
            obtain ⟨wq, hwq⟩ : ∃ wz, wz = w5 := ⟨_, rfl⟩
            subst hwq
            have hln5 := lt_of_block bn5
            have KS : ∀ w', Fr [nb] wq w' → (fun w' : World => Fr [nb] wq w' ∧ w'.rangeAt pb 0 (keyL K) ∧ w'.cell? ⟨bb, 0, none⟩ = some (.int .i64 (b' : Int))) w' := fun w' hf => ⟨hf, range_pref K l (hf.at bp5 (by simpa using hnbp.symm)), (cells2 (hf.at bq5 (by simpa using hnbb.symm))).1⟩
            simp only [] at KS
            have hu := Tryd.underlying96
            have hi := key_info K
            have hmem : nb ∈ [nb] := List.mem_singleton.2 rfl
            have HPW4 := hide (show ((2 ^ kfour K (D + s') : Nat) : Int) = (2 : Int) ^ kfour K (D + s') by push_cast; rfl)
            have HWK4 := hide (wrap16 (k := kfour K (D + s')) (by omega))
            have HFO := hide (fun (w : World) => four_any K (D + s') ((D : Int) + ((s' : Int) + 1) - 1) w (by omega) (by omega))
            have hf4' : (kfour K (D + s') : Int) ≤ 15 := by omega
            go_wp2_with fail
            go_region_held3 (fun w' : World => Fr [nb] wq w' ∧ w'.rangeAt pb 0 (keyL K) ∧ w'.cell? ⟨bb, 0, none⟩ = some (.int .i64 (b' : Int))) (with_reducible (first | assumption | exact KS _ (fr_below (drew_ext wq)) | exact KS _ (by assumption) | exact KS _ (Fr.set4 (by assumption) (Or.inl hmem)))) ((go_at_call 99; refine (HFO.out _).mono ?_; rintro e w6 ⟨rfl, hb6⟩; have S6 := (ext_trans (drew_ext wq) hb6 : Below wq.heap.size wq w6); have F6 := (fr_below S6 : Fr [nb] wq w6); have bn6 := block_ext bn5 S6; obtain ⟨g0, g1, g2, g3, g4, g5, g6, g7⟩ := cells4 bn6; clear hb6))
            rw [HWK4.out, ← HPW4.out]
            have hTz := (HT5.out.ext S6).set4 (b := nb) (v0 := .int .u16 0) (v1 := .int .u16 ((2 ^ kfour K (D + s') : Nat) : Int)) (v2 := .int .i64 0) (v3 := .int .i64 (b' : Int)) hnbt0 hnba0.symm hnbw0.symm
            have hFz := (Fr.after HF5.out (fr_below (S := []) S6) (fun y hy => by cases hy) : Fr [ab, wb] w w6).set4 (b := nb) (v0 := .int .u16 0) (v1 := .int .u16 ((2 ^ kfour K (D + s') : Nat) : Int)) (v2 := .int .i64 0) (v3 := .int .i64 (b' : Int)) (Or.inr hnbw00)
            have bnz := store4 (c0 := .int .u16 0) (c1 := .int .u16 ((2 ^ kfour K (D + s') : Nat) : Int)) (c2 := .int .i64 0) (c3 := .int .i64 (b' : Int)) bn6
            have bqz := heap_set4 (b := nb) (v0 := .int .u16 0) (v1 := .int .u16 ((2 ^ kfour K (D + s') : Nat) : Int)) (v2 := .int .i64 0) (v3 := .int .i64 (b' : Int)) (block_ext bq5 S6) hnbb.symm
            have bzz := heap_set4 (b := nb) (v0 := .int .u16 0) (v1 := .int .u16 ((2 ^ kfour K (D + s') : Nat) : Int)) (v2 := .int .i64 0) (v3 := .int .i64 (b' : Int)) (block_ext bz5 S6) hnbr.symm
            have bpz := heap_set4 (b := nb) (v0 := .int .u16 0) (v1 := .int .u16 ((2 ^ kfour K (D + s') : Nat) : Int)) (v2 := .int .i64 0) (v3 := .int .i64 (b' : Int)) (block_ext bp5 S6) hnbp.symm
            obtain ⟨wz, hwz⟩ : ∃ wz, wz = ((((w6.setCell ⟨nb, 0, none⟩ (.int .u16 0)).setCell ⟨nb, 1, none⟩ (.int .u16 ((2 ^ kfour K (D + s') : Nat) : Int))).setCell ⟨nb, 2, none⟩ (.int .i64 0)).setCell ⟨nb, 3, none⟩ (.int .i64 (b' : Int))) := ⟨_, rfl⟩
            rw [← hwz] at hTz hFz bnz bqz bzz bpz ⊢
            have HX := hide (And.intro hTz (And.intro bnz (And.intro bqz (And.intro bzz (And.intro bpz hFz)))))
            have hp4 : 2 ^ kfour K (D + s') ≤ 2 ^ 15 := Nat.pow_le_pow_right (by decide) (by omega)
            have HOK := hide (show NodeD.ok ⟨0, 2 ^ kfour K (D + s'), 0, b'⟩ by refine ⟨?_, ?_, ?_, ?_⟩ <;> simp only <;> omega)
            clear hTz hFz bnz bqz bzz bpz hwz KS bn6 S6 F6 g0 g1 g2 g3 g4 g5 g6 g7 bn5 bq5 bz5 bp5 hp4
            go_wp2
            go_roundw
            case rel => exact ⟨s', B'.putN b' nn, ⟨0, 2 ^ kfour K (D + s'), 0, b'⟩, F2, m' + 2, _, _, congrArg (Value.int .i64) (by omega), by omega, HCL.out, HGN.out, by omega, HOK.out, HX.out⟩
            case measure => simp [intOf]; omega
/-- chain does what chainN says -/
theorem chain_any (A R : Ar) (F : Nat → List Nat) (m tb ab wb K l D s hop : Nat) (x t : Int) (o : Option NodeD) (w : World) (h : TabAt w tb ab wb A) (hG : Good A F m) (hm : m ≤ 2000) (h8 : 8 ≤ l) (hl : l ≤ 128) (hx : x = D) (ht : t = hop) (hDs : D + s = (l - 8) / 4) (hhop : hop < 65536)
    (hR : chainN l (fitK K l) hop s (8 + 4 * D) A = (R, o)) :
    Calls Tryd.prog 96 #[.pointer (some ⟨tb, 0, none⟩), .agg (prefL K l).toArray, .int .i64 x, .int .i64 t] w fun e w' => e = .returned (chainVal o) ∧ TabAt w' tb ab wb R ∧ Fr [ab, wb] w w' := by
  subst hx ht
  unfold chainN at hR
  cases hT : A.take 1 with
  | mk B1 o1 =>
    rw [hT] at hR
    cases o1 with
    | none =>
      simp only [Prod.mk.injEq] at hR
      obtain ⟨e1, e2⟩ := hR
      subst e1 e2
      exact chain_no A B1 F m tb ab wb K l _ _ w h hG hm hT
    | some b =>
      simp only at hR
      rw [show 8 + 4 * D + 4 * s = 8 + 4 * ((l - 8) / 4) by omega, ← numK_pnum h8 hl] at hR
      exact chain_some A B1 R F m tb ab wb K l D s hop b o w h hG hm h8 hl hDs hhop hT hR
end Go.Proofs.YtnapboelfimaaaaDoor
/- A hop goes out of a node. -/
namespace Go.Proofs.YtnapboelfimaaaaDoor
open Go.RowKit Go.Deep
theorem shrink_x (A : Ar) (ab wb b n gap less p : Nat) (x y z u : Int) (w : World) (h : ArAt w ab wb A) (hs : Sane A) (hx : x = b) (hy : y = n) (hz : z = gap) (hu : u = less) (h1 : 1 ≤ less) (h2 : n ≤ 32) (h3 : gap + less ≤ n) (h4 : b + n ≤ A.size) (hp : p = if n = less then 0 else b) :
    Calls Tryd.prog 115 #[.pointer (some ⟨ab, 0, none⟩), .agg #[.int .i64 x, .int .i64 y], .int .i64 z, .int .i64 u] w fun e w' => (∃ r : Int, e = .returned (.agg #[.int .i64 p, .int .i64 r])) ∧ ArAt w' ab wb (A.shrink b n gap less) ∧ Fr [ab, wb] w w' := by
  subst hx hy hz hu
  refine (shrink_any A ab wb b n gap less w h hs h1 h2 h3 h4 p hp).mono ?_
  rintro e w' ⟨rfl, hA, hF⟩
  exact ⟨⟨_, rfl⟩, hA, hF⟩
theorem cell_far {w : World} {b i j : Nat} {u v : Value} (h : w.cell? ⟨b, i, none⟩ = some u) (hij : j ≠ i) : (w.setCell ⟨b, j, none⟩ v).cell? ⟨b, i, none⟩ = some u := by
  rw [World.cell?_setCell_other]
  · exact h
  · intro e; cases e; exact hij rfl
theorem block_drop {w : World} {b : Nat} {n : NodeD} {r p : Nat} {t : TypeId} (h : w.heap[b]? = some (.cells #[.int .u16 n.routes, .int .u16 n.ways, .int .i64 n.hops, .int .i64 n.children] t (0, 0))) : (((w.setCell ⟨b, 2, none⟩ (.int .i64 (p : Int))).setCell ⟨b, 0, none⟩ (.int .u16 (r : Int))).drew).heap[b]? = some (.cells #[.int .u16 (r : Int), .int .u16 n.ways, .int .i64 (p : Int), .int .i64 n.children] t (0, 0)) := by
  show ((w.setCell _ _).setCell _ _).heap[b]? = _
  rw [heap_setCell_at _ (heap_setCell_at _ h)]
  rfl
theorem block_dropK {w : World} {b : Nat} {n : NodeD} {r p : Nat} {t : TypeId} (h : w.heap[b]? = some (.cells #[.int .u16 n.routes, .int .u16 n.ways, .int .i64 n.hops, .int .i64 n.children] t (0, 0))) : (((w.setCell ⟨b, 3, none⟩ (.int .i64 (p : Int))).setCell ⟨b, 1, none⟩ (.int .u16 (r : Int))).drew).heap[b]? = some (.cells #[.int .u16 n.routes, .int .u16 (r : Int), .int .i64 n.hops, .int .i64 (p : Int)] t (0, 0)) := by
  show ((w.setCell _ _).setCell _ _).heap[b]? = _
  rw [heap_setCell_at _ (heap_setCell_at _ h)]
  rfl
set_option maxHeartbeats 4000000 in
set_option maxRecDepth 10000 in
theorem dropHop_any (A : Ar) (tb ab wb k : Nat) (nn nd : NodeD) (w : World) (h : TabAt w tb ab wb A) (hs : Sane A) (hok : nn.ok) (hk : k ≤ 15) (hbit : nn.routes.testBit k = true) (hin : nn.hops + ones 16 nn.routes ≤ A.size) (hnd : nd = nn.dropHop k) :
    Calls Tryd.prog 112 #[.pointer (some ⟨tb, 0, none⟩), .agg #[.int .u16 nn.routes, .int .u16 nn.ways, .int .i64 nn.hops, .int .i64 nn.children], .int .i64 (k : Nat)] w fun e w' => e = .returned (.agg #[.int .u16 nd.routes, .int .u16 nd.ways, .int .i64 nd.hops, .int .i64 nd.children]) ∧ TabAt w' tb ab wb (A.shrink nn.hops (ones 16 nn.routes) (ones k nn.routes) 1) ∧ Fr [ab, wb] w w' := by
  have h16 := ones_le 16 nn.routes
  have hlt16 := ones_lt (show k < 16 by omega) hbit
  obtain ⟨p, hp⟩ : ∃ p, p = if ones 16 nn.routes = 1 then 0 else nn.hops := ⟨_, rfl⟩
  have hndc : (#[.int .u16 nd.routes, .int .u16 nd.ways, .int .i64 nd.hops, .int .i64 nd.children] : Array Value) = #[.int .u16 ((clr nn.routes k : Nat) : Int), .int .u16 nn.ways, .int .i64 (p : Int), .int .i64 nn.children] := by rw [hnd, hp]; rfl
  rw [hndc]
  clear hnd hndc
  have HSR := hide (fun (x z : Int) (w : World) (h : ArAt w ab wb A) (hx : x = (nn.hops : Nat)) (hz : z = (ones k nn.routes : Nat)) => shrink_x A ab wb nn.hops (ones 16 nn.routes) (ones k nn.routes) 1 p x (ones 16 nn.routes : Nat) z 1 w h hs hx rfl hz rfl (by omega) (by omega) (by omega) hin hp)
  have HHB := hide (fun (w : World) => hopBlock_any nn w hok)
  have HBE := hide (fun (w : World) => before_x nn.routes k k w rfl hok.1 hk)
  obtain ⟨R, hR⟩ : ∃ R, R = A.shrink nn.hops (ones 16 nn.routes) (ones k nn.routes) 1 := ⟨_, rfl⟩
  rw [← hR] at HSR ⊢
  clear hR
  obtain ⟨c1, hc1⟩ : ∃ c, c = ones 16 nn.routes := ⟨_, rfl⟩
  obtain ⟨c3, hc3⟩ : ∃ c, c = ones k nn.routes := ⟨_, rfl⟩
  rw [← hc1] at HHB HSR
  rw [← hc3] at HBE HSR
  have HAN := hide (andNot16 nn.routes k hok.1 (by omega))
  have HWK := hide (wrap16 hk)
  have hfd := field_block0
  have hk' : (k : Int) ≤ 15 := by omega
  have hna := h.na
  have hnw := h.nw
  have hla := h.ar.la
  have hlw := h.ar.lw
  have hlt := h.lt
  obtain ⟨cr, hcr⟩ : ∃ cr, cr = clr nn.routes k := ⟨_, rfl⟩
  rw [← hcr] at HAN ⊢
  obtain ⟨wq, hwq⟩ : ∃ wq, wq = (w.alloc (.cells #[.int .u16 nn.routes, .int .u16 nn.ways, .int .i64 nn.hops, .int .i64 nn.children] 116)).alloc (.cells #[.int .u16 0, .int .u16 0, .int .i64 0, .int .i64 0] 116) := ⟨_, rfl⟩
  have HBX : Below w.heap.size w wq := by rw [hwq]; exact ext_trans (ext_alloc _ _) (ext_alloc _ _)
  have bz : wq.heap[w.heap.size + 1]? = some (.cells #[.int .u16 0, .int .u16 0, .int .i64 0, .int .i64 0] 116 (0, 0)) := by rw [hwq, ← World.size_alloc w (.cells #[.int .u16 nn.routes, .int .u16 nn.ways, .int .i64 nn.hops, .int .i64 nn.children] 116)]; exact heap_alloc_new _ _
  have b2 : wq.heap[w.heap.size]? = some (.cells #[.int .u16 nn.routes, .int .u16 nn.ways, .int .i64 nn.hops, .int .i64 nn.children] 116 (0, 0)) := by rw [hwq]; exact block_ext (heap_alloc_new _ _) (ext_alloc _ _)
  have HTW := hide (h.ext HBX)
  have hlz := lt_of_block bz
  obtain ⟨nb, hnb⟩ : ∃ nb, nb = w.heap.size := ⟨_, rfl⟩
  obtain ⟨rb, hrb⟩ : ∃ rb, rb = w.heap.size + 1 := ⟨_, rfl⟩
  rw [← hrb] at bz
  rw [← hnb] at b2
  have hns : nb ∉ [ab, wb] := by simp; omega
  have hrs : rb ∉ [ab, wb] := by simp; omega
  have hts : tb ∉ [ab, wb] := by simp; omega
  have hrn : rb ≠ nb := by omega
  have hnt : tb ≠ nb := by omega
  have hnba : ab ≠ nb := by omega
  have hnbw : wb ≠ nb := by omega
  have hrt : tb ≠ rb := by omega
  have hrba : ab ≠ rb := by omega
  have hrbw : wb ≠ rb := by omega
  have hwnb : w.heap.size ≤ nb := by omega
  have hwrb : w.heap.size ≤ rb := by omega
  obtain ⟨q0, q1, q2, q3⟩ := cells4n b2
  have HB0 := hide HBX
  have HWQ := hide hwq
  have HNB := hide hnb
  have HRB := hide hrb
  have HBZ := hide bz
  have KS : ∀ w', Fr [ab, wb] wq w' → (fun w' : World => Fr [ab, wb, nb] wq w' ∧ w'.cell? ⟨tb, 0, none⟩ = some (.pointer (some ⟨ab, 0, none⟩)) ∧ w'.cell? ⟨nb, 0, none⟩ = some (.int .u16 nn.routes)) w' := fun w' hf => ⟨hf.mono (fun y hy _ => by simp at hy ⊢; omega), HTW.out.frw hf hts, (cells4n (hf.at b2 hns)).1⟩
  have KZ : ∀ (w' : World) (v : Value), (fun w' : World => Fr [ab, wb, nb] wq w' ∧ w'.cell? ⟨tb, 0, none⟩ = some (.pointer (some ⟨ab, 0, none⟩)) ∧ w'.cell? ⟨nb, 0, none⟩ = some (.int .u16 nn.routes)) w' → (fun w' : World => Fr [ab, wb, nb] wq w' ∧ w'.cell? ⟨tb, 0, none⟩ = some (.pointer (some ⟨ab, 0, none⟩)) ∧ w'.cell? ⟨nb, 0, none⟩ = some (.int .u16 nn.routes)) (w'.setCell ⟨nb, 2, none⟩ v) := fun w' v hS => ⟨hS.1.setCell (Or.inl (by simp)) _, by rw [World.cell?_setCell_far _ _ _ _ (Ne.symm hnt)]; exact hS.2.1, cell_far hS.2.2 (by omega)⟩
  simp only [] at KS KZ
  clear h hwq hnb hrb hc1 hc3 hp hcr HBX bz
  go_enter Tryd.func112, Tryd.ntmps112
  go_wp2_with fail
  rw [← HWQ.out, ← HRB.out, ← HNB.out]
  refine wp_region_held_drew (S := (fun w' : World => Fr [ab, wb, nb] wq w' ∧ w'.cell? ⟨tb, 0, none⟩ = some (.pointer (some ⟨ab, 0, none⟩)) ∧ w'.cell? ⟨nb, 0, none⟩ = some (.int .u16 nn.routes))) (by kernel_rfl) (KS _ (fr_below (drew_ext wq))) (fun hHeld => ?_)
  (refine wpAnyH_take (i := 0) (oi := _) (v := ?_) rfl (by kernel_rfl) (by kernel_rfl) (by kernel_rfl) (fun _ _ _ h => h) (Or.inl ⟨by rfl, ?_⟩) (by assumption) ?_; rotate_left; (intro w hSw; (try dsimp only at hSw); go_simp; try with_reducible rfl); (try simp only [Act.put]); (try simp only [List.setIfInBounds_toArray]))
  (refine wpAnyH_take (i := 1) (oi := _) (v := ?_) rfl (by kernel_rfl) (by kernel_rfl) (by kernel_rfl) (fun _ _ _ h => h) (Or.inl ⟨by rfl, ?_⟩) (by assumption) ?_; rotate_left; (intro w hSw; (try dsimp only at hSw); go_simp; try with_reducible rfl); (try simp only [Act.put]); (try simp only [List.setIfInBounds_toArray]))
  (refine wpAnyH_take (i := 2) (oi := _) (v := ?_) rfl (by kernel_rfl) (by kernel_rfl) (by kernel_rfl) (fun _ _ _ h => h) (Or.inl ⟨by rfl, ?_⟩) (by assumption) ?_; rotate_left; (intro w hSw; (try dsimp only at hSw); go_simp; try with_reducible rfl); (try simp only [Act.put]); (try simp only [List.setIfInBounds_toArray]))
  (refine wpAnyH_take (i := 3) (oi := _) (v := ?_) rfl (by kernel_rfl) (by kernel_rfl) (by kernel_rfl) (fun _ _ _ h => h) (Or.inl ⟨by rfl, ?_⟩) (by assumption) ?_; rotate_left; (intro w hSw; (try dsimp only at hSw); go_simp; try with_reducible rfl); (try simp only [Act.put]); (try simp only [List.setIfInBounds_toArray]))
  (refine wpAnyH_take (i := 6) (oi := _) (v := ?_) rfl (by kernel_rfl) (by kernel_rfl) (by kernel_rfl) (fun _ _ _ h => h) (Or.inl ⟨by rfl, ?_⟩) (by assumption) ?_; rotate_left; (intro w hSw; (try dsimp only at hSw); go_simp; try with_reducible rfl); (try simp only [Act.put]); (try simp only [List.setIfInBounds_toArray]))
  (refine wpAnyH_take (i := 7) (oi := _) (v := ?_) rfl (by kernel_rfl) (by kernel_rfl) (by kernel_rfl) (fun _ _ _ h => h) (Or.inl ⟨by rfl, ?_⟩) (by assumption) ?_; rotate_left; (intro w hSw; (try dsimp only at hSw); go_simp; try with_reducible rfl); (try simp only [Act.put]); (try simp only [List.setIfInBounds_toArray]))
  (refine wpAnyH_take (i := 8) (oi := _) (v := ?_) rfl (by kernel_rfl) (by kernel_rfl) (by kernel_rfl) (fun _ _ _ h => h) (Or.inl ⟨by rfl, ?_⟩) (by assumption) ?_; rotate_left; (intro w hSw; (try dsimp only at hSw); go_simp; try with_reducible rfl); (try simp only [Act.put]); (try simp only [List.setIfInBounds_toArray]))
  ((refine wpAnyH_ready (rs := [4]) (by kernel_rfl) (by simp) ?_); (refine AllReadyH.cons (o := _) rfl (fun K hK => ?_) ?_); rotate_left; exact AllReadyH.nil)
  go_simp
  (refine hK.out _ _ (KS _ (fr_below (drew_ext wq))) (fun hHeld => ?_); clear hK K; (try simp only [Act.put]); (try simp only [List.setIfInBounds_toArray]))
  ((refine wpAnyH_ready (rs := [5]) (by kernel_rfl) (by simp) ?_); (refine AllReadyH.cons (o := _) rfl (fun K hK => ?_) ?_); rotate_left; exact AllReadyH.nil)
  go_simp
  (go_at_call 94; refine (HHB.out _).mono ?_; rintro e w5 ⟨rfl, hb5⟩; with_reducible (first | (have S5 := (ext_trans (drew_ext wq) hb5 : Below wq.heap.size wq w5)) | (have S5 := (ext_trans S6 hb5 : Below wq.heap.size wq w5))); obtain ⟨a0, a1, a2, a3⟩ := cells4n (block_ext b2 S5); clear hb5)
  go_wp2_with fail
  (refine hK.out _ _ (KS _ (fr_below S5)) (fun hHeld => ?_); clear hK K; (try simp only [Act.put]); (try simp only [List.setIfInBounds_toArray]))
  ((refine wpAnyH_ready (rs := [9]) (by kernel_rfl) (by simp) ?_); (refine AllReadyH.cons (o := _) rfl (fun K hK => ?_) ?_); rotate_left; exact AllReadyH.nil)
  go_simp
  (go_at_call 59; refine (HBE.out _).mono ?_; rintro e w6 ⟨rfl, hb6⟩; with_reducible (first | (have S6 := (ext_trans S5 hb6 : Below wq.heap.size wq w6)) | (have S6 := (ext_trans (drew_ext wq) hb6 : Below wq.heap.size wq w6))); obtain ⟨e0, e1, e2, e3⟩ := cells4n (block_ext b2 S6); clear hb6)
  go_wp2_with fail
  (refine hK.out _ _ (KS _ (fr_below S6)) (fun hHeld => ?_); clear hK K; (try simp only [Act.put]); (try simp only [List.setIfInBounds_toArray]))
  ((refine wpAnyH_ready (rs := [10]) (by kernel_rfl) (by simp) ?_); (refine AllReadyH.cons (o := _) rfl (fun K hK => ?_) ?_); rotate_left; exact AllReadyH.nil)
  go_simp
  (go_at_call 115; with_reducible (first | refine (HSR.out _ _ _ (HTW.out.ar.ext S6) rfl rfl).mono ?_ | refine (HSR.out _ _ _ (HTW.out.ar.ext S5) rfl rfl).mono ?_); rintro e w7 ⟨⟨r, rfl⟩, hA7, hF7⟩; with_reducible (first | (have F7 := (Fr.after (fr_below S6) hF7 (fun y hy => Or.inl hy) : Fr [ab, wb] wq w7)) | (have F7 := (Fr.after (fr_below S5) hF7 (fun y hy => Or.inl hy) : Fr [ab, wb] wq w7))); have b7 := F7.at b2 hns; obtain ⟨g0, g1, g2, g3, g4, g5, g6, g7⟩ := cells4 b7; clear hF7)
  go_wp2_with fail
  (refine hK.out _ _ (KS _ F7) (fun hHeld => ?_); clear hK K; (try simp only [Act.put]); (try simp only [List.setIfInBounds_toArray]))
  (refine wpAnyH_take (i := 11) (oi := _) (v := ?_) rfl (by kernel_rfl) (by kernel_rfl) (by kernel_rfl) (fun _ _ _ h => h) (Or.inl ⟨by rfl, ?_⟩) (by assumption) ?_; rotate_left; (intro w hSw; (try dsimp only at hSw); go_simp; try with_reducible rfl); (try simp only [Act.put]); (try simp only [List.setIfInBounds_toArray]))
  (refine wpAnyH_take (i := 12) (oi := _) (v := ?_) rfl (by kernel_rfl) (by kernel_rfl) (by kernel_rfl) (fun _ _ _ h => h) (Or.inl ⟨by rfl, ?_⟩) (by assumption) ?_; rotate_left; (intro w hSw; (try dsimp only at hSw); go_simp; try with_reducible rfl); (try simp only [Act.put]); (try simp only [List.setIfInBounds_toArray]))
  ((refine wpAnyH_ready (rs := [13]) (by kernel_rfl) (by simp) ?_); (refine AllReadyH.cons (o := _) rfl (fun K hK => ?_) ?_); rotate_left; exact AllReadyH.nil)
  go_simp
  (refine hK.out _ _ (KZ _ _ (KS _ F7)) (fun hHeld => ?_); clear hK K; (try simp only [Act.put]); (try simp only [List.setIfInBounds_toArray]))
  (refine wpAnyH_done (by kernel_rfl) ?_ _)
  have bz7 := F7.at HBZ.out hrs
  obtain ⟨z0, z1, z2, z3, z4, z5, z6, z7⟩ := cells4 bz7
  have hl7 := lt_of_block b7
  have hlz7 := lt_of_block bz7
  have HT7 := hide (HTW.out.of F7 hts hA7)
  have HF7 := hide (Fr.after (fr_below HB0.out) F7 (fun y hy => Or.inl hy) : Fr [ab, wb] w w7)
  have HB7 := hide b7
  have HBZ7 := hide bz7
  clear F7 hA7 KS KZ b2 b7 bz7 q0 q1 q2 q3 hHeld a0 a1 a2 a3 e0 e1 e2 e3 S5 S6
  go_wp2_with fail
  go_region
  rw [HWK.out, HAN.out]
  have bn8 := block_drop (r := cr) (p := p) HB7.out
  have bz8 : (((w7.setCell ⟨nb, 2, none⟩ (.int .i64 (p : Int))).setCell ⟨nb, 0, none⟩ (.int .u16 (cr : Int))).drew).heap[rb]? = some (.cells #[.int .u16 0, .int .u16 0, .int .i64 0, .int .i64 0] 116 (0, 0)) := ((Below.heap_setCell _ _ _ _ hrn).trans (Below.heap_setCell _ _ _ _ hrn)).trans HBZ7.out
  have hT8 : TabAt (((w7.setCell ⟨nb, 2, none⟩ (.int .i64 (p : Int))).setCell ⟨nb, 0, none⟩ (.int .u16 (cr : Int))).drew) tb ab wb R := ((HT7.out.other hnt hnba hnbw).other hnt hnba hnbw).ext (drew_ext _)
  have hF8 : Fr [ab, wb] w (((w7.setCell ⟨nb, 2, none⟩ (.int .i64 (p : Int))).setCell ⟨nb, 0, none⟩ (.int .u16 (cr : Int))).drew) := two_setFr HF7.out hwnb
  obtain ⟨w8, hw8⟩ : ∃ w8, w8 = ((w7.setCell ⟨nb, 2, none⟩ (.int .i64 (p : Int))).setCell ⟨nb, 0, none⟩ (.int .u16 (cr : Int))).drew := ⟨_, rfl⟩
  rw [← hw8] at bn8 bz8 hT8 hF8 ⊢
  clear g0 g1 g2 g3 g4 g5 g6 g7 z0 z1 z2 z3 z4 z5 z6 z7 HB7 HBZ7 HT7 HF7
  obtain ⟨g0, g1, g2, g3, g4, g5, g6, g7⟩ := cells4 bn8
  obtain ⟨z0, z1, z2, z3, z4, z5, z6, z7⟩ := cells4 bz8
  have hl8 := lt_of_block bn8
  have hlz8 := lt_of_block bz8
  have bz9 := store4 (c0 := .int .u16 (cr : Int)) (c1 := .int .u16 nn.ways) (c2 := .int .i64 (p : Int)) (c3 := .int .i64 nn.children) bz8
  have hT9 := hT8.set4 (b := rb) (v0 := .int .u16 (cr : Int)) (v1 := .int .u16 nn.ways) (v2 := .int .i64 (p : Int)) (v3 := .int .i64 nn.children) hrt hrba hrbw
  have hF9 := hF8.set4 (b := rb) (v0 := .int .u16 (cr : Int)) (v1 := .int .u16 nn.ways) (v2 := .int .i64 (p : Int)) (v3 := .int .i64 nn.children) (Or.inr hwrb)
  obtain ⟨w9, hw9⟩ : ∃ w9, w9 = ((((w8.setCell ⟨rb, 0, none⟩ (.int .u16 (cr : Int))).setCell ⟨rb, 1, none⟩ (.int .u16 nn.ways)).setCell ⟨rb, 2, none⟩ (.int .i64 (p : Int))).setCell ⟨rb, 3, none⟩ (.int .i64 nn.children)) := ⟨_, rfl⟩
  rw [← hw9] at bz9 hT9 hF9
  have HX := hide (And.intro bz9 (And.intro hT9 hF9))
  have HW9 := hide hw9
  clear bz9 hT9 hF9 hw8 hw9 hT8 hF8 bn8 bz8
  go_wp2
  rw [← HW9.out]
  obtain ⟨y0, y1, y2, y3, y4, y5, y6, y7⟩ := cells4 HX.out.1
  exact bodyPost_ret (v := .agg #[.int .u16 (cr : Int), .int .u16 nn.ways, .int .i64 (p : Int), .int .i64 nn.children]) (by simp [results, Tryd.results112, go_sem, y0, y1, y2, y3]) rfl ⟨rfl, HX.out.2.1, HX.out.2.2⟩
end Go.Proofs.YtnapboelfimaaaaDoor
/- A child goes out of a node. -/
namespace Go.Proofs.YtnapboelfimaaaaDoor
open Go.RowKit Go.Deep
set_option maxHeartbeats 4000000 in
set_option maxRecDepth 10000 in
theorem dropChild_any (A : Ar) (tb ab wb k : Nat) (nn nd : NodeD) (w : World) (h : TabAt w tb ab wb A) (hs : Sane A) (hok : nn.ok) (hk : k ≤ 15) (hbit : nn.ways.testBit k = true) (hin : nn.children + 2 * ones 16 nn.ways ≤ A.size) (hnd : nd = nn.dropKid k) :
    Calls Tryd.prog 113 #[.pointer (some ⟨tb, 0, none⟩), .agg #[.int .u16 nn.routes, .int .u16 nn.ways, .int .i64 nn.hops, .int .i64 nn.children], .int .i64 (k : Nat)] w fun e w' => e = .returned (.agg #[.int .u16 nd.routes, .int .u16 nd.ways, .int .i64 nd.hops, .int .i64 nd.children]) ∧ TabAt w' tb ab wb (A.shrink nn.children (2 * ones 16 nn.ways) (2 * ones k nn.ways) 2) ∧ Fr [ab, wb] w w' := by
  have h16 := ones_le 16 nn.ways
  have hlt16 := ones_lt (show k < 16 by omega) hbit
  obtain ⟨p, hp⟩ : ∃ p, p = if 2 * ones 16 nn.ways = 2 then 0 else nn.children := ⟨_, rfl⟩
  have hndc : (#[.int .u16 nd.routes, .int .u16 nd.ways, .int .i64 nd.hops, .int .i64 nd.children] : Array Value) = #[.int .u16 nn.routes, .int .u16 ((clr nn.ways k : Nat) : Int), .int .i64 nn.hops, .int .i64 (p : Int)] := by rw [hnd, hp]; rfl
  rw [hndc]
  clear hnd hndc
  have HSR := hide (fun (x z : Int) (w : World) (h : ArAt w ab wb A) (hx : x = (nn.children : Nat)) (hz : z = IntKind.i64.wrap (2 * (ones k nn.ways : Int))) => shrink_x A ab wb nn.children (2 * ones 16 nn.ways) (2 * ones k nn.ways) 2 p x (2 * ones 16 nn.ways : Nat) z 2 w h hs hx rfl (by rw [hz, IntKind.wrap_i64]; omega) rfl (by omega) (by omega) (by omega) hin hp)
  have HCB := hide (fun (w : World) => childBlock_any nn w hok)
  have HBE := hide (fun (w : World) => before_x nn.ways k k w rfl hok.2.1 hk)
  obtain ⟨R, hR⟩ : ∃ R, R = A.shrink nn.children (2 * ones 16 nn.ways) (2 * ones k nn.ways) 2 := ⟨_, rfl⟩
  rw [← hR] at HSR ⊢
  clear hR
  obtain ⟨c1, hc1⟩ : ∃ c, c = 2 * ones 16 nn.ways := ⟨_, rfl⟩
  obtain ⟨c3, hc3⟩ : ∃ c, c = ones k nn.ways := ⟨_, rfl⟩
  rw [← hc1] at HCB HSR
  rw [← hc3] at HBE HSR
  have HAN := hide (andNot16 nn.ways k hok.2.1 (by omega))
  have HWK := hide (wrap16 hk)
  have hfd := field_block0
  have hk' : (k : Int) ≤ 15 := by omega
  have hna := h.na
  have hnw := h.nw
  have hla := h.ar.la
  have hlw := h.ar.lw
  have hlt := h.lt
  obtain ⟨cr, hcr⟩ : ∃ cr, cr = clr nn.ways k := ⟨_, rfl⟩
  rw [← hcr] at HAN ⊢
  obtain ⟨wq, hwq⟩ : ∃ wq, wq = (w.alloc (.cells #[.int .u16 nn.routes, .int .u16 nn.ways, .int .i64 nn.hops, .int .i64 nn.children] 116)).alloc (.cells #[.int .u16 0, .int .u16 0, .int .i64 0, .int .i64 0] 116) := ⟨_, rfl⟩
  have HBX : Below w.heap.size w wq := by rw [hwq]; exact ext_trans (ext_alloc _ _) (ext_alloc _ _)
  have bz : wq.heap[w.heap.size + 1]? = some (.cells #[.int .u16 0, .int .u16 0, .int .i64 0, .int .i64 0] 116 (0, 0)) := by rw [hwq, ← World.size_alloc w (.cells #[.int .u16 nn.routes, .int .u16 nn.ways, .int .i64 nn.hops, .int .i64 nn.children] 116)]; exact heap_alloc_new _ _
  have b2 : wq.heap[w.heap.size]? = some (.cells #[.int .u16 nn.routes, .int .u16 nn.ways, .int .i64 nn.hops, .int .i64 nn.children] 116 (0, 0)) := by rw [hwq]; exact block_ext (heap_alloc_new _ _) (ext_alloc _ _)
  have HTW := hide (h.ext HBX)
  have hlz := lt_of_block bz
  obtain ⟨nb, hnb⟩ : ∃ nb, nb = w.heap.size := ⟨_, rfl⟩
  obtain ⟨rb, hrb⟩ : ∃ rb, rb = w.heap.size + 1 := ⟨_, rfl⟩
  rw [← hrb] at bz
  rw [← hnb] at b2
  have hns : nb ∉ [ab, wb] := by simp; omega
  have hrs : rb ∉ [ab, wb] := by simp; omega
  have hts : tb ∉ [ab, wb] := by simp; omega
  have hrn : rb ≠ nb := by omega
  have hnt : tb ≠ nb := by omega
  have hnba : ab ≠ nb := by omega
  have hnbw : wb ≠ nb := by omega
  have hrt : tb ≠ rb := by omega
  have hrba : ab ≠ rb := by omega
  have hrbw : wb ≠ rb := by omega
  have hwnb : w.heap.size ≤ nb := by omega
  have hwrb : w.heap.size ≤ rb := by omega
  obtain ⟨q0, q1, q2, q3⟩ := cells4n b2
  have HB0 := hide HBX
  have HWQ := hide hwq
  have HNB := hide hnb
  have HRB := hide hrb
  have HBZ := hide bz
  have KS : ∀ w', Fr [ab, wb] wq w' → (fun w' : World => Fr [ab, wb, nb] wq w' ∧ w'.cell? ⟨tb, 0, none⟩ = some (.pointer (some ⟨ab, 0, none⟩)) ∧ w'.cell? ⟨nb, 1, none⟩ = some (.int .u16 nn.ways)) w' := fun w' hf => ⟨hf.mono (fun y hy _ => by simp at hy ⊢; omega), HTW.out.frw hf hts, (cells4n (hf.at b2 hns)).2.1⟩
  have KZ : ∀ (w' : World) (v : Value), (fun w' : World => Fr [ab, wb, nb] wq w' ∧ w'.cell? ⟨tb, 0, none⟩ = some (.pointer (some ⟨ab, 0, none⟩)) ∧ w'.cell? ⟨nb, 1, none⟩ = some (.int .u16 nn.ways)) w' → (fun w' : World => Fr [ab, wb, nb] wq w' ∧ w'.cell? ⟨tb, 0, none⟩ = some (.pointer (some ⟨ab, 0, none⟩)) ∧ w'.cell? ⟨nb, 1, none⟩ = some (.int .u16 nn.ways)) (w'.setCell ⟨nb, 3, none⟩ v) := fun w' v hS => ⟨hS.1.setCell (Or.inl (by simp)) _, by rw [World.cell?_setCell_far _ _ _ _ (Ne.symm hnt)]; exact hS.2.1, cell_far hS.2.2 (by omega)⟩
  simp only [] at KS KZ
  clear h hwq hnb hrb hc1 hc3 hp hcr HBX bz
  go_enter Tryd.func113, Tryd.ntmps113
  go_wp2_with fail
  rw [← HWQ.out, ← HRB.out, ← HNB.out]
  refine wp_region_held_drew (S := (fun w' : World => Fr [ab, wb, nb] wq w' ∧ w'.cell? ⟨tb, 0, none⟩ = some (.pointer (some ⟨ab, 0, none⟩)) ∧ w'.cell? ⟨nb, 1, none⟩ = some (.int .u16 nn.ways))) (by kernel_rfl) (KS _ (fr_below (drew_ext wq))) (fun hHeld => ?_)
  (refine wpAnyH_take (i := 0) (oi := _) (v := ?_) rfl (by kernel_rfl) (by kernel_rfl) (by kernel_rfl) (fun _ _ _ h => h) (Or.inl ⟨by rfl, ?_⟩) (by assumption) ?_; rotate_left; (intro w hSw; (try dsimp only at hSw); go_simp; try with_reducible rfl); (try simp only [Act.put]); (try simp only [List.setIfInBounds_toArray]))
  (refine wpAnyH_take (i := 1) (oi := _) (v := ?_) rfl (by kernel_rfl) (by kernel_rfl) (by kernel_rfl) (fun _ _ _ h => h) (Or.inl ⟨by rfl, ?_⟩) (by assumption) ?_; rotate_left; (intro w hSw; (try dsimp only at hSw); go_simp; try with_reducible rfl); (try simp only [Act.put]); (try simp only [List.setIfInBounds_toArray]))
  (refine wpAnyH_take (i := 2) (oi := _) (v := ?_) rfl (by kernel_rfl) (by kernel_rfl) (by kernel_rfl) (fun _ _ _ h => h) (Or.inl ⟨by rfl, ?_⟩) (by assumption) ?_; rotate_left; (intro w hSw; (try dsimp only at hSw); go_simp; try with_reducible rfl); (try simp only [Act.put]); (try simp only [List.setIfInBounds_toArray]))
  (refine wpAnyH_take (i := 3) (oi := _) (v := ?_) rfl (by kernel_rfl) (by kernel_rfl) (by kernel_rfl) (fun _ _ _ h => h) (Or.inl ⟨by rfl, ?_⟩) (by assumption) ?_; rotate_left; (intro w hSw; (try dsimp only at hSw); go_simp; try with_reducible rfl); (try simp only [Act.put]); (try simp only [List.setIfInBounds_toArray]))
  (refine wpAnyH_take (i := 6) (oi := _) (v := ?_) rfl (by kernel_rfl) (by kernel_rfl) (by kernel_rfl) (fun _ _ _ h => h) (Or.inl ⟨by rfl, ?_⟩) (by assumption) ?_; rotate_left; (intro w hSw; (try dsimp only at hSw); go_simp; try with_reducible rfl); (try simp only [Act.put]); (try simp only [List.setIfInBounds_toArray]))
  (refine wpAnyH_take (i := 7) (oi := _) (v := ?_) rfl (by kernel_rfl) (by kernel_rfl) (by kernel_rfl) (fun _ _ _ h => h) (Or.inl ⟨by rfl, ?_⟩) (by assumption) ?_; rotate_left; (intro w hSw; (try dsimp only at hSw); go_simp; try with_reducible rfl); (try simp only [Act.put]); (try simp only [List.setIfInBounds_toArray]))
  (refine wpAnyH_take (i := 8) (oi := _) (v := ?_) rfl (by kernel_rfl) (by kernel_rfl) (by kernel_rfl) (fun _ _ _ h => h) (Or.inl ⟨by rfl, ?_⟩) (by assumption) ?_; rotate_left; (intro w hSw; (try dsimp only at hSw); go_simp; try with_reducible rfl); (try simp only [Act.put]); (try simp only [List.setIfInBounds_toArray]))
  ((refine wpAnyH_ready (rs := [4]) (by kernel_rfl) (by simp) ?_); (refine AllReadyH.cons (o := _) rfl (fun K hK => ?_) ?_); rotate_left; exact AllReadyH.nil)
  go_simp
  (refine hK.out _ _ (KS _ (fr_below (drew_ext wq))) (fun hHeld => ?_); clear hK K; (try simp only [Act.put]); (try simp only [List.setIfInBounds_toArray]))
  ((refine wpAnyH_ready (rs := [5]) (by kernel_rfl) (by simp) ?_); (refine AllReadyH.cons (o := _) rfl (fun K hK => ?_) ?_); rotate_left; exact AllReadyH.nil)
  go_simp
  (go_at_call 92; refine (HCB.out _).mono ?_; rintro e w5 ⟨rfl, hb5⟩; with_reducible (first | (have S5 := (ext_trans (drew_ext wq) hb5 : Below wq.heap.size wq w5)) | (have S5 := (ext_trans S6 hb5 : Below wq.heap.size wq w5))); obtain ⟨a0, a1, a2, a3⟩ := cells4n (block_ext b2 S5); clear hb5)
  go_wp2_with fail
  (refine hK.out _ _ (KS _ (fr_below S5)) (fun hHeld => ?_); clear hK K; (try simp only [Act.put]); (try simp only [List.setIfInBounds_toArray]))
  ((refine wpAnyH_ready (rs := [9]) (by kernel_rfl) (by simp) ?_); (refine AllReadyH.cons (o := _) rfl (fun K hK => ?_) ?_); rotate_left; exact AllReadyH.nil)
  go_simp
  (go_at_call 59; refine (HBE.out _).mono ?_; rintro e w6 ⟨rfl, hb6⟩; with_reducible (first | (have S6 := (ext_trans S5 hb6 : Below wq.heap.size wq w6)) | (have S6 := (ext_trans (drew_ext wq) hb6 : Below wq.heap.size wq w6))); obtain ⟨e0, e1, e2, e3⟩ := cells4n (block_ext b2 S6); clear hb6)
  go_wp2_with fail
  (refine hK.out _ _ (KS _ (fr_below S6)) (fun hHeld => ?_); clear hK K; (try simp only [Act.put]); (try simp only [List.setIfInBounds_toArray]))
  (refine wpAnyH_take (i := 10) (oi := _) (v := ?_) rfl (by kernel_rfl) (by kernel_rfl) (by kernel_rfl) (fun _ _ _ h => h) (Or.inl ⟨by rfl, ?_⟩) (by assumption) ?_; rotate_left; (intro w hSw; (try dsimp only at hSw); go_simp; try with_reducible rfl); (try simp only [Act.put]); (try simp only [List.setIfInBounds_toArray]))
  ((refine wpAnyH_ready (rs := [11]) (by kernel_rfl) (by simp) ?_); (refine AllReadyH.cons (o := _) rfl (fun K hK => ?_) ?_); rotate_left; exact AllReadyH.nil)
  go_simp
  (go_at_call 115; with_reducible (first | refine (HSR.out _ _ _ (HTW.out.ar.ext S6) rfl rfl).mono ?_ | refine (HSR.out _ _ _ (HTW.out.ar.ext S5) rfl rfl).mono ?_); rintro e w7 ⟨⟨r, rfl⟩, hA7, hF7⟩; with_reducible (first | (have F7 := (Fr.after (fr_below S6) hF7 (fun y hy => Or.inl hy) : Fr [ab, wb] wq w7)) | (have F7 := (Fr.after (fr_below S5) hF7 (fun y hy => Or.inl hy) : Fr [ab, wb] wq w7))); have b7 := F7.at b2 hns; obtain ⟨g0, g1, g2, g3, g4, g5, g6, g7⟩ := cells4 b7; clear hF7)
  go_wp2_with fail
  (refine hK.out _ _ (KS _ F7) (fun hHeld => ?_); clear hK K; (try simp only [Act.put]); (try simp only [List.setIfInBounds_toArray]))
  (refine wpAnyH_take (i := 12) (oi := _) (v := ?_) rfl (by kernel_rfl) (by kernel_rfl) (by kernel_rfl) (fun _ _ _ h => h) (Or.inl ⟨by rfl, ?_⟩) (by assumption) ?_; rotate_left; (intro w hSw; (try dsimp only at hSw); go_simp; try with_reducible rfl); (try simp only [Act.put]); (try simp only [List.setIfInBounds_toArray]))
  (refine wpAnyH_take (i := 13) (oi := _) (v := ?_) rfl (by kernel_rfl) (by kernel_rfl) (by kernel_rfl) (fun _ _ _ h => h) (Or.inl ⟨by rfl, ?_⟩) (by assumption) ?_; rotate_left; (intro w hSw; (try dsimp only at hSw); go_simp; try with_reducible rfl); (try simp only [Act.put]); (try simp only [List.setIfInBounds_toArray]))
  ((refine wpAnyH_ready (rs := [14]) (by kernel_rfl) (by simp) ?_); (refine AllReadyH.cons (o := _) rfl (fun K hK => ?_) ?_); rotate_left; exact AllReadyH.nil)
  go_simp
  (refine hK.out _ _ (KZ _ _ (KS _ F7)) (fun hHeld => ?_); clear hK K; (try simp only [Act.put]); (try simp only [List.setIfInBounds_toArray]))
  (refine wpAnyH_done (by kernel_rfl) ?_ _)
  have bz7 := F7.at HBZ.out hrs
  obtain ⟨z0, z1, z2, z3, z4, z5, z6, z7⟩ := cells4 bz7
  have hl7 := lt_of_block b7
  have hlz7 := lt_of_block bz7
  have HT7 := hide (HTW.out.of F7 hts hA7)
  have HF7 := hide (Fr.after (fr_below HB0.out) F7 (fun y hy => Or.inl hy) : Fr [ab, wb] w w7)
  have HB7 := hide b7
  have HBZ7 := hide bz7
  clear F7 hA7 KS KZ b2 b7 bz7 q0 q1 q2 q3 hHeld a0 a1 a2 a3 e0 e1 e2 e3 S5 S6
  go_wp2_with fail
  go_region
  rw [HWK.out, HAN.out]
  have bn8 := block_dropK (r := cr) (p := p) HB7.out
  have bz8 : (((w7.setCell ⟨nb, 3, none⟩ (.int .i64 (p : Int))).setCell ⟨nb, 1, none⟩ (.int .u16 (cr : Int))).drew).heap[rb]? = some (.cells #[.int .u16 0, .int .u16 0, .int .i64 0, .int .i64 0] 116 (0, 0)) := ((Below.heap_setCell _ _ _ _ hrn).trans (Below.heap_setCell _ _ _ _ hrn)).trans HBZ7.out
  have hT8 : TabAt (((w7.setCell ⟨nb, 3, none⟩ (.int .i64 (p : Int))).setCell ⟨nb, 1, none⟩ (.int .u16 (cr : Int))).drew) tb ab wb R := ((HT7.out.other hnt hnba hnbw).other hnt hnba hnbw).ext (drew_ext _)
  have hF8 : Fr [ab, wb] w (((w7.setCell ⟨nb, 3, none⟩ (.int .i64 (p : Int))).setCell ⟨nb, 1, none⟩ (.int .u16 (cr : Int))).drew) := two_setFr HF7.out hwnb
  obtain ⟨w8, hw8⟩ : ∃ w8, w8 = ((w7.setCell ⟨nb, 3, none⟩ (.int .i64 (p : Int))).setCell ⟨nb, 1, none⟩ (.int .u16 (cr : Int))).drew := ⟨_, rfl⟩
  rw [← hw8] at bn8 bz8 hT8 hF8 ⊢
  clear g0 g1 g2 g3 g4 g5 g6 g7 z0 z1 z2 z3 z4 z5 z6 z7 HB7 HBZ7 HT7 HF7
  obtain ⟨g0, g1, g2, g3, g4, g5, g6, g7⟩ := cells4 bn8
  obtain ⟨z0, z1, z2, z3, z4, z5, z6, z7⟩ := cells4 bz8
  have hl8 := lt_of_block bn8
  have hlz8 := lt_of_block bz8
  have bz9 := store4 (c0 := .int .u16 nn.routes) (c1 := .int .u16 (cr : Int)) (c2 := .int .i64 nn.hops) (c3 := .int .i64 (p : Int)) bz8
  have hT9 := hT8.set4 (b := rb) (v0 := .int .u16 nn.routes) (v1 := .int .u16 (cr : Int)) (v2 := .int .i64 nn.hops) (v3 := .int .i64 (p : Int)) hrt hrba hrbw
  have hF9 := hF8.set4 (b := rb) (v0 := .int .u16 nn.routes) (v1 := .int .u16 (cr : Int)) (v2 := .int .i64 nn.hops) (v3 := .int .i64 (p : Int)) (Or.inr hwrb)
  obtain ⟨w9, hw9⟩ : ∃ w9, w9 = ((((w8.setCell ⟨rb, 0, none⟩ (.int .u16 nn.routes)).setCell ⟨rb, 1, none⟩ (.int .u16 (cr : Int))).setCell ⟨rb, 2, none⟩ (.int .i64 nn.hops)).setCell ⟨rb, 3, none⟩ (.int .i64 (p : Int))) := ⟨_, rfl⟩
  rw [← hw9] at bz9 hT9 hF9
  have HX := hide (And.intro bz9 (And.intro hT9 hF9))
  have HW9 := hide hw9
  clear bz9 hT9 hF9 hw8 hw9 hT8 hF8 bn8 bz8
  go_wp2
  rw [← HW9.out]
  obtain ⟨y0, y1, y2, y3, y4, y5, y6, y7⟩ := cells4 HX.out.1
  exact bodyPost_ret (v := .agg #[.int .u16 nn.routes, .int .u16 (cr : Int), .int .i64 nn.hops, .int .i64 (p : Int)]) (by simp [results, Tryd.results113, go_sem, y0, y1, y2, y3]) rfl ⟨rfl, HX.out.2.1, HX.out.2.2⟩
end Go.Proofs.YtnapboelfimaaaaDoor
