/- Puc, Puf, Pud: parts of the proof, one behind the other. -/
import Derived.Test.YtnapboelfimaaaaDoorK23
/- A child is put into a node. -/
namespace Go.Proofs.YtnapboelfimaaaaDoor
open Go.RowKit Go.Deep
set_option maxHeartbeats 4000000 in
set_option maxRecDepth 10000 in
theorem putChild_more (A : Ar) (F : Nat → List Nat) (M : Tab) (m tb ab wb d len u y k : Nat) (child : NodeD) (B : Ar) (p : Nat) (w : World) (h : TabAt w tb ab wb A) (hG : Good A F m) (hm : m ≤ 3000) (hO : OnF A F M d len u y) (hk : k ≤ 15) (hch : child.ok) (hbit : (nodeAt A.word y).ways.testBit k = false)
    (hgr : A.grow (nodeAt A.word y).children (2 * ones 16 (nodeAt A.word y).ways) (2 * ones k (nodeAt A.word y).ways) 2 = (B, some p)) :
    Calls Tryd.prog 98 #[.pointer (some ⟨tb, 0, none⟩), .int .i64 (y : Nat), .int .i64 (k : Nat), .agg #[.int .u16 child.routes, .int .u16 child.ways, .int .i64 child.hops, .int .i64 child.children]] w fun e w' => e = .returned (.bool true) ∧ TabAt w' tb ab wb ((B.putN y ((nodeAt A.word y).moreKid k p)).putN (((nodeAt A.word y).moreKid k p).kid k) child) ∧ Fr [ab, wb] w w' := by
  have hs := hG.sane (by omega)
  have hlt := hO.on.lt
  have hok := hO.on.ok
  have hz := hs.size
  have hkds := hO.on.kids
  have h16 := ones16_room (x := (nodeAt A.word y).ways) (f := k) (by omega) hbit
  have hmono := ones_mono (nodeAt A.word y).ways (show k ≤ 16 by omega)
  obtain ⟨F', hGB, hgn, hp1, hp2⟩ := good_grow hG (by omega) (by omega) (by omega) (fun q => by have := hO.kidsIn q; omega) hO.kidsApart hO.kidsIn hgr
  have hBs := hgn.size
  have HGR := hide (fun (x z : Int) (w : World) (h : ArAt w ab wb A) (hx : x = ((nodeAt A.word y).children : Nat)) (hz : z = IntKind.i64.wrap (2 * (ones k (nodeAt A.word y).ways : Int))) => grow_some A ab wb (nodeAt A.word y).children (2 * ones 16 (nodeAt A.word y).ways) (2 * ones k (nodeAt A.word y).ways) 2 x (2 * ones 16 (nodeAt A.word y).ways : Nat) z 2 w h hs hx rfl (by rw [hz, IntKind.wrap_i64]; omega) rfl (by omega) (by omega) (by omega) hkds.1 hkds.2.1 (good_hB hG (by omega) (by omega) (by omega)) B p hgr)
  obtain ⟨wx, hwx⟩ : ∃ wx, wx = w.alloc (.cells #[.int .u16 child.routes, .int .u16 child.ways, .int .i64 child.hops, .int .i64 child.children] 116) := ⟨_, rfl⟩
  have bx : wx.heap[w.heap.size]? = some (.cells #[.int .u16 child.routes, .int .u16 child.ways, .int .i64 child.hops, .int .i64 child.children] 116 (0, 0)) := by rw [hwx]; exact heap_alloc_new _ _
  have HBX : Below w.heap.size w wx := by rw [hwx]; exact ext_alloc _ _
  obtain ⟨nn, hn⟩ : ∃ n, n = nodeAt A.word y := ⟨_, rfl⟩
  rw [← hn] at hok hbit HGR h16 hp2 hmono ⊢
  have HND := hide (node_x A tb ab wb y y nn wx (h.ext HBX) hs rfl hlt.2 hn)
  have hk' : (k : Int) ≤ 15 := by omega
  have HT := hide (h.ext HBX)
  have hnw := h.nw
  have hna := h.na
  have hwt := h.ar.lw
  have hat := h.ar.la
  have htt := h.lt
  obtain ⟨c1, hc1⟩ : ∃ c, c = 2 * ones 16 nn.ways := ⟨_, rfl⟩
  obtain ⟨c3, hc3⟩ : ∃ c, c = ones k nn.ways := ⟨_, rfl⟩
  have HCB := hide (fun (w : World) => childBlock_any nn w hok)
  have HBE := hide (fun (w : World) => before_x nn.ways k k w rfl hok.2.1 (by omega))
  rw [← hc1] at HCB HGR hp2
  rw [← hc3] at HBE HGR hmono
  have hc3' : (c3 : Int) ≤ 15 := by omega
  have hc1' : (c1 : Int) ≤ 30 := by omega
  have h31 : 2 * c3 ≤ c1 := by omega
  have HOR := hide (or16 nn.ways k hok.2.1 (by omega))
  have HWK := hide (wrap16 (k := k) (by omega))
  have HWX := hide hwx
  have HBX := hide HBX
  have hsx : w.heap.size < wx.heap.size := lt_of_block bx
  have HC3 := hide hc3
  clear hn h hO hG hgr hgn hGB hkds hc1 hc3 hwx
  go_enter Tryd.func98, Tryd.ntmps98
  go_wp2_with (first | rw [← HWX.out] | fail)
  refine HND.out.mono ?_
  rintro e w1 ⟨rfl, hb1⟩
  have hs1 := hb1.size
  obtain ⟨wq, hwq⟩ : ∃ wq, wq = w1.alloc (.cells #[.int .u16 nn.routes, .int .u16 nn.ways, .int .i64 nn.hops, .int .i64 nn.children] 116) := ⟨_, rfl⟩
  have b2 : wq.heap[w1.heap.size]? = some (.cells #[.int .u16 nn.routes, .int .u16 nn.ways, .int .i64 nn.hops, .int .i64 nn.children] 116 (0, 0)) := by rw [hwq]; exact heap_alloc_new _ _
  have hbq : Below wx.heap.size wx wq := ext_trans hb1 (by rw [hwq]; exact ext_alloc _ _)
  have bc := block_ext bx hbq
  have HB2 := hide (ext_trans HBX.out hbq)
  have HTW := hide (HT.out.ext hbq)
  have hw2 : w1.heap.size < wq.heap.size := lt_of_block b2
  have HWQ := hide hwq
  obtain ⟨cb, hcb⟩ : ∃ cb, cb = w.heap.size := ⟨_, rfl⟩
  have HCBD := hide hcb
  rw [← hcb] at bc
  obtain ⟨nb, hnb⟩ : ∃ nb, nb = w1.heap.size := ⟨_, rfl⟩
  have HNB := hide hnb
  rw [← hnb] at b2 hw2 hs1
  have hnbw : nb ≠ wb := by omega
  have hnba : nb ≠ ab := by omega
  have hnbt : tb ≠ nb := by omega
  have hqa : ab < wq.heap.size := by omega
  have hqw : wb < wq.heap.size := by omega
  have hcbw : cb ≠ wb := by omega
  have hcba : cb ≠ ab := by omega
  have hcbn : cb ≠ nb := by omega
  have hw2x : w.heap.size ≤ nb := by omega
  clear hnb hcb hb1 hbq hwq bx HND
  have hns : nb ∉ [ab, wb] := by simp; omega
  have hts : tb ∉ [ab, wb] := by simp; omega
  have hcs : cb ∉ [ab, wb] := by simp; omega
  have KS : ∀ w', Fr [ab, wb] wq w' → (fun w' : World => Fr [ab, wb] wq w' ∧ w'.cell? ⟨tb, 0, none⟩ = some (.pointer (some ⟨ab, 0, none⟩)) ∧ w'.cell? ⟨nb, 0, none⟩ = some (.int .u16 nn.routes) ∧ w'.cell? ⟨nb, 1, none⟩ = some (.int .u16 nn.ways) ∧ w'.cell? ⟨nb, 2, none⟩ = some (.int .i64 nn.hops) ∧ w'.cell? ⟨nb, 3, none⟩ = some (.int .i64 nn.children)) w' := fun w' hf => ⟨hf, HTW.out.frw hf hts, cells4n (hf.at b2 hns)⟩
  simp only [] at KS
  go_wp2_with fail
  rw [← HWQ.out, ← HNB.out]
  go_cut [10, 11] (fun v1 v2 wc => ∃ bb, v1 = .pointer (some ⟨bb, 0, none⟩) ∧ v2 = .bool true ∧ wq.heap.size ≤ bb ∧ wc.heap[bb]? = some (.cells #[.int .i64 (p : Int), .int .i64 ((c1 : Int) + 2)] 146 (0, 0)) ∧ ArAt wc ab wb B ∧ Fr [ab, wb] wq wc)
  case first =>
    go_region_held3 (fun w' : World => Fr [ab, wb] wq w' ∧ w'.cell? ⟨tb, 0, none⟩ = some (.pointer (some ⟨ab, 0, none⟩)) ∧ w'.cell? ⟨nb, 0, none⟩ = some (.int .u16 nn.routes) ∧ w'.cell? ⟨nb, 1, none⟩ = some (.int .u16 nn.ways) ∧ w'.cell? ⟨nb, 2, none⟩ = some (.int .i64 nn.hops) ∧ w'.cell? ⟨nb, 3, none⟩ = some (.int .i64 nn.children)) (with_reducible (first | assumption | exact KS _ (fr_below (drew_ext wq)) | exact KS _ (by assumption) | exact KS _ (fr_below (by assumption)) | exact KS _ (fr_below (ext_trans (by assumption) (ext_alloc _ _))) | exact KS _ (fr_below (Below.drew (ext_alloc _ _))) | exact KS _ (Fr.alloc (by assumption) _) | (refine KS _ (Fr.setCell (Fr.setCell (by assumption) (Or.inr ?_) _) (Or.inr ?_) _) <;> first | assumption | exact Nat.le_refl _))) (first | (go_at_call 92; refine (HCB.out _).mono ?_; rintro e w5 ⟨rfl, hb5⟩; with_reducible (first | (have b5 := new_drew hb5; have S5 := (ext_trans (Below.drew (ext_alloc _ _)) hb5 : Below wq.heap.size wq w5)) | (have S5 := (ext_trans (drew_ext wq) hb5 : Below wq.heap.size wq w5))); have z5 := S5.size; clear hb5) | (go_at_call 59; refine (HBE.out _).mono ?_; rintro e w6 ⟨rfl, hb6⟩; with_reducible (first | (have b6 := block_ext b5 hb6; have S6 := (ext_trans S5 hb6 : Below wq.heap.size wq w6)) | (have b6 := new_plain hb6; have S6 := (ext_trans (ext_trans S5 (ext_alloc _ _)) hb6 : Below wq.heap.size wq w6)) | (have S6 := (ext_trans S5 hb6 : Below wq.heap.size wq w6))); have z6 := S6.size; clear hb6) | (go_at_call 104; first | (refine (HGR.out _ _ _ (HTW.out.ar.ext S6) rfl rfl).mono ?_; rintro e w7 ⟨rfl, hA7, hF7⟩; first | (have b7 := hF7.at b6 (by simp; omega); have F7 := (Fr.after (fr_below S6) hF7 (fun y hy => Or.inl hy) : Fr [ab, wb] wq w7); obtain ⟨g0, g1, g2, g3⟩ := cells2 b7) | (have F7 := (Fr.after (fr_below S6) hF7 (fun y hy => Or.inl hy) : Fr [ab, wb] wq w7)); have z7 := F7.size; clear hF7) | (refine (HGR.out _ _ _ (HTW.out.ar.ext (ext_trans S6 (ext_alloc _ _))) rfl rfl).mono ?_; rintro e w7 ⟨rfl, hA7, hF7⟩; have b7 := hF7.at (heap_alloc_new _ _) (by simp; omega); have F7 := (Fr.after (fr_below (ext_trans S6 (ext_alloc _ _))) hF7 (fun y hy => Or.inl hy) : Fr [ab, wb] wq w7); obtain ⟨g0, g1, g2, g3⟩ := cells2 b7; have z7 := F7.size; clear hF7)))
    all_goals (go_wp2_with fail; go_meet)
    · case rel => exact ⟨w7.heap.size, rfl, rfl, z7, heap_alloc_new _ _, hA7.alloc _, F7.alloc _⟩
    · case rel => exact ⟨w6.heap.size, rfl, rfl, z6, store2 b7, (hA7.other (by omega) (by omega)).other (by omega) (by omega), (F7.setCell (Or.inr z6) _).setCell (Or.inr z6) _⟩
    · case rel => exact ⟨w5.heap.size, rfl, rfl, z5, store2 b7, (hA7.other (by omega) (by omega)).other (by omega) (by omega), (F7.setCell (Or.inr z5) _).setCell (Or.inr z5) _⟩
    · case rel => exact ⟨wq.heap.size, rfl, rfl, Nat.le_refl _, store2 b7, (hA7.other (by omega) (by omega)).other (by omega) (by omega), (F7.setCell (Or.inr (Nat.le_refl _)) _).setCell (Or.inr (Nat.le_refl _)) _⟩
  case rest =>
    obtain ⟨bb, rfl, rfl, hbb, hblk, hAc, hFc⟩ := hcut
    obtain ⟨g0, g1, g2, g3⟩ := cells2 hblk
    have bn := hFc.at b2 hns
    have bcc := hFc.at bc hcs
    obtain ⟨k0, k1, k2, k3, k4, k5, k6, k7⟩ := cells4 bn
    have hlc := lt_of_block hblk
    have hln := lt_of_block bn
    have hbn : bb ≠ nb := by omega
    have HAC := hide hAc
    have HFC := hide hFc
    have HBN := hide bn
    have HBC := hide bcc
    clear hAc hFc hblk bn KS b2 bc bcc
    go_wp2_with fail
    go_region
    rw [HWK.out, HOR.out]
    have bz := block_kid (k := k) (p := p) HBN.out
    have hTc := HTW.out.of HFC.out hts HAC.out
    have hTz : TabAt (((wc.setCell ⟨nb, 3, none⟩ (.int .i64 (p : Int))).setCell ⟨nb, 1, none⟩ (.int .u16 ((nn.ways ||| 2 ^ k : Nat) : Int))).drew) tb ab wb B := ((hTc.other hnbt hnba.symm hnbw.symm).other hnbt hnba.symm hnbw.symm).ext (drew_ext _)
    have hFz : Fr [ab, wb] w (((wc.setCell ⟨nb, 3, none⟩ (.int .i64 (p : Int))).setCell ⟨nb, 1, none⟩ (.int .u16 ((nn.ways ||| 2 ^ k : Nat) : Int))).drew) := two_setFr (Fr.after (fr_below HB2.out) HFC.out (fun y hy => Or.inl hy)) hw2x
    have bcz : (((wc.setCell ⟨nb, 3, none⟩ (.int .i64 (p : Int))).setCell ⟨nb, 1, none⟩ (.int .u16 ((nn.ways ||| 2 ^ k : Nat) : Int))).drew).heap[cb]? = some (.cells #[.int .u16 child.routes, .int .u16 child.ways, .int .i64 child.hops, .int .i64 child.children] 116 (0, 0)) := ((Below.heap_setCell _ _ _ _ hcbn).trans (Below.heap_setCell _ _ _ _ hcbn)).trans HBC.out
    have hlz := lt_of_block bz
    obtain ⟨wq, hwq⟩ : ∃ wz, wz = ((wc.setCell ⟨nb, 3, none⟩ (.int .i64 (p : Int))).setCell ⟨nb, 1, none⟩ (.int .u16 ((nn.ways ||| 2 ^ k : Nat) : Int))).drew := ⟨_, rfl⟩
    rw [← hwq] at bz hTz hFz hlz bcz
    have HWQ := hide hwq
    have hokn := moreKid_ok (f := k) (p := p) hok (by omega) (by omega)
    have hone : ones k (nn.moreKid k p).ways = c3 := by rw [ones_moreKid, HC3.out]
    have hhp : (nn.moreKid k p).children = p := rfl
    obtain ⟨nn, hnn⟩ : ∃ n2, n2 = nn.moreKid k p := ⟨_, rfl⟩
    rw [← hnn] at bz hokn hone hhp
    have HHP := hide hhp
    have HON := hide hone
    clear hhp hone
    have HNN := hide hnn
    have HTW := hide hTz
    have HFZ := hide hFz
    have hltz := hTz.lt
    have hns1 : nb ∉ [wb] := by simpa using hnbw
    have hts1 : tb ∉ [wb] := by simpa using hnw
    have hcs1 : cb ∉ [wb] := by simpa using hcbw
    have KS : ∀ w', Fr [wb] wq w' → (fun w' : World => Fr [wb] wq w' ∧ w'.cell? ⟨tb, 0, none⟩ = some (.pointer (some ⟨ab, 0, none⟩)) ∧ w'.cell? ⟨nb, 0, none⟩ = some (.int .u16 nn.routes) ∧ w'.cell? ⟨nb, 1, none⟩ = some (.int .u16 nn.ways) ∧ w'.cell? ⟨nb, 2, none⟩ = some (.int .i64 nn.hops) ∧ w'.cell? ⟨nb, 3, none⟩ = some (.int .i64 nn.children) ∧ w'.cell? ⟨cb, 0, none⟩ = some (.int .u16 child.routes) ∧ w'.cell? ⟨cb, 1, none⟩ = some (.int .u16 child.ways) ∧ w'.cell? ⟨cb, 2, none⟩ = some (.int .i64 child.hops) ∧ w'.cell? ⟨cb, 3, none⟩ = some (.int .i64 child.children)) w' := fun w' hf => ⟨hf, HTW.out.frw hf hts1, (cells4n (hf.at bz hns1)).1, (cells4n (hf.at bz hns1)).2.1, (cells4n (hf.at bz hns1)).2.2.1, (cells4n (hf.at bz hns1)).2.2.2, cells4n (hf.at bcz hcs1)⟩
    simp only [] at KS
    clear hwq hnn hTz hFz hTc g0 g1 g2 g3 k0 k1 k2 k3 k4 k5 k6 k7 HBN HAC HFC
    go_wp2_with fail
    rw [← HWQ.out]
    go_region_held3 (fun w' : World => Fr [wb] wq w' ∧ w'.cell? ⟨tb, 0, none⟩ = some (.pointer (some ⟨ab, 0, none⟩)) ∧ w'.cell? ⟨nb, 0, none⟩ = some (.int .u16 nn.routes) ∧ w'.cell? ⟨nb, 1, none⟩ = some (.int .u16 nn.ways) ∧ w'.cell? ⟨nb, 2, none⟩ = some (.int .i64 nn.hops) ∧ w'.cell? ⟨nb, 3, none⟩ = some (.int .i64 nn.children)) (with_reducible (first | assumption | exact ⟨(KS _ (fr_below (drew_ext wq))).1, (KS _ (fr_below (drew_ext wq))).2.1, cells4n (Fr.at (fr_below (S := [wb]) (drew_ext wq)) bz hns1)⟩ | exact ⟨by assumption, HTW.out.frw (by assumption) hts1, cells4n (Fr.at (by assumption) bz hns1)⟩)) ((go_at_call 105; refine (writeNode_any B ab wb _ y nn _ HTW.out.ar.drew hokn rfl (by omega)).mono ?_; rintro e w5 ⟨rfl, hA5, hF5⟩; have F5 := (Fr.after (fr_below (drew_ext wq)) hF5 (fun y hy => Or.inl hy) : Fr [wb] wq w5); clear hF5))
    have b5 := F5.at bz hns1
    have bc5 := F5.at bcz hcs1
    have hT5 := HTW.out.of F5 hts1 hA5
    have HF5 := hide (Fr.after HFZ.out F5 (fun y hy => Or.inl (by simp at hy ⊢; exact Or.inr hy)) : Fr [ab, wb] w w5)
    clear KS bz hA5 F5 bcz
    obtain ⟨wq, hwq⟩ : ∃ wz, wz = w5 := ⟨_, rfl⟩
    subst hwq
    have HTW := hide hT5
    obtain ⟨AW, hAW⟩ : ∃ AW, AW = B.putN y nn := ⟨_, rfl⟩
    rw [← hAW] at HTW
    have HAW := hide hAW
    have hws : AW.size = B.size := by rw [hAW]; rfl
    have hl5 := lt_of_block b5
    have hlc5 := lt_of_block bc5
    have hlt5 := hT5.lt
    obtain ⟨off, hoff⟩ : ∃ off, off = nn.children + 2 * ones k nn.ways := ⟨_, rfl⟩
    have hfit : off + 1 < AW.size := by rw [hoff, hws, HHP.out, HON.out, hBs]; omega
    have KS : ∀ w', Fr [wb] wq w' → (fun w' : World => Fr [wb] wq w' ∧ w'.cell? ⟨tb, 0, none⟩ = some (.pointer (some ⟨ab, 0, none⟩)) ∧ w'.cell? ⟨nb, 0, none⟩ = some (.int .u16 nn.routes) ∧ w'.cell? ⟨nb, 1, none⟩ = some (.int .u16 nn.ways) ∧ w'.cell? ⟨nb, 2, none⟩ = some (.int .i64 nn.hops) ∧ w'.cell? ⟨nb, 3, none⟩ = some (.int .i64 nn.children) ∧ w'.cell? ⟨cb, 0, none⟩ = some (.int .u16 child.routes) ∧ w'.cell? ⟨cb, 1, none⟩ = some (.int .u16 child.ways) ∧ w'.cell? ⟨cb, 2, none⟩ = some (.int .i64 child.hops) ∧ w'.cell? ⟨cb, 3, none⟩ = some (.int .i64 child.children)) w' := fun w' hf => ⟨hf, HTW.out.frw hf hts1, (cells4n (hf.at b5 hns1)).1, (cells4n (hf.at b5 hns1)).2.1, (cells4n (hf.at b5 hns1)).2.2.1, (cells4n (hf.at b5 hns1)).2.2.2, cells4n (hf.at bc5 hcs1)⟩
    simp only [] at KS
    have HOFF := hide hoff
    clear hoff hAW hT5 hws
    go_wp2_with fail
    rw [← HCBD.out]
    go_region_held3 (fun w' : World => Fr [wb] wq w' ∧ w'.cell? ⟨tb, 0, none⟩ = some (.pointer (some ⟨ab, 0, none⟩)) ∧ w'.cell? ⟨nb, 0, none⟩ = some (.int .u16 nn.routes) ∧ w'.cell? ⟨nb, 1, none⟩ = some (.int .u16 nn.ways) ∧ w'.cell? ⟨nb, 2, none⟩ = some (.int .i64 nn.hops) ∧ w'.cell? ⟨nb, 3, none⟩ = some (.int .i64 nn.children) ∧ w'.cell? ⟨cb, 0, none⟩ = some (.int .u16 child.routes) ∧ w'.cell? ⟨cb, 1, none⟩ = some (.int .u16 child.ways) ∧ w'.cell? ⟨cb, 2, none⟩ = some (.int .i64 child.hops) ∧ w'.cell? ⟨cb, 3, none⟩ = some (.int .i64 child.children)) (with_reducible (first | assumption | exact KS _ (fr_below (drew_ext wq)) | exact KS _ (by assumption) | exact KS _ (fr_below (by assumption)) | exact KS _ (fr_below (ext_trans (by assumption) (ext_alloc _ _))) | exact KS _ (fr_below (Below.drew (ext_alloc _ _))) | exact KS _ (Fr.alloc (by assumption) _) | (refine KS _ (Fr.setCell (Fr.setCell (by assumption) (Or.inr ?_) _) (Or.inr ?_) _) <;> first | assumption | exact Nat.le_refl _))) (first | (go_at_call 58; refine (childPlace_any nn k _ hokn (by omega)).mono ?_; rintro e w5 ⟨rfl, hb5⟩; have S5 := (ext_trans (drew_ext wq) hb5 : Below wq.heap.size wq w5); clear hb5) | (go_at_call 105; refine (writeNode_any AW ab wb _ off child _ (HTW.out.ar.ext S5) hch (by rw [HOFF.out]; first | rfl | omega) hfit).mono ?_; rintro e w6 ⟨rfl, hA6, hF6⟩; have F6 := (Fr.after (fr_below S5) hF6 (fun y hy => Or.inl hy) : Fr [wb] wq w6); clear hF6))
    all_goals
      have hX := HTW.out.of F6 hts1 hA6
      rw [HOFF.out, HAW.out, HNN.out] at hX
      have HX := hide (And.intro hX (Fr.after HF5.out F6 (fun y hy => Or.inl (by simp at hy ⊢; exact Or.inr hy)) : Fr [ab, wb] w w6))
      clear hX F6 hA6 KS
      go_wp2
      go_ret
      exact ⟨rfl, HX.out.1, HX.out.2⟩
end Go.Proofs.YtnapboelfimaaaaDoor
/- A first node is put below a first byte. -/
namespace Go.Proofs.YtnapboelfimaaaaDoor
open Go.RowKit Go.Deep
set_option maxHeartbeats 2000000 in
set_option maxRecDepth 10000 in
theorem putFirst_some (A B : Ar) (F : Nat → List Nat) (m tb ab wb b p : Nat) (f : Int) (q : Bool) (nn : NodeD) (w : World) (h : TabAt w tb ab wb A) (hG : Good A F m) (hm : m ≤ 3000) (hq : q = decide (f = 6)) (hb : b < 256) (hsz : 2048 ≤ A.size) (hsh : A.word (rt q + b) / 65536 < 256) (hnok : nn.ok) (hT : A.take 2 = (B, some p)) :
    Calls Tryd.prog 97 #[.pointer (some ⟨tb, 0, none⟩), .int .i64 f, .int .u8 b, .agg #[.int .u16 nn.routes, .int .u16 nn.ways, .int .i64 nn.hops, .int .i64 nn.children]] w fun e w' => e = .returned (.bool true) ∧ TabAt w' tb ab wb { B with word := setW (putNode B.word p nn) (rt q + b) (p + 65536 * (putNode B.word p nn (rt q + b) / 65536)) } ∧ Fr [ab, wb] w w' := by
  have hs := hG.sane (by omega)
  have hz := hs.size
  have hr := rt_le q
  obtain ⟨F1, hG1, hTk, hp1, hp2⟩ := good_take hG (by omega) (by omega) hT
  have hbs := hTk.size
  have hap : ∀ a, inB a p 2 + B.frees F1 a ≤ 1 := fun a => by have h1 := hTk.frees a; have h2 := hG.ok.apart a; omega
  have hG2 := good_put hG1 hnok hap
  have hs2 := hG2.sane (by omega)
  have hwd : putNode B.word p nn (rt q + b) = A.word (rt q + b) := by
    rw [putNode_out (by unfold inB; rw [if_neg (by omega)])]
    exact hTk.word _ (hG1.out _ (Or.inl (by omega)))
  rw [hwd]
  have HFI := hide (fun (w : World) (h : TabAt w tb ab wb (B.putN p nn)) => first_any (B.putN p nn) tb ab wb f q b w h hs2 hq hb (by show 2048 ≤ B.size; omega) (by show putNode B.word p nn (rt q + b) / 65536 < 256; rw [hwd]; exact hsh))
  have hwd2 : (B.putN p nn).word (rt q + b) = A.word (rt q + b) := hwd
  rw [hwd2] at HFI
  obtain ⟨sh, hshd⟩ : ∃ sh, sh = A.word (rt q + b) / 65536 := ⟨_, rfl⟩
  obtain ⟨nd, hndd⟩ : ∃ nd, nd = A.word (rt q + b) % 65536 := ⟨_, rfl⟩
  rw [← hshd, ← hndd] at HFI
  rw [← hshd] at hsh ⊢
  obtain ⟨pl, hpl⟩ : ∃ pl, pl = rt q + b := ⟨_, rfl⟩
  rw [← hpl] at HFI ⊢
  have hplb : pl < B.size := by omega
  have hna := h.na
  have hnw := h.nw
  have hla := h.ar.la
  have hlw := h.ar.lw
  have hlt := h.lt
  obtain ⟨wx, hwx⟩ : ∃ wx, wx = w.alloc (.cells #[.int .u16 nn.routes, .int .u16 nn.ways, .int .i64 nn.hops, .int .i64 nn.children] 116) := ⟨_, rfl⟩
  have HBX : Below w.heap.size w wx := by rw [hwx]; exact ext_alloc _ _
  have bx : wx.heap[w.heap.size]? = some (.cells #[.int .u16 nn.routes, .int .u16 nn.ways, .int .i64 nn.hops, .int .i64 nn.children] 116 (0, 0)) := by rw [hwx]; exact heap_alloc_new _ _
  have HT := hide (h.ext HBX)
  have c0 := (h.ext HBX).cell
  have hsx := lt_of_block bx
  have HTK := hide (take_some A ab wb 2 2 wx HT.out.ar hs rfl (by omega) (by omega) B p hT)
  obtain ⟨nb, hnb⟩ : ∃ nb, nb = w.heap.size := ⟨_, rfl⟩
  rw [← hnb] at bx
  have HNB := hide hnb
  have HBX := hide HBX
  have HWX := hide hwx
  have HBN := hide bx
  have hnw1 : nb ∉ [ab, wb] := by simp; omega
  have hnbw : nb ∉ [wb] := by simp; omega
  have htw : tb ∉ [ab, wb] := by simp; omega
  have htw1 : tb ∉ [wb] := by simp; omega
  have hnbw0 : w.heap.size ≤ nb := by omega
  clear h hG hG1 hTk hT hwx bx hap hG2 hwd hwd2 hshd hndd hpl hnb hq
  go_enter Tryd.func97, Tryd.ntmps97
  go_wp2_with (first | rw [← HWX.out] | fail)
  refine HTK.out.mono ?_
  rintro e w1 ⟨rfl, hA1, hF1⟩
  have bn1 := hF1.at HBN.out hnw1
  have hT1 := HT.out.of hF1 htw hA1
  have HF1 := hide (Fr.after (fr_below HBX.out) hF1 (fun y hy => Or.inl hy) : Fr [ab, wb] w w1)
  have hl1 := lt_of_block bn1
  obtain ⟨wq, hwq⟩ : ∃ wq, wq = w1.alloc (.cells #[.int .i64 (p : Int), .int .i64 2] 146) := ⟨_, rfl⟩
  obtain ⟨bb, hbb⟩ : ∃ bb, bb = w1.heap.size := ⟨_, rfl⟩
  have bq : wq.heap[bb]? = some (.cells #[.int .i64 (p : Int), .int .i64 2] 146 (0, 0)) := by rw [hwq, hbb]; exact heap_alloc_new _ _
  have hB1q : Below w1.heap.size w1 wq := by rw [hwq]; exact ext_alloc _ _
  have bnq := block_ext bn1 hB1q
  have HTW := hide (hT1.ext hB1q)
  have HFQ := hide (Fr.after HF1.out (fr_below (S := []) hB1q) (fun y hy => by cases hy) : Fr [ab, wb] w wq)
  rw [← hbb] at hl1
  have HBB := hide hbb
  have HWQ := hide hwq
  have hlq := lt_of_block bq
  have hltq := HTW.out.lt
  have hbbw : bb ∉ [wb] := by simp; omega
  clear hA1 hF1 hT1 hB1q hbb hwq bn1
  have KS : ∀ w', Fr [wb] wq w' → (fun w' : World => Fr [wb] wq w' ∧ w'.cell? ⟨tb, 0, none⟩ = some (.pointer (some ⟨ab, 0, none⟩)) ∧ w'.cell? ⟨nb, 0, none⟩ = some (.int .u16 nn.routes) ∧ w'.cell? ⟨nb, 1, none⟩ = some (.int .u16 nn.ways) ∧ w'.cell? ⟨nb, 2, none⟩ = some (.int .i64 nn.hops) ∧ w'.cell? ⟨nb, 3, none⟩ = some (.int .i64 nn.children) ∧ w'.cell? ⟨bb, 0, none⟩ = some (.int .i64 (p : Int))) w' := fun w' hf => ⟨hf, HTW.out.frw hf htw1, (cells4n (hf.at bnq hnbw)).1, (cells4n (hf.at bnq hnbw)).2.1, (cells4n (hf.at bnq hnbw)).2.2.1, (cells4n (hf.at bnq hnbw)).2.2.2, (cells2 (hf.at bq hbbw)).1⟩
  simp only [] at KS
  go_wp2_with fail
  rw [← HWQ.out, ← HBB.out, ← HNB.out]
  go_region_held3 (fun w' : World => Fr [wb] wq w' ∧ w'.cell? ⟨tb, 0, none⟩ = some (.pointer (some ⟨ab, 0, none⟩)) ∧ w'.cell? ⟨nb, 0, none⟩ = some (.int .u16 nn.routes) ∧ w'.cell? ⟨nb, 1, none⟩ = some (.int .u16 nn.ways) ∧ w'.cell? ⟨nb, 2, none⟩ = some (.int .i64 nn.hops) ∧ w'.cell? ⟨nb, 3, none⟩ = some (.int .i64 nn.children) ∧ w'.cell? ⟨bb, 0, none⟩ = some (.int .i64 (p : Int))) (with_reducible (first | assumption | exact KS _ (fr_below (drew_ext wq)) | exact KS _ (by assumption) | exact KS _ (fr_below (by assumption)) | exact KS _ (fr_below (ext_trans (by assumption) (ext_alloc _ _))) | exact KS _ (fr_below (Below.drew (ext_alloc _ _))) | exact KS _ (Fr.alloc (by assumption) _) | (refine KS _ (Fr.setCell (Fr.setCell (by assumption) (Or.inr ?_) _) (Or.inr ?_) _) <;> first | assumption | exact Nat.le_refl _))) ((go_at_call 105; refine (writeNode_any B ab wb _ p nn _ HTW.out.ar.drew hnok rfl (by omega)).mono ?_; rintro e w5 ⟨rfl, hA5, hF5⟩; have F5 := (Fr.after (fr_below (drew_ext wq)) hF5 (fun y hy => Or.inl hy) : Fr [wb] wq w5); clear hF5))
  have hT5 := HTW.out.of F5 htw1 hA5
  have HF5 := hide (Fr.after HFQ.out F5 (fun y hy => Or.inl (by simp at hy ⊢; exact Or.inr hy)) : Fr [ab, wb] w w5)
  have bq5 := F5.at bq hbbw
  have HT5 := hide hT5
  clear KS F5 hA5 hT5 bnq bq HTW HFQ HWQ
  go_wp2_with fail
  refine (HFI.out _ HT5.out).mono ?_
  rintro e w6 ⟨rfl, hb6⟩
  have bq6 := block_ext bq5 hb6
  obtain ⟨k0, k1, k2, k3⟩ := cells2 bq6
  have HT6 := hide (HT5.out.ext hb6)
  have HF6 := hide (Fr.after HF5.out (fr_below (S := []) hb6) (fun y hy => by cases hy) : Fr [ab, wb] w w6)
  have hl6 := lt_of_block bq6
  have hlt6 := HT6.out.lt
  have hla6 := HT6.out.ar.la
  have hlw6 := HT6.out.ar.lw
  have hww := HF6.out.size
  clear hb6 bq5
  obtain ⟨fb, hfb⟩ : ∃ fb, fb = w6.heap.size := ⟨_, rfl⟩
  have HFB := hide hfb
  obtain ⟨wq, hwq⟩ : ∃ wq, wq = w6.alloc (.cells #[.int .i64 (p : Int), .int .u8 (sh : Int)] 90) := ⟨_, rfl⟩
  have bf : wq.heap[fb]? = some (.cells #[.int .i64 (p : Int), .int .u8 (sh : Int)] 90 (0, 0)) := by rw [hwq, hfb]; exact heap_alloc_new _ _
  have hBq : Below w6.heap.size w6 wq := by rw [hwq]; exact ext_alloc _ _
  have HWQ := hide hwq
  have HTW := hide (HT6.out.ext hBq)
  have HFQ := hide (Fr.after HF6.out (fr_below (S := []) hBq) (fun y hy => by cases hy) : Fr [ab, wb] w wq)
  have hlfq := lt_of_block bf
  have hfw : fb ∉ [wb] := by simp; omega
  have KS : ∀ w', Fr [wb] wq w' → (fun w' : World => Fr [wb] wq w' ∧ w'.cell? ⟨tb, 0, none⟩ = some (.pointer (some ⟨ab, 0, none⟩)) ∧ w'.cell? ⟨fb, 0, none⟩ = some (.int .i64 (p : Int)) ∧ w'.cell? ⟨fb, 1, none⟩ = some (.int .u8 (sh : Int))) w' := fun w' hf => ⟨hf, HTW.out.frw hf htw1, (cells2 (hf.at bf hfw)).1, (cells2 (hf.at bf hfw)).2.1⟩
  simp only [] at KS
  clear hfb hwq hBq
  go_wp2_with fail
  rw [← HWQ.out, ← HFB.out]
  go_region_held3 (fun w' : World => Fr [wb] wq w' ∧ w'.cell? ⟨tb, 0, none⟩ = some (.pointer (some ⟨ab, 0, none⟩)) ∧ w'.cell? ⟨fb, 0, none⟩ = some (.int .i64 (p : Int)) ∧ w'.cell? ⟨fb, 1, none⟩ = some (.int .u8 (sh : Int))) (with_reducible (first | assumption | exact KS _ (fr_below (drew_ext wq)) | exact KS _ (by assumption) | exact KS _ (fr_below (by assumption)) | exact KS _ (fr_below (ext_trans (by assumption) (ext_alloc _ _))) | exact KS _ (fr_below (Below.drew (ext_alloc _ _))) | exact KS _ (Fr.alloc (by assumption) _) | (refine KS _ (Fr.setCell (Fr.setCell (by assumption) (Or.inr ?_) _) (Or.inr ?_) _) <;> first | assumption | exact Nat.le_refl _))) ((go_at_call 102; refine (writeFirst_any (B.putN p nn) ab wb _ pl p sh _ HTW.out.ar.drew (by omega) hsh rfl hplb).mono ?_; rintro e w7 ⟨rfl, hA7, hF7⟩; have F7 := (Fr.after (fr_below (drew_ext wq)) hF7 (fun y hy => Or.inl hy) : Fr [wb] wq w7); clear hF7))
  have HX := hide (And.intro (HTW.out.of F7 htw1 hA7) (Fr.after HFQ.out F7 (fun y hy => Or.inl (by simp at hy ⊢; exact Or.inr hy)) : Fr [ab, wb] w w7))
  clear KS F7 hA7
  go_wp2
  go_ret
  exact ⟨rfl, HX.out.1, HX.out.2⟩
set_option maxHeartbeats 2000000 in
set_option maxRecDepth 10000 in
theorem putFirst_no (A B : Ar) (F : Nat → List Nat) (m tb ab wb b : Nat) (f : Int) (nn : NodeD) (w : World) (h : TabAt w tb ab wb A) (hG : Good A F m) (hm : m ≤ 3000) (hT : A.take 2 = (B, none)) :
    Calls Tryd.prog 97 #[.pointer (some ⟨tb, 0, none⟩), .int .i64 f, .int .u8 b, .agg #[.int .u16 nn.routes, .int .u16 nn.ways, .int .i64 nn.hops, .int .i64 nn.children]] w fun e w' => e = .returned (.bool false) ∧ TabAt w' tb ab wb B ∧ Fr [ab, wb] w w' := by
  have hs := hG.sane (by omega)
  have hna := h.na
  have hnw := h.nw
  obtain ⟨wx, hwx⟩ : ∃ wx, wx = w.alloc (.cells #[.int .u16 nn.routes, .int .u16 nn.ways, .int .i64 nn.hops, .int .i64 nn.children] 116) := ⟨_, rfl⟩
  have HBX : Below w.heap.size w wx := by rw [hwx]; exact ext_alloc _ _
  have HT := hide (h.ext HBX)
  have c0 := (h.ext HBX).cell
  have htw : tb ∉ [ab, wb] := by simp; omega
  have HTK := hide (take_no A ab wb 2 2 wx HT.out.ar hs rfl (by omega) (by omega) B hT)
  have HBX := hide HBX
  have HWX := hide hwx
  have hlt := HT.out.lt
  clear h hG hT hwx
  go_enter Tryd.func97, Tryd.ntmps97
  go_wp2_with (first | rw [← HWX.out] | fail)
  refine HTK.out.mono ?_
  rintro e w1 ⟨rfl, hA1, hF1⟩
  have HX := hide (And.intro (HT.out.of hF1 htw hA1) (Fr.after (fr_below HBX.out) hF1 (fun y hy => Or.inl hy) : Fr [ab, wb] w w1))
  clear hA1 hF1
  go_wp2
  go_ret
  exact ⟨rfl, HX.out.1.ext (ext_alloc _ _), HX.out.2.alloc _⟩
end Go.Proofs.YtnapboelfimaaaaDoor
/- No room for a child; a child is put into a node, or not. -/
namespace Go.Proofs.YtnapboelfimaaaaDoor
open Go.RowKit Go.Deep
set_option maxHeartbeats 4000000 in
set_option maxRecDepth 10000 in
theorem putChild_no (A : Ar) (F : Nat → List Nat) (M : Tab) (m tb ab wb d len u y k : Nat) (child : NodeD) (w : World) (h : TabAt w tb ab wb A) (hG : Good A F m) (hm : m ≤ 3000) (hO : OnF A F M d len u y) (hk : k ≤ 15) (_hch : child.ok) (hbit : (nodeAt A.word y).ways.testBit k = false)
    (hgr : A.grow (nodeAt A.word y).children (2 * ones 16 (nodeAt A.word y).ways) (2 * ones k (nodeAt A.word y).ways) 2 = (A, none)) :
    Calls Tryd.prog 98 #[.pointer (some ⟨tb, 0, none⟩), .int .i64 (y : Nat), .int .i64 (k : Nat), .agg #[.int .u16 child.routes, .int .u16 child.ways, .int .i64 child.hops, .int .i64 child.children]] w fun e w' => e = .returned (.bool false) ∧ TabAt w' tb ab wb A ∧ Fr [ab, wb] w w' := by
  have hs := hG.sane (by omega)
  have hlt := hO.on.lt
  have hok := hO.on.ok
  have hz := hs.size
  have hkds := hO.on.kids
  have h16 := ones16_room (x := (nodeAt A.word y).ways) (f := k) (by omega) hbit
  have hmono := ones_mono (nodeAt A.word y).ways (show k ≤ 16 by omega)
  have HGR := hide (fun (x z : Int) (w : World) (h : ArAt w ab wb A) (hx : x = ((nodeAt A.word y).children : Nat)) (hz : z = IntKind.i64.wrap (2 * (ones k (nodeAt A.word y).ways : Int))) => grow_no A ab wb (nodeAt A.word y).children (2 * ones 16 (nodeAt A.word y).ways) (2 * ones k (nodeAt A.word y).ways) 2 x (2 * ones 16 (nodeAt A.word y).ways : Nat) z 2 w h hs hx rfl (by rw [hz, IntKind.wrap_i64]; omega) rfl (by omega) (by omega) (by omega) hkds.1 hkds.2.1 (good_hB hG (by omega) (by omega) (by omega)) A hgr)
  obtain ⟨wx, hwx⟩ : ∃ wx, wx = w.alloc (.cells #[.int .u16 child.routes, .int .u16 child.ways, .int .i64 child.hops, .int .i64 child.children] 116) := ⟨_, rfl⟩
  have bx : wx.heap[w.heap.size]? = some (.cells #[.int .u16 child.routes, .int .u16 child.ways, .int .i64 child.hops, .int .i64 child.children] 116 (0, 0)) := by rw [hwx]; exact heap_alloc_new _ _
  have HBX : Below w.heap.size w wx := by rw [hwx]; exact ext_alloc _ _
  obtain ⟨nn, hn⟩ : ∃ n, n = nodeAt A.word y := ⟨_, rfl⟩
  rw [← hn] at hok hbit HGR h16 hmono
  have HND := hide (node_x A tb ab wb y y nn wx (h.ext HBX) hs rfl hlt.2 hn)
  have hk' : (k : Int) ≤ 15 := by omega
  have HT := hide (h.ext HBX)
  have hnw := h.nw
  have hna := h.na
  have hwt := h.ar.lw
  have hat := h.ar.la
  have htt := h.lt
  obtain ⟨c1, hc1⟩ : ∃ c, c = 2 * ones 16 nn.ways := ⟨_, rfl⟩
  obtain ⟨c3, hc3⟩ : ∃ c, c = ones k nn.ways := ⟨_, rfl⟩
  have HCB := hide (fun (w : World) => childBlock_any nn w hok)
  have HBE := hide (fun (w : World) => before_x nn.ways k k w rfl hok.2.1 (by omega))
  rw [← hc1] at HCB HGR
  rw [← hc3] at HBE HGR hmono
  have hc3' : (c3 : Int) ≤ 15 := by omega
  have hc1' : (c1 : Int) ≤ 30 := by omega
  have h31 : 2 * c3 ≤ c1 := by omega
  have HOR := hide (or16 nn.ways k hok.2.1 (by omega))
  have HWK := hide (wrap16 (k := k) (by omega))
  have HWX := hide hwx
  have HBX := hide HBX
  have hsx : w.heap.size < wx.heap.size := lt_of_block bx
  have HC3 := hide hc3
  clear hn h hO hG hgr hkds hc1 hc3 hwx
  go_enter Tryd.func98, Tryd.ntmps98
  go_wp2_with (first | rw [← HWX.out] | fail)
  refine HND.out.mono ?_
  rintro e w1 ⟨rfl, hb1⟩
  have hs1 := hb1.size
  obtain ⟨wq, hwq⟩ : ∃ wq, wq = w1.alloc (.cells #[.int .u16 nn.routes, .int .u16 nn.ways, .int .i64 nn.hops, .int .i64 nn.children] 116) := ⟨_, rfl⟩
  have b2 : wq.heap[w1.heap.size]? = some (.cells #[.int .u16 nn.routes, .int .u16 nn.ways, .int .i64 nn.hops, .int .i64 nn.children] 116 (0, 0)) := by rw [hwq]; exact heap_alloc_new _ _
  have hbq : Below wx.heap.size wx wq := ext_trans hb1 (by rw [hwq]; exact ext_alloc _ _)
  have bc := block_ext bx hbq
  have HB2 := hide (ext_trans HBX.out hbq)
  have HTW := hide (HT.out.ext hbq)
  have hw2 : w1.heap.size < wq.heap.size := lt_of_block b2
  have HWQ := hide hwq
  obtain ⟨cb, hcb⟩ : ∃ cb, cb = w.heap.size := ⟨_, rfl⟩
  have HCBD := hide hcb
  rw [← hcb] at bc
  obtain ⟨nb, hnb⟩ : ∃ nb, nb = w1.heap.size := ⟨_, rfl⟩
  have HNB := hide hnb
  rw [← hnb] at b2 hw2 hs1
  have hnbw : nb ≠ wb := by omega
  have hnba : nb ≠ ab := by omega
  have hnbt : tb ≠ nb := by omega
  have hqa : ab < wq.heap.size := by omega
  have hqw : wb < wq.heap.size := by omega
  have hcbw : cb ≠ wb := by omega
  have hcba : cb ≠ ab := by omega
  have hcbn : cb ≠ nb := by omega
  have hw2x : w.heap.size ≤ nb := by omega
  clear hnb hcb hb1 hbq hwq bx HND
  have hns : nb ∉ [ab, wb] := by simp; omega
  have hts : tb ∉ [ab, wb] := by simp; omega
  have hcs : cb ∉ [ab, wb] := by simp; omega
  have KS : ∀ w', Fr [ab, wb] wq w' → (fun w' : World => Fr [ab, wb] wq w' ∧ w'.cell? ⟨tb, 0, none⟩ = some (.pointer (some ⟨ab, 0, none⟩)) ∧ w'.cell? ⟨nb, 0, none⟩ = some (.int .u16 nn.routes) ∧ w'.cell? ⟨nb, 1, none⟩ = some (.int .u16 nn.ways) ∧ w'.cell? ⟨nb, 2, none⟩ = some (.int .i64 nn.hops) ∧ w'.cell? ⟨nb, 3, none⟩ = some (.int .i64 nn.children)) w' := fun w' hf => ⟨hf, HTW.out.frw hf hts, cells4n (hf.at b2 hns)⟩
  simp only [] at KS
  go_wp2_with fail
  rw [← HWQ.out, ← HNB.out]
  go_cut [10, 11] (fun v1 v2 wc => ∃ bb, v1 = .pointer (some ⟨bb, 0, none⟩) ∧ v2 = .bool false ∧ ArAt wc ab wb A ∧ Fr [ab, wb] wq wc)
  case first =>
    go_region_held3 (fun w' : World => Fr [ab, wb] wq w' ∧ w'.cell? ⟨tb, 0, none⟩ = some (.pointer (some ⟨ab, 0, none⟩)) ∧ w'.cell? ⟨nb, 0, none⟩ = some (.int .u16 nn.routes) ∧ w'.cell? ⟨nb, 1, none⟩ = some (.int .u16 nn.ways) ∧ w'.cell? ⟨nb, 2, none⟩ = some (.int .i64 nn.hops) ∧ w'.cell? ⟨nb, 3, none⟩ = some (.int .i64 nn.children)) (with_reducible (first | assumption | exact KS _ (fr_below (drew_ext wq)) | exact KS _ (by assumption) | exact KS _ (fr_below (by assumption)) | exact KS _ (fr_below (ext_trans (by assumption) (ext_alloc _ _))) | exact KS _ (fr_below (Below.drew (ext_alloc _ _))) | exact KS _ (Fr.alloc (by assumption) _) | (refine KS _ (Fr.setCell (Fr.setCell (by assumption) (Or.inr ?_) _) (Or.inr ?_) _) <;> first | assumption | exact Nat.le_refl _))) (first | (go_at_call 92; refine (HCB.out _).mono ?_; rintro e w5 ⟨rfl, hb5⟩; with_reducible (first | (have b5 := new_drew hb5; have S5 := (ext_trans (Below.drew (ext_alloc _ _)) hb5 : Below wq.heap.size wq w5)) | (have S5 := (ext_trans (drew_ext wq) hb5 : Below wq.heap.size wq w5))); have z5 := S5.size; clear hb5) | (go_at_call 59; refine (HBE.out _).mono ?_; rintro e w6 ⟨rfl, hb6⟩; with_reducible (first | (have b6 := block_ext b5 hb6; have S6 := (ext_trans S5 hb6 : Below wq.heap.size wq w6)) | (have b6 := new_plain hb6; have S6 := (ext_trans (ext_trans S5 (ext_alloc _ _)) hb6 : Below wq.heap.size wq w6)) | (have S6 := (ext_trans S5 hb6 : Below wq.heap.size wq w6))); have z6 := S6.size; clear hb6) | (go_at_call 104; first | (refine (HGR.out _ _ _ (HTW.out.ar.ext S6) rfl rfl).mono ?_; rintro e w7 ⟨rfl, hA7, hF7⟩; first | (have b7 := hF7.at b6 (by simp; omega); have F7 := (Fr.after (fr_below S6) hF7 (fun y hy => Or.inl hy) : Fr [ab, wb] wq w7); obtain ⟨g0, g1, g2, g3⟩ := cells2 b7) | (have F7 := (Fr.after (fr_below S6) hF7 (fun y hy => Or.inl hy) : Fr [ab, wb] wq w7)); have z7 := F7.size; clear hF7) | (refine (HGR.out _ _ _ (HTW.out.ar.ext (ext_trans S6 (ext_alloc _ _))) rfl rfl).mono ?_; rintro e w7 ⟨rfl, hA7, hF7⟩; have b7 := hF7.at (heap_alloc_new _ _) (by simp; omega); have F7 := (Fr.after (fr_below (ext_trans S6 (ext_alloc _ _))) hF7 (fun y hy => Or.inl hy) : Fr [ab, wb] wq w7); obtain ⟨g0, g1, g2, g3⟩ := cells2 b7; have z7 := F7.size; clear hF7)))
    all_goals (go_wp2_with fail; go_meet)
    · case rel => exact ⟨w7.heap.size, rfl, rfl, hA7.alloc _, F7.alloc _⟩
    · case rel => exact ⟨w6.heap.size, rfl, rfl, (hA7.other (by omega) (by omega)).other (by omega) (by omega), (F7.setCell (Or.inr z6) _).setCell (Or.inr z6) _⟩
    · case rel => exact ⟨w5.heap.size, rfl, rfl, (hA7.other (by omega) (by omega)).other (by omega) (by omega), (F7.setCell (Or.inr z5) _).setCell (Or.inr z5) _⟩
    · case rel => exact ⟨wq.heap.size, rfl, rfl, (hA7.other (by omega) (by omega)).other (by omega) (by omega), (F7.setCell (Or.inr (Nat.le_refl _)) _).setCell (Or.inr (Nat.le_refl _)) _⟩
  case rest =>
    obtain ⟨bb, rfl, rfl, hAc, hFc⟩ := hcut
    have HX := hide (And.intro (HTW.out.of hFc hts hAc) (Fr.after (fr_below HB2.out) hFc (fun y hy => Or.inl hy) : Fr [ab, wb] w wc))
    clear hAc hFc KS b2
    go_wp2
    go_ret
    exact ⟨rfl, HX.out.1, HX.out.2⟩
/-- putChild does what putKidN says -/
theorem putChild_any (A : Ar) (F : Nat → List Nat) (M : Tab) (m tb ab wb d len u y f : Nat) (child : NodeD) (x z : Int) (w : World) (h : TabAt w tb ab wb A) (hG : Good A F m) (hm : m ≤ 3000) (hO : OnF A F M d len u y) (hx : x = y) (hz : z = f) (hf : f < 16) (hb : (nodeAt A.word y).ways.testBit f = false) (hch : child.ok) (R : Ar × Bool) (hR : putKidN f A y child = R) :
    Calls Tryd.prog 98 #[.pointer (some ⟨tb, 0, none⟩), .int .i64 x, .int .i64 z, .agg #[.int .u16 child.routes, .int .u16 child.ways, .int .i64 child.hops, .int .i64 child.children]] w fun e w' => e = .returned (.bool R.2) ∧ TabAt w' tb ab wb R.1 ∧ Fr [ab, wb] w w' := by
  subst hx hz hR
  have h16 := ones16_room (x := (nodeAt A.word y).ways) (f := f) hf hb
  unfold putKidN
  cases e : A.grow (nodeAt A.word y).children (2 * ones 16 (nodeAt A.word y).ways) (2 * ones f (nodeAt A.word y).ways) 2 with
  | mk B o =>
    cases o with
    | none =>
      have := grow_none hG (by omega) (by omega) e
      subst this
      exact putChild_no B F M m tb ab wb d len u y f child w h hG hm hO (by omega) hch hb e
    | some p => exact putChild_more A F M m tb ab wb d len u y f child B p w h hG hm hO (by omega) hch hb e
/-- what putFirst does -/
def putFirstN (A : Ar) (a : Nat) (n : NodeD) : Ar × Bool :=
  match A.take 2 with
  | (C, none) => (C, false)
  | (C, some y) => ({ C with word := setW (putNode C.word y n) a (y + 65536 * (putNode C.word y n a / 65536)) }, true)
theorem putFirst_any (A : Ar) (F : Nat → List Nat) (m tb ab wb b : Nat) (f : Int) (q : Bool) (nn : NodeD) (w : World) (h : TabAt w tb ab wb A) (hG : Good A F m) (hm : m ≤ 3000) (hq : q = decide (f = 6)) (hb : b < 256) (hsz : 2048 ≤ A.size) (hsh : A.word (rt q + b) / 65536 < 256) (hnok : nn.ok) (R : Ar × Bool) (hR : putFirstN A (rt q + b) nn = R) :
    Calls Tryd.prog 97 #[.pointer (some ⟨tb, 0, none⟩), .int .i64 f, .int .u8 b, .agg #[.int .u16 nn.routes, .int .u16 nn.ways, .int .i64 nn.hops, .int .i64 nn.children]] w fun e w' => e = .returned (.bool R.2) ∧ TabAt w' tb ab wb R.1 ∧ Fr [ab, wb] w w' := by
  subst hR
  unfold putFirstN
  cases e : A.take 2 with
  | mk B o =>
    cases o with
    | none => exact putFirst_no A B F m tb ab wb b f nn w h hG hm e
    | some p => exact putFirst_some A B F m tb ab wb b p f q nn w h hG hm hq hb hsz hsh hnok e
end Go.Proofs.YtnapboelfimaaaaDoor
