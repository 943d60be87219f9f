/- Ins, Loo, ByD: parts of the proof, one behind the other. -/
import Derived.Test.YtnapboelfimaaaaDoorK22
import Derived.Test.YtnapboelfimaaaaDoorK23
import Derived.Test.YtnapboelfimaaaaDoorK24
import Derived.Test.YtnapboelfimaaaaDoorK28
import Derived.Test.YtnapboelfimaaaaDoorK30
/- Insert. -/
namespace Go.Proofs.YtnapboelfimaaaaDoor
open Go.RowKit Go.Deep
theorem wp_store_whole {o : Oper} {a : Act} {w : World} {K : Act → World → Prop} {Q : Exit → Act → World → Prop} (ty : TypeId) (x y : Operand) (ho : o.op = .store ty x y)
    (g : Nat) (L : List Value) (hx : a.eval x = .pointer (some ⟨g, 0, none⟩)) (hy : a.eval y = .agg L.toArray)
    (t : TypeId) (old : Array Value) (hg : w.heap[g]? = some (.cells old t (0, 0))) (hi : (Tryd.prog.info? ty).map (·.size) = some L.length)
    (hold : old.size = L.length) (h1 : ∀ v ∈ L, v.oneCell' = true)
    (h : ∀ w', w'.heap[g]? = some (.cells L.toArray t (0, 0)) → Fr [g] w w' → K (a.put o.dst undef) w') : o.wp Tryd.prog a w K Q :=
  wp_store_row ty x y ho g L.toArray hx hy t old hg (by simpa using hi) (by simpa using hold) (all_oneCell_toArray h1)
    (h _ (setRow_heap _ _ _ _ _ _ hg) ⟨rfl, rfl, rfl, by simp [World.setRow], fun k _ hk => setRow_other _ _ _ _ (by simpa using hk)⟩)
theorem own_fr {w w1 w2 : World} {b : Nat} (h : Below w.heap.size w w1) (hF : Fr [b] w1 w2) (hb : w.heap.size ≤ b) : Below w.heap.size w w2 := fr_nil (Fr.after (S := []) (fr_below h) hF (fun y hy => by simp at hy; subst hy; exact Or.inr hb))
theorem cells3 {w : World} {b : Nat} {a0 a1 a2 : Value} {t : TypeId} (h : w.heap[b]? = some (.cells #[a0, a1, a2] t (0, 0))) : w.cell? ⟨b, 0, none⟩ = some a0 ∧ w.cell? ⟨b, 1, none⟩ = some a1 ∧ w.cell? ⟨b, 2, none⟩ = some a2 := by
  rw [cell_at h, cell_at h, cell_at h]
  exact ⟨rfl, rfl, rfl⟩
/-- where tables lie behind a call: as they lay, or in new blocks -/
def Moved (w w' : World) (tb ab wb : Nat) (B : Ar) : Prop := (∃ ab' wb', (ab' = ab ∧ wb' = wb ∨ w.heap.size ≤ ab' ∧ w.heap.size ≤ wb') ∧ TabAt w' tb ab' wb' B) ∧ Fr [tb, ab, wb] w w'
theorem Moved.same {w w' : World} {tb ab wb : Nat} {B : Ar} (h : TabAt w' tb ab wb B) (hF : Fr [ab, wb] w w') : Moved w w' tb ab wb B := ⟨⟨ab, wb, Or.inl ⟨rfl, rfl⟩, h⟩, hF.mono (fun y hy _ => by simp at hy ⊢; exact Or.inr hy)⟩
theorem need_any (A : Ar) (F : Nat → List Nat) (M : Bool → Tab) (tb ab wb : Nat) (f : Int) (q : Bool) (K l : Nat) (w : World) (h : TabAt w tb ab wb A) (hs : Sane A) (hI : Inv A F M) (hq : q = decide (f = 6)) (hK : K < 2 ^ 136) (h8 : 8 ≤ l) (hl : l ≤ 8 + 4 * dp q) :
    Calls Tryd.prog 82 #[.pointer (some ⟨tb, 0, none⟩), .int .i64 f, .agg (prefL K l).toArray] w fun e w' => e = .returned (.int .i64 (needRoot A.word q l (fitK K l) : Nat)) ∧ Below w.heap.size w w' := by
  by_cases h0 : A.word (rt q + kbyte K 0) % 65536 = 0
  · exact need_none A F M tb ab wb f q K l w h hs hI hq hK h8 hl h0
  · exact need_some A F M tb ab wb f q K l w h hs hI hq hK h8 hl h0
set_option maxHeartbeats 4000000 in
set_option maxRecDepth 10000 in
/-- Insert does what insN says -/
theorem insert_any (A : Ar) (F : Nat → List Nat) (M : Bool → Tab) (tb ab wb : Nat) (f : Int) (q : Bool) (s : ByteArray) (K l hop : Nat) (w : World) (h : TabAt w tb ab wb A) (hI : Inv A F M) (hw : WOk A.word) (hq : q = decide (f = 6)) (hs16 : s.size ≤ 16) (hK : K = keyNum s) (hl : l ≤ 8 + 4 * dp q) (hhop : hop < 65536) (hz : K % 2 ^ (136 - l) = 0) (R : Ar × Bool) (hR : insN A q l (fitK K l) hop = R) : Calls Tryd.prog 78 #[.pointer (some ⟨tb, 0, none⟩), .int .i64 f, .agg #[.string s, .int .i64 (l : Int), .int .i64 (hop : Int)]] w fun e w' => e = .returned (.bool R.2) ∧ Moved w w' tb ab wb R.1 := by
  have hd := dp_le q
  have HKO := hide (fun (w : World) => keyOf_any s w (by omega))
  rw [← hK] at HKO
  have hl' : (l : Int) ≤ 128 := by omega
  have hKl : K < 2 ^ 136 := by rw [hK]; exact keyNum_lt s
  have hsz := hI.size
  have hG := hI.good hw
  have hs := hG.sane (by omega)
  have hhop' : (hop : Int) < 65536 := by omega
  clear hK
  have hlt := h.lt
  obtain ⟨wq, hwq⟩ : ∃ wq, wq = w.alloc (.cells #[.string s, .int .i64 (l : Int), .int .i64 (hop : Int)] 47) := ⟨_, rfl⟩
  obtain ⟨qb, hqb⟩ : ∃ qb, qb = w.heap.size := ⟨_, rfl⟩
  have bq : wq.heap[qb]? = some (.cells #[.string s, .int .i64 (l : Int), .int .i64 (hop : Int)] 47 (0, 0)) := by rw [hwq, hqb]; exact heap_alloc_new _ _
  have hBq : Below w.heap.size w wq := by rw [hwq]; exact ext_alloc _ _
  have HB0 := hide hBq
  have HWQ := hide hwq
  have HQB := hide hqb
  have hlq := lt_of_block bq
  have KS : ∀ w', Below wq.heap.size wq w' → (fun w' : World => Below wq.heap.size wq w' ∧ w'.cell? ⟨qb, 0, none⟩ = some (.string s) ∧ w'.cell? ⟨qb, 1, none⟩ = some (.int .i64 (l : Int))) w' := fun w' hf => ⟨hf, (cells3 (block_ext bq hf)).1, (cells3 (block_ext bq hf)).2.1⟩
  simp only [] at KS
  clear hwq hqb
  go_enter Tryd.func78, Tryd.ntmps78
  go_wp2_with fail
  rw [← HWQ.out, ← HQB.out]
  go_cut [7] (fun v wc => ∃ pb, v = .pointer (some ⟨pb, 0, none⟩) ∧ wq.heap.size ≤ pb ∧ wc.heap[pb]? = some (.cells (prefL K l).toArray 98 (0, 0)) ∧ Below wq.heap.size wq wc)
  case first =>
    refine wp_region_held_drew (S := (fun w' : World => Below wq.heap.size wq w' ∧ w'.cell? ⟨qb, 0, none⟩ = some (.string s) ∧ w'.cell? ⟨qb, 1, none⟩ = some (.int .i64 (l : Int)))) (by kernel_rfl) (KS _ (drew_ext wq)) (fun hHeld => ?_)
    (refine wpAnyH_take (i := 0) (oi := _) (v := ?_) rfl (by kernel_rfl) (by kernel_rfl) (by kernel_rfl) (fun _ _ _ h => h) (Or.inl ⟨by rfl, ?_⟩) (by assumption) ?_; rotate_left; (intro w hSw; (try dsimp only at hSw); go_simp; try with_reducible rfl); (try simp only [Act.put]); (try simp only [List.getElem_toArray]); (try simp only [List.getElem_cons_succ]); (try simp only [List.getElem_cons_zero]); (try simp only [List.setIfInBounds_toArray]))
    (refine wpAnyH_take (i := 1) (oi := _) (v := ?_) rfl (by kernel_rfl) (by kernel_rfl) (by kernel_rfl) (fun _ _ _ h => h) (Or.inl ⟨by rfl, ?_⟩) (by assumption) ?_; rotate_left; (intro w hSw; (try dsimp only at hSw); go_simp; try with_reducible rfl); (try simp only [Act.put]); (try simp only [List.getElem_toArray]); (try simp only [List.getElem_cons_succ]); (try simp only [List.getElem_cons_zero]); (try simp only [List.setIfInBounds_toArray]))
    (refine wpAnyH_take (i := 3) (oi := _) (v := ?_) rfl (by kernel_rfl) (by kernel_rfl) (by kernel_rfl) (fun _ _ _ h => h) (Or.inl ⟨by rfl, ?_⟩) (by assumption) ?_; rotate_left; (intro w hSw; (try dsimp only at hSw); go_simp; try with_reducible rfl); (try simp only [Act.put]); (try simp only [List.getElem_toArray]); (try simp only [List.getElem_cons_succ]); (try simp only [List.getElem_cons_zero]); (try simp only [List.setIfInBounds_toArray]))
    (refine wpAnyH_take (i := 4) (oi := _) (v := ?_) rfl (by kernel_rfl) (by kernel_rfl) (by kernel_rfl) (fun _ _ _ h => h) (Or.inl ⟨by rfl, ?_⟩) (by assumption) ?_; rotate_left; (intro w hSw; (try dsimp only at hSw); go_simp; try with_reducible rfl); (try simp only [Act.put]); (try simp only [List.getElem_toArray]); (try simp only [List.getElem_cons_succ]); (try simp only [List.getElem_cons_zero]); (try simp only [List.setIfInBounds_toArray]))
    (refine wpAnyH_ready (rs := [2, 6]) (by kernel_rfl) (by simp) ?_)
    (refine AllReadyH.cons (o := _) rfl (fun KK hK => ?_) ?_)
    · go_simp
      go_at_call 79
      refine (HKO.out _).mono ?_
      rintro e w5 ⟨rfl, hb5⟩
      have S5 := (ext_trans (drew_ext wq) hb5 : Below wq.heap.size wq w5)
      have z5 := S5.size
      clear hb5
      go_wp2_with fail
      (refine hK.out _ _ (KS _ S5) (fun hHeld => ?_); clear hK KK; (try simp only [Act.put]); (try simp only [List.getElem_toArray]); (try simp only [List.getElem_cons_succ]); (try simp only [List.getElem_cons_zero]); (try simp only [List.setIfInBounds_toArray]))
      (refine wpAnyH_take (i := 5) (oi := _) (v := _) rfl (by kernel_rfl) (by kernel_rfl) (by kernel_rfl) (fun _ _ _ h => h) (yieldsIf_build_pref (by rfl) _ _ rfl K l rfl rfl) (by assumption) ?_; (try simp only [Act.put]); (try simp only [List.getElem_toArray]); (try simp only [List.getElem_cons_succ]); (try simp only [List.getElem_cons_zero]); (try simp only [List.setIfInBounds_toArray]))
      ((refine wpAnyH_ready (rs := [6]) (by kernel_rfl) (by simp) ?_); (refine AllReadyH.cons (o := _) rfl (fun KK hK => ?_) ?_); rotate_left; exact AllReadyH.nil)
      go_simp
      (refine hK.out _ _ (KS _ (ext_trans S5 (ext_alloc _ _))) (fun hHeld => ?_); clear hK KK; (try simp only [Act.put]); (try simp only [List.getElem_toArray]); (try simp only [List.getElem_cons_succ]); (try simp only [List.getElem_cons_zero]); (try simp only [List.setIfInBounds_toArray]))
      ((refine wpAnyH_ready (rs := [7]) (by kernel_rfl) (by simp) ?_); (refine AllReadyH.cons (o := _) rfl (fun KK hK => ?_) ?_); rotate_left; exact AllReadyH.nil)
      rw [if_pos (by rfl)]
      refine wp_store_whole 98 _ _ rfl w5.heap.size (prefL K l) rfl rfl 98 _ (heap_alloc_new _ _) (pref_info K l) rfl (pref_one K l) ?_
      intro w6 b6 hF6
      have S6 := own_fr (ext_trans S5 (ext_alloc _ _)) hF6 z5
      (refine hK.out _ _ (KS _ S6) (fun hHeld => ?_); clear hK KK; (try simp only [Act.put]); (try simp only [List.getElem_toArray]); (try simp only [List.getElem_cons_succ]); (try simp only [List.getElem_cons_zero]); (try simp only [List.setIfInBounds_toArray]))
      (refine wpAnyH_done (by kernel_rfl) ?_ _)
      go_wp2_with fail
      go_meet
      case rel => exact ⟨w5.heap.size, rfl, z5, b6, S6⟩
    · (refine AllReadyH.cons (o := _) rfl (fun KK hK => ?_) ?_)
      · go_simp
        (refine hK.out _ _ (KS _ (Below.drew (ext_alloc _ _))) (fun hHeld => ?_); clear hK KK; (try simp only [Act.put]); (try simp only [List.getElem_toArray]); (try simp only [List.getElem_cons_succ]); (try simp only [List.getElem_cons_zero]); (try simp only [List.setIfInBounds_toArray]))
        ((refine wpAnyH_ready (rs := [2]) (by kernel_rfl) (by simp) ?_); (refine AllReadyH.cons (o := _) rfl (fun KK hK => ?_) ?_); rotate_left; exact AllReadyH.nil)
        go_simp
        go_at_call 79
        refine (HKO.out _).mono ?_
        rintro e w5 ⟨rfl, hb5⟩
        have S5 := (ext_trans (Below.drew (ext_alloc _ _)) hb5 : Below wq.heap.size wq w5)
        have b5 := new_drew hb5
        clear hb5
        go_wp2_with fail
        (refine hK.out _ _ (KS _ S5) (fun hHeld => ?_); clear hK KK; (try simp only [Act.put]); (try simp only [List.getElem_toArray]); (try simp only [List.getElem_cons_succ]); (try simp only [List.getElem_cons_zero]); (try simp only [List.setIfInBounds_toArray]))
        (refine wpAnyH_take (i := 5) (oi := _) (v := _) rfl (by kernel_rfl) (by kernel_rfl) (by kernel_rfl) (fun _ _ _ h => h) (yieldsIf_build_pref (by rfl) _ _ rfl K l rfl rfl) (by assumption) ?_; (try simp only [Act.put]); (try simp only [List.getElem_toArray]); (try simp only [List.getElem_cons_succ]); (try simp only [List.getElem_cons_zero]); (try simp only [List.setIfInBounds_toArray]))
        ((refine wpAnyH_ready (rs := [7]) (by kernel_rfl) (by simp) ?_); (refine AllReadyH.cons (o := _) rfl (fun KK hK => ?_) ?_); rotate_left; exact AllReadyH.nil)
        rw [if_pos (by rfl)]
        refine wp_store_whole 98 _ _ rfl wq.heap.size (prefL K l) rfl rfl 98 _ b5 (pref_info K l) rfl (pref_one K l) ?_
        intro w6 b6 hF6
        have S6 := own_fr S5 hF6 (Nat.le_refl _)
        (refine hK.out _ _ (KS _ S6) (fun hHeld => ?_); clear hK KK; (try simp only [Act.put]); (try simp only [List.getElem_toArray]); (try simp only [List.getElem_cons_succ]); (try simp only [List.getElem_cons_zero]); (try simp only [List.setIfInBounds_toArray]))
        (refine wpAnyH_done (by kernel_rfl) ?_ _)
        go_wp2_with fail
        go_meet
        case rel => exact ⟨wq.heap.size, rfl, Nat.le_refl _, b6, S6⟩
      · exact AllReadyH.nil
  case rest =>
    obtain ⟨pb, rfl, hpq, bp, hBc⟩ := hcut
    have bqc := block_ext bq hBc
    have HBC := hide (ext_trans HB0.out hBc)
    have hlc := lt_of_block bp
    have hlqc := lt_of_block bqc
    clear KS bq hBc
    have HTC := hide (h.ext HBC.out)
    have hna := h.na
    have hnw := h.nw
    have hla := h.ar.la
    have hlw := h.ar.lw
    have hwqs := HB0.out.size
    have hpw : pb ∉ [ab, wb] := by simp; omega
    have hqw : qb ∉ [ab, wb] := by have := HQB.out; simp; omega
    have hpt : pb ∉ [tb] := by simp; omega
    have hqt : qb ∉ [tb] := by have := HQB.out; simp; omega
    have hwpb : w.heap.size ≤ pb := by omega
    by_cases h8 : l < 8
    · have HSH := hide (fun (w : World) => short_any K l w (by omega))
      rw [show decide (l < 8) = true by simpa using h8] at HSH
      unfold insN at hR
      rw [if_pos h8] at hR
      subst hR
      have hv := fit_lt (l := l) hKl (by omega)
      have HIS := hide (fun (w : World) (h : TabAt w tb ab wb A) => insertShort_any A tb ab wb f q K l (fitK K l) hop w h hs hq hsz (fun b hb => (hI.root q).lt b hb) h8 hv (byte_short hKl (by omega) hz) hhop)
      clear hI hw hq hz h
      go_wp2_with (show wpList _ _ _ (⟨_, .load 98 _, _, _, _, _⟩ :: _) _ _; refine wpList_load_whole rfl 98 _ rfl pb rfl (prefL K l) _ 98 (0, 0) (by assumption) Tryd.underlying98 rfl (pref_info K l) ?_)
      refine (HSH.out _).mono ?_
      rintro e w2 ⟨rfl, hb2⟩
      have bp2 := block_ext bp hb2
      have bq2 := block_ext bqc hb2
      obtain ⟨k0, k1, k2⟩ := cells3 bq2
      have hl2 := lt_of_block bq2
      have HT2 := hide (HTC.out.ext hb2)
      have HB2 := hide (ext_trans HBC.out hb2)
      clear hb2 bp bqc bq2
      go_wp2_with (show wpList _ _ _ (⟨_, .load 98 _, _, _, _, _⟩ :: _) _ _; refine wpList_load_whole rfl 98 _ rfl pb rfl (prefL K l) _ 98 (0, 0) (by assumption) Tryd.underlying98 rfl (pref_info K l) ?_)
      refine (HIS.out _ HT2.out).mono ?_
      rintro e w3 ⟨rfl, hT3, hF3⟩
      have HX := hide (Moved.same hT3 (Fr.after (fr_below HB2.out) hF3 (fun y hy => Or.inl (by simp at hy ⊢; exact Or.inr hy)) : Fr [ab, wb] w w3))
      clear hT3 hF3
      go_wp2
      go_ret
      exact ⟨rfl, HX.out⟩
    · have HSH := hide (fun (w : World) => short_any K l w (by omega))
      rw [show decide (l < 8) = false by simpa using h8] at HSH
      unfold insN at hR
      rw [if_neg h8] at hR
      unfold insLong at hR
      have hv := fit_lt (l := l) hKl (by omega)
      have HNE := hide (fun (w : World) (h : TabAt w tb ab wb A) => need_any A F M tb ab wb f q K l w h hs hI hq hKl (by omega) hl)
      have HFR := hide (fun (w : World) (h : TabAt w tb ab wb A) => arenaFree_any ab A.free w h.ar.free)
      have HPUT := hide (fun (w : World) (h : TabAt w tb ab wb A) => put_any A F M tb ab wb f q K l hop w h hI hw hq hKl (by omega) hl hhop _ rfl)
      have hn107 := need_le (hI.root q) (l := l) (v := fitK K l) (by omega) hl hv
      have hfp := hI.pos
      obtain ⟨nd, hnd⟩ : ∃ nd, nd = needRoot A.word q l (fitK K l) := ⟨_, rfl⟩
      rw [← hnd] at HNE hR hn107
      obtain ⟨fr, hfr⟩ : ∃ fr, fr = A.free := ⟨_, rfl⟩
      rw [← hfr] at HFR hR hfp
      clear hfr
      obtain ⟨P, hP⟩ : ∃ P, P = putRoot A q l (fitK K l) hop := ⟨_, rfl⟩
      rw [← hP] at HPUT hR
      have hco : P.2 = false → Hid (∀ (w : World), TabAt w tb ab wb P.1 → Calls Tryd.prog 76 #[.pointer (some ⟨tb, 0, none⟩)] w fun e w' => e = .returned (.tuple #[]) ∧ (∃ ab' wb', w.heap.size ≤ ab' ∧ w.heap.size ≤ wb' ∧ TabAt w' tb ab' wb' (compactN P.1.word P.1.size)) ∧ Fr [tb] w w') := fun hP2 => hide (fun w h => by
        rw [hP] at hP2 h ⊢
        obtain ⟨hS, _⟩ := putRoot_src hI hw q (by omega) hl hv (by omega) hP2
        obtain ⟨F', hG'⟩ := putRoot_good hI hw q (by omega) hl hv (by omega) hP2
        exact compact_any _ M tb ab wb w h hS (hG'.sane (by omega)))
      have hp2 : P.2 = false → Hid (∀ (ab' wb' : Nat) (w : World), TabAt w tb ab' wb' (compactN P.1.word P.1.size) → Calls Tryd.prog 83 #[.pointer (some ⟨tb, 0, none⟩), .int .i64 f, .agg (prefL K l).toArray, .int .i64 (hop : Nat)] w fun e w' => e = .returned (.bool (putRoot (compactN P.1.word P.1.size) q l (fitK K l) hop).2) ∧ TabAt w' tb ab' wb' (putRoot (compactN P.1.word P.1.size) q l (fitK K l) hop).1 ∧ Fr [ab', wb'] w w') := fun hP2 => hide (fun ab' wb' w h => by
        rw [hP] at hP2 h ⊢
        obtain ⟨hS, _⟩ := putRoot_src hI hw q (by omega) hl hv (by omega) hP2
        exact put_any _ _ M tb ab' wb' f q K l hop w h hS.compact.1 (compactN_wok hS) hq hKl (by omega) hl hhop _ rfl)
      have HCO := hide hco
      have HP2 := hide hp2
      have HR := hide hR
      clear hco hp2 hR hI hw hq hz h hP hnd hG
      go_wp2_with (show wpList _ _ _ (⟨_, .load 98 _, _, _, _, _⟩ :: _) _ _; refine wpList_load_whole rfl 98 _ rfl pb rfl (prefL K l) _ 98 (0, 0) (by assumption) Tryd.underlying98 rfl (pref_info K l) ?_)
      refine (HSH.out _).mono ?_
      rintro e w2 ⟨rfl, hb2⟩
      have bp2 := block_ext bp hb2
      have bq2 := block_ext bqc hb2
      have HT2 := hide (HTC.out.ext hb2)
      have HB2 := hide (ext_trans HBC.out hb2)
      have hl2 := lt_of_block bp2
      have hlt2 := HT2.out.lt
      clear hb2 bp bqc
      obtain ⟨wq, hwq⟩ : ∃ wz, wz = w2 := ⟨_, rfl⟩
      subst hwq
      have KS : ∀ w', Below wq.heap.size wq w' → (fun w' : World => Below wq.heap.size wq w' ∧ w'.rangeAt pb 0 (prefL K l) ∧ w'.cell? ⟨tb, 0, none⟩ = some (.pointer (some ⟨ab, 0, none⟩))) w' := fun w' hf => ⟨hf, range_whole K l (block_ext bp2 hf), (HT2.out.ext hf).cell⟩
      simp only [] at KS
      go_wp2_with fail
      refine wp_region_held_drew (S := (fun w' : World => Below wq.heap.size wq w' ∧ w'.rangeAt pb 0 (prefL K l) ∧ w'.cell? ⟨tb, 0, none⟩ = some (.pointer (some ⟨ab, 0, none⟩)))) (by kernel_rfl) (KS _ (drew_ext wq)) (fun hHeld => ?_)
      (refine wpAnyH_take (i := 0) (oi := _) (v := ?_) rfl (by kernel_rfl) (by kernel_rfl) (by kernel_rfl) (fun _ _ _ h => h) (Or.inl ⟨by rfl, ?_⟩) (by assumption) ?_; rotate_left; (intro w hSw; (try dsimp only at hSw); go_simp; try with_reducible rfl); (try simp only [Act.put]); (try simp only [List.getElem_toArray]); (try simp only [List.getElem_cons_succ]); (try simp only [List.getElem_cons_zero]); (try simp only [List.setIfInBounds_toArray]))
      (refine wpAnyH_take (i := 1) (oi := _) (v := ?_) rfl (by kernel_rfl) (by kernel_rfl) (by kernel_rfl) (fun _ _ _ h => h) (Or.inl ⟨by rfl, ?_⟩) (by assumption) ?_; rotate_left; (intro w hSw; (try dsimp only at hSw); go_simp; try with_reducible rfl); (try simp only [Act.put]); (try simp only [List.getElem_toArray]); (try simp only [List.getElem_cons_succ]); (try simp only [List.getElem_cons_zero]); (try simp only [List.setIfInBounds_toArray]))
      (refine wpAnyH_take (i := 2) (oi := _) (v := _) rfl (by kernel_rfl) (by kernel_rfl) (by kernel_rfl) (fun _ _ _ h => h) (yieldsIf_load_mid (by rfl) _ _ rfl _ _ rfl (prefL K l) _ (fun w hSw => hSw.2.1) Tryd.underlying98 rfl (pref_info K l)) (by assumption) ?_; (try simp only [Act.put]); (try simp only [List.getElem_toArray]); (try simp only [List.getElem_cons_succ]); (try simp only [List.getElem_cons_zero]); (try simp only [List.setIfInBounds_toArray]))
      (refine wpAnyH_take (i := 4) (oi := _) (v := ?_) rfl (by kernel_rfl) (by kernel_rfl) (by kernel_rfl) (fun _ _ _ h => h) (Or.inl ⟨by rfl, ?_⟩) (by assumption) ?_; rotate_left; (intro w hSw; (try dsimp only at hSw); go_simp; try with_reducible rfl); (try simp only [Act.put]); (try simp only [List.getElem_toArray]); (try simp only [List.getElem_cons_succ]); (try simp only [List.getElem_cons_zero]); (try simp only [List.setIfInBounds_toArray]))
      (refine wpAnyH_take (i := 5) (oi := _) (v := ?_) rfl (by kernel_rfl) (by kernel_rfl) (by kernel_rfl) (fun _ _ _ h => h) (Or.inl ⟨by rfl, ?_⟩) (by assumption) ?_; rotate_left; (intro w hSw; (try dsimp only at hSw); go_simp; try with_reducible rfl); (try simp only [Act.put]); (try simp only [List.getElem_toArray]); (try simp only [List.getElem_cons_succ]); (try simp only [List.getElem_cons_zero]); (try simp only [List.setIfInBounds_toArray]))
      (refine wpAnyH_take (i := 6) (oi := _) (v := ?_) rfl (by kernel_rfl) (by kernel_rfl) (by kernel_rfl) (fun _ _ _ h => h) (Or.inl ⟨by rfl, ?_⟩) (by assumption) ?_; rotate_left; (intro w hSw; (try dsimp only at hSw); go_simp; try with_reducible rfl); (try simp only [Act.put]); (try simp only [List.getElem_toArray]); (try simp only [List.getElem_cons_succ]); (try simp only [List.getElem_cons_zero]); (try simp only [List.setIfInBounds_toArray]))
      (refine wpAnyH_take (i := 7) (oi := _) (v := ?_) rfl (by kernel_rfl) (by kernel_rfl) (by kernel_rfl) (fun _ _ _ h => h) (Or.inl ⟨by rfl, ?_⟩) (by assumption) ?_; rotate_left; (intro w hSw; (try dsimp only at hSw); go_simp; try with_reducible rfl); (try simp only [Act.put]); (try simp only [List.getElem_toArray]); (try simp only [List.getElem_cons_succ]); (try simp only [List.getElem_cons_zero]); (try simp only [List.setIfInBounds_toArray]))
      ((refine wpAnyH_ready (rs := [3]) (by kernel_rfl) (by simp) ?_); (refine AllReadyH.cons (o := _) rfl (fun KK hK => ?_) ?_); rotate_left; exact AllReadyH.nil)
      go_simp
      go_at_call 82
      refine (HNE.out _ (HT2.out.ext (drew_ext wq))).mono ?_
      rintro e w5 ⟨rfl, hb5⟩
      have S5 := (ext_trans (drew_ext wq) hb5 : Below wq.heap.size wq w5)
      clear hb5
      go_wp2_with fail
      (refine hK.out _ _ (KS _ S5) (fun hHeld => ?_); clear hK KK; (try simp only [Act.put]); (try simp only [List.getElem_toArray]); (try simp only [List.getElem_cons_succ]); (try simp only [List.getElem_cons_zero]); (try simp only [List.setIfInBounds_toArray]))
      ((refine wpAnyH_ready (rs := [8]) (by kernel_rfl) (by simp) ?_); (refine AllReadyH.cons (o := _) rfl (fun KK hK => ?_) ?_); rotate_left; exact AllReadyH.nil)
      go_simp
      go_at_call 34
      refine (HFR.out _ (HT2.out.ext S5)).mono ?_
      rintro e w6 ⟨rfl, rfl⟩
      go_wp2_with fail
      (refine hK.out _ _ (KS _ S5) (fun hHeld => ?_); clear hK KK; (try simp only [Act.put]); (try simp only [List.getElem_toArray]); (try simp only [List.getElem_cons_succ]); (try simp only [List.getElem_cons_zero]); (try simp only [List.setIfInBounds_toArray]))
      (refine wpAnyH_take (i := 9) (oi := _) (v := ?_) rfl (by kernel_rfl) (by kernel_rfl) (by kernel_rfl) (fun _ _ _ h => h) (Or.inl ⟨by rfl, ?_⟩) (by assumption) ?_; rotate_left; (intro w hSw; (try dsimp only at hSw); go_simp; try with_reducible rfl); (try simp only [Act.put]); (try simp only [List.getElem_toArray]); (try simp only [List.getElem_cons_succ]); (try simp only [List.getElem_cons_zero]); (try simp only [List.setIfInBounds_toArray]))
      simp only [List.set_cons_succ, List.set_cons_zero]
      (refine wpAnyH_done (by kernel_rfl) ?_ _)
      have bp6 := block_ext bp2 S5
      have bq6 := block_ext bq2 S5
      have HT6 := hide (HT2.out.ext S5)
      have HB6 := hide (ext_trans HB2.out S5)
      have hl6 := lt_of_block bq6
      obtain ⟨k0, k1, k2⟩ := cells3 bq6
      clear KS S5 hHeld bp2 bq2 HT2 HB2
      have hR := HR.out
      by_cases hfn : fr < nd
      · rw [if_pos hfn] at hR
        subst hR
        clear HR
        rw [show decide (fr < (nd : Int)) = true by simpa using hfn]
        go_wp2
        go_ret
        exact ⟨rfl, Moved.same HT6.out (fr_below HB6.out)⟩
      · rw [if_neg hfn] at hR
        have HR2 := hide hR
        clear hR HR
        rw [show decide (fr < (nd : Int)) = false by simpa using hfn]
        have HBP6 := hide bp6
        have HBQ6 := hide bq6
        go_wp2_with (show wpList _ _ _ (⟨_, .load 98 _, _, _, _, _⟩ :: _) _ _; refine wpList_load_whole rfl 98 _ rfl pb rfl (prefL K l) _ 98 (0, 0) (by assumption) Tryd.underlying98 rfl (pref_info K l) ?_)
        refine (HPUT.out _ HT6.out).mono ?_
        rintro e w7 ⟨rfl, hT7, hF7⟩
        have HT7 := hide hT7
        have HF7 := hide (Fr.after (fr_below HB6.out) hF7 (fun y hy => Or.inl hy) : Fr [ab, wb] w w7)
        have bp7 := hF7.at HBP6.out hpw
        have bq7 := hF7.at HBQ6.out hqw
        clear hT7 hF7 bp6 bq6 k0 k1 k2
        obtain ⟨B, r⟩ := P
        have hR := HR2.out
        simp only at HT7 hR
        cases r with
        | true =>
          simp only at hR
          subst hR
          go_wp2
          go_ret
          exact ⟨rfl, Moved.same HT7.out HF7.out⟩
        | false =>
          simp only at hR
          subst hR
          have HC1 := HCO.out rfl
          have HC2 := HP2.out rfl
          go_wp2_with fail
          refine (HC1.out _ HT7.out).mono ?_
          rintro e w8 ⟨rfl, ⟨ab', wb', hab, hwb, hT8⟩, hF8⟩
          have bp8 := hF8.at bp7 hpt
          have bq8 := hF8.at bq7 hqt
          obtain ⟨k0, k1, k2⟩ := cells3 bq8
          have hl8 := lt_of_block bq8
          have h78 := HF7.out.size
          have HT8 := hide hT8
          have HF8 := hide (Fr.after (HF7.out.mono (fun y hy _ => by simp at hy ⊢; exact Or.inr hy) : Fr [tb, ab, wb] w w7) hF8 (fun y hy => Or.inl (by simp at hy ⊢; exact Or.inl hy)) : Fr [tb, ab, wb] w w8)
          clear hT8 hF8 bp7 bq7
          go_wp2_with (show wpList _ _ _ (⟨_, .load 98 _, _, _, _, _⟩ :: _) _ _; refine wpList_load_whole rfl 98 _ rfl pb rfl (prefL K l) _ 98 (0, 0) (by assumption) Tryd.underlying98 rfl (pref_info K l) ?_)
          refine (HC2.out ab' wb' _ HT8.out).mono ?_
          rintro e w9 ⟨rfl, hT9, hF9⟩
          have HX := hide (show Moved w w9 tb ab wb _ from ⟨⟨ab', wb', Or.inr ⟨by omega, by omega⟩, hT9⟩, Fr.after HF8.out hF9 (fun y hy => Or.inr (by simp at hy; rcases hy with rfl | rfl <;> omega))⟩)
          clear hT9 hF9
          go_wp2
          go_ret
          exact ⟨rfl, HX.out⟩
end Go.Proofs.YtnapboelfimaaaaDoor
/- A lookup. -/
namespace Go.Proofs.YtnapboelfimaaaaDoor
open Go.RowKit Go.Deep
/-- where the best hop lies so far -/
def Bst (A : Ar) (b : Nat) (o : Option Nat) : Prop := (b = 0 ∧ o = none) ∨ ∃ h, o = some h ∧ 0 < b ∧ b < A.size ∧ A.word b = h
theorem bst_none {A : Ar} {o : Option Nat} (h : Bst A 0 o) : o = none := by
  rcases h with h | ⟨h, _, h2, _⟩
  · exact h.2
  · omega
theorem bst_some {A : Ar} {b : Nat} {o : Option Nat} (h : Bst A b o) (hb : b ≠ 0) : ∃ h, o = some h ∧ b < A.size ∧ A.word b = h := by
  rcases h with h | ⟨x, h1, _, h3, h4⟩
  · exact absurd h.1 hb
  · exact ⟨x, h1, h3, h4⟩
/-- the lookup's state ahead of a round -/
def At (A : Ar) (M : Tab) (K dm T t b x c : Nat) : Prop := (x = 0 ∧ Bst A b (bestL M K 129) ∧ c = T) ∨ (x ≠ 0 ∧ t ≤ dm ∧ On A M (dm - t) (8 + 4 * t) (fitK K (8 + 4 * t)) x ∧ Bst A b (bestL M K (8 + 4 * t)) ∧ c + nodesOn A.word K (dm - t) (8 + 4 * t) x = T)
theorem best_top {M : Tab} {K L : Nat} (hT : TabOk L M) (hL : L ≤ 128) : ∀ k, bestL M K (129 + k) = bestL M K 129
  | 0 => rfl
  | k + 1 => by
    rw [show 129 + (k + 1) = (129 + k) + 1 by omega, bestL]
    have hn : (M (129 + k) (fitK K (129 + k))).isSome = false := by
      cases hm : (M (129 + k) (fitK K (129 + k))).isSome with
      | false => rfl
      | true => have := hT.len _ _ hm; omega
    rw [hn]
    exact best_top hT hL k
theorem best_all {M : Tab} {K len L : Nat} (hT : TabOk L M) (hL : L ≤ 128) (hany : anyBelow M len (fitK K len) = false) (hl : len ≤ 136) : bestL M K 129 = bestL M K len := by
  by_cases h : len ≤ 129
  · exact best_end hT hL hany hl 129 h (by omega)
  · have := best_top (K := K) hT hL (len - 129)
    rw [show 129 + (len - 129) = len by omega] at this
    exact this.symm
def lookVal (W : Nat → Nat) (q : Bool) (K : Nat) (o : Option Nat) : Value :=
  match o with
  | some h => .tuple #[.int .i64 (h : Int), .int .i64 (readsN W q K true : Int), .bool true]
  | none => .tuple #[.int .i64 0, .int .i64 (readsN W q K false : Int), .bool false]
set_option maxHeartbeats 4000000 in
set_option maxRecDepth 10000 in
theorem lookup_any (A : Ar) (F : Nat → List Nat) (M : Bool → Tab) (tb ab wb : Nat) (f : Int) (q : Bool) (s : ByteArray) (K : Nat) (w : World) (h : TabAt w tb ab wb A) (hs : Sane A) (hI : Inv A F M) (hq : q = decide (f = 6)) (hs16 : s.size ≤ 16) (hK : K = keyNum s) :
    Calls Tryd.prog 117 #[.pointer (some ⟨tb, 0, none⟩), .int .i64 f, .string s] w fun e w' => e = .returned (lookVal A.word q K (bestL (M q) K 129)) ∧ Below w.heap.size w w' := by
  have HKO := hide (fun (w : World) => keyOf_any s w (by omega))
  rw [← hK] at HKO
  have hKl : K < 2 ^ 136 := by rw [hK]; exact keyNum_lt s
  have hfit := kbyte_zero K hKl
  obtain ⟨b8, hb8⟩ : ∃ b8, b8 = fitK K 8 := ⟨_, rfl⟩
  rw [← hb8] at hfit
  have hb256 : b8 < 256 := by rw [← hfit]; exact kbyte_lt K 0
  have hrt := rt_le q
  have hsz := hI.size
  have hszA := hs.size
  have hsh := (hI.root q).lt b8 hb256
  obtain ⟨nd, hnd⟩ : ∃ nd, nd = A.word (rt q + b8) % 65536 := ⟨_, rfl⟩
  obtain ⟨sh, hshd⟩ : ∃ sh, sh = A.word (rt q + b8) / 65536 := ⟨_, rfl⟩
  have HBA := hide (fun (w : World) => base_any f q w hq)
  have hin : IntKind.i64.wrap (b8 : Int) = (b8 : Int) := by rw [IntKind.wrap_i64]; omega
  have HX := hide (show IntKind.i64.wrap ((rt q : Int) + IntKind.i64.wrap (b8 : Int)) = ((rt q + b8 : Nat) : Int) by rw [hin, IntKind.wrap_i64]; omega)
  have HRF := hide (fun (rb : Nat) (x : Int) (w : World) (h : ArAt w ab wb A) (hx : x = ((rt q + b8 : Nat) : Int)) (hr : w.heap[rb]? = some (.cells #[.pointer (some ⟨ab, 0, none⟩), .int .i64 (0)] 65 (0, 0))) => readFirst_any A ab wb rb x (rt q + b8) 0 w h hs hx (by omega) hsh hr (by omega) (by omega))
  rw [← hnd, ← hshd] at HRF
  have HFL := hide (fun (w : World) => flongest_any nd sh w (by rw [hshd]; exact hsh))
  have hbs := best_short (hI.root q) hKl
  rw [← hb8, ← hshd] at hbs
  obtain ⟨bl, hbl⟩ : ∃ bl, bl = Lib.bitLen sh := ⟨_, rfl⟩
  rw [← hbl] at hbs HFL
  have hbl8 : bl ≤ 8 := by
    rcases hbs with h1 | ⟨l, x, h1, h2, _⟩ <;> omega
  clear hbl
  have HBS := hide hbs
  clear hbs
  have HSP := hide (fun (l : Nat) (hl : l < 8) (w : World) => shortPlace_any f l q l b8 w hq rfl hl hb256)
  have hlt := h.lt
  have hla := h.ar.la
  have hlw := h.ar.lw
  have hna := h.na
  have hnw := h.nw
  have c0 := h.cell
  have HT := hide h
  have HB8 := hide hb8
  have HND := hide hnd
  have HSHD := hide hshd
  have hsh' : sh < 256 := by rw [hshd]; exact hsh
  have hndl : nd < 65536 := by rw [hnd]; exact Nat.mod_lt _ (by decide)
  clear h hK hin hq hb8 hnd hshd hsh
  go_enter Tryd.func117, Tryd.ntmps117
  go_wp2_with fail
  refine (HKO.out _).mono ?_
  rintro e w1 ⟨rfl, hb1⟩
  go_wp2_with (show wpList _ _ _ (⟨_, .store 96 _ _, _, _, _, _⟩ :: _) _ _; refine wpList_store_whole rfl 96 _ _ rfl w1.heap.size (keyL K) rfl rfl 96 _ (heap_alloc_new _ _) (key_info _) rfl (key_one _) ?_; intro wk hk hFk hsk; have hbk : Below w.heap.size w wk := fr_nil (Fr.after (S := []) (Fr.alloc (Fr.of_below hb1) _) hFk (by intro y hy; have := hb1.size; simp at hy; right; omega)); have ck := (HT.out.ext hbk).cell; clear hFk)
  have hlk := lt_of_block hk
  have hsz1 := hb1.size
  refine (reader_any ab _).mono ?_
  rintro e w2 ⟨rfl, hb2⟩
  have hk2 := block_ext hk hb2
  obtain ⟨kb, hkb⟩ : ∃ kb, kb = w1.heap.size := ⟨_, rfl⟩
  obtain ⟨rb, hrb⟩ : ∃ rb, rb = w2.heap.size := ⟨_, rfl⟩
  obtain ⟨wq, hwq⟩ : ∃ wq, wq = w2.alloc (.cells #[.pointer (some ⟨ab, 0, none⟩), .int .i64 0] 65) := ⟨_, rfl⟩
  have hBq : Below w2.heap.size w2 wq := by rw [hwq]; exact ext_alloc _ _
  have hrq : wq.heap[rb]? = some (.cells #[.pointer (some ⟨ab, 0, none⟩), .int .i64 (0)] 65 (0, 0)) := by rw [hwq, hrb]; exact heap_alloc_new _ _
  have hkq := block_ext hk2 hBq
  rw [← hkb] at hkq
  have HB0 := hide (ext_trans hbk (ext_trans hb2 hBq))
  have hl2 := lt_of_block hk2
  have hkr : kb ∉ [rb] := by simp; omega
  have hwrb : w.heap.size ≤ rb := by omega
  have hra : ab ∉ [rb] := by simp; omega
  have hrw : wb ∉ [rb] := by simp; omega
  have hrab : rb ≠ wb := by omega
  have HTQ := hide (HT.out.ext HB0.out)
  have HKB := hide hkb
  have HRB := hide hrb
  have HWQ := hide hwq
  have HRQ := hide hrq
  have hlq := lt_of_block hrq
  have hlkq := lt_of_block hkq
  clear ck hk hsk hb2 hb1 hbk c0 hk2 hkb hrb hwq hBq hrq
  have KS : ∀ w', Fr [rb] wq w' → (fun w' : World => Fr [rb] wq w' ∧ w'.cell? ⟨kb, 0, none⟩ = some (.int .u8 (b8 : Int))) w' := fun w' hf => ⟨hf, by have := key_at K (hf.at hkq hkr) 0 (by omega); rw [hfit] at this; exact this⟩
  simp only [] at KS
  go_wp2_with fail
  rw [← HWQ.out, ← HRB.out, ← HKB.out]
  go_cut [11] (fun v wc => ∃ fb, v = .pointer (some ⟨fb, 0, none⟩) ∧ wq.heap.size ≤ fb ∧ wc.heap[fb]? = some (.cells #[.int .i64 (nd : Int), .int .u8 (sh : Int)] 90 (0, 0)) ∧ wc.heap[rb]? = some (.cells #[.pointer (some ⟨ab, 0, none⟩), .int .i64 (1)] 65 (0, 0)) ∧ Fr [rb] wq wc)
  case first =>
    refine wp_region_held_drew (S := (fun w' : World => Fr [rb] wq w' ∧ w'.cell? ⟨kb, 0, none⟩ = some (.int .u8 (b8 : Int)))) (by kernel_rfl) (KS _ (fr_below (drew_ext wq))) (fun hHeld => ?_)
    (refine wpAnyH_take (i := 0) (oi := _) (v := ?_) rfl (by kernel_rfl) (by kernel_rfl) (by kernel_rfl) (fun _ _ _ h => h) (Or.inl ⟨by rfl, ?_⟩) (by assumption) ?_; rotate_left; (intro w hSw; (try dsimp only at hSw); go_simp; try with_reducible rfl); (try simp only [Act.put]); (try simp only [List.getElem_toArray]); (try simp only [List.getElem_cons_succ]); (try simp only [List.getElem_cons_zero]); (try simp only [List.setIfInBounds_toArray]))
    (refine wpAnyH_take (i := 2) (oi := _) (v := ?_) rfl (by kernel_rfl) (by kernel_rfl) (by kernel_rfl) (fun _ _ _ h => h) (Or.inl ⟨by rfl, ?_⟩) (by assumption) ?_; rotate_left; (intro w hSw; (try dsimp only at hSw); go_simp; try with_reducible rfl); (try simp only [Act.put]); (try simp only [List.getElem_toArray]); (try simp only [List.getElem_cons_succ]); (try simp only [List.getElem_cons_zero]); (try simp only [List.setIfInBounds_toArray]))
    (refine wpAnyH_take (i := 3) (oi := _) (v := ?_) rfl (by kernel_rfl) (by kernel_rfl) (by kernel_rfl) (fun _ _ _ h => h) (Or.inl ⟨by rfl, ?_⟩) (by assumption) ?_; rotate_left; (intro w hSw; (try dsimp only at hSw); go_simp; try with_reducible rfl); (try simp only [Act.put]); (try simp only [List.getElem_toArray]); (try simp only [List.getElem_cons_succ]); (try simp only [List.getElem_cons_zero]); (try simp only [List.setIfInBounds_toArray]))
    (refine wpAnyH_take (i := 4) (oi := _) (v := ?_) rfl (by kernel_rfl) (by kernel_rfl) (by kernel_rfl) (fun _ _ _ h => h) (Or.inl ⟨by rfl, ?_⟩) (by assumption) ?_; rotate_left; (intro w hSw; (try dsimp only at hSw); go_simp; try with_reducible rfl); (try simp only [Act.put]); (try simp only [List.getElem_toArray]); (try simp only [List.getElem_cons_succ]); (try simp only [List.getElem_cons_zero]); (try simp only [List.setIfInBounds_toArray]))
    (refine wpAnyH_ready (rs := [1, 7]) (by kernel_rfl) (by simp) ?_)
    (refine AllReadyH.cons (o := _) rfl (fun KK hK => ?_) ?_)
    · go_simp
      (go_at_call 41; refine (HBA.out _).mono ?_; rintro e w4 ⟨rfl, rfl⟩; go_wp2_with fail)
      (refine hK.out _ _ (KS _ (fr_below (drew_ext wq))) (fun hHeld => ?_); clear hK KK; (try simp only [Act.put]); (try simp only [List.getElem_toArray]); (try simp only [List.getElem_cons_succ]); (try simp only [List.getElem_cons_zero]); (try simp only [List.setIfInBounds_toArray]))
      (refine wpAnyH_take (i := 5) (oi := _) (v := ?_) rfl (by kernel_rfl) (by kernel_rfl) (by kernel_rfl) (fun _ _ _ h => h) (Or.inl ⟨by rfl, ?_⟩) (by assumption) ?_; rotate_left; (intro w hSw; (try dsimp only at hSw); go_simp; try with_reducible rfl); (try simp only [Act.put]); (try simp only [List.getElem_toArray]); (try simp only [List.getElem_cons_succ]); (try simp only [List.getElem_cons_zero]); (try simp only [List.setIfInBounds_toArray]))
      (refine wpAnyH_ready (rs := [6, 7]) (by kernel_rfl) (by simp) ?_)
      (refine AllReadyH.cons (o := _) rfl (fun KK hK => ?_) ?_)
      · go_simp
        go_at_call 40
        refine (HRF.out rb _ wq.drew HTQ.out.ar.drew HX.out HRQ.out).mono ?_
        rintro e w5 ⟨rfl, hA5, hr5, hF5⟩
        have F5 := (Fr.after (fr_below (drew_ext wq)) hF5 (fun y hy => Or.inl hy) : Fr [rb] wq w5)
        have z5 := F5.size
        clear hF5
        go_wp2_with fail
        (refine hK.out _ _ (KS _ F5) (fun hHeld => ?_); clear hK KK; (try simp only [Act.put]); (try simp only [List.getElem_toArray]); (try simp only [List.getElem_cons_succ]); (try simp only [List.getElem_cons_zero]); (try simp only [List.setIfInBounds_toArray]))
        ((refine wpAnyH_ready (rs := [7]) (by kernel_rfl) (by simp) ?_); (refine AllReadyH.cons (o := _) rfl (fun KK hK => ?_) ?_); rotate_left; exact AllReadyH.nil)
        go_simp
        (refine hK.out _ _ (KS _ (F5.alloc _)) (fun hHeld => ?_); clear hK KK; (try simp only [Act.put]); (try simp only [List.getElem_toArray]); (try simp only [List.getElem_cons_succ]); (try simp only [List.getElem_cons_zero]); (try simp only [List.setIfInBounds_toArray]))
        ((refine wpAnyH_ready (rs := [8]) (by kernel_rfl) (by simp) ?_); (refine AllReadyH.cons (o := _) rfl (fun KK hK => ?_) ?_); rotate_left; exact AllReadyH.nil)
        go_simp
        (refine hK.out _ _ (KS _ (F5.alloc _)) (fun hHeld => ?_); clear hK KK; (try simp only [Act.put]); (try simp only [List.getElem_toArray]); (try simp only [List.getElem_cons_succ]); (try simp only [List.getElem_cons_zero]); (try simp only [List.setIfInBounds_toArray]))
        (refine wpAnyH_done (by kernel_rfl) ?_ _)
        go_wp2_with fail
        go_meet
        case rel => exact ⟨w5.heap.size, rfl, z5, heap_alloc_new _ _, block_ext hr5 (ext_alloc _ _), F5.alloc _⟩
      · (refine AllReadyH.cons (o := _) rfl (fun KK hK => ?_) ?_)
        · go_simp
          (refine hK.out _ _ (KS _ (fr_below (Below.drew (ext_alloc _ _)))) (fun hHeld => ?_); clear hK KK; (try simp only [Act.put]); (try simp only [List.getElem_toArray]); (try simp only [List.getElem_cons_succ]); (try simp only [List.getElem_cons_zero]); (try simp only [List.setIfInBounds_toArray]))
          ((refine wpAnyH_ready (rs := [6]) (by kernel_rfl) (by simp) ?_); (refine AllReadyH.cons (o := _) rfl (fun KK hK => ?_) ?_); rotate_left; exact AllReadyH.nil)
          go_simp
          (go_at_call 40; refine (HRF.out rb _ (wq.alloc (.cells #[.int .i64 0, .int .u8 0] 90)).drew (HTQ.out.ar.ext (Below.drew (ext_alloc _ _))) HX.out (block_ext HRQ.out (Below.drew (ext_alloc _ _)))).mono ?_; rintro e w5 ⟨rfl, hA5, hr5, hF5⟩; have F5 := (Fr.after (fr_below (Below.drew (ext_alloc wq (.cells #[.int .i64 0, .int .u8 0] 90)))) hF5 (fun y hy => Or.inl hy) : Fr [rb] wq w5); have b5 := hF5.at (show ((wq.alloc (.cells #[.int .i64 0, .int .u8 0] 90)).drew).heap[wq.heap.size]? = some (.cells #[.int .i64 0, .int .u8 0] 90 (0, 0)) from heap_alloc_new wq _) (by simp; omega); obtain ⟨g0, g1, g2, g3⟩ := cells2 b5; have hrq2 : rb ≠ wq.heap.size := (by omega); clear hF5; go_wp2_with fail; (refine hK.out _ _ (KS _ F5) (fun hHeld => ?_); clear hK KK; (try simp only [Act.put]); (try simp only [List.getElem_toArray]); (try simp only [List.getElem_cons_succ]); (try simp only [List.getElem_cons_zero]); (try simp only [List.setIfInBounds_toArray])); ((refine wpAnyH_ready (rs := [8]) (by kernel_rfl) (by simp) ?_); (refine AllReadyH.cons (o := _) rfl (fun KK hK => ?_) ?_); rotate_left; exact AllReadyH.nil); go_simp; (refine hK.out _ _ (KS _ ((F5.setCell (Or.inr (Nat.le_refl _)) _).setCell (Or.inr (Nat.le_refl _)) _)) (fun hHeld => ?_); clear hK KK; (try simp only [Act.put]); (try simp only [List.getElem_toArray]); (try simp only [List.getElem_cons_succ]); (try simp only [List.getElem_cons_zero]); (try simp only [List.setIfInBounds_toArray])); (refine wpAnyH_done (by kernel_rfl) ?_ _); go_wp2_with fail; go_meet; exact ⟨wq.heap.size, rfl, Nat.le_refl _, store2 b5, heap_set2 hr5 hrq2, (F5.setCell (Or.inr (Nat.le_refl _)) _).setCell (Or.inr (Nat.le_refl _)) _⟩)
        · exact AllReadyH.nil
    · (refine AllReadyH.cons (o := _) rfl (fun KK hK => ?_) ?_)
      · go_simp
        (refine hK.out _ _ (KS _ (fr_below (Below.drew (ext_alloc _ _)))) (fun hHeld => ?_); clear hK KK; (try simp only [Act.put]); (try simp only [List.getElem_toArray]); (try simp only [List.getElem_cons_succ]); (try simp only [List.getElem_cons_zero]); (try simp only [List.setIfInBounds_toArray]))
        ((refine wpAnyH_ready (rs := [1]) (by kernel_rfl) (by simp) ?_); (refine AllReadyH.cons (o := _) rfl (fun KK hK => ?_) ?_); rotate_left; exact AllReadyH.nil)
        go_simp
        (go_at_call 41; refine (HBA.out _).mono ?_; rintro e w4 ⟨rfl, rfl⟩; go_wp2_with fail)
        (refine hK.out _ _ (KS _ (fr_below (Below.drew (ext_alloc _ _)))) (fun hHeld => ?_); clear hK KK; (try simp only [Act.put]); (try simp only [List.getElem_toArray]); (try simp only [List.getElem_cons_succ]); (try simp only [List.getElem_cons_zero]); (try simp only [List.setIfInBounds_toArray]))
        (refine wpAnyH_take (i := 5) (oi := _) (v := ?_) rfl (by kernel_rfl) (by kernel_rfl) (by kernel_rfl) (fun _ _ _ h => h) (Or.inl ⟨by rfl, ?_⟩) (by assumption) ?_; rotate_left; (intro w hSw; (try dsimp only at hSw); go_simp; try with_reducible rfl); (try simp only [Act.put]); (try simp only [List.getElem_toArray]); (try simp only [List.getElem_cons_succ]); (try simp only [List.getElem_cons_zero]); (try simp only [List.setIfInBounds_toArray]))
        ((refine wpAnyH_ready (rs := [6]) (by kernel_rfl) (by simp) ?_); (refine AllReadyH.cons (o := _) rfl (fun KK hK => ?_) ?_); rotate_left; exact AllReadyH.nil)
        go_simp
        (go_at_call 40; refine (HRF.out rb _ (wq.alloc (.cells #[.int .i64 0, .int .u8 0] 90)).drew (HTQ.out.ar.ext (Below.drew (ext_alloc _ _))) HX.out (block_ext HRQ.out (Below.drew (ext_alloc _ _)))).mono ?_; rintro e w5 ⟨rfl, hA5, hr5, hF5⟩; have F5 := (Fr.after (fr_below (Below.drew (ext_alloc wq (.cells #[.int .i64 0, .int .u8 0] 90)))) hF5 (fun y hy => Or.inl hy) : Fr [rb] wq w5); have b5 := hF5.at (show ((wq.alloc (.cells #[.int .i64 0, .int .u8 0] 90)).drew).heap[wq.heap.size]? = some (.cells #[.int .i64 0, .int .u8 0] 90 (0, 0)) from heap_alloc_new wq _) (by simp; omega); obtain ⟨g0, g1, g2, g3⟩ := cells2 b5; have hrq2 : rb ≠ wq.heap.size := (by omega); clear hF5; go_wp2_with fail; (refine hK.out _ _ (KS _ F5) (fun hHeld => ?_); clear hK KK; (try simp only [Act.put]); (try simp only [List.getElem_toArray]); (try simp only [List.getElem_cons_succ]); (try simp only [List.getElem_cons_zero]); (try simp only [List.setIfInBounds_toArray])); ((refine wpAnyH_ready (rs := [8]) (by kernel_rfl) (by simp) ?_); (refine AllReadyH.cons (o := _) rfl (fun KK hK => ?_) ?_); rotate_left; exact AllReadyH.nil); go_simp; (refine hK.out _ _ (KS _ ((F5.setCell (Or.inr (Nat.le_refl _)) _).setCell (Or.inr (Nat.le_refl _)) _)) (fun hHeld => ?_); clear hK KK; (try simp only [Act.put]); (try simp only [List.getElem_toArray]); (try simp only [List.getElem_cons_succ]); (try simp only [List.getElem_cons_zero]); (try simp only [List.setIfInBounds_toArray])); (refine wpAnyH_done (by kernel_rfl) ?_ _); go_wp2_with fail; go_meet; exact ⟨wq.heap.size, rfl, Nat.le_refl _, store2 b5, heap_set2 hr5 hrq2, (F5.setCell (Or.inr (Nat.le_refl _)) _).setCell (Or.inr (Nat.le_refl _)) _⟩)
      · exact AllReadyH.nil
  case rest =>
    obtain ⟨fb, rfl, hfq, bf, hr1, hFc⟩ := hcut
    have bkc := hFc.at hkq hkr
    have hAc := HTQ.out.ar.fr hFc hra hrw
    have hBc : Below w.heap.size w wc := fr_nil (Fr.after (S := []) (fr_below HB0.out) hFc (fun y hy => by simp at hy; subst hy; exact Or.inr hwrb))
    obtain ⟨m0, m1, m2, m3⟩ := cells2 bf
    have hlf := lt_of_block bf
    clear KS hkq hFc
    go_wp2_with fail
    refine (HFL.out _).mono ?_
    rintro e w3 ⟨rfl, hb3⟩
    have bf3 := block_ext bf hb3
    have bk3 := block_ext bkc hb3
    have hr3 := block_ext hr1 hb3
    have hA3 := hAc.ext hb3
    have HB3 := hide (ext_trans hBc hb3)
    have d0 := key_at K bk3 0 (by omega)
    rw [hfit] at d0
    have hlk3 := lt_of_block bk3
    have hlf3 := lt_of_block bf3
    have hlr3 := lt_of_block hr3
    have HA3 := hide hA3
    have HBK3 := hide bk3
    have HR3 := hide hr3
    have HBF3 := hide bf3
    clear m0 m1 m2 m3 hb3 bf bkc hr1 hAc hBc hA3 bk3 hr3
    go_upto_if 37 with (fail)
    go_cut [12] (fun v wd => ∃ bst : Nat, v = .int .i64 (bst : Int) ∧ Bst A bst (bestL (M q) K 8) ∧ Below w3.heap.size w3 wd)
    case first =>
      rcases HBS.out with ⟨hbl, hbn⟩ | ⟨l, hh, hl8, hbl, hbn, hwd⟩
      · have hbl' : (bl : Int) ≤ 0 := by omega
        clear hbl
        go_wp2
        go_meet
        case rel => exact ⟨0, rfl, Or.inl ⟨rfl, hbn⟩, Below.refl _ _⟩
      · have hbl' : (0 : Int) < bl := by omega
        have HSPx := hide (fun (w : World) => HSP.out l hl8 w)
        have hll : (l : Int) = (bl : Int) - 1 := by omega
        rw [hll] at HSPx
        have HW := hide hwd
        have h7 : 2 ^ l ≤ 2 ^ 7 := Nat.pow_le_pow_right (by decide) (by omega)
        have hdv : b8 / 2 ^ (8 - l) < 256 := Nat.lt_of_le_of_lt (Nat.div_le_self _ _) hb256
        have HP := hide (show 0 < rt q + 256 + 2 ^ l + b8 / 2 ^ (8 - l) ∧ rt q + 256 + 2 ^ l + b8 / 2 ^ (8 - l) < A.size by
          generalize b8 / 2 ^ (8 - l) = dv at hdv
          generalize 2 ^ l = p2 at h7
          constructor <;> omega)
        obtain ⟨pl, hpl⟩ : ∃ pl, pl = rt q + 256 + 2 ^ l + b8 / 2 ^ (8 - l) := ⟨_, rfl⟩
        rw [← hpl] at HSPx HW HP
        clear hpl h7 hdv hll hbl hwd
        go_wp2_with fail
        refine (HSPx.out _).mono ?_
        rintro e w4 ⟨rfl, nn, rfl⟩
        go_wp2
        go_meet
        case rel => exact ⟨pl, rfl, Or.inr ⟨hh, hbn, HP.out.1, HP.out.2, HW.out⟩, drewN_ext _ _⟩
    case rest =>
      obtain ⟨bst, rfl, hBst, hBd⟩ := hcut
      have bfd := block_ext HBF3.out hBd
      have bkd := block_ext HBK3.out hBd
      have hrd := block_ext HR3.out hBd
      have hAd := HA3.out.ext hBd
      have hBdd := ext_trans HB3.out hBd
      obtain ⟨m0, m1, m2, m3⟩ := cells2 bfd
      have hlfd := lt_of_block bfd
      have hkbr : kb ≠ rb := by simpa using hkr
      have hwkb : w.heap.size ≤ kb := by have := HKB.out; omega
      obtain ⟨T, hT⟩ : ∃ T, T = 1 + (if nd = 0 then 0 else nodesOn A.word K (dp q) 8 nd) := ⟨_, rfl⟩
      have hAt : At A (M q) K (dp q) T 0 bst nd 1 := by
        have e8 := HB8.out
        have end' := HND.out
        by_cases h0 : nd = 0
        · refine Or.inl ⟨h0, ?_, by rw [hT, if_pos h0]⟩
          have hany : anyBelow (M q) 8 (fitK K 8) = false := by rw [← e8]; exact ((hI.root q).node b8 hb256).1 (by rw [← end']; exact h0)
          rw [best_end (hI.tab q) (dp_le q) hany (by omega) 129 (by omega) (by omega)]
          exact hBst
        · refine Or.inr ⟨h0, Nat.zero_le _, ?_, hBst, by rw [hT, if_neg h0]; rfl⟩
          have hOn := On.root hI q hb256 (by rw [← end']; exact h0)
          rw [← end', e8] at hOn
          exact hOn
      have HX0 := hide (And.intro hAt (And.intro hrd (And.intro hAd (And.intro bkd hBdd))))
      have hT40 : T ≤ 40 := by
        rw [hT]
        have h1 := (nodesOn_le A.word K (dp q) 8 nd).2
        have h2 : dp q ≤ 30 := by unfold dp; split <;> omega
        split <;> omega
      have HTT := hide (show ∀ fo, readsN A.word q K fo = T + (if fo then 1 else 0) from fun fo => by
        unfold readsN
        rw [hT, ← HB8.out, ← HND.out])
      clear hBst hAt hrd hAd bkd hBdd hBd hT
      go_wp2_with fail
      clear m0 m1 m2 m3 bfd
      go_loopw [12, 14, 15] (fun vb vx vt wr => ∃ (t b x c : Nat), vb = .int .i64 (b : Int) ∧ vx = .int .i64 (x : Int) ∧ vt = .int .i64 (t : Int) ∧ At A (M q) K (dp q) T t b x c ∧ wr.heap[rb]? = some (.cells #[.pointer (some ⟨ab, 0, none⟩), .int .i64 (c : Int)] 65 (0, 0)) ∧ ArAt wr ab wb A ∧ wr.heap[kb]? = some (.cells (keyL K).toArray 96 (0, 0)) ∧ Below w.heap.size w wr) (fun _ vx vt _ => if intOf vx = 0 then 0 else 100 - (intOf vt).toNat)
      case atStart => exact ⟨0, bst, nd, 1, rfl, rfl, rfl, HX0.out⟩
      case round =>
        obtain ⟨t, b, x, c, rfl, rfl, rfl, hAt, hrd, hAr, bk, hB⟩ := hrel
        have HRD := hide hrd
        have HAR := hide hAr
        have HBK := hide bk
        have HB := hide hB
        have hlr := lt_of_block hrd
        have hlk := lt_of_block bk
        have hla' := hAr.la
        have hlw' := hAr.lw
        clear hrd hAr hB
        rcases hAt with ⟨h0, hBe, hcT⟩ | ⟨h0, htd, hOn, hBe, hcn⟩
        · have h0' : (x : Int) ≤ 0 := by omega
          clear h0
          by_cases hb0 : b = 0
          · have hb0' : (b : Int) ≤ 0 := by omega
            subst hb0
            have hnone := bst_none hBe
            have HCT := hide (count_any ab rb c wr HRD.out)
            have HV := hide (show lookVal A.word q K (bestL (M q) K 129) = .tuple #[.int .i64 0, .int .i64 (c : Int), .bool false] by
              rw [hnone, hcT]
              unfold lookVal
              rw [HTT.out false]
              rfl)
            clear hBe hcT hnone hb0'
            go_wp2_with fail
            refine HCT.out.mono ?_
            rintro e w4 ⟨rfl, rfl⟩
            go_wp2
            go_ret3
            exact ⟨by rw [HV.out]; rfl, HB.out⟩
          · have hb0' : (0 : Int) < b := by omega
            obtain ⟨hh, hso, hbA, hwA⟩ := bst_some hBe hb0
            have hh32 : hh < 4294967296 := by rw [← hwA]; exact hs.word b
            have HV := hide (show lookVal A.word q K (bestL (M q) K 129) = .tuple #[.int .i64 (hh : Int), .int .i64 ((c : Int) + 1), .bool true] by
              rw [hso, hcT]
              unfold lookVal
              rw [HTT.out true]
              rfl)
            have hcT' : c ≤ 40 := by omega
            have HRE := hide (fun (sb cap cb : Nat) (w : World) (h : ArAt w ab wb A) (hr : w.heap[rb]? = some (.cells #[.pointer (some ⟨ab, 0, none⟩), .int .i64 (c : Int)] 65 (0, 0))) (hc : w.heap[cb]? = some (.cells #[.int .u32 0] 110 (0, 0))) (hsb : w.cell? ⟨sb, 0, none⟩ = some (.pointer (some ⟨cb, 0, none⟩))) (hcw : cb ≠ wb) => read1_any A ab wb rb b b cb sb cap (c : Int) w h hszA rfl hbA hr (by omega) (by omega) _ hc hsb hcw)
            rw [hwA] at HRE
            clear hBe hcT hso hwA hb0
            go_wp2_with fail
            refine (HRE.out _ _ wr.heap.size _ ((HAR.out.alloc _).alloc _) (block_ext HRD.out (ext_trans (ext_alloc _ _) (ext_alloc _ _))) (block_ext (heap_alloc_new _ _) (ext_alloc _ _)) (by rw [cell_new (by simp)]; rfl) (by omega)).mono ?_
            rintro e wq ⟨rfl, hA4, hr4, hc4, hF4⟩
            have hBq : Below w.heap.size w wq := fr_nil (Fr.after (S := []) (fr_below (ext_trans HB.out (ext_trans (ext_alloc _ _) (ext_alloc _ _)))) hF4 (fun y hy => by have := HB.out.size; simp at hy; right; omega))
            have HBQ := hide hBq
            obtain ⟨cb, hcb⟩ : ∃ cb, cb = wr.heap.size := ⟨_, rfl⟩
            have HCB := hide hcb
            rw [← hcb] at hc4
            have HR4 := hide hr4
            have HCT := hide (fun (w : World) (h : w.heap[rb]? = some (.cells #[.pointer (some ⟨ab, 0, none⟩), .int .i64 ((c : Int) + 1)] 65 (0, 0))) => count_any ab rb ((c : Int) + 1) w h)
            have hlc4 := lt_of_block hc4
            have hw64 : IntKind.i64.wrap (hh : Int) = (hh : Int) := by rw [IntKind.wrap_i64]; omega
            have KS : ∀ w', Below wq.heap.size wq w' → (fun w' : World => Below wq.heap.size wq w' ∧ w'.cell? ⟨cb, 0, none⟩ = some (.int .u32 (hh : Int))) w' := fun w' hf => ⟨hf, by rw [cell_at (block_ext hc4 hf)]; rfl⟩
            simp only [] at KS
            clear hA4 hF4 hBq hcb hr4
            go_wp2_with fail
            rw [← HCB.out]
            go_region_held3 (fun w' : World => Below wq.heap.size wq w' ∧ w'.cell? ⟨cb, 0, none⟩ = some (.int .u32 (hh : Int))) (with_reducible (first | assumption | exact KS _ (drew_ext wq))) ((go_at_call 120; refine (HCT.out wq.drew HR4.out).mono ?_; rintro e w5 ⟨rfl, rfl⟩))
            go_wp2
            go_ret3
            exact ⟨by rw [HV.out]; rfl, ext_trans HBQ.out (drew_ext wq)⟩
        · have h0' : (0 : Int) < x := by omega
          have h30 : dp q ≤ 30 := by unfold dp; split <;> omega
          have ht31 : t ≤ 31 := by omega
          have f16 := kfour_lt K t
          have hlt2 := hOn.lt
          have hok := hOn.ok
          have hn1 := (nodesOn_le A.word K (dp q - t) (8 + 4 * t) x).1
          have hc40 : c ≤ 40 := by omega
          obtain ⟨nn, hnn⟩ : ∃ n, n = nodeAt A.word x := ⟨_, rfl⟩
          have HRN := hide (fun (w : World) (h : ArAt w ab wb A) (hr : w.heap[rb]? = some (.cells #[.pointer (some ⟨ab, 0, none⟩), .int .i64 (c : Int)] 65 (0, 0))) => readNode_any A ab wb rb x x (c : Int) w h hs rfl hlt2.2 hr (by omega) (by omega))
          rw [← hnn] at HRN hok
          have HFO := hide (fun (w : World) => four_any K t t w ht31 rfl)
          obtain ⟨f4, hf4⟩ : ∃ f4, f4 = kfour K t := ⟨_, rfl⟩
          rw [← hf4] at HFO f16
          have hkf : fitK K (8 + 4 * t + 4) % 16 = f4 := by rw [hf4, kfour_fit]
          have HLO := hide (fun (w : World) => longest_any nn f4 w hok (by omega))
          have hnb := node_best hOn.rep.node rfl (show 8 + 4 * t + 4 ≤ 136 by omega)
          rw [← hnn, hkf] at hnb
          have hllen : Lib.bitLen (nn.routes &&& fitMask f4 4) = longestN nn f4 := rfl
          rw [hllen] at hnb
          obtain ⟨ln, hln⟩ : ∃ ln, ln = longestN nn f4 := ⟨_, rfl⟩
          rw [← hln] at HLO hnb
          have HBE := hide hBe
          have HON := hide hOn
          have HNB := hide hnb
          have HNN := hide hnn
          have HKF := hide hkf
          have HCN := hide hcn
          obtain ⟨wq, hwq⟩ : ∃ wz, wz = wr := ⟨_, rfl⟩
          subst hwq
          have KS : ∀ w', Fr [rb] wq w' → (fun w' : World => Fr [rb] wq w' ∧ w'.rangeAt kb 0 (keyL K)) w' := fun w' hf => ⟨hf, fun j v hj => by rw [cell_at (hf.at HBK.out hkr), List.getElem?_toArray, Nat.zero_add]; exact hj⟩
          simp only [] at KS
          clear hBe hOn hnb hnn hkf hcn hln hllen hf4 h0
          go_wp2_with fail
          go_cut [16, 17] (fun v1 v2 wc => ∃ nb, v1 = .pointer (some ⟨nb, 0, none⟩) ∧ v2 = .int .i64 (f4 : Int) ∧ wq.heap.size ≤ nb ∧ wc.heap[nb]? = some (.cells #[.int .u16 nn.routes, .int .u16 nn.ways, .int .i64 nn.hops, .int .i64 nn.children] 116 (0, 0)) ∧ wc.heap[rb]? = some (.cells #[.pointer (some ⟨ab, 0, none⟩), .int .i64 ((c : Int) + 1)] 65 (0, 0)) ∧ Fr [rb] wq wc)
          case first =>
            refine wp_region_held_drew (S := (fun w' : World => Fr [rb] wq w' ∧ w'.rangeAt kb 0 (keyL K))) (by kernel_rfl) (KS _ (fr_below (drew_ext wq))) (fun hHeld => ?_)
            (refine wpAnyH_take (i := 0) (oi := _) (v := ?_) rfl (by kernel_rfl) (by kernel_rfl) (by kernel_rfl) (fun _ _ _ h => h) (Or.inl ⟨by rfl, ?_⟩) (by assumption) ?_; rotate_left; (intro w hSw; (try dsimp only at hSw); go_simp; try with_reducible rfl); (try simp only [Act.put]); (try simp only [List.getElem_toArray]); (try simp only [List.getElem_cons_succ]); (try simp only [List.getElem_cons_zero]); (try simp only [List.setIfInBounds_toArray]))
            (refine wpAnyH_take (i := 2) (oi := _) (v := _) rfl (by kernel_rfl) (by kernel_rfl) (by kernel_rfl) (fun _ _ _ h => h) (yieldsIf_load_mid (by rfl) _ _ rfl _ _ rfl (keyL K) _ (fun w hSw => hSw.2) Tryd.underlying96 rfl (key_info K)) (by assumption) ?_; (try simp only [Act.put]); (try simp only [List.getElem_toArray]); (try simp only [List.getElem_cons_succ]); (try simp only [List.getElem_cons_zero]); (try simp only [List.setIfInBounds_toArray]))
            (refine wpAnyH_take (i := 3) (oi := _) (v := ?_) rfl (by kernel_rfl) (by kernel_rfl) (by kernel_rfl) (fun _ _ _ h => h) (Or.inl ⟨by rfl, ?_⟩) (by assumption) ?_; rotate_left; (intro w hSw; (try dsimp only at hSw); go_simp; try with_reducible rfl); (try simp only [Act.put]); (try simp only [List.getElem_toArray]); (try simp only [List.getElem_cons_succ]); (try simp only [List.getElem_cons_zero]); (try simp only [List.setIfInBounds_toArray]))
            (refine wpAnyH_ready (rs := [1, 5]) (by kernel_rfl) (by simp) ?_)
            (refine AllReadyH.cons (o := _) rfl (fun KK hK => ?_) ?_)
            · go_simp
              go_at_call 50
              refine (HRN.out wq.drew HAR.out.drew HRD.out).mono ?_
              rintro e w5 ⟨rfl, hA5, hr5, hF5⟩
              have F5 := (Fr.after (fr_below (drew_ext wq)) hF5 (fun y hy => Or.inl hy) : Fr [rb] wq w5)
              have z5 := F5.size
              have hrl5 := lt_of_block hr5
              clear hF5 hA5
              simp only [NodeD.agg]
              go_wp2_with fail
              (refine hK.out _ _ (KS _ F5) (fun hHeld => ?_); clear hK KK; (try simp only [Act.put]); (try simp only [List.getElem_toArray]); (try simp only [List.getElem_cons_succ]); (try simp only [List.getElem_cons_zero]); (try simp only [List.setIfInBounds_toArray]))
              (refine wpAnyH_ready (rs := [4, 5]) (by kernel_rfl) (by simp) ?_)
              (refine AllReadyH.cons (o := _) rfl (fun KK hK => ?_) ?_)
              · go_simp
                go_at_call 99
                refine (HFO.out _).mono ?_
                rintro e w6 ⟨rfl, hb6⟩
                have F6 := (Fr.after F5 (fr_below (S := []) hb6) (fun y hy => by cases hy) : Fr [rb] wq w6)
                have hr6 := block_ext hr5 hb6
                have z6 := F6.size
                clear hb6
                go_wp2_with fail
                (refine hK.out _ _ (KS _ F6) (fun hHeld => ?_); clear hK KK; (try simp only [Act.put]); (try simp only [List.getElem_toArray]); (try simp only [List.getElem_cons_succ]); (try simp only [List.getElem_cons_zero]); (try simp only [List.setIfInBounds_toArray]))
                ((refine wpAnyH_ready (rs := [5]) (by kernel_rfl) (by simp) ?_); (refine AllReadyH.cons (o := _) rfl (fun KK hK => ?_) ?_); rotate_left; exact AllReadyH.nil)
                go_simp
                (refine hK.out _ _ (KS _ (F6.alloc _)) (fun hHeld => ?_); clear hK KK; (try simp only [Act.put]); (try simp only [List.getElem_toArray]); (try simp only [List.getElem_cons_succ]); (try simp only [List.getElem_cons_zero]); (try simp only [List.setIfInBounds_toArray]))
                ((refine wpAnyH_ready (rs := [6]) (by kernel_rfl) (by simp) ?_); (refine AllReadyH.cons (o := _) rfl (fun KK hK => ?_) ?_); rotate_left; exact AllReadyH.nil)
                go_simp
                (refine hK.out _ _ (KS _ (F6.alloc _)) (fun hHeld => ?_); clear hK KK; (try simp only [Act.put]); (try simp only [List.getElem_toArray]); (try simp only [List.getElem_cons_succ]); (try simp only [List.getElem_cons_zero]); (try simp only [List.setIfInBounds_toArray]))
                (refine wpAnyH_take (i := 7) (oi := _) (v := ?_) rfl (by kernel_rfl) (by kernel_rfl) (by kernel_rfl) (fun _ _ _ h => h) (Or.inl ⟨by rfl, ?_⟩) (by assumption) ?_; rotate_left; (intro w hSw; (try dsimp only at hSw); go_simp; try with_reducible rfl); (try simp only [Act.put]); (try simp only [List.getElem_toArray]); (try simp only [List.getElem_cons_succ]); (try simp only [List.getElem_cons_zero]); (try simp only [List.setIfInBounds_toArray]))
                (refine wpAnyH_done (by kernel_rfl) ?_ _)
                go_wp2_with fail
                go_meet
                case rel => exact ⟨w6.heap.size, rfl, rfl, z6, heap_alloc_new _ _, block_ext hr6 (ext_alloc _ _), F6.alloc _⟩
              · (refine AllReadyH.cons (o := _) rfl (fun KK hK => ?_) ?_)
                · go_simp
                  (refine hK.out _ _ (KS _ (F5.alloc _)) (fun hHeld => ?_); clear hK KK; (try simp only [Act.put]); (try simp only [List.getElem_toArray]); (try simp only [List.getElem_cons_succ]); (try simp only [List.getElem_cons_zero]); (try simp only [List.setIfInBounds_toArray]))
                  ((refine wpAnyH_ready (rs := [4]) (by kernel_rfl) (by simp) ?_); (refine AllReadyH.cons (o := _) rfl (fun KK hK => ?_) ?_); rotate_left; exact AllReadyH.nil)
                  go_simp
                  go_at_call 99
                  refine (HFO.out _).mono ?_
                  rintro e w6 ⟨rfl, hb6⟩
                  have F6 := (Fr.after (F5.alloc (.cells #[.int .u16 0, .int .u16 0, .int .i64 0, .int .i64 0] 116)) (fr_below (S := []) hb6) (fun y hy => by cases hy) : Fr [rb] wq w6)
                  have hr6 := block_ext hr5 (ext_trans (ext_alloc w5 (.cells #[.int .u16 0, .int .u16 0, .int .i64 0, .int .i64 0] 116)) hb6)
                  have b6 := new_plain hb6
                  obtain ⟨g0, g1, g2, g3, g4, g5, g6, g7⟩ := cells4 b6
                  have hne : rb ≠ w5.heap.size := by omega
                  clear hb6
                  go_wp2_with fail
                  (refine hK.out _ _ (KS _ F6) (fun hHeld => ?_); clear hK KK; (try simp only [Act.put]); (try simp only [List.getElem_toArray]); (try simp only [List.getElem_cons_succ]); (try simp only [List.getElem_cons_zero]); (try simp only [List.setIfInBounds_toArray]))
                  ((refine wpAnyH_ready (rs := [6]) (by kernel_rfl) (by simp) ?_); (refine AllReadyH.cons (o := _) rfl (fun KK hK => ?_) ?_); rotate_left; exact AllReadyH.nil)
                  go_simp
                  (refine hK.out _ _ (KS _ (F6.set4 (Or.inr z5))) (fun hHeld => ?_); clear hK KK; (try simp only [Act.put]); (try simp only [List.getElem_toArray]); (try simp only [List.getElem_cons_succ]); (try simp only [List.getElem_cons_zero]); (try simp only [List.setIfInBounds_toArray]))
                  (refine wpAnyH_take (i := 7) (oi := _) (v := ?_) rfl (by kernel_rfl) (by kernel_rfl) (by kernel_rfl) (fun _ _ _ h => h) (Or.inl ⟨by rfl, ?_⟩) (by assumption) ?_; rotate_left; (intro w hSw; (try dsimp only at hSw); go_simp; try with_reducible rfl); (try simp only [Act.put]); (try simp only [List.getElem_toArray]); (try simp only [List.getElem_cons_succ]); (try simp only [List.getElem_cons_zero]); (try simp only [List.setIfInBounds_toArray]))
                  (refine wpAnyH_done (by kernel_rfl) ?_ _)
                  go_wp2_with fail
                  go_meet
                  case rel => exact ⟨w5.heap.size, rfl, rfl, z5, store4 b6, heap_set4 hr6 hne, F6.set4 (Or.inr z5)⟩
                · exact AllReadyH.nil
            · (refine AllReadyH.cons (o := _) rfl (fun KK hK => ?_) ?_)
              · go_simp
                (refine hK.out _ _ (KS _ (fr_below (Below.drew (ext_alloc _ _)))) (fun hHeld => ?_); clear hK KK; (try simp only [Act.put]); (try simp only [List.getElem_toArray]); (try simp only [List.getElem_cons_succ]); (try simp only [List.getElem_cons_zero]); (try simp only [List.setIfInBounds_toArray]))
                ((refine wpAnyH_ready (rs := [1]) (by kernel_rfl) (by simp) ?_); (refine AllReadyH.cons (o := _) rfl (fun KK hK => ?_) ?_); rotate_left; exact AllReadyH.nil)
                go_simp
                go_at_call 50
                refine (HRN.out (wq.alloc (.cells #[.int .u16 0, .int .u16 0, .int .i64 0, .int .i64 0] 116)).drew (HAR.out.ext (Below.drew (ext_alloc _ _))) (block_ext HRD.out (Below.drew (ext_alloc _ _)))).mono ?_
                rintro e w5 ⟨rfl, hA5, hr5, hF5⟩
                have F5 := (Fr.after (fr_below (Below.drew (ext_alloc wq (.cells #[.int .u16 0, .int .u16 0, .int .i64 0, .int .i64 0] 116)))) hF5 (fun y hy => Or.inl hy) : Fr [rb] wq w5)
                have b5 := hF5.at (show ((wq.alloc (.cells #[.int .u16 0, .int .u16 0, .int .i64 0, .int .i64 0] 116)).drew).heap[wq.heap.size]? = some (.cells #[.int .u16 0, .int .u16 0, .int .i64 0, .int .i64 0] 116 (0, 0)) from heap_alloc_new wq _) (by simp; omega)
                clear hF5 hA5
                simp only [NodeD.agg]
                go_wp2_with fail
                (refine hK.out _ _ (KS _ F5) (fun hHeld => ?_); clear hK KK; (try simp only [Act.put]); (try simp only [List.getElem_toArray]); (try simp only [List.getElem_cons_succ]); (try simp only [List.getElem_cons_zero]); (try simp only [List.setIfInBounds_toArray]))
                ((refine wpAnyH_ready (rs := [4]) (by kernel_rfl) (by simp) ?_); (refine AllReadyH.cons (o := _) rfl (fun KK hK => ?_) ?_); rotate_left; exact AllReadyH.nil)
                go_simp
                go_at_call 99
                refine (HFO.out _).mono ?_
                rintro e w6 ⟨rfl, hb6⟩
                have F6 := (Fr.after F5 (fr_below (S := []) hb6) (fun y hy => by cases hy) : Fr [rb] wq w6)
                have hr6 := block_ext hr5 hb6
                have b6 := block_ext b5 hb6
                obtain ⟨g0, g1, g2, g3, g4, g5, g6, g7⟩ := cells4 b6
                have hne : rb ≠ wq.heap.size := by omega
                clear hb6
                go_wp2_with fail
                (refine hK.out _ _ (KS _ F6) (fun hHeld => ?_); clear hK KK; (try simp only [Act.put]); (try simp only [List.getElem_toArray]); (try simp only [List.getElem_cons_succ]); (try simp only [List.getElem_cons_zero]); (try simp only [List.setIfInBounds_toArray]))
                ((refine wpAnyH_ready (rs := [6]) (by kernel_rfl) (by simp) ?_); (refine AllReadyH.cons (o := _) rfl (fun KK hK => ?_) ?_); rotate_left; exact AllReadyH.nil)
                go_simp
                (refine hK.out _ _ (KS _ (F6.set4 (Or.inr (Nat.le_refl _)))) (fun hHeld => ?_); clear hK KK; (try simp only [Act.put]); (try simp only [List.getElem_toArray]); (try simp only [List.getElem_cons_succ]); (try simp only [List.getElem_cons_zero]); (try simp only [List.setIfInBounds_toArray]))
                (refine wpAnyH_take (i := 7) (oi := _) (v := ?_) rfl (by kernel_rfl) (by kernel_rfl) (by kernel_rfl) (fun _ _ _ h => h) (Or.inl ⟨by rfl, ?_⟩) (by assumption) ?_; rotate_left; (intro w hSw; (try dsimp only at hSw); go_simp; try with_reducible rfl); (try simp only [Act.put]); (try simp only [List.getElem_toArray]); (try simp only [List.getElem_cons_succ]); (try simp only [List.getElem_cons_zero]); (try simp only [List.setIfInBounds_toArray]))
                (refine wpAnyH_done (by kernel_rfl) ?_ _)
                go_wp2_with fail
                go_meet
                case rel => exact ⟨wq.heap.size, rfl, rfl, Nat.le_refl _, store4 b6, heap_set4 hr6 hne, F6.set4 (Or.inr (Nat.le_refl _))⟩
              · exact AllReadyH.nil
          case rest =>
            obtain ⟨nb, rfl, rfl, hnb, bn, hr5, hF5⟩ := hcut
            have hkc := hF5.at HBK.out hkr
            have hAc := HAR.out.fr hF5 hra hrw
            have hBc : Below w.heap.size w wc := fr_nil (Fr.after (S := []) (fr_below HB.out) hF5 (fun y hy => by simp at hy; subst hy; exact Or.inr hwrb))
            obtain ⟨g0, g1, g2, g3⟩ := cells4n bn
            have hlnc := lt_of_block bn
            clear KS hF5
            go_wp2_with fail
            refine (HLO.out _).mono ?_
            rintro e w6 ⟨rfl, hb6⟩
            have bn6 := block_ext bn hb6
            have hk6 := block_ext hkc hb6
            have hr6 := block_ext hr5 hb6
            have hA6 := hAc.ext hb6
            have HB6 := hide (ext_trans hBc hb6)
            have HBN6 := hide bn6
            have HK6 := hide hk6
            have HR6 := hide hr6
            have HA6 := hide hA6
            clear g0 g1 g2 g3 bn hkc hr5 hAc hBc hb6 hk6 hr6 hA6
            obtain ⟨g0, g1, g2, g3⟩ := cells4n bn6
            have hl6 := lt_of_block bn6
            go_upto_if 58 with (fail)
            go_cut [12] (fun v wd => ∃ b' : Nat, v = .int .i64 (b' : Int) ∧ Bst A b' (bestL (M q) K (8 + 4 * t + 4)) ∧ Below w6.heap.size w6 wd)
            case first =>
              rcases HNB.out with ⟨hl0, hbe⟩ | ⟨k, hh, hk3, hlk, hbe, hwd, hbit⟩
              · have hl0' : (ln : Int) ≤ 0 := by omega
                clear hl0
                go_wp2
                go_meet
                case rel => exact ⟨b, rfl, by rw [hbe]; exact HBE.out, Below.refl _ _⟩
              · have hl0' : (0 : Int) < ln := by omega
                obtain ⟨nk, hnk⟩ : ∃ nk, nk = num k (f4 / 2 ^ (4 - k)) := ⟨_, rfl⟩
                rw [← hnk] at hlk hwd hbit
                have hnk15 : nk < 15 := by rw [hnk]; exact num_lt hk3 (four_div f16 hk3)
                have hinn := HON.out.hop_in (i := nk) (by omega) (by rw [← HNN.out]; exact hbit)
                rw [← HNN.out] at hinn
                have HHP := hide (fun (w : World) => hopPlace_any nn nk w hok (by omega))
                rw [show ((nk : Nat) : Int) = (ln : Int) - 1 by omega] at HHP
                obtain ⟨pl, hpl⟩ : ∃ pl, pl = nn.hops + ones nk nn.routes := ⟨_, rfl⟩
                rw [← hpl] at HHP hwd hinn
                have HIN := hide hinn
                have HWD := hide hwd
                clear hnk hlk hwd hbit hinn hpl
                go_wp2_with fail
                refine (HHP.out _).mono ?_
                rintro e w7 ⟨rfl, hb7⟩
                have HB7 := hide hb7
                clear hb7
                go_wp2
                go_meet
                case rel => exact ⟨pl, rfl, Or.inr ⟨hh, hbe, by have := HIN.out.1; omega, HIN.out.2, HWD.out⟩, HB7.out⟩
            case rest =>
              obtain ⟨b', rfl, hBst, hBd⟩ := hcut
              have bnd := block_ext HBN6.out hBd
              have hkd := block_ext HK6.out hBd
              have hrd := block_ext HR6.out hBd
              have hAd := HA6.out.ext hBd
              have hBdd := ext_trans HB6.out hBd
              clear g0 g1 g2 g3 bn6
              obtain ⟨g0, g1, g2, g3⟩ := cells4n bnd
              have hlnd := lt_of_block bnd
              have HHW := hide (fun (w : World) => hasWay_any nn f4 w hok (by omega))
              have HBND := hide bnd
              have HX := hide (And.intro hrd (And.intro hAd (And.intro hkd hBdd)))
              have HBS2 := hide hBst
              have hfs : 16 * fitK K (8 + 4 * t) + f4 = fitK K (8 + 4 * t + 4) := by
                have h1 := fit_fit (K := K) (l := 8 + 4 * t + 4) (len := 8 + 4 * t) (by omega) (by omega)
                rw [show 8 + 4 * t + 4 - (8 + 4 * t) = 4 by omega] at h1
                have h2 := HKF.out
                have h3 : (2 : Nat) ^ 4 = 16 := rfl
                rw [h3] at h1
                omega
              have HFS := hide hfs
              clear hrd hAd hkd hBdd hBst hBd hfs bnd
              go_wp2_with fail
              refine (HHW.out _).mono ?_
              rintro e w7 ⟨rfl, hb7⟩
              have bn7 := block_ext HBND.out hb7
              have HX7 := hide (show w7.heap[rb]? = some (.cells #[.pointer (some ⟨ab, 0, none⟩), .int .i64 ((c : Int) + 1)] 65 (0, 0)) ∧ ArAt w7 ab wb A ∧ w7.heap[kb]? = some (.cells (keyL K).toArray 96 (0, 0)) ∧ Below w.heap.size w w7 from ⟨block_ext HX.out.1 hb7, HX.out.2.1.ext hb7, block_ext HX.out.2.2.1 hb7, ext_trans HX.out.2.2.2 hb7⟩)
              clear g0 g1 g2 g3 hb7
              obtain ⟨g0, g1, g2, g3⟩ := cells4n bn7
              have hln7 := lt_of_block bn7
              by_cases hbit : nn.ways.testBit f4 = true
              · have hd1 : ∃ d', dp q - t = d' + 1 := by
                  cases hd : dp q - t with
                  | zero =>
                    have hrep := HON.out.rep
                    rw [hd] at hrep
                    have hw0 := hrep.2
                    rw [← HNN.out] at hw0
                    rw [hw0] at hbit
                    simp at hbit
                  | succ d' => exact ⟨d', rfl⟩
                obtain ⟨d', hd'⟩ := hd1
                have hkid : On A (M q) d' (8 + 4 * t + 4) (16 * fitK K (8 + 4 * t) + f4) (nn.kid f4) := by
                  have hO := HON.out
                  rw [hd'] at hO
                  have := hO.kid f16 (by rw [← HNN.out]; exact hbit)
                  rw [← HNN.out] at this
                  exact this
                have hklt := hkid.lt
                have hno := HCN.out
                rw [hd', nodesOn, HKF.out, ← HNN.out, if_pos hbit] at hno
                obtain ⟨ky, hky⟩ : ∃ ky, ky = nn.kid f4 := ⟨_, rfl⟩
                have hkc : nn.children + 2 * ones f4 nn.ways = nn.kid f4 := rfl
                have HCP := hide (fun (w : World) => childPlace_any nn f4 w hok (by omega))
                rw [hkc, ← hky] at HCP
                rw [← hky] at hkid hklt hno
                rw [HFS.out] at hkid
                have HAT := hide (show At A (M q) K (dp q) T (t + 1) b' ky (c + 1) from Or.inr ⟨by omega, by omega, by rw [show dp q - (t + 1) = d' by omega, show 8 + 4 * (t + 1) = 8 + 4 * t + 4 by omega]; exact hkid, by rw [show 8 + 4 * (t + 1) = 8 + 4 * t + 4 by omega]; exact HBS2.out, by rw [show dp q - (t + 1) = d' by omega, show 8 + 4 * (t + 1) = 8 + 4 * t + 4 by omega]; omega⟩)
                rw [hbit]
                clear hkid hno hky hkc hbit
                go_wp2_with fail
                refine (HCP.out _).mono ?_
                rintro e w8 ⟨rfl, hb8⟩
                have HX8 := hide (show w8.heap[rb]? = some (.cells #[.pointer (some ⟨ab, 0, none⟩), .int .i64 (((c + 1 : Nat) : Int))] 65 (0, 0)) ∧ ArAt w8 ab wb A ∧ w8.heap[kb]? = some (.cells (keyL K).toArray 96 (0, 0)) ∧ Below w.heap.size w w8 from ⟨by rw [show ((c + 1 : Nat) : Int) = (c : Int) + 1 by omega]; exact block_ext HX7.out.1 hb8, HX7.out.2.1.ext hb8, block_ext HX7.out.2.2.1 hb8, ext_trans HX7.out.2.2.2 hb8⟩)
                clear hb8 g0 g1 g2 g3
                go_wp2
                go_roundw
                case rel => exact ⟨t + 1, b', ky, c + 1, rfl, rfl, by go_num, HAT.out, HX8.out⟩
                case measure =>
                  have hkz : ky ≠ 0 := by omega
                  have hxz : x ≠ 0 := by omega
                  simp [intOf, hkz, hxz]
                  omega
              · have hbit' : nn.ways.testBit f4 = false := by simpa using hbit
                have hany : anyBelow (M q) (8 + 4 * t + 4) (fitK K (8 + 4 * t + 4)) = false := by
                  have := HON.out.rep.node.way f4 f16
                  rw [← HNN.out, hbit', HFS.out] at this
                  exact this.symm
                have hno := HCN.out
                have hone : nodesOn A.word K (dp q - t) (8 + 4 * t) x = 1 := by
                  cases dp q - t with
                  | zero => rfl
                  | succ d' =>
                    rw [nodesOn, HKF.out, ← HNN.out, hbit']
                    rfl
                rw [hone] at hno
                have hd8 := dp_le q
                have HAT := hide (show At A (M q) K (dp q) T (t + 1) b' 0 (c + 1) from Or.inl ⟨rfl, by rw [best_all (hI.tab q) hd8 hany (by omega)]; exact HBS2.out, by omega⟩)
                have HX8 := hide (show w7.heap[rb]? = some (.cells #[.pointer (some ⟨ab, 0, none⟩), .int .i64 (((c + 1 : Nat) : Int))] 65 (0, 0)) ∧ ArAt w7 ab wb A ∧ w7.heap[kb]? = some (.cells (keyL K).toArray 96 (0, 0)) ∧ Below w.heap.size w w7 from ⟨by rw [show ((c + 1 : Nat) : Int) = (c : Int) + 1 by omega]; exact HX7.out.1, HX7.out.2⟩)
                rw [hbit']
                clear hbit hbit' hany hno hone
                go_wp2
                go_roundw
                case rel => exact ⟨t + 1, b', 0, c + 1, rfl, rfl, by go_num, HAT.out, HX8.out⟩
                case measure =>
                  have hxz : x ≠ 0 := by omega
                  simp [intOf, hxz]
                  omega
end Go.Proofs.YtnapboelfimaaaaDoor
/- The deeds are done. -/
namespace Go.Proofs.YtnapboelfimaaaaDoor
open Go.RowKit Go.Deep
def Ans.val (a : Ans) : Value := .agg #[.int .i64 a.err, .int .i64 a.hop, .int .i64 a.reads]
theorem store3 {w : World} {b : Nat} {a0 a1 a2 c0 c1 c2 : Value} {t : TypeId} (h : w.heap[b]? = some (.cells #[a0, a1, a2] t (0, 0))) : (((w.setCell ⟨b, 0, none⟩ c0).setCell ⟨b, 1, none⟩ c1).setCell ⟨b, 2, none⟩ c2).heap[b]? = some (.cells #[c0, c1, c2] t (0, 0)) := by
  rw [heap_setCell_at _ (heap_setCell_at _ (heap_setCell_at _ h))]
  rfl
theorem Moved.done {w wx w3 : World} {tb ab wb b : Nat} {B : Ar} {v0 v1 v2 : Value} (hb : Below w.heap.size w wx) (h : Moved wx w3 tb ab wb B) (hbw : w.heap.size ≤ b) (hbx : b < wx.heap.size) (h1 : tb < w.heap.size) (h2 : ab < w.heap.size) (h3 : wb < w.heap.size) : Moved w (((w3.setCell ⟨b, 0, none⟩ v0).setCell ⟨b, 1, none⟩ v1).setCell ⟨b, 2, none⟩ v2) tb ab wb B := by
  obtain ⟨⟨ab', wb', hor, hT⟩, hF⟩ := h
  have hs := hb.size
  refine ⟨⟨ab', wb', ?_, ((hT.other (by omega) (by omega) (by omega)).other (by omega) (by omega) (by omega)).other (by omega) (by omega) (by omega)⟩, (((Fr.after (fr_below hb) hF (fun y hy => Or.inl hy) : Fr [tb, ab, wb] w w3).setCell (Or.inr hbw) _).setCell (Or.inr hbw) _).setCell (Or.inr hbw) _⟩
  rcases hor with h | h
  · exact Or.inl h
  · exact Or.inr ⟨by omega, by omega⟩
theorem Moved.blk {w w' : World} {tb ab wb b : Nat} {B : Ar} {o : Obj} (h : Moved w w' tb ab wb B) (hb : w.heap[b]? = some o) (h1 : b ≠ tb) (h2 : b ≠ ab) (h3 : b ≠ wb) : w'.heap[b]? = some o := h.2.at hb (by simp; omega)
set_option maxHeartbeats 2000000 in
set_option maxRecDepth 10000 in
theorem doIns_any (S : St) (o : OpD) (tb ab wb : Nat) (w : World) (h : TabAt w tb ab wb S.A) (hS : S.ok) (hc : o.code = 1) (hf : opFault o = 0) :
    Calls Tryd.prog 77 #[.agg #[.int .i64 o.family, .string o.bits, .int .i64 o.len, .int .i64 o.hop], .pointer (some ⟨tb, 0, none⟩)] w fun e w' => e = .returned (S.step o).2.val ∧ Moved w w' tb ab wb (S.step o).1.A := by
  obtain ⟨F, hI⟩ := hS.inv
  obtain ⟨hp, h0, h1⟩ := fault_ins hc hf
  have hst : S.step o = S.put o (insN S.A (fam o.family) o.l o.v o.hop.toNat) := by
    unfold St.step
    rw [if_pos hf, if_pos hc]
  rw [hst]
  have hl : o.len = ((o.l : Nat) : Int) := by unfold OpD.l; have := hp.len0; omega
  have hh : o.hop = ((o.hop.toNat : Nat) : Int) := by omega
  have h16 : o.bits.size ≤ 16 := by rw [hp.size]; rcases famBytes_cases o.family with h | h | h <;> omega
  have HIN := hide (fun (w : World) (h : TabAt w tb ab wb S.A) => insert_any S.A F S.M tb ab wb o.family (fam o.family) o.bits o.key o.l o.hop.toNat w h hI hS.wok rfl h16 rfl hp.len (by omega) hp.zero _ rfl)
  rw [← hl, ← hh] at HIN
  obtain ⟨f, hfd⟩ : ∃ f, f = o.family := ⟨_, rfl⟩
  obtain ⟨s, hsd⟩ : ∃ s, s = o.bits := ⟨_, rfl⟩
  obtain ⟨len, hld⟩ : ∃ l, l = o.len := ⟨_, rfl⟩
  obtain ⟨hop, hhd⟩ : ∃ l, l = o.hop := ⟨_, rfl⟩
  have hvv : o.v = fitK o.key o.l := rfl
  rw [← hvv] at HIN
  obtain ⟨R, hR⟩ : ∃ R, R = insN S.A (fam o.family) o.l o.v o.hop.toNat := ⟨_, rfl⟩
  rw [← hR] at HIN ⊢
  rw [← hfd, ← hsd, ← hld, ← hhd] at HIN ⊢
  have hlt := h.lt
  have hla := h.ar.la
  have hlw := h.ar.lw
  obtain ⟨wx, hwx⟩ : ∃ wx, wx = (w.alloc (.cells #[.int .i64 f, .string s, .int .i64 len, .int .i64 hop] 76)).alloc (.cells #[.int .i64 0, .int .i64 0, .int .i64 0] 33) := ⟨_, rfl⟩
  have hBx : Below w.heap.size w wx := by rw [hwx]; exact ext_trans (ext_alloc _ _) (ext_alloc _ _)
  have bz : wx.heap[w.heap.size + 1]? = some (.cells #[.int .i64 0, .int .i64 0, .int .i64 0] 33 (0, 0)) := by rw [hwx, ← World.size_alloc w (.cells #[.int .i64 f, .string s, .int .i64 len, .int .i64 hop] 76)]; exact heap_alloc_new _ _
  have hlz := lt_of_block bz
  have HT := hide (h.ext hBx)
  have HBX := hide hBx
  have HBZ := hide bz
  have HWX := hide hwx
  clear h hI hS hf hc hp hst hR hl hh hfd hsd hld hhd hvv hwx hBx bz h0 h1 h16
  go_enter Tryd.func77, Tryd.ntmps77
  go_wp2_with fail
  rw [← HWX.out]
  refine (HIN.out _ HT.out).mono ?_
  rintro e w3 ⟨rfl, hM⟩
  have bz3 := hM.blk HBZ.out (by omega) (by omega) (by omega)
  have hl3 := lt_of_block bz3
  obtain ⟨z0, z1, z2⟩ := cells3 bz3
  have zf := fun i => free_at bz3 i
  have zf0 := zf 0
  have zf1 := zf 1
  have zf2 := zf 2
  obtain ⟨B, r⟩ := R
  cases r with
  | true =>
    have hX := store3 (c0 := .int .i64 0) (c1 := .int .i64 0) (c2 := .int .i64 0) bz3
    have hD := Moved.done (v0 := .int .i64 0) (v1 := .int .i64 0) (v2 := .int .i64 0) HBX.out hM (b := w.heap.size + 1) (by omega) hlz hlt hla hlw
    obtain ⟨w9, hw9⟩ : ∃ w9, w9 = (((w3.setCell ⟨w.heap.size + 1, 0, none⟩ (.int .i64 0)).setCell ⟨w.heap.size + 1, 1, none⟩ (.int .i64 0)).setCell ⟨w.heap.size + 1, 2, none⟩ (.int .i64 0)) := ⟨_, rfl⟩
    rw [← hw9] at hX hD
    have HX := hide (And.intro hX hD)
    have HW9 := hide hw9
    clear hM hX hD hw9 zf bz3
    go_wp2
    rw [← HW9.out]
    obtain ⟨y0, y1, y2⟩ := cells3 HX.out.1
    exact bodyPost_ret (v := (⟨0, 0, 0⟩ : Ans).val) (by simp [results, Tryd.results77, go_sem, Ans.val, y0, y1, y2]) rfl ⟨rfl, HX.out.2⟩
  | false =>
    have hX := store3 (c0 := .int .i64 8) (c1 := .int .i64 0) (c2 := .int .i64 0) bz3
    have hD := Moved.done (v0 := .int .i64 8) (v1 := .int .i64 0) (v2 := .int .i64 0) HBX.out hM (b := w.heap.size + 1) (by omega) hlz hlt hla hlw
    obtain ⟨w9, hw9⟩ : ∃ w9, w9 = (((w3.setCell ⟨w.heap.size + 1, 0, none⟩ (.int .i64 8)).setCell ⟨w.heap.size + 1, 1, none⟩ (.int .i64 0)).setCell ⟨w.heap.size + 1, 2, none⟩ (.int .i64 0)) := ⟨_, rfl⟩
    rw [← hw9] at hX hD
    have HX := hide (And.intro hX hD)
    have HW9 := hide hw9
    clear hM hX hD hw9 zf bz3
    go_wp2
    rw [← HW9.out]
    obtain ⟨y0, y1, y2⟩ := cells3 HX.out.1
    exact bodyPost_ret (v := (⟨8, 0, 0⟩ : Ans).val) (by simp [results, Tryd.results77, go_sem, Ans.val, y0, y1, y2]) rfl ⟨rfl, HX.out.2⟩
set_option maxHeartbeats 2000000 in
set_option maxRecDepth 10000 in
theorem doDel_any (S : St) (o : OpD) (tb ab wb : Nat) (w : World) (h : TabAt w tb ab wb S.A) (hS : S.ok) (hc : o.code = 2) (hf : opFault o = 0) :
    Calls Tryd.prog 108 #[.agg #[.int .i64 o.family, .int .i64 o.len, .string o.bits], .pointer (some ⟨tb, 0, none⟩)] w fun e w' => e = .returned (S.step o).2.val ∧ Moved w w' tb ab wb (S.step o).1.A := by
  obtain ⟨F, hI⟩ := hS.inv
  have hp := fault_del hc hf
  have hst : S.step o = S.del o (delN S.A (fam o.family) o.l o.v) := by
    unfold St.step
    rw [if_pos hf, if_neg (by omega), if_pos hc]
  rw [hst]
  have hl : o.len = ((o.l : Nat) : Int) := by unfold OpD.l; have := hp.len0; omega
  have h16 : o.bits.size ≤ 16 := by rw [hp.size]; rcases famBytes_cases o.family with h | h | h <;> omega
  have HIN := hide (fun (w : World) (h : TabAt w tb ab wb S.A) => (delete_any S.A F S.M tb ab wb o.family o.len (fam o.family) o.bits o.key o.l w h hI hS.wok rfl h16 rfl hl hp.len hp.zero _ rfl).mono (R' := fun e w' => e = .returned (.bool (delN S.A (fam o.family) o.l (fitK o.key o.l)).2) ∧ Moved w w' tb ab wb (delN S.A (fam o.family) o.l (fitK o.key o.l)).1) (by rintro e w' ⟨he, hT, hF⟩; exact ⟨he, Moved.same hT hF⟩))
  obtain ⟨f, hfd⟩ : ∃ f, f = o.family := ⟨_, rfl⟩
  obtain ⟨s, hsd⟩ : ∃ s, s = o.bits := ⟨_, rfl⟩
  obtain ⟨len, hld⟩ : ∃ l, l = o.len := ⟨_, rfl⟩
  have hvv : o.v = fitK o.key o.l := rfl
  rw [← hvv] at HIN
  obtain ⟨R, hR⟩ : ∃ R, R = delN S.A (fam o.family) o.l o.v := ⟨_, rfl⟩
  rw [← hR] at HIN ⊢
  rw [← hfd, ← hsd, ← hld] at HIN ⊢
  have hlt := h.lt
  have hla := h.ar.la
  have hlw := h.ar.lw
  obtain ⟨wx, hwx⟩ : ∃ wx, wx = (w.alloc (.cells #[.int .i64 f, .int .i64 len, .string s] 78)).alloc (.cells #[.int .i64 0, .int .i64 0, .int .i64 0] 33) := ⟨_, rfl⟩
  have hBx : Below w.heap.size w wx := by rw [hwx]; exact ext_trans (ext_alloc _ _) (ext_alloc _ _)
  have bz : wx.heap[w.heap.size + 1]? = some (.cells #[.int .i64 0, .int .i64 0, .int .i64 0] 33 (0, 0)) := by rw [hwx, ← World.size_alloc w (.cells #[.int .i64 f, .int .i64 len, .string s] 78)]; exact heap_alloc_new _ _
  have hlz := lt_of_block bz
  have HT := hide (h.ext hBx)
  have HBX := hide hBx
  have HBZ := hide bz
  have HWX := hide hwx
  clear h hI hS hf hc hp hst hR hl hfd hsd hld hvv hwx hBx bz h16
  go_enter Tryd.func108, Tryd.ntmps108
  go_wp2_with fail
  rw [← HWX.out]
  refine (HIN.out _ HT.out).mono ?_
  rintro e w3 ⟨rfl, hM⟩
  have bz3 := hM.blk HBZ.out (by omega) (by omega) (by omega)
  have hl3 := lt_of_block bz3
  obtain ⟨z0, z1, z2⟩ := cells3 bz3
  have zf := fun i => free_at bz3 i
  have zf0 := zf 0
  have zf1 := zf 1
  have zf2 := zf 2
  obtain ⟨B, r⟩ := R
  cases r with
  | true =>
    have hX := store3 (c0 := .int .i64 0) (c1 := .int .i64 0) (c2 := .int .i64 0) bz3
    have hD := Moved.done (v0 := .int .i64 0) (v1 := .int .i64 0) (v2 := .int .i64 0) HBX.out hM (b := w.heap.size + 1) (by omega) hlz hlt hla hlw
    obtain ⟨w9, hw9⟩ : ∃ w9, w9 = (((w3.setCell ⟨w.heap.size + 1, 0, none⟩ (.int .i64 0)).setCell ⟨w.heap.size + 1, 1, none⟩ (.int .i64 0)).setCell ⟨w.heap.size + 1, 2, none⟩ (.int .i64 0)) := ⟨_, rfl⟩
    rw [← hw9] at hX hD
    have HX := hide (And.intro hX hD)
    have HW9 := hide hw9
    clear hM hX hD hw9 zf bz3
    go_wp2
    rw [← HW9.out]
    obtain ⟨y0, y1, y2⟩ := cells3 HX.out.1
    exact bodyPost_ret (v := (⟨0, 0, 0⟩ : Ans).val) (by simp [results, Tryd.results108, go_sem, Ans.val, y0, y1, y2]) rfl ⟨rfl, HX.out.2⟩
  | false =>
    have hX := store3 (c0 := .int .i64 7) (c1 := .int .i64 0) (c2 := .int .i64 0) bz3
    have hD := Moved.done (v0 := .int .i64 7) (v1 := .int .i64 0) (v2 := .int .i64 0) HBX.out hM (b := w.heap.size + 1) (by omega) hlz hlt hla hlw
    obtain ⟨w9, hw9⟩ : ∃ w9, w9 = (((w3.setCell ⟨w.heap.size + 1, 0, none⟩ (.int .i64 7)).setCell ⟨w.heap.size + 1, 1, none⟩ (.int .i64 0)).setCell ⟨w.heap.size + 1, 2, none⟩ (.int .i64 0)) := ⟨_, rfl⟩
    rw [← hw9] at hX hD
    have HX := hide (And.intro hX hD)
    have HW9 := hide hw9
    clear hM hX hD hw9 zf bz3
    go_wp2
    rw [← HW9.out]
    obtain ⟨y0, y1, y2⟩ := cells3 HX.out.1
    exact bodyPost_ret (v := (⟨7, 0, 0⟩ : Ans).val) (by simp [results, Tryd.results108, go_sem, Ans.val, y0, y1, y2]) rfl ⟨rfl, HX.out.2⟩
set_option maxHeartbeats 2000000 in
set_option maxRecDepth 10000 in
theorem doCom_any (S : St) (o : OpD) (tb ab wb : Nat) (w : World) (h : TabAt w tb ab wb S.A) (hS : S.ok) (hc : o.code = 4) :
    Calls Tryd.prog 123 #[.agg #[], .pointer (some ⟨tb, 0, none⟩)] w fun e w' => e = .returned (S.step o).2.val ∧ Moved w w' tb ab wb (S.step o).1.A := by
  obtain ⟨F, hI⟩ := hS.inv
  have hf : opFault o = 0 := by unfold opFault; rw [if_neg (by omega), if_neg (by omega), if_neg (by omega), if_pos hc]
  have hst : S.step o = (⟨compactN S.A.word S.A.size, S.M⟩, ⟨0, 0, 0⟩) := by
    unfold St.step
    rw [if_pos hf, if_neg (by omega), if_neg (by omega), if_neg (by omega)]
  rw [hst]
  have HIN := hide (fun (w : World) (h : TabAt w tb ab wb S.A) => (compact_any S.A S.M tb ab wb w h (hI.src hS.wok) ((hI.good hS.wok).sane (by omega))).mono (R' := fun e w' => e = .returned (.tuple #[]) ∧ Moved w w' tb ab wb (compactN S.A.word S.A.size)) (by rintro e w' ⟨he, ⟨ab', wb', h1, h2, hT⟩, hF⟩; exact ⟨he, ⟨ab', wb', Or.inr ⟨h1, h2⟩, hT⟩, hF.mono (fun y hy _ => by simp at hy ⊢; exact Or.inl hy)⟩))
  have hlt := h.lt
  have hla := h.ar.la
  have hlw := h.ar.lw
  obtain ⟨wx, hwx⟩ : ∃ wx, wx = (w.alloc (.cells #[] 82)).alloc (.cells #[.int .i64 0, .int .i64 0, .int .i64 0] 33) := ⟨_, rfl⟩
  have hBx : Below w.heap.size w wx := by rw [hwx]; exact ext_trans (ext_alloc _ _) (ext_alloc _ _)
  have bz : wx.heap[w.heap.size + 1]? = some (.cells #[.int .i64 0, .int .i64 0, .int .i64 0] 33 (0, 0)) := by rw [hwx, ← World.size_alloc w (.cells #[] 82)]; exact heap_alloc_new _ _
  have hlz := lt_of_block bz
  have HT := hide (h.ext hBx)
  have HBX := hide hBx
  have HBZ := hide bz
  have HWX := hide hwx
  clear h hI hS hf hc hst hwx hBx bz
  go_enter Tryd.func123, Tryd.ntmps123
  go_wp2_with fail
  rw [← HWX.out]
  refine (HIN.out _ HT.out).mono ?_
  rintro e w3 ⟨rfl, hM⟩
  have bz3 := hM.blk HBZ.out (by omega) (by omega) (by omega)
  have hl3 := lt_of_block bz3
  obtain ⟨z0, z1, z2⟩ := cells3 bz3
  have zf := fun i => free_at bz3 i
  have zf0 := zf 0
  have zf1 := zf 1
  have zf2 := zf 2
  have hX := store3 (c0 := .int .i64 0) (c1 := .int .i64 0) (c2 := .int .i64 0) bz3
  have hD := Moved.done (v0 := .int .i64 0) (v1 := .int .i64 0) (v2 := .int .i64 0) HBX.out hM (b := w.heap.size + 1) (by omega) hlz hlt hla hlw
  obtain ⟨w9, hw9⟩ : ∃ w9, w9 = (((w3.setCell ⟨w.heap.size + 1, 0, none⟩ (.int .i64 0)).setCell ⟨w.heap.size + 1, 1, none⟩ (.int .i64 0)).setCell ⟨w.heap.size + 1, 2, none⟩ (.int .i64 0)) := ⟨_, rfl⟩
  rw [← hw9] at hX hD
  have HX := hide (And.intro hX hD)
  have HW9 := hide hw9
  clear hM hX hD hw9 zf bz3
  go_wp2
  rw [← HW9.out]
  obtain ⟨y0, y1, y2⟩ := cells3 HX.out.1
  exact bodyPost_ret (v := (⟨0, 0, 0⟩ : Ans).val) (by simp [results, Tryd.results123, go_sem, Ans.val, y0, y1, y2]) rfl ⟨rfl, HX.out.2⟩
set_option maxHeartbeats 2000000 in
set_option maxRecDepth 10000 in
theorem doLook_any (S : St) (o : OpD) (tb ab wb : Nat) (w : World) (h : TabAt w tb ab wb S.A) (hS : S.ok) (hc : o.code = 3) (hf : opFault o = 0) :
    Calls Tryd.prog 116 #[.agg #[.int .i64 o.family, .string o.bits], .pointer (some ⟨tb, 0, none⟩)] w fun e w' => e = .returned (S.step o).2.val ∧ Moved w w' tb ab wb (S.step o).1.A := by
  obtain ⟨F, hI⟩ := hS.inv
  obtain ⟨hsz, hfm⟩ := fault_look hc hf
  have hst : S.step o = (S, lookAns S.A.word (fam o.family) o.key (hopN S.M (fam o.family) o.key)) := by
    unfold St.step
    rw [if_pos hf, if_neg (by omega), if_neg (by omega), if_pos hc]
  rw [hst]
  have h16 : o.bits.size ≤ 16 := by rw [hsz]; rcases famBytes_cases o.family with h | h | h <;> omega
  have HLK := hide (fun (w : World) (h : TabAt w tb ab wb S.A) => lookup_any S.A F S.M tb ab wb o.family (fam o.family) o.bits o.key w h ((hI.good hS.wok).sane (by omega)) hI rfl h16 rfl)
  obtain ⟨f, hfd⟩ : ∃ f, f = o.family := ⟨_, rfl⟩
  obtain ⟨s, hsd⟩ : ∃ s, s = o.bits := ⟨_, rfl⟩
  have hhop : bestL (S.M (fam o.family)) o.key 129 = hopN S.M (fam o.family) o.key := rfl
  rw [hhop] at HLK
  obtain ⟨W, hW⟩ : ∃ W, W = S.A.word := ⟨_, rfl⟩
  obtain ⟨q, hq⟩ : ∃ q, q = fam o.family := ⟨_, rfl⟩
  obtain ⟨ho, hho⟩ : ∃ x, x = hopN S.M (fam o.family) o.key := ⟨_, rfl⟩
  obtain ⟨K, hK⟩ : ∃ K, K = o.key := ⟨_, rfl⟩
  rw [← hho, ← hW, ← hq, ← hK] at HLK ⊢
  rw [← hfd, ← hsd] at HLK ⊢
  obtain ⟨A, hA⟩ : ∃ A, A = S.A := ⟨_, rfl⟩
  rw [← hA] at h HLK ⊢
  have hlt := h.lt
  have hla := h.ar.la
  have hlw := h.ar.lw
  obtain ⟨wx, hwx⟩ : ∃ wx, wx = (w.alloc (.cells #[.int .i64 f, .string s] 80)).alloc (.cells #[.int .i64 0, .int .i64 0, .int .i64 0] 33) := ⟨_, rfl⟩
  have hBx : Below w.heap.size w wx := by rw [hwx]; exact ext_trans (ext_alloc _ _) (ext_alloc _ _)
  have bz : wx.heap[w.heap.size + 1]? = some (.cells #[.int .i64 0, .int .i64 0, .int .i64 0] 33 (0, 0)) := by rw [hwx, ← World.size_alloc w (.cells #[.int .i64 f, .string s] 80)]; exact heap_alloc_new _ _
  have hlz := lt_of_block bz
  have HT := hide (h.ext hBx)
  have HBX := hide hBx
  have HBZ := hide bz
  have HWX := hide hwx
  clear h hI hS hf hc hst hfd hsd hwx hBx bz h16 hsz hfm hhop hW hq hho hK hA
  go_enter Tryd.func116, Tryd.ntmps116
  go_wp2_with fail
  rw [← HWX.out]
  refine (HLK.out _ HT.out).mono ?_
  rintro e w3 ⟨rfl, hb3⟩
  have hM : Moved wx w3 tb ab wb A := Moved.same (HT.out.ext hb3) (fr_below hb3)
  have bz3 := block_ext HBZ.out hb3
  have hl3 := lt_of_block bz3
  obtain ⟨z0, z1, z2⟩ := cells3 bz3
  have zf := fun i => free_at bz3 i
  have zf0 := zf 0
  have zf1 := zf 1
  have zf2 := zf 2
  clear hb3
  cases ho with
  | none =>
    simp only [lookVal]
    obtain ⟨rd, hrd⟩ : ∃ rd, rd = readsN W q K false := ⟨_, rfl⟩
    have HV := hide (show (lookAns W q K none).val = (⟨7, 0, (rd : Int)⟩ : Ans).val by rw [hrd]; rfl)
    rw [← hrd]
    have hX := store3 (c0 := .int .i64 7) (c1 := .int .i64 0) (c2 := .int .i64 (rd : Int)) bz3
    have hD := Moved.done (v0 := .int .i64 7) (v1 := .int .i64 0) (v2 := .int .i64 (rd : Int)) HBX.out hM (b := w.heap.size + 1) (by omega) hlz hlt hla hlw
    obtain ⟨w9, hw9⟩ : ∃ w9, w9 = (((w3.setCell ⟨w.heap.size + 1, 0, none⟩ (.int .i64 7)).setCell ⟨w.heap.size + 1, 1, none⟩ (.int .i64 0)).setCell ⟨w.heap.size + 1, 2, none⟩ (.int .i64 (rd : Int))) := ⟨_, rfl⟩
    rw [← hw9] at hX hD
    have HX := hide (And.intro hX hD)
    have HW9 := hide hw9
    clear hM hX hD hw9 zf bz3 hrd
    go_wp2
    rw [← HW9.out]
    obtain ⟨y0, y1, y2⟩ := cells3 HX.out.1
    exact bodyPost_ret (v := (⟨7, 0, (rd : Int)⟩ : Ans).val) (by simp [results, Tryd.results116, go_sem, Ans.val, y0, y1, y2]) rfl ⟨by rw [HV.out], HX.out.2⟩
  | some hp =>
    simp only [lookVal]
    obtain ⟨rd, hrd⟩ : ∃ rd, rd = readsN W q K true := ⟨_, rfl⟩
    have HV := hide (show (lookAns W q K (some hp)).val = (⟨0, (hp : Int), (rd : Int)⟩ : Ans).val by rw [hrd]; rfl)
    rw [← hrd]
    have hX := store3 (c0 := .int .i64 0) (c1 := .int .i64 (hp : Int)) (c2 := .int .i64 (rd : Int)) bz3
    have hD := Moved.done (v0 := .int .i64 0) (v1 := .int .i64 (hp : Int)) (v2 := .int .i64 (rd : Int)) HBX.out hM (b := w.heap.size + 1) (by omega) hlz hlt hla hlw
    obtain ⟨w9, hw9⟩ : ∃ w9, w9 = (((w3.setCell ⟨w.heap.size + 1, 0, none⟩ (.int .i64 0)).setCell ⟨w.heap.size + 1, 1, none⟩ (.int .i64 (hp : Int))).setCell ⟨w.heap.size + 1, 2, none⟩ (.int .i64 (rd : Int))) := ⟨_, rfl⟩
    rw [← hw9] at hX hD
    have HX := hide (And.intro hX hD)
    have HW9 := hide hw9
    clear hM hX hD hw9 zf bz3 hrd
    go_wp2
    rw [← HW9.out]
    obtain ⟨y0, y1, y2⟩ := cells3 HX.out.1
    exact bodyPost_ret (v := (⟨0, (hp : Int), (rd : Int)⟩ : Ans).val) (by simp [results, Tryd.results116, go_sem, Ans.val, y0, y1, y2]) rfl ⟨by rw [HV.out], HX.out.2⟩
end Go.Proofs.YtnapboelfimaaaaDoor
