/- Sfi, Fir, No1: parts of the proof, one behind the other. -/
import Derived.Test.YtnapboelfimaaaaDoorK31
import Derived.Test.YtnapboelfimaaaaDoorK36
/- dump.short, dump.first. -/
namespace Go.Proofs.YtnapboelfimaaaaDoor
open Go.RowKit Go.Deep
/-- a key of one byte -/
theorem key_first {b : Nat} (hb : b < 256) : (keyL (b * 2 ^ 128)).toArray = #[.int .u8 (b : Int), .int .u8 0, .int .u8 0, .int .u8 0, .int .u8 0, .int .u8 0, .int .u8 0, .int .u8 0, .int .u8 0, .int .u8 0, .int .u8 0, .int .u8 0, .int .u8 0, .int .u8 0, .int .u8 0, .int .u8 0, .int .u8 0] := by
  have h0 : kbyte (b * 2 ^ 128) 0 = b := by
    unfold kbyte
    rw [show 8 * (16 - 0) = 128 from rfl, Nat.mul_div_cancel _ (Nat.two_pow_pos _), Nat.mod_eq_of_lt hb]
  have hi : ∀ i, 1 ≤ i → i ≤ 16 → kbyte (b * 2 ^ 128) i = 0 := by
    intro i h1 h2
    unfold kbyte
    rw [show 128 = (8 * i) + 8 * (16 - i) by omega, Nat.pow_add, ← Nat.mul_assoc, Nat.mul_div_cancel _ (Nat.two_pow_pos _), show 8 * i = 8 * (i - 1) + 8 by omega, Nat.pow_add, ← Nat.mul_assoc]
    exact Nat.mul_mod_left _ _
  unfold keyL
  simp only [List.range, List.range.loop, List.map_cons, List.map_nil, h0, hi 1 (by omega) (by omega), hi 2 (by omega) (by omega), hi 3 (by omega) (by omega), hi 4 (by omega) (by omega), hi 5 (by omega) (by omega), hi 6 (by omega) (by omega), hi 7 (by omega) (by omega), hi 8 (by omega) (by omega), hi 9 (by omega) (by omega), hi 10 (by omega) (by omega), hi 11 (by omega) (by omega), hi 12 (by omega) (by omega), hi 13 (by omega) (by omega), hi 14 (by omega) (by omega), hi 15 (by omega) (by omega), hi 16 (by omega) (by omega)]
  rfl
theorem pref_first {b : Nat} (l : Nat) (hb : b < 256) : (prefL (b * 2 ^ 128) l).toArray = #[.int .u8 (b : Int), .int .u8 0, .int .u8 0, .int .u8 0, .int .u8 0, .int .u8 0, .int .u8 0, .int .u8 0, .int .u8 0, .int .u8 0, .int .u8 0, .int .u8 0, .int .u8 0, .int .u8 0, .int .u8 0, .int .u8 0, .int .u8 0, .int .i64 (l : Int)] := by
  have h := congrArg Array.toList (key_first hb)
  simp only at h
  unfold prefL
  rw [h]
  rfl
/-- what the two walks find in a table -/
structure DumpIn (A : Ar) (M : Tab) (q : Bool) (f : Int) (n : Nat) : Prop where
  root : Root A.word M (rt q) (dp q)
  on : ∀ b, b < 256 → A.word (rt q + b) % 65536 ≠ 0 → On A M (dp q) 8 b (A.word (rt q + b) % 65536)
  sane : Sane A
  size : 2048 ≤ A.size
  fam : q = decide (f = 6)
  bytes : famBytes f = n
theorem DumpAt.ext {ab rb : Nat} {f : Int} {n : Nat} {w0 w w' : World} {L : List (Nat × Nat × Nat)} (h : DumpAt ab rb f n w0 L w) (hb : Below w.heap.size w w') : DumpAt ab rb f n w0 L w' := by
  obtain ⟨k, rs, hr, hown⟩ := h.blk
  exact ⟨⟨k, rs, block_ext hr hb, owns_ext hown hb⟩, h.fr.trans (fr_below hb)⟩
theorem DFr.ext {rb : Nat} {w w' : World} (hb : Below w.heap.size w w') : DFr rb w w' := DFr.of_fr (S := []) (fr_below hb) (fun k hk _ => by cases hk)
theorem gb_none {M : Tab} {len u fu v : Nat} (h : M (len + fu) (u * 2 ^ fu + v) = none) : gbN M len u fu v = [] := by unfold gbN; rw [h]; rfl
theorem gb_some {M : Tab} {len u fu v x : Nat} (h : M (len + fu) (u * 2 ^ fu + v) = some x) : gbN M len u fu v = [(len + fu, u * 2 ^ fu + v, x)] := by unfold gbN; rw [h]; rfl
theorem cell_ext {w w' : World} {a : Addr} {v : Value} (h : w.cell? a = some v) (hb : Below w.heap.size w w') : w'.cell? a = some v := (World.cell?_of_block (hb.block _ (World.block_lt_of_cell? w a h))).trans h
theorem first_set {w : World} {b : Nat} {a0 a1 c0 c1 : Value} {t : TypeId} (h : w.heap[b]? = some (.cells #[a0, a1] t (0, 0))) : ((w.setCell ⟨b, 0, none⟩ c0).setCell ⟨b, 1, none⟩ c1).heap[b]? = some (.cells #[c0, c1] t (0, 0)) := by
  rw [heap_setCell_at _ (heap_setCell_at _ h)]
  rfl
set_option maxHeartbeats 2000000 in
set_option maxRecDepth 10000 in
theorem dshort_any (A : Ar) (M : Tab) (q : Bool) (ab wb rb : Nat) (f : Int) (n : Nat) (w0 : World) (hD : DumpOk A ab wb rb w0) (hI : DumpIn A M q f n) (hrb : rb < w0.heap.size) (l v : Nat) (hl : l < 8) (hv : v < 2 ^ l) (L : List (Nat × Nat × Nat)) (hL : (L ++ gbN M 0 0 l v).length ≤ 4194304) (w : World) (h : DumpAt ab rb f n w0 L w) :
    Calls Tryd.prog 32 #[.pointer (some ⟨rb, 0, none⟩), .int .i64 (l : Int), .int .i64 (v : Int)] w fun e w' => e = .returned (.tuple #[]) ∧ DumpAt ab rb f n w0 (L ++ gbN M 0 0 l v) w' ∧ DFr rb w w' := by
  obtain ⟨k, rs, hr, hown⟩ := h.blk
  have hA := hD.arAt h.fr
  have HQ := hide hI.fam
  obtain ⟨b, hb⟩ : ∃ b, b = v * 2 ^ (8 - l) := ⟨_, rfl⟩
  have hb256 : b < 256 := by
    rw [hb]
    have h1 : v * 2 ^ (8 - l) < 2 ^ l * 2 ^ (8 - l) := Nat.mul_lt_mul_of_pos_right hv (Nat.two_pow_pos _)
    rw [← Nat.pow_add, show l + (8 - l) = 8 by omega] at h1
    exact h1
  have hbv : b / 2 ^ (8 - l) = v := by rw [hb, Nat.mul_div_cancel _ (Nat.two_pow_pos _)]
  have EB : wrap64 ((v : Int) * 2 ^ (8 - l)) % 256 = (b : Int) := by
    have : ((v : Int) * 2 ^ (8 - l)) = (b : Int) := by rw [hb]; norm_cast
    rw [this]
    clear hb hv this hL hbv
    rw [IntWalk.wrap64_in _ ⟨by omega, by omega⟩]
    omega
  have hrt : rt q + b < A.size ∧ rt q ≤ 512 := by
    have h1 := hI.size
    have h2 : rt q ≤ 512 := by cases q <;> decide
    clear hL EB hb hv hbv
    generalize rt q = r at *
    omega
  obtain ⟨sh, hsh⟩ : ∃ sh, sh = A.word (rt q + b) / 65536 := ⟨_, rfl⟩
  obtain ⟨nd, hnd⟩ : ∃ nd, nd = A.word (rt q + b) % 65536 := ⟨_, rfl⟩
  have hsh256 : sh < 256 := by rw [hsh]; exact hI.root.lt b hb256
  have HRF := hide (fun (x : Int) (w : World) (hA : ArAt w ab wb A) (hx : x = (rt q + b : Nat)) (hr : w.heap[rb]? = some (.cells #[.pointer (some ⟨ab, 0, none⟩), .int .i64 k, .int .i64 f, rs] 70 (0, 0))) => readFirst_in A ab wb rb (.int .i64 f) rs x (rt q + b) k w hA hI.sane hx hrt.1 (hI.root.lt b hb256) hr)
  rw [← hsh, ← hnd] at HRF
  have hbit : sh.testBit l = (M l v).isSome := by rw [hsh, hI.root.short b l hb256 hl, hbv]
  have HBIT := hide hbit
  have HIX := hide (show IntKind.i64.wrap (((rt q : Nat) : Int) + (b : Int)) = ((rt q + b : Nat) : Int) by
    have h2 := hrt.2
    clear hL EB hb hv hbv HRF hrt
    generalize rt q = r at *
    rw [IntKind.wrap_i64]
    omega)
  have EWB : IntKind.i64.wrap (b : Int) = (b : Int) := by
    clear hL EB hb hv hbv HRF hrt
    rw [IntKind.wrap_i64]
    omega
  have HBV := hide hbv
  have HBE := hide hb
  have HA := hide hA
  have HR := hide hr
  have HOWN := hide hown
  have HH := hide h
  have hlr := lt_of_block hr
  have r2 : w.cell? ⟨rb, 2, none⟩ = some (.int .i64 f) := by rw [cell_at hr]; rfl
  have KS : ∀ w' : World, w'.cell? ⟨rb, 2, none⟩ = some (.int .i64 f) → (fun w' : World => w'.cell? ⟨rb, 2, none⟩ = some (.int .i64 f)) w' := fun _ h => h
  clear hr hown hA hb hbv hsh hnd hbit h
  go_enter Tryd.func32, Tryd.ntmps32
  go_wp2_with fail
  clear EB
  (go_cut [7] (fun x wc => ∃ fb, x = .pointer (some ⟨fb, 0, none⟩) ∧ w.heap.size ≤ fb ∧ wc.heap[fb]? = some (.cells #[.int .i64 (nd : Int), .int .u8 (sh : Int)] 90 (0, 0)) ∧ (∃ k' : Int, wc.heap[rb]? = some (.cells #[.pointer (some ⟨ab, 0, none⟩), .int .i64 k', .int .i64 f, rs] 70 (0, 0))) ∧ Fr [rb] w wc))
  case first =>
    refine wp_region_held_drew (S := (fun w' : World => w'.cell? ⟨rb, 2, none⟩ = some (.int .i64 f))) (by kernel_rfl) (KS _ r2) (fun hHeld => ?_)
    (refine wpAnyH_take (i := 0) (oi := _) (v := ?_) rfl (by kernel_rfl) (by kernel_rfl) (by kernel_rfl) (fun _ _ _ h => h) (Or.inl ⟨by rfl, ?_⟩) (by assumption) ?_; rotate_left; (intro w hSw; (try dsimp only at hSw); go_simp; try with_reducible rfl); (try simp only [Act.put]); (try simp only [List.setIfInBounds_toArray]))
    (refine wpAnyH_take (i := 1) (oi := _) (v := ?_) rfl (by kernel_rfl) (by kernel_rfl) (by kernel_rfl) (fun _ _ _ h => h) (Or.inl ⟨by rfl, ?_⟩) (by assumption) ?_; rotate_left; (intro w hSw; (try dsimp only at hSw); go_simp; try with_reducible rfl); (try simp only [Act.put]); (try simp only [List.setIfInBounds_toArray]))
    (refine wpAnyH_take (i := 2) (oi := _) (v := ?_) rfl (by kernel_rfl) (by kernel_rfl) (by kernel_rfl) (fun _ _ _ h => h) (Or.inl ⟨by rfl, ?_⟩) (by assumption) ?_; rotate_left; (intro w hSw; (try dsimp only at hSw); go_simp; try with_reducible rfl); (try simp only [Act.put]); (try simp only [List.setIfInBounds_toArray]))
    (refine wpAnyH_take (i := 3) (oi := _) (v := ?_) rfl (by kernel_rfl) (by kernel_rfl) (by kernel_rfl) (fun _ _ _ h => h) (Or.inl ⟨by rfl, ?_⟩) (by assumption) ?_; rotate_left; (intro w hSw; (try dsimp only at hSw); go_simp; try with_reducible rfl); (try simp only [Act.put]); (try simp only [List.setIfInBounds_toArray]))
    (refine wpAnyH_take (i := 4) (oi := _) (v := ?_) rfl (by kernel_rfl) (by kernel_rfl) (by kernel_rfl) (fun _ _ _ h => h) (Or.inl ⟨by rfl, ?_⟩) (by assumption) ?_; rotate_left; (intro w hSw; (try dsimp only at hSw); go_simp; try with_reducible rfl); (try simp only [Act.put]); (try simp only [List.setIfInBounds_toArray]))
    (refine wpAnyH_take (i := 5) (oi := _) (v := ?_) rfl (by kernel_rfl) (by kernel_rfl) (by kernel_rfl) (fun _ _ _ h => h) (Or.inl ⟨by rfl, ?_⟩) (by assumption) ?_; rotate_left; (intro w hSw; (try dsimp only at hSw); go_simp; try with_reducible rfl); (try simp only [Act.put]); (try simp only [List.setIfInBounds_toArray]))
    (refine wpAnyH_take (i := 6) (oi := _) (v := ?_) rfl (by kernel_rfl) (by kernel_rfl) (by kernel_rfl) (fun _ _ _ h => h) (Or.inl ⟨by rfl, ?_⟩) (by assumption) ?_; rotate_left; (intro w hSw; (try dsimp only at hSw); go_simp; try with_reducible rfl); (try simp only [Act.put]); (try simp only [List.setIfInBounds_toArray]))
    (refine wpAnyH_take (i := 8) (oi := _) (v := ?_) rfl (by kernel_rfl) (by kernel_rfl) (by kernel_rfl) (fun _ _ _ h => h) (Or.inl ⟨by rfl, ?_⟩) (by assumption) ?_; rotate_left; (intro w hSw; (try dsimp only at hSw); go_simp; try with_reducible rfl); (try simp only [Act.put]); (try simp only [List.setIfInBounds_toArray]))
    (refine wpAnyH_take (i := 9) (oi := _) (v := ?_) rfl (by kernel_rfl) (by kernel_rfl) (by kernel_rfl) (fun _ _ _ h => h) (Or.inl ⟨by rfl, ?_⟩) (by assumption) ?_; rotate_left; (intro w hSw; (try dsimp only at hSw); go_simp; try with_reducible rfl); (try simp only [Act.put]); (try simp only [List.setIfInBounds_toArray]))
    (refine wpAnyH_ready (rs := [7, 12]) (by kernel_rfl) (by simp) ?_)
    (refine AllReadyH.cons (o := _) rfl (fun KK hK => ?_) ?_)
    · go_simp
      (go_at_call 41; refine (base_any f q _ HQ.out).mono ?_; rintro e w4 ⟨rfl, rfl⟩; go_wp2_with fail)
      (refine hK.out _ _ (KS _ r2) (fun hHeld => ?_); clear hK KK; (try simp only [Act.put]); (try simp only [List.getElem_toArray]); (try simp only [List.getElem_cons_succ]); (try simp only [List.getElem_cons_zero]); (try simp only [List.setIfInBounds_toArray]))
      (refine wpAnyH_take (i := 10) (oi := _) (v := ?_) rfl (by kernel_rfl) (by kernel_rfl) (by kernel_rfl) (fun _ _ _ h => h) (Or.inl ⟨by rfl, ?_⟩) (by assumption) ?_; rotate_left; (intro w hSw; (try dsimp only at hSw); go_simp; try with_reducible rfl); (try simp only [Act.put]); (try simp only [List.setIfInBounds_toArray]))
      (refine wpAnyH_ready (rs := [11, 12]) (by kernel_rfl) (by simp) ?_)
      (refine AllReadyH.cons (o := _) rfl (fun KK hK => ?_) ?_)
      · go_simp
        (go_at_call 40; refine (HRF.out _ w.drew HA.out.drew HIX.out (block_ext HR.out (drew_ext _))).mono ?_; rintro e w5 ⟨rfl, hA5, ⟨k5, hr5⟩, hF5⟩; have F5 := (Fr.after (fr_below (drew_ext w)) hF5 (fun y hy => Or.inl hy) : Fr [rb] w w5); have z5 := F5.size; have r5 : w5.cell? ⟨rb, 2, none⟩ = some (.int .i64 f) := (by rw [cell_at hr5]; rfl); clear hF5 hA5; go_wp2_with fail; (refine hK.out _ _ (KS _ r5) (fun hHeld => ?_); clear hK KK; (try simp only [Act.put]); (try simp only [List.getElem_toArray]); (try simp only [List.getElem_cons_succ]); (try simp only [List.getElem_cons_zero]); (try simp only [List.setIfInBounds_toArray])))
        ((refine wpAnyH_ready (rs := [12]) (by kernel_rfl) (by simp) ?_); (refine AllReadyH.cons (o := _) rfl (fun KK hK => ?_) ?_); rotate_left; exact AllReadyH.nil)
        go_simp
        (refine hK.out _ _ (KS _ (cell_ext r5 (ext_alloc _ _))) (fun hHeld => ?_); clear hK KK; (try simp only [Act.put]); (try simp only [List.getElem_toArray]); (try simp only [List.getElem_cons_succ]); (try simp only [List.getElem_cons_zero]); (try simp only [List.setIfInBounds_toArray]))
        ((refine wpAnyH_ready (rs := [13]) (by kernel_rfl) (by simp) ?_); (refine AllReadyH.cons (o := _) rfl (fun KK hK => ?_) ?_); rotate_left; exact AllReadyH.nil)
        (go_simp; (refine hK.out _ _ (KS _ (cell_ext r5 (ext_alloc _ _))) (fun hHeld => ?_); clear hK KK; (try simp only [Act.put]); (try simp only [List.getElem_toArray]); (try simp only [List.getElem_cons_succ]); (try simp only [List.getElem_cons_zero]); (try simp only [List.setIfInBounds_toArray])); (refine wpAnyH_done (by kernel_rfl) ?_ _); go_wp2_with fail; go_meet; case rel => exact ⟨w5.heap.size, rfl, z5, heap_alloc_new _ _, ⟨k5, block_ext hr5 (ext_alloc _ _)⟩, F5.alloc _⟩)
      · (refine AllReadyH.cons (o := _) rfl (fun KK hK => ?_) ?_)
        · go_simp
          (refine hK.out _ _ (KS _ (cell_ext r2 (Below.drew (ext_alloc _ _)))) (fun hHeld => ?_); clear hK KK; (try simp only [Act.put]); (try simp only [List.getElem_toArray]); (try simp only [List.getElem_cons_succ]); (try simp only [List.getElem_cons_zero]); (try simp only [List.setIfInBounds_toArray]))
          ((refine wpAnyH_ready (rs := [11]) (by kernel_rfl) (by simp) ?_); (refine AllReadyH.cons (o := _) rfl (fun KK hK => ?_) ?_); rotate_left; exact AllReadyH.nil)
          go_simp
          (go_at_call 40; refine (HRF.out _ (w.alloc (.cells #[.int .i64 0, .int .u8 0] 90)).drew (HA.out.ext (Below.drew (ext_alloc _ _))) HIX.out (block_ext HR.out (Below.drew (ext_alloc _ _)))).mono ?_; rintro e w5 ⟨rfl, hA5, ⟨k5, hr5⟩, hF5⟩; have F5 := (Fr.after (fr_below (Below.drew (ext_alloc w (.cells #[.int .i64 0, .int .u8 0] 90)))) hF5 (fun y hy => Or.inl hy) : Fr [rb] w w5); have z5 := F5.size; have r5 : w5.cell? ⟨rb, 2, none⟩ = some (.int .i64 f) := (by rw [cell_at hr5]; rfl); have b5 := hF5.at (show ((w.alloc (.cells #[.int .i64 0, .int .u8 0] 90)).drew).heap[w.heap.size]? = some (.cells #[.int .i64 0, .int .u8 0] 90 (0, 0)) from heap_alloc_new w _) (by simp; omega); have g0 := cell_two0 b5; have g1 := cell_two1 b5; have g2 := free_two 0 b5; have g3 := free_two 1 b5; have lt5 := lt_of_block b5; have hne : rb ≠ w.heap.size := (by omega); clear hF5 hA5; go_wp2_with fail; (refine hK.out _ _ (KS _ r5) (fun hHeld => ?_); clear hK KK; (try simp only [Act.put]); (try simp only [List.getElem_toArray]); (try simp only [List.getElem_cons_succ]); (try simp only [List.getElem_cons_zero]); (try simp only [List.setIfInBounds_toArray])))
          ((refine wpAnyH_ready (rs := [13]) (by kernel_rfl) (by simp) ?_); (refine AllReadyH.cons (o := _) rfl (fun KK hK => ?_) ?_); rotate_left; exact AllReadyH.nil)
          (go_simp; (refine hK.out _ _ (KS _ (by rw [cell_at ((Below.heap_setCell _ _ _ _ hne).trans ((Below.heap_setCell _ _ _ _ hne).trans hr5))]; rfl)) (fun hHeld => ?_); clear hK KK; (try simp only [Act.put]); (try simp only [List.getElem_toArray]); (try simp only [List.getElem_cons_succ]); (try simp only [List.getElem_cons_zero]); (try simp only [List.setIfInBounds_toArray])); (refine wpAnyH_done (by kernel_rfl) ?_ _); go_wp2_with fail; go_meet; case rel => exact ⟨w.heap.size, rfl, Nat.le_refl _, first_set b5, ⟨k5, (Below.heap_setCell _ _ _ _ hne).trans ((Below.heap_setCell _ _ _ _ hne).trans hr5)⟩, (F5.setCell (Or.inr (Nat.le_refl _)) _).setCell (Or.inr (Nat.le_refl _)) _⟩)
        · exact AllReadyH.nil
    · (refine AllReadyH.cons (o := _) rfl (fun KK hK => ?_) ?_)
      · go_simp
        (refine hK.out _ _ (KS _ (cell_ext r2 (Below.drew (ext_alloc _ _)))) (fun hHeld => ?_); clear hK KK; (try simp only [Act.put]); (try simp only [List.getElem_toArray]); (try simp only [List.getElem_cons_succ]); (try simp only [List.getElem_cons_zero]); (try simp only [List.setIfInBounds_toArray]))
        ((refine wpAnyH_ready (rs := [7]) (by kernel_rfl) (by simp) ?_); (refine AllReadyH.cons (o := _) rfl (fun KK hK => ?_) ?_); rotate_left; exact AllReadyH.nil)
        go_simp
        (go_at_call 41; refine (base_any f q _ HQ.out).mono ?_; rintro e w4 ⟨rfl, rfl⟩; go_wp2_with fail)
        (refine hK.out _ _ (KS _ (cell_ext r2 (Below.drew (ext_alloc _ _)))) (fun hHeld => ?_); clear hK KK; (try simp only [Act.put]); (try simp only [List.getElem_toArray]); (try simp only [List.getElem_cons_succ]); (try simp only [List.getElem_cons_zero]); (try simp only [List.setIfInBounds_toArray]))
        (refine wpAnyH_take (i := 10) (oi := _) (v := ?_) rfl (by kernel_rfl) (by kernel_rfl) (by kernel_rfl) (fun _ _ _ h => h) (Or.inl ⟨by rfl, ?_⟩) (by assumption) ?_; rotate_left; (intro w hSw; (try dsimp only at hSw); go_simp; try with_reducible rfl); (try simp only [Act.put]); (try simp only [List.setIfInBounds_toArray]))
        ((refine wpAnyH_ready (rs := [11]) (by kernel_rfl) (by simp) ?_); (refine AllReadyH.cons (o := _) rfl (fun KK hK => ?_) ?_); rotate_left; exact AllReadyH.nil)
        go_simp
        (go_at_call 40; refine (HRF.out _ (w.alloc (.cells #[.int .i64 0, .int .u8 0] 90)).drew (HA.out.ext (Below.drew (ext_alloc _ _))) HIX.out (block_ext HR.out (Below.drew (ext_alloc _ _)))).mono ?_; rintro e w5 ⟨rfl, hA5, ⟨k5, hr5⟩, hF5⟩; have F5 := (Fr.after (fr_below (Below.drew (ext_alloc w (.cells #[.int .i64 0, .int .u8 0] 90)))) hF5 (fun y hy => Or.inl hy) : Fr [rb] w w5); have z5 := F5.size; have r5 : w5.cell? ⟨rb, 2, none⟩ = some (.int .i64 f) := (by rw [cell_at hr5]; rfl); have b5 := hF5.at (show ((w.alloc (.cells #[.int .i64 0, .int .u8 0] 90)).drew).heap[w.heap.size]? = some (.cells #[.int .i64 0, .int .u8 0] 90 (0, 0)) from heap_alloc_new w _) (by simp; omega); have g0 := cell_two0 b5; have g1 := cell_two1 b5; have g2 := free_two 0 b5; have g3 := free_two 1 b5; have lt5 := lt_of_block b5; have hne : rb ≠ w.heap.size := (by omega); clear hF5 hA5; go_wp2_with fail; (refine hK.out _ _ (KS _ r5) (fun hHeld => ?_); clear hK KK; (try simp only [Act.put]); (try simp only [List.getElem_toArray]); (try simp only [List.getElem_cons_succ]); (try simp only [List.getElem_cons_zero]); (try simp only [List.setIfInBounds_toArray])))
        ((refine wpAnyH_ready (rs := [13]) (by kernel_rfl) (by simp) ?_); (refine AllReadyH.cons (o := _) rfl (fun KK hK => ?_) ?_); rotate_left; exact AllReadyH.nil)
        (go_simp; (refine hK.out _ _ (KS _ (by rw [cell_at ((Below.heap_setCell _ _ _ _ hne).trans ((Below.heap_setCell _ _ _ _ hne).trans hr5))]; rfl)) (fun hHeld => ?_); clear hK KK; (try simp only [Act.put]); (try simp only [List.getElem_toArray]); (try simp only [List.getElem_cons_succ]); (try simp only [List.getElem_cons_zero]); (try simp only [List.setIfInBounds_toArray])); (refine wpAnyH_done (by kernel_rfl) ?_ _); go_wp2_with fail; go_meet; case rel => exact ⟨w.heap.size, rfl, Nat.le_refl _, first_set b5, ⟨k5, (Below.heap_setCell _ _ _ _ hne).trans ((Below.heap_setCell _ _ _ _ hne).trans hr5)⟩, (F5.setCell (Or.inr (Nat.le_refl _)) _).setCell (Or.inr (Nat.le_refl _)) _⟩)
      · exact AllReadyH.nil
  case rest =>
    obtain ⟨fb, rfl, hfq, bf, ⟨kc, hrc⟩, hFc⟩ := hcut
    have hDc : DumpAt ab rb f n w0 L wc := DumpAt.read HH.out.fr HOWN.out hrc hFc hrb
    have hdf : DFr rb w wc := DFr.of_fr hFc (fun j hj _ => by simpa using hj)
    have m0 := cell_two0 bf
    have m1 := cell_two1 bf
    have hlf := lt_of_block bf
    have hlc := lt_of_block hrc
    have c2 : wc.cell? ⟨rb, 2, none⟩ = some (.int .i64 f) := by rw [cell_at hrc]; rfl
    have HD := hide (And.intro hDc hdf)
    clear hrc hFc hDc hdf KS
    go_wp2_with fail
    refine (hasShort_any nd sh l _ hsh256 hl).mono ?_
    rintro e w6 ⟨rfl, hb6⟩
    rw [HBIT.out]
    have c6 := cell_ext c2 hb6
    have hl6 := Nat.lt_of_lt_of_le hlc hb6.size
    have HD6 := hide (And.intro (HD.out.1.ext hb6) (HD.out.2.trans (DFr.ext hb6)))
    clear hb6
    cases hM : M l v with
    | none =>
      have hg : gbN M 0 0 l v = [] := gb_none (by rw [Nat.zero_add, Nat.zero_mul, Nat.zero_add]; exact hM)
      have HG := hide hg
      clear hg hM
      go_wp2
      go_end0
      rw [HG.out, List.append_nil]
      exact ⟨rfl, HD6.out.1, HD6.out.2⟩
    | some x =>
      have hg : gbN M 0 0 l v = [(l, v, x)] := by
        rw [gb_some (x := x) (by rw [Nat.zero_add, Nat.zero_mul, Nat.zero_add]; exact hM), Nat.zero_add, Nat.zero_mul, Nat.zero_add]
      have hx : x = A.word (rt q + 256 + 2 ^ l + v) := (hI.root.hop l v x hl hv hM).symm
      rw [hg, List.length_append] at hL
      have HKP := hide (pref_first l hb256)
      have HPS := hide (show rt q + 256 + 2 ^ l + v < A.size by
        have h1 := hI.size
        have h2 := hrt.2
        have h9 : 2 ^ l ≤ 2 ^ 7 := Nat.pow_le_pow_right (by decide) (by omega)
        clear hL HRF
        generalize rt q = r at *
        generalize 2 ^ l = y at *
        omega)
      have HG := hide hg
      have HX := hide hx
      clear hg hM hx
      go_wp2_with fail
      refine (shortPlace_any f l q l b _ HQ.out rfl hl hb256).mono ?_
      rintro e w7 ⟨rfl, nn, rfl⟩
      rw [HBV.out]
      go_wp2_with fail
      rw [← HKP.out]
      refine (tell_any A ab wb rb f n w0 hD hI.sane hrb hI.bytes (b * 2 ^ 128) l (rt q + 256 + 2 ^ l + v) x _ rfl HPS.out HX.out L (by simpa using hL) _ (HD6.out.1.ext (drewN_ext _ _)) (l, v, x) ?_).mono ?_
      · unfold rdOf
        rw [← short_key (by omega), HBE.out]
      rintro e w8 ⟨rfl, hD8, hF8⟩
      have HD8 := hide (And.intro hD8 ((HD6.out.2.trans (DFr.ext (drewN_ext _ _))).trans hF8))
      clear hD8 hF8
      go_wp2
      go_end0
      rw [HG.out]
      exact ⟨rfl, HD8.out.1, HD8.out.2⟩
end Go.Proofs.YtnapboelfimaaaaDoor
/- dump.first. -/
namespace Go.Proofs.YtnapboelfimaaaaDoor
open Go.RowKit Go.Deep
/-- what a first byte holds below it -/
def geR (M : Tab) (dm v : Nat) : List (Nat × Nat × Nat) := if anyBelow M 8 v then dumpN M dm 8 v else []
set_option maxHeartbeats 2000000 in
set_option maxRecDepth 10000 in
theorem dfirst_any (A : Ar) (M : Tab) (q : Bool) (ab wb rb : Nat) (f : Int) (n : Nat) (w0 : World) (hD : DumpOk A ab wb rb w0) (hI : DumpIn A M q f n) (hrb : rb < w0.heap.size) (v : Nat) (hv : v < 256) (L : List (Nat × Nat × Nat)) (w : World) (h : DumpAt ab rb f n w0 L w)
    (hN : ∀ w : World, A.word (rt q + v) % 65536 ≠ 0 → anyBelow M 8 v = true → DumpAt ab rb f n w0 L w → Calls Tryd.prog 45 #[.pointer (some ⟨rb, 0, none⟩), .int .i64 ((A.word (rt q + v) % 65536 : Nat) : Int), .int .i64 0, .agg (keyL (v * 2 ^ 128)).toArray] w fun e w' => e = .returned (.tuple #[]) ∧ DumpAt ab rb f n w0 (L ++ dumpN M (dp q) 8 v) w' ∧ DFr rb w w') :
    Calls Tryd.prog 33 #[.pointer (some ⟨rb, 0, none⟩), .int .i64 (v : Int)] w fun e w' => e = .returned (.tuple #[]) ∧ DumpAt ab rb f n w0 (L ++ geR M (dp q) v) w' ∧ DFr rb w w' := by
  obtain ⟨k, rs, hr, hown⟩ := h.blk
  have hA := hD.arAt h.fr
  have HQ := hide hI.fam
  have hrt : rt q + v < A.size ∧ rt q ≤ 512 := by
    have h1 := hI.size
    have h2 : rt q ≤ 512 := by cases q <;> decide
    generalize rt q = r at *
    omega
  obtain ⟨sh, hsh⟩ : ∃ sh, sh = A.word (rt q + v) / 65536 := ⟨_, rfl⟩
  obtain ⟨nd, hnd⟩ : ∃ nd, nd = A.word (rt q + v) % 65536 := ⟨_, rfl⟩
  have hsh256 : sh < 256 := by rw [hsh]; exact hI.root.lt v hv
  have hnd65 : nd < 65536 := by rw [hnd]; exact Nat.mod_lt _ (by decide)
  have HRF := hide (fun (x : Int) (w : World) (hA : ArAt w ab wb A) (hx : x = (rt q + v : Nat)) (hr : w.heap[rb]? = some (.cells #[.pointer (some ⟨ab, 0, none⟩), .int .i64 k, .int .i64 f, rs] 70 (0, 0))) => readFirst_in A ab wb rb (.int .i64 f) rs x (rt q + v) k w hA hI.sane hx hrt.1 (hI.root.lt v hv) hr)
  rw [← hsh, ← hnd] at HRF
  have HNO := hide (hI.root.node v hv)
  rw [← hnd] at HNO hN
  have HN := hide hN
  have HIX := hide (show IntKind.i64.wrap (((rt q : Nat) : Int) + (v : Int)) = ((rt q + v : Nat) : Int) by
    have h2 := hrt.2
    clear HRF hrt HNO HN
    generalize rt q = r at *
    rw [IntKind.wrap_i64]
    omega)
  have EWV : (v : Int) % 256 = (v : Int) := by
    clear HRF hrt HNO HN
    omega
  have HA := hide hA
  have HR := hide hr
  have HOWN := hide hown
  have HH := hide h
  have hlr := lt_of_block hr
  have r2 : w.cell? ⟨rb, 2, none⟩ = some (.int .i64 f) := by rw [cell_at hr]; rfl
  have KS : ∀ w' : World, w'.cell? ⟨rb, 2, none⟩ = some (.int .i64 f) → (fun w' : World => w'.cell? ⟨rb, 2, none⟩ = some (.int .i64 f)) w' := fun _ h => h
  clear hr hown hA hsh hnd h hN
  go_enter Tryd.func33, Tryd.ntmps33
  go_wp2_with fail
  (go_cut [4] (fun x wc => ∃ fb, x = .pointer (some ⟨fb, 0, none⟩) ∧ w.heap.size ≤ fb ∧ wc.heap[fb]? = some (.cells #[.int .i64 (nd : Int), .int .u8 (sh : Int)] 90 (0, 0)) ∧ (∃ k' : Int, wc.heap[rb]? = some (.cells #[.pointer (some ⟨ab, 0, none⟩), .int .i64 k', .int .i64 f, rs] 70 (0, 0))) ∧ Fr [rb] w wc))
  case first =>
    refine wp_region_held_drew (S := (fun w' : World => w'.cell? ⟨rb, 2, none⟩ = some (.int .i64 f))) (by kernel_rfl) (KS _ r2) (fun hHeld => ?_)
    (refine wpAnyH_take (i := 0) (oi := _) (v := ?_) rfl (by kernel_rfl) (by kernel_rfl) (by kernel_rfl) (fun _ _ _ h => h) (Or.inl ⟨by rfl, ?_⟩) (by assumption) ?_; rotate_left; (intro w hSw; (try dsimp only at hSw); go_simp; try with_reducible rfl); (try simp only [Act.put]); (try simp only [List.setIfInBounds_toArray]))
    (refine wpAnyH_take (i := 1) (oi := _) (v := ?_) rfl (by kernel_rfl) (by kernel_rfl) (by kernel_rfl) (fun _ _ _ h => h) (Or.inl ⟨by rfl, ?_⟩) (by assumption) ?_; rotate_left; (intro w hSw; (try dsimp only at hSw); go_simp; try with_reducible rfl); (try simp only [Act.put]); (try simp only [List.setIfInBounds_toArray]))
    (refine wpAnyH_take (i := 2) (oi := _) (v := ?_) rfl (by kernel_rfl) (by kernel_rfl) (by kernel_rfl) (fun _ _ _ h => h) (Or.inl ⟨by rfl, ?_⟩) (by assumption) ?_; rotate_left; (intro w hSw; (try dsimp only at hSw); go_simp; try with_reducible rfl); (try simp only [Act.put]); (try simp only [List.setIfInBounds_toArray]))
    (refine wpAnyH_take (i := 3) (oi := _) (v := ?_) rfl (by kernel_rfl) (by kernel_rfl) (by kernel_rfl) (fun _ _ _ h => h) (Or.inl ⟨by rfl, ?_⟩) (by assumption) ?_; rotate_left; (intro w hSw; (try dsimp only at hSw); go_simp; try with_reducible rfl); (try simp only [Act.put]); (try simp only [List.setIfInBounds_toArray]))
    (refine wpAnyH_take (i := 4) (oi := _) (v := ?_) rfl (by kernel_rfl) (by kernel_rfl) (by kernel_rfl) (fun _ _ _ h => h) (Or.inl ⟨by rfl, ?_⟩) (by assumption) ?_; rotate_left; (intro w hSw; (try dsimp only at hSw); go_simp; try with_reducible rfl); (try simp only [Act.put]); (try simp only [List.setIfInBounds_toArray]))
    (refine wpAnyH_take (i := 5) (oi := _) (v := ?_) rfl (by kernel_rfl) (by kernel_rfl) (by kernel_rfl) (fun _ _ _ h => h) (Or.inl ⟨by rfl, ?_⟩) (by assumption) ?_; rotate_left; (intro w hSw; (try dsimp only at hSw); go_simp; try with_reducible rfl); (try simp only [Act.put]); (try simp only [List.setIfInBounds_toArray]))
    (refine wpAnyH_take (i := 6) (oi := _) (v := ?_) rfl (by kernel_rfl) (by kernel_rfl) (by kernel_rfl) (fun _ _ _ h => h) (Or.inl ⟨by rfl, ?_⟩) (by assumption) ?_; rotate_left; (intro w hSw; (try dsimp only at hSw); go_simp; try with_reducible rfl); (try simp only [Act.put]); (try simp only [List.setIfInBounds_toArray]))
    (refine wpAnyH_take (i := 8) (oi := _) (v := ?_) rfl (by kernel_rfl) (by kernel_rfl) (by kernel_rfl) (fun _ _ _ h => h) (Or.inl ⟨by rfl, ?_⟩) (by assumption) ?_; rotate_left; (intro w hSw; (try dsimp only at hSw); go_simp; try with_reducible rfl); (try simp only [Act.put]); (try simp only [List.setIfInBounds_toArray]))
    (refine wpAnyH_ready (rs := [7, 11]) (by kernel_rfl) (by simp) ?_)
    (refine AllReadyH.cons (o := _) rfl (fun KK hK => ?_) ?_)
    · go_simp
      (go_at_call 41; refine (base_any f q _ HQ.out).mono ?_; rintro e w4 ⟨rfl, rfl⟩; go_wp2_with fail)
      (refine hK.out _ _ (KS _ r2) (fun hHeld => ?_); clear hK KK; (try simp only [Act.put]); (try simp only [List.getElem_toArray]); (try simp only [List.getElem_cons_succ]); (try simp only [List.getElem_cons_zero]); (try simp only [List.setIfInBounds_toArray]))
      (refine wpAnyH_take (i := 9) (oi := _) (v := ?_) rfl (by kernel_rfl) (by kernel_rfl) (by kernel_rfl) (fun _ _ _ h => h) (Or.inl ⟨by rfl, ?_⟩) (by assumption) ?_; rotate_left; (intro w hSw; (try dsimp only at hSw); go_simp; try with_reducible rfl); (try simp only [Act.put]); (try simp only [List.setIfInBounds_toArray]))
      (refine wpAnyH_ready (rs := [10, 11]) (by kernel_rfl) (by simp) ?_)
      (refine AllReadyH.cons (o := _) rfl (fun KK hK => ?_) ?_)
      · go_simp
        (go_at_call 40; refine (HRF.out _ w.drew HA.out.drew HIX.out (block_ext HR.out (drew_ext _))).mono ?_; rintro e w5 ⟨rfl, hA5, ⟨k5, hr5⟩, hF5⟩; have F5 := (Fr.after (fr_below (drew_ext w)) hF5 (fun y hy => Or.inl hy) : Fr [rb] w w5); have z5 := F5.size; have r5 : w5.cell? ⟨rb, 2, none⟩ = some (.int .i64 f) := (by rw [cell_at hr5]; rfl); clear hF5 hA5; go_wp2_with fail; (refine hK.out _ _ (KS _ r5) (fun hHeld => ?_); clear hK KK; (try simp only [Act.put]); (try simp only [List.getElem_toArray]); (try simp only [List.getElem_cons_succ]); (try simp only [List.getElem_cons_zero]); (try simp only [List.setIfInBounds_toArray])))
        ((refine wpAnyH_ready (rs := [11]) (by kernel_rfl) (by simp) ?_); (refine AllReadyH.cons (o := _) rfl (fun KK hK => ?_) ?_); rotate_left; exact AllReadyH.nil)
        go_simp
        (refine hK.out _ _ (KS _ (cell_ext r5 (ext_alloc _ _))) (fun hHeld => ?_); clear hK KK; (try simp only [Act.put]); (try simp only [List.getElem_toArray]); (try simp only [List.getElem_cons_succ]); (try simp only [List.getElem_cons_zero]); (try simp only [List.setIfInBounds_toArray]))
        ((refine wpAnyH_ready (rs := [12]) (by kernel_rfl) (by simp) ?_); (refine AllReadyH.cons (o := _) rfl (fun KK hK => ?_) ?_); rotate_left; exact AllReadyH.nil)
        (go_simp; (refine hK.out _ _ (KS _ (cell_ext r5 (ext_alloc _ _))) (fun hHeld => ?_); clear hK KK; (try simp only [Act.put]); (try simp only [List.getElem_toArray]); (try simp only [List.getElem_cons_succ]); (try simp only [List.getElem_cons_zero]); (try simp only [List.setIfInBounds_toArray])); (refine wpAnyH_done (by kernel_rfl) ?_ _); go_wp2_with fail; go_meet; case rel => exact ⟨w5.heap.size, rfl, z5, heap_alloc_new _ _, ⟨k5, block_ext hr5 (ext_alloc _ _)⟩, F5.alloc _⟩)
      · (refine AllReadyH.cons (o := _) rfl (fun KK hK => ?_) ?_)
        · go_simp
          (refine hK.out _ _ (KS _ (cell_ext r2 (Below.drew (ext_alloc _ _)))) (fun hHeld => ?_); clear hK KK; (try simp only [Act.put]); (try simp only [List.getElem_toArray]); (try simp only [List.getElem_cons_succ]); (try simp only [List.getElem_cons_zero]); (try simp only [List.setIfInBounds_toArray]))
          ((refine wpAnyH_ready (rs := [10]) (by kernel_rfl) (by simp) ?_); (refine AllReadyH.cons (o := _) rfl (fun KK hK => ?_) ?_); rotate_left; exact AllReadyH.nil)
          go_simp
          (go_at_call 40; refine (HRF.out _ (w.alloc (.cells #[.int .i64 0, .int .u8 0] 90)).drew (HA.out.ext (Below.drew (ext_alloc _ _))) HIX.out (block_ext HR.out (Below.drew (ext_alloc _ _)))).mono ?_; rintro e w5 ⟨rfl, hA5, ⟨k5, hr5⟩, hF5⟩; have F5 := (Fr.after (fr_below (Below.drew (ext_alloc w (.cells #[.int .i64 0, .int .u8 0] 90)))) hF5 (fun y hy => Or.inl hy) : Fr [rb] w w5); have z5 := F5.size; have r5 : w5.cell? ⟨rb, 2, none⟩ = some (.int .i64 f) := (by rw [cell_at hr5]; rfl); have b5 := hF5.at (show ((w.alloc (.cells #[.int .i64 0, .int .u8 0] 90)).drew).heap[w.heap.size]? = some (.cells #[.int .i64 0, .int .u8 0] 90 (0, 0)) from heap_alloc_new w _) (by simp; omega); have g0 := cell_two0 b5; have g1 := cell_two1 b5; have g2 := free_two 0 b5; have g3 := free_two 1 b5; have lt5 := lt_of_block b5; have hne : rb ≠ w.heap.size := (by omega); clear hF5 hA5; go_wp2_with fail; (refine hK.out _ _ (KS _ r5) (fun hHeld => ?_); clear hK KK; (try simp only [Act.put]); (try simp only [List.getElem_toArray]); (try simp only [List.getElem_cons_succ]); (try simp only [List.getElem_cons_zero]); (try simp only [List.setIfInBounds_toArray])))
          ((refine wpAnyH_ready (rs := [12]) (by kernel_rfl) (by simp) ?_); (refine AllReadyH.cons (o := _) rfl (fun KK hK => ?_) ?_); rotate_left; exact AllReadyH.nil)
          (go_simp; (refine hK.out _ _ (KS _ (by rw [cell_at ((Below.heap_setCell _ _ _ _ hne).trans ((Below.heap_setCell _ _ _ _ hne).trans hr5))]; rfl)) (fun hHeld => ?_); clear hK KK; (try simp only [Act.put]); (try simp only [List.getElem_toArray]); (try simp only [List.getElem_cons_succ]); (try simp only [List.getElem_cons_zero]); (try simp only [List.setIfInBounds_toArray])); (refine wpAnyH_done (by kernel_rfl) ?_ _); go_wp2_with fail; go_meet; case rel => exact ⟨w.heap.size, rfl, Nat.le_refl _, first_set b5, ⟨k5, (Below.heap_setCell _ _ _ _ hne).trans ((Below.heap_setCell _ _ _ _ hne).trans hr5)⟩, (F5.setCell (Or.inr (Nat.le_refl _)) _).setCell (Or.inr (Nat.le_refl _)) _⟩)
        · exact AllReadyH.nil
    · (refine AllReadyH.cons (o := _) rfl (fun KK hK => ?_) ?_)
      · go_simp
        (refine hK.out _ _ (KS _ (cell_ext r2 (Below.drew (ext_alloc _ _)))) (fun hHeld => ?_); clear hK KK; (try simp only [Act.put]); (try simp only [List.getElem_toArray]); (try simp only [List.getElem_cons_succ]); (try simp only [List.getElem_cons_zero]); (try simp only [List.setIfInBounds_toArray]))
        ((refine wpAnyH_ready (rs := [7]) (by kernel_rfl) (by simp) ?_); (refine AllReadyH.cons (o := _) rfl (fun KK hK => ?_) ?_); rotate_left; exact AllReadyH.nil)
        go_simp
        (go_at_call 41; refine (base_any f q _ HQ.out).mono ?_; rintro e w4 ⟨rfl, rfl⟩; go_wp2_with fail)
        (refine hK.out _ _ (KS _ (cell_ext r2 (Below.drew (ext_alloc _ _)))) (fun hHeld => ?_); clear hK KK; (try simp only [Act.put]); (try simp only [List.getElem_toArray]); (try simp only [List.getElem_cons_succ]); (try simp only [List.getElem_cons_zero]); (try simp only [List.setIfInBounds_toArray]))
        (refine wpAnyH_take (i := 9) (oi := _) (v := ?_) rfl (by kernel_rfl) (by kernel_rfl) (by kernel_rfl) (fun _ _ _ h => h) (Or.inl ⟨by rfl, ?_⟩) (by assumption) ?_; rotate_left; (intro w hSw; (try dsimp only at hSw); go_simp; try with_reducible rfl); (try simp only [Act.put]); (try simp only [List.setIfInBounds_toArray]))
        ((refine wpAnyH_ready (rs := [10]) (by kernel_rfl) (by simp) ?_); (refine AllReadyH.cons (o := _) rfl (fun KK hK => ?_) ?_); rotate_left; exact AllReadyH.nil)
        go_simp
        (go_at_call 40; refine (HRF.out _ (w.alloc (.cells #[.int .i64 0, .int .u8 0] 90)).drew (HA.out.ext (Below.drew (ext_alloc _ _))) HIX.out (block_ext HR.out (Below.drew (ext_alloc _ _)))).mono ?_; rintro e w5 ⟨rfl, hA5, ⟨k5, hr5⟩, hF5⟩; have F5 := (Fr.after (fr_below (Below.drew (ext_alloc w (.cells #[.int .i64 0, .int .u8 0] 90)))) hF5 (fun y hy => Or.inl hy) : Fr [rb] w w5); have z5 := F5.size; have r5 : w5.cell? ⟨rb, 2, none⟩ = some (.int .i64 f) := (by rw [cell_at hr5]; rfl); have b5 := hF5.at (show ((w.alloc (.cells #[.int .i64 0, .int .u8 0] 90)).drew).heap[w.heap.size]? = some (.cells #[.int .i64 0, .int .u8 0] 90 (0, 0)) from heap_alloc_new w _) (by simp; omega); have g0 := cell_two0 b5; have g1 := cell_two1 b5; have g2 := free_two 0 b5; have g3 := free_two 1 b5; have lt5 := lt_of_block b5; have hne : rb ≠ w.heap.size := (by omega); clear hF5 hA5; go_wp2_with fail; (refine hK.out _ _ (KS _ r5) (fun hHeld => ?_); clear hK KK; (try simp only [Act.put]); (try simp only [List.getElem_toArray]); (try simp only [List.getElem_cons_succ]); (try simp only [List.getElem_cons_zero]); (try simp only [List.setIfInBounds_toArray])))
        ((refine wpAnyH_ready (rs := [12]) (by kernel_rfl) (by simp) ?_); (refine AllReadyH.cons (o := _) rfl (fun KK hK => ?_) ?_); rotate_left; exact AllReadyH.nil)
        (go_simp; (refine hK.out _ _ (KS _ (by rw [cell_at ((Below.heap_setCell _ _ _ _ hne).trans ((Below.heap_setCell _ _ _ _ hne).trans hr5))]; rfl)) (fun hHeld => ?_); clear hK KK; (try simp only [Act.put]); (try simp only [List.getElem_toArray]); (try simp only [List.getElem_cons_succ]); (try simp only [List.getElem_cons_zero]); (try simp only [List.setIfInBounds_toArray])); (refine wpAnyH_done (by kernel_rfl) ?_ _); go_wp2_with fail; go_meet; case rel => exact ⟨w.heap.size, rfl, Nat.le_refl _, first_set b5, ⟨k5, (Below.heap_setCell _ _ _ _ hne).trans ((Below.heap_setCell _ _ _ _ hne).trans hr5)⟩, (F5.setCell (Or.inr (Nat.le_refl _)) _).setCell (Or.inr (Nat.le_refl _)) _⟩)
      · exact AllReadyH.nil
  case rest =>
    obtain ⟨fb, rfl, hfq, bf, ⟨kc, hrc⟩, hFc⟩ := hcut
    have hDc : DumpAt ab rb f n w0 L wc := DumpAt.read HH.out.fr HOWN.out hrc hFc hrb
    have hdf : DFr rb w wc := DFr.of_fr hFc (fun j hj _ => by simpa using hj)
    have m0 := cell_two0 bf
    have m1 := cell_two1 bf
    have hlf := lt_of_block bf
    have hlc := lt_of_block hrc
    have HD := hide (And.intro hDc hdf)
    clear hrc hFc hDc hdf KS
    by_cases h0 : nd = 0
    · have hg : geR M (dp q) v = [] := by unfold geR; rw [if_neg (by rw [HNO.out.1 h0]; simp)]
      have HG := hide hg
      have e0 : ((nd : Int) != 0) = false := by simp; omega
      clear hg
      go_wp2
      go_end0
      rw [HG.out, List.append_nil]
      exact ⟨rfl, HD.out.1, HD.out.2⟩
    · have hany : anyBelow M 8 v = true := by
        have : anyBelow M 8 v ≠ false := fun e => h0 (HNO.out.2 e)
        simpa using this
      have hg : geR M (dp q) v = dumpN M (dp q) 8 v := by unfold geR; rw [if_pos hany]
      have e0 : ((nd : Int) != 0) = true := by simp; omega
      have HG := hide hg
      have HKP := hide (key_first hv)
      have HC := hide (HN.out wc h0 hany HD.out.1)
      clear hg hany h0
      go_wp2_with fail
      rw [← HKP.out]
      refine HC.out.mono ?_
      rintro e w8 ⟨rfl, hD8, hF8⟩
      have HD8 := hide (And.intro hD8 (HD.out.2.trans hF8))
      clear hD8 hF8
      go_wp2
      go_end0
      rw [HG.out]
      exact ⟨rfl, HD8.out.1, HD8.out.2⟩
end Go.Proofs.YtnapboelfimaaaaDoor
/- dump.node: what is done at each prefix that begins. -/
namespace Go.Proofs.YtnapboelfimaaaaDoor
open Go.RowKit Go.Deep
theorem key_range {K : Nat} {w : World} {b : Nat} {t : TypeId} {fz : Nat × Nat} (h : w.heap[b]? = some (.cells (keyL K).toArray t fz)) : w.rangeAt b 0 (keyL K) := fun j v hj => by
  rw [cell_at h, List.getElem?_toArray, Nat.zero_add]
  exact hj
/-- the boxes that a node's two functions share -/
structure Boxes (nn : NodeD) (K D nb kb db pb rb : Nat) (w : World) : Prop where
  node : w.heap[nb]? = some (.cells #[.int .u16 nn.routes, .int .u16 nn.ways, .int .i64 nn.hops, .int .i64 nn.children] 116 (0, 0))
  key : w.heap[kb]? = some (.cells (keyL K).toArray 96 (0, 0))
  depth : w.heap[db]? = some (.cells #[.int .i64 (D : Int)] 3 (0, 0))
  dump : w.heap[pb]? = some (.cells #[.pointer (some ⟨rb, 0, none⟩)] 88 (0, 0))
theorem Boxes.ext {nn : NodeD} {K D nb kb db pb rb : Nat} {w w' : World} (h : Boxes nn K D nb kb db pb rb w) (hb : Below w.heap.size w w') : Boxes nn K D nb kb db pb rb w' := ⟨block_ext h.node hb, block_ext h.key hb, block_ext h.depth hb, block_ext h.dump hb⟩
theorem Boxes.dfr {nn : NodeD} {K D nb kb db pb rb : Nat} {w w' : World} (h : Boxes nn K D nb kb db pb rb w) (hb : DFr rb w w') (hn : nb ≠ rb ∧ kb ≠ rb ∧ db ≠ rb ∧ pb ≠ rb) : Boxes nn K D nb kb db pb rb w' :=
  ⟨hb.block _ _ h.node hn.1 (fun _ e => by cases e), hb.block _ _ h.key hn.2.1 (fun _ e => by cases e), hb.block _ _ h.depth hn.2.2.1 (fun _ e => by cases e), hb.block _ _ h.dump hn.2.2.2 (fun _ e => by cases e)⟩
set_option maxHeartbeats 2000000 in
set_option maxRecDepth 10000 in
theorem nbegin_any (A : Ar) (M : Tab) (ab wb rb : Nat) (f : Int) (n : Nat) (w0 : World) (hD : DumpOk A ab wb rb w0) (hs : Sane A) (hrb : rb < w0.heap.size) (hfn : famBytes f = n) (d D u x : Nat) (hO : On A M d (8 + 4 * D) u x) (hDm : D ≤ 30) (fu v : Nat) (hfu : fu < 4) (hv : v < 2 ^ fu) (nn : NodeD) (hnn : nn = nodeAt A.word x) (K : Nat) (hK : K = u * 2 ^ (128 - 4 * D)) (nb kb db pb : Nat) (L : List (Nat × Nat × Nat)) (hL : (L ++ gbN M (8 + 4 * D) u fu v).length ≤ 4194304) (w : World) (h : DumpAt ab rb f n w0 L w) (hB : Boxes nn K D nb kb db pb rb w) :
    Calls Tryd.prog 51 #[.int .i64 (fu : Int), .int .i64 (v : Int), .pointer (some ⟨nb, 0, none⟩), .pointer (some ⟨kb, 0, none⟩), .pointer (some ⟨db, 0, none⟩), .pointer (some ⟨pb, 0, none⟩)] w fun e w' => e = .returned (.tuple #[]) ∧ DumpAt ab rb f n w0 (L ++ gbN M (8 + 4 * D) u fu v) w' ∧ DFr rb w w' := by
  have hok : nn.ok := by rw [hnn]; exact hO.ok
  have hv8 : v < 8 := Nat.lt_of_lt_of_le hv (Nat.pow_le_pow_right (n := 2) (by decide) (by omega) : 2 ^ fu ≤ 2 ^ 3)
  obtain ⟨k, hk⟩ : ∃ k, k = 2 ^ fu - 1 + v := ⟨_, rfl⟩
  have hk15 : k ≤ 15 := by
    have h1 : 2 ^ fu ≤ 2 ^ 3 := Nat.pow_le_pow_right (by decide) (by omega)
    rw [hk]
    omega
  have hbit : nn.routes.testBit k = (M (8 + 4 * D + fu) (u * 2 ^ fu + v)).isSome := by
    rw [hnn, hk]
    exact hO.rep.node.route fu v (by omega) hv
  obtain ⟨f4, hf4⟩ : ∃ f4, f4 = v * 2 ^ (4 - fu) := ⟨_, rfl⟩
  have hf16 : f4 < 16 := by
    rw [hf4]
    have h1 : v * 2 ^ (4 - fu) < 2 ^ fu * 2 ^ (4 - fu) := Nat.mul_lt_mul_of_pos_right hv (Nat.two_pow_pos _)
    rw [← Nat.pow_add, show fu + (4 - fu) = 4 by omega] at h1
    exact h1
  have ESH : ((v : Int) * 2 ^ (4 - fu)) = (f4 : Int) := by rw [hf4]; norm_cast
  obtain ⟨m0, m1, m2, m3, _, _, _, _⟩ := cells4 hB.node
  have hln := lt_of_block hB.node
  have HNO := hide (numberOf_any fu v w (by omega) (by omega))
  rw [← hk] at HNO
  have HH := hide h
  have HB := hide hB
  have HK := hide hk
  have HF := hide hf4
  have HNN := hide hnn
  have HBIT := hide hbit
  have HKK := hide hK
  have HOO := hide hO
  have HL := hide hL
  have HSH := hide ESH
  clear h hB hk hf4 hnn hbit hK ESH hO hL
  go_enter Tryd.func51, Tryd.ntmps51
  go_wp2_with fail
  refine HNO.out.mono ?_
  rintro e w1 ⟨rfl, rfl⟩
  go_wp2_with fail
  refine (hasRoute_any nn k _ hok hk15).mono ?_
  rintro e wq ⟨rfl, hb6⟩
  rw [HBIT.out]
  have HD6 := hide (And.intro (HH.out.ext hb6) (And.intro (DFr.ext hb6 : DFr rb w1 wq) (HB.out.ext hb6)))
  clear hb6
  cases hM : M (8 + 4 * D + fu) (u * 2 ^ fu + v) with
  | none =>
    have HG := hide (gb_none hM)
    clear hM
    go_wp2
    go_end0
    rw [HG.out, List.append_nil]
    exact ⟨rfl, HD6.out.1, HD6.out.2.1⟩
  | some hop =>
    have HG := hide (gb_some hM)
    have HM := hide hM
    clear hM
    have hbk := HD6.out.2.2.key
    have hbd := HD6.out.2.2.depth
    have KS : ∀ w', Below wq.heap.size wq w' → (fun w' : World => w'.rangeAt kb 0 (keyL K) ∧ w'.cell? ⟨db, 0, none⟩ = some (.int .i64 (D : Int))) w' := fun w' hf => ⟨key_range (block_ext hbk hf), by rw [cell_at (block_ext hbd hf)]; rfl⟩
    simp only [] at KS
    go_wp2_with fail
    obtain ⟨K2, hK2⟩ : ∃ K2, K2 = withK K D f4 := ⟨_, rfl⟩
    obtain ⟨l, hl⟩ : ∃ l, l = 8 + 4 * D + fu := ⟨_, rfl⟩
    have E4 : IntKind.i64.wrap (4 - (fu : Int)) = ((4 - fu : Nat) : Int) := by rw [IntKind.wrap_i64]; omega
    obtain ⟨d4, hd4⟩ : ∃ d4, d4 = 4 * D := ⟨_, rfl⟩
    obtain ⟨d8, hd8⟩ : ∃ d8, d8 = 8 + d4 := ⟨_, rfl⟩
    have ESW : IntKind.i64.wrap ((v : Int) * 2 ^ (4 - fu)) = (f4 : Int) := by rw [HSH.out, IntKind.wrap_i64]; omega
    have EL1 : IntKind.i64.wrap ((D : Int) * 4) = (d4 : Int) := by rw [IntKind.wrap_i64]; omega
    have EL2 : IntKind.i64.wrap (8 + (d4 : Int)) = (d8 : Int) := by rw [IntKind.wrap_i64]; omega
    have EL3 : IntKind.i64.wrap ((d8 : Int) + (fu : Int)) = (l : Int) := by rw [IntKind.wrap_i64]; omega
    have HWI := hide (fun (w : World) => with_any K D f4 w (by omega) hf16 (by rw [HKK.out]; exact key_zero D u))
    rw [← hK2] at HWI
    have HK2 := hide hK2
    have HLL := hide (show l = 8 + 4 * D + fu from hl)
    clear hK2 hl hd4 hd8
    go_cut [9] (fun v wc => ∃ qb, v = .pointer (some ⟨qb, 0, none⟩) ∧ wq.heap.size ≤ qb ∧ wc.heap[qb]? = some (.cells (prefL K2 l).toArray 98 (0, 0)) ∧ Below wq.heap.size wq wc)
    case first =>
      refine wp_region_held_drew (S := (fun w' : World => w'.rangeAt kb 0 (keyL K) ∧ w'.cell? ⟨db, 0, none⟩ = some (.int .i64 (D : Int)))) (by kernel_rfl) (KS _ (drew_ext wq)) (fun hHeld => ?_)
      (refine wpAnyH_take (i := 0) (oi := _) (v := _) rfl (by kernel_rfl) (by kernel_rfl) (by kernel_rfl) (fun _ _ _ h => h) (yieldsIf_load_mid (by rfl) _ _ rfl _ _ rfl (keyL K) _ (fun w hSw => hSw.1) Tryd.underlying96 rfl (key_info K)) (by assumption) ?_; (try simp only [Act.put]); (try simp only [List.getElem_toArray]); (try simp only [List.getElem_cons_succ]); (try simp only [List.getElem_cons_zero]); (try simp only [List.setIfInBounds_toArray]))
      (refine wpAnyH_take (i := 1) (oi := _) (v := ?_) rfl (by kernel_rfl) (by kernel_rfl) (by kernel_rfl) (fun _ _ _ h => h) (Or.inl ⟨by rfl, ?_⟩) (by assumption) ?_; rotate_left; (intro w hSw; (try dsimp only at hSw); go_simp; try with_reducible rfl); (try simp only [Act.put]); (try simp only [List.getElem_toArray]); (try simp only [List.getElem_cons_succ]); (try simp only [List.getElem_cons_zero]); (try simp only [List.setIfInBounds_toArray]))
      (refine wpAnyH_take (i := 2) (oi := _) (v := ?_) rfl (by kernel_rfl) (by kernel_rfl) (by kernel_rfl) (fun _ _ _ h => h) (Or.inl ⟨by rfl, ?_⟩) (by assumption) ?_; rotate_left; (intro w hSw; (try dsimp only at hSw); go_simp; try with_reducible rfl); (try simp only [Act.put]); (try simp only [List.getElem_toArray]); (try simp only [List.getElem_cons_succ]); (try simp only [List.getElem_cons_zero]); (try simp only [List.setIfInBounds_toArray]))
      (refine wpAnyH_take (i := 3) (oi := _) (v := ?_) rfl (by kernel_rfl) (by kernel_rfl) (by kernel_rfl) (fun _ _ _ h => h) (Or.inl ⟨by rfl, ?_⟩) (by assumption) ?_; rotate_left; (intro w hSw; (try dsimp only at hSw); go_simp; try with_reducible rfl); (try simp only [Act.put]); (try simp only [List.getElem_toArray]); (try simp only [List.getElem_cons_succ]); (try simp only [List.getElem_cons_zero]); (try simp only [List.setIfInBounds_toArray]))
      (refine wpAnyH_take (i := 4) (oi := _) (v := ?_) rfl (by kernel_rfl) (by kernel_rfl) (by kernel_rfl) (fun _ _ _ h => h) (Or.inl ⟨by rfl, ?_⟩) (by assumption) ?_; rotate_left; (intro w hSw; (try dsimp only at hSw); go_simp; try with_reducible rfl); (try simp only [Act.put]); (try simp only [List.getElem_toArray]); (try simp only [List.getElem_cons_succ]); (try simp only [List.getElem_cons_zero]); (try simp only [List.setIfInBounds_toArray]))
      (refine wpAnyH_take (i := 5) (oi := _) (v := ?_) rfl (by kernel_rfl) (by kernel_rfl) (by kernel_rfl) (fun _ _ _ h => h) (Or.inl ⟨by rfl, ?_⟩) (by assumption) ?_; rotate_left; (intro w hSw; (try dsimp only at hSw); go_simp; try with_reducible rfl); (try simp only [Act.put]); (try simp only [List.getElem_toArray]); (try simp only [List.getElem_cons_succ]); (try simp only [List.getElem_cons_zero]); (try simp only [List.setIfInBounds_toArray]))
      (refine wpAnyH_take (i := 7) (oi := _) (v := ?_) rfl (by kernel_rfl) (by kernel_rfl) (by kernel_rfl) (fun _ _ _ h => h) (Or.inl ⟨by rfl, ?_⟩) (by assumption) ?_; rotate_left; (intro w hSw; (try dsimp only at hSw); go_simp; try with_reducible rfl); (try simp only [Act.put]); (try simp only [List.getElem_toArray]); (try simp only [List.getElem_cons_succ]); (try simp only [List.getElem_cons_zero]); (try simp only [List.setIfInBounds_toArray]))
      (refine wpAnyH_take (i := 8) (oi := _) (v := ?_) rfl (by kernel_rfl) (by kernel_rfl) (by kernel_rfl) (fun _ _ _ h => h) (Or.inl ⟨by rfl, ?_⟩) (by assumption) ?_; rotate_left; (intro w hSw; (try dsimp only at hSw); go_simp; try with_reducible rfl); (try simp only [Act.put]); (try simp only [List.getElem_toArray]); (try simp only [List.getElem_cons_succ]); (try simp only [List.getElem_cons_zero]); (try simp only [List.setIfInBounds_toArray]))
      (refine wpAnyH_take (i := 9) (oi := _) (v := ?_) rfl (by kernel_rfl) (by kernel_rfl) (by kernel_rfl) (fun _ _ _ h => h) (Or.inl ⟨by rfl, ?_⟩) (by assumption) ?_; rotate_left; (intro w hSw; (try dsimp only at hSw); go_simp; try with_reducible rfl); (try simp only [Act.put]); (try simp only [List.getElem_toArray]); (try simp only [List.getElem_cons_succ]); (try simp only [List.getElem_cons_zero]); (try simp only [List.setIfInBounds_toArray]))
      (refine wpAnyH_take (i := 10) (oi := _) (v := ?_) rfl (by kernel_rfl) (by kernel_rfl) (by kernel_rfl) (fun _ _ _ h => h) (Or.inl ⟨by rfl, ?_⟩) (by assumption) ?_; rotate_left; (intro w hSw; (try dsimp only at hSw); go_simp; try with_reducible rfl); (try simp only [Act.put]); (try simp only [List.getElem_toArray]); (try simp only [List.getElem_cons_succ]); (try simp only [List.getElem_cons_zero]); (try simp only [List.setIfInBounds_toArray]))
      (refine wpAnyH_take (i := 11) (oi := _) (v := ?_) rfl (by kernel_rfl) (by kernel_rfl) (by kernel_rfl) (fun _ _ _ h => h) (Or.inl ⟨by rfl, ?_⟩) (by assumption) ?_; rotate_left; (intro w hSw; (try dsimp only at hSw); go_simp; try with_reducible rfl); (try simp only [Act.put]); (try simp only [List.getElem_toArray]); (try simp only [List.getElem_cons_succ]); (try simp only [List.getElem_cons_zero]); (try simp only [List.setIfInBounds_toArray]))
      (refine wpAnyH_ready (rs := [6, 13]) (by kernel_rfl) (by simp) ?_)
      (refine AllReadyH.cons (o := _) rfl (fun KK hK => ?_) ?_)
      · go_simp
        go_at_call 54
        refine (HWI.out _).mono ?_
        rintro e w5 ⟨rfl, hb5⟩
        have S5 := (ext_trans (drew_ext wq) hb5 : Below wq.heap.size wq w5)
        have z5 := S5.size
        clear hb5
        go_wp2_with fail
        (refine hK.out _ _ (KS _ S5) (fun hHeld => ?_); clear hK KK; (try simp only [Act.put]); (try simp only [List.getElem_toArray]); (try simp only [List.getElem_cons_succ]); (try simp only [List.getElem_cons_zero]); (try simp only [List.setIfInBounds_toArray]))
        (refine wpAnyH_take (i := 12) (oi := _) (v := _) rfl (by kernel_rfl) (by kernel_rfl) (by kernel_rfl) (fun _ _ _ h => h) (yieldsIf_build_pref (by rfl) _ _ rfl K2 l rfl rfl) (by assumption) ?_; (try simp only [Act.put]); (try simp only [List.getElem_toArray]); (try simp only [List.getElem_cons_succ]); (try simp only [List.getElem_cons_zero]); (try simp only [List.setIfInBounds_toArray]))
        ((refine wpAnyH_ready (rs := [13]) (by kernel_rfl) (by simp) ?_); (refine AllReadyH.cons (o := _) rfl (fun KK hK => ?_) ?_); rotate_left; exact AllReadyH.nil)
        go_simp
        (refine hK.out _ _ (KS _ (ext_trans S5 (ext_alloc _ _))) (fun hHeld => ?_); clear hK KK; (try simp only [Act.put]); (try simp only [List.getElem_toArray]); (try simp only [List.getElem_cons_succ]); (try simp only [List.getElem_cons_zero]); (try simp only [List.setIfInBounds_toArray]))
        ((refine wpAnyH_ready (rs := [14]) (by kernel_rfl) (by simp) ?_); (refine AllReadyH.cons (o := _) rfl (fun KK hK => ?_) ?_); rotate_left; exact AllReadyH.nil)
        rw [if_pos (by rfl)]
        refine wp_store_whole 98 _ _ rfl w5.heap.size (prefL K2 l) rfl rfl 98 _ (heap_alloc_new _ _) (pref_info K2 l) rfl (pref_one K2 l) ?_
        intro w6 b6 hF6
        have S6 := own_fr (ext_trans S5 (ext_alloc _ _)) hF6 z5
        (refine hK.out _ _ (KS _ S6) (fun hHeld => ?_); clear hK KK; (try simp only [Act.put]); (try simp only [List.getElem_toArray]); (try simp only [List.getElem_cons_succ]); (try simp only [List.getElem_cons_zero]); (try simp only [List.setIfInBounds_toArray]))
        (refine wpAnyH_done (by kernel_rfl) ?_ _)
        go_wp2_with fail
        go_meet
        case rel => exact ⟨w5.heap.size, rfl, z5, b6, S6⟩
      · (refine AllReadyH.cons (o := _) rfl (fun KK hK => ?_) ?_)
        · go_simp
          (refine hK.out _ _ (KS _ (Below.drew (ext_alloc _ _))) (fun hHeld => ?_); clear hK KK; (try simp only [Act.put]); (try simp only [List.getElem_toArray]); (try simp only [List.getElem_cons_succ]); (try simp only [List.getElem_cons_zero]); (try simp only [List.setIfInBounds_toArray]))
          ((refine wpAnyH_ready (rs := [6]) (by kernel_rfl) (by simp) ?_); (refine AllReadyH.cons (o := _) rfl (fun KK hK => ?_) ?_); rotate_left; exact AllReadyH.nil)
          go_simp
          go_at_call 54
          refine (HWI.out _).mono ?_
          rintro e w5 ⟨rfl, hb5⟩
          have S5 := (ext_trans (Below.drew (ext_alloc _ _)) hb5 : Below wq.heap.size wq w5)
          have b5 := new_drew hb5
          clear hb5
          go_wp2_with fail
          (refine hK.out _ _ (KS _ S5) (fun hHeld => ?_); clear hK KK; (try simp only [Act.put]); (try simp only [List.getElem_toArray]); (try simp only [List.getElem_cons_succ]); (try simp only [List.getElem_cons_zero]); (try simp only [List.setIfInBounds_toArray]))
          (refine wpAnyH_take (i := 12) (oi := _) (v := _) rfl (by kernel_rfl) (by kernel_rfl) (by kernel_rfl) (fun _ _ _ h => h) (yieldsIf_build_pref (by rfl) _ _ rfl K2 l rfl rfl) (by assumption) ?_; (try simp only [Act.put]); (try simp only [List.getElem_toArray]); (try simp only [List.getElem_cons_succ]); (try simp only [List.getElem_cons_zero]); (try simp only [List.setIfInBounds_toArray]))
          ((refine wpAnyH_ready (rs := [14]) (by kernel_rfl) (by simp) ?_); (refine AllReadyH.cons (o := _) rfl (fun KK hK => ?_) ?_); rotate_left; exact AllReadyH.nil)
          rw [if_pos (by rfl)]
          refine wp_store_whole 98 _ _ rfl wq.heap.size (prefL K2 l) rfl rfl 98 _ b5 (pref_info K2 l) rfl (pref_one K2 l) ?_
          intro w6 b6 hF6
          have S6 := own_fr S5 hF6 (Nat.le_refl _)
          (refine hK.out _ _ (KS _ S6) (fun hHeld => ?_); clear hK KK; (try simp only [Act.put]); (try simp only [List.getElem_toArray]); (try simp only [List.getElem_cons_succ]); (try simp only [List.getElem_cons_zero]); (try simp only [List.setIfInBounds_toArray]))
          (refine wpAnyH_done (by kernel_rfl) ?_ _)
          go_wp2_with fail
          go_meet
          case rel => exact ⟨wq.heap.size, rfl, Nat.le_refl _, b6, S6⟩
        · exact AllReadyH.nil
    case rest =>
      obtain ⟨qb, rfl, hpq, bp, hBc⟩ := hcut
      have hDc := HD6.out.1.ext hBc
      have hFc : DFr rb w1 wc := HD6.out.2.1.trans (DFr.ext hBc)
      have hBx := HD6.out.2.2.ext hBc
      obtain ⟨g0, g1, g2, g3, _, _, _, _⟩ := cells4 hBx.node
      have hln := lt_of_block hBx.node
      have HOP := HM.out
      have hpp : A.word (nn.hops + ones k nn.routes) = hop := by
        rw [HNN.out, HK.out]
        exact HOO.out.rep.node.hop fu v hop (by omega) hv HOP
      have hpin : nn.hops + ones k nn.routes < A.size := by
        have hbit := HBIT.out
        rw [HOP, HNN.out] at hbit
        rw [HNN.out]
        exact (HOO.out.hop_in (i := k) (by omega) hbit).2
      have KS3 : ∀ w', DFr rb wc w' → (fun w' : World => w'.cell? ⟨pb, 0, none⟩ = some (.pointer (some ⟨rb, 0, none⟩)) ∧ w'.rangeAt qb 0 (prefL K2 l) ∧ w'.cell? ⟨nb, 0, none⟩ = some (.int .u16 nn.routes) ∧ w'.cell? ⟨nb, 1, none⟩ = some (.int .u16 nn.ways) ∧ w'.cell? ⟨nb, 2, none⟩ = some (.int .i64 nn.hops) ∧ w'.cell? ⟨nb, 3, none⟩ = some (.int .i64 nn.children)) w' := fun w' hf => by
        obtain ⟨kc, rc, hrc, _⟩ := hDc.blk
        have b1 := hf.block _ _ hBx.dump (ty_ne hBx.dump hrc (by decide)) (fun _ e => by cases e)
        have b2 := hf.block _ _ bp (ty_ne bp hrc (by decide)) (fun _ e => by cases e)
        have b3 := hf.block _ _ hBx.node (ty_ne hBx.node hrc (by decide)) (fun _ e => by cases e)
        obtain ⟨c0, c1, c2, c3, _, _, _, _⟩ := cells4 b3
        exact ⟨by rw [cell_at b1]; rfl, range_whole K2 l b2, c0, c1, c2, c3⟩
      simp only [] at KS3
      have HC := hide (And.intro hDc (And.intro hFc hBx))
      have HP := hide (And.intro hpin hpp)
      clear KS hbk hbd hDc hFc hBx HOP hpp hpin hBc ESW EL1 EL2 EL3 E4
      go_wp2_with fail
      refine wp_region_held_drew (S := (fun w' : World => w'.cell? ⟨pb, 0, none⟩ = some (.pointer (some ⟨rb, 0, none⟩)) ∧ w'.rangeAt qb 0 (prefL K2 l) ∧ w'.cell? ⟨nb, 0, none⟩ = some (.int .u16 nn.routes) ∧ w'.cell? ⟨nb, 1, none⟩ = some (.int .u16 nn.ways) ∧ w'.cell? ⟨nb, 2, none⟩ = some (.int .i64 nn.hops) ∧ w'.cell? ⟨nb, 3, none⟩ = some (.int .i64 nn.children))) (by kernel_rfl) (KS3 _ (DFr.ext (drew_ext wc))) (fun hHeld => ?_)
      (refine wpAnyH_take (i := 0) (oi := _) (v := ?_) rfl (by kernel_rfl) (by kernel_rfl) (by kernel_rfl) (fun _ _ _ h => h) (Or.inl ⟨by rfl, ?_⟩) (by assumption) ?_; rotate_left; (intro w hSw; (try dsimp only at hSw); go_simp; try with_reducible rfl); (try simp only [Act.put]); (try simp only [List.getElem_toArray]); (try simp only [List.getElem_cons_succ]); (try simp only [List.getElem_cons_zero]); (try simp only [List.setIfInBounds_toArray]))
      (refine wpAnyH_take (i := 1) (oi := _) (v := _) rfl (by kernel_rfl) (by kernel_rfl) (by kernel_rfl) (fun _ _ _ h => h) (yieldsIf_load_mid (by rfl) _ _ rfl _ _ rfl (prefL K2 l) _ (fun w hSw => hSw.2.1) Tryd.underlying98 rfl (pref_info K2 l)) (by assumption) ?_; (try simp only [Act.put]); (try simp only [List.getElem_toArray]); (try simp only [List.getElem_cons_succ]); (try simp only [List.getElem_cons_zero]); (try simp only [List.setIfInBounds_toArray]))
      (refine wpAnyH_take (i := 2) (oi := _) (v := ?_) rfl (by kernel_rfl) (by kernel_rfl) (by kernel_rfl) (fun _ _ _ h => h) (Or.inl ⟨by rfl, ?_⟩) (by assumption) ?_; rotate_left; (intro w hSw; (try dsimp only at hSw); go_simp; try with_reducible rfl); (try simp only [Act.put]); (try simp only [List.getElem_toArray]); (try simp only [List.getElem_cons_succ]); (try simp only [List.getElem_cons_zero]); (try simp only [List.setIfInBounds_toArray]))
      (refine wpAnyH_take (i := 3) (oi := _) (v := ?_) rfl (by kernel_rfl) (by kernel_rfl) (by kernel_rfl) (fun _ _ _ h => h) (Or.inl ⟨by rfl, ?_⟩) (by assumption) ?_; rotate_left; (intro w hSw; (try dsimp only at hSw); go_simp; try with_reducible rfl); (try simp only [Act.put]); (try simp only [List.getElem_toArray]); (try simp only [List.getElem_cons_succ]); (try simp only [List.getElem_cons_zero]); (try simp only [List.setIfInBounds_toArray]))
      ((refine wpAnyH_ready (rs := [4]) (by kernel_rfl) (by simp) ?_); (refine AllReadyH.cons (o := _) rfl (fun KK hK => ?_) ?_); rotate_left; exact AllReadyH.nil)
      go_simp
      go_at_call 55
      refine (hopPlace_any nn k _ hok hk15).mono ?_
      rintro e w5 ⟨rfl, hb5⟩
      have S5 := (ext_trans (drew_ext wc) hb5 : Below wc.heap.size wc w5)
      clear hb5
      go_wp2_with fail
      (refine hK.out _ _ (KS3 _ (DFr.ext S5)) (fun hHeld => ?_); clear hK KK; (try simp only [Act.put]); (try simp only [List.getElem_toArray]); (try simp only [List.getElem_cons_succ]); (try simp only [List.getElem_cons_zero]); (try simp only [List.setIfInBounds_toArray]))
      ((refine wpAnyH_ready (rs := [5]) (by kernel_rfl) (by simp) ?_); (refine AllReadyH.cons (o := _) rfl (fun KK hK => ?_) ?_); rotate_left; exact AllReadyH.nil)
      go_simp
      go_at_call 43
      refine (tell_any A ab wb rb f n w0 hD hs hrb hfn K2 l (nn.hops + ones k nn.routes) hop _ rfl HP.out.1 HP.out.2.symm L (by have := HL.out; rw [HG.out, List.length_append] at this; exact this) _ (HC.out.1.ext S5) (8 + 4 * D + fu, u * 2 ^ fu + v, hop) ?_).mono ?_
      · unfold rdOf
        rw [← beg_key hDm (by omega), HK2.out, HKK.out, HF.out, HLL.out]
      rintro e w6 ⟨rfl, hD6, hF6⟩
      have F6 : DFr rb wc w6 := (DFr.ext S5).trans hF6
      have HE := hide (And.intro hD6 (HC.out.2.1.trans F6))
      clear hD6 hF6
      go_wp2_with fail
      (refine hK.out _ _ (KS3 _ F6) (fun hHeld => ?_); clear hK KK; (try simp only [Act.put]); (try simp only [List.getElem_toArray]); (try simp only [List.getElem_cons_succ]); (try simp only [List.getElem_cons_zero]); (try simp only [List.setIfInBounds_toArray]))
      (refine wpAnyH_done (by kernel_rfl) ?_ _)
      go_wp2_with fail
      go_end0
      rw [HG.out]
      exact ⟨rfl, HE.out.1, HE.out.2⟩
end Go.Proofs.YtnapboelfimaaaaDoor
