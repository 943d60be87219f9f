/- FouA, FouB: parts of the proof, one behind the other. -/
import Derived.Test.YtnapboelfimaaaaDoorFo00
import Derived.BigQuiet
import Derived.Deep.QuietTactic
/- Of the laws' own functions: bit, fits. -/
namespace Go.Proofs.YtnapboelfimaaaaDoor
open Go.RowKit Go.Deep
theorem i64_and1 (n : Int) : bits .and .i64 n 1 = n % 2 := by
  have h1 : (BitVec.ofInt 64 1).toNat = 2 ^ 1 - 1 := by decide
  have key : (BitVec.ofInt 64 n &&& BitVec.ofInt 64 1).toNat = (n % ((2 ^ 64 : Nat) : Int)).toNat % 2 ^ 1 := by
    rw [BitVec.toNat_and, BitVec.toNat_ofInt, h1, Nat.and_two_pow_sub_one_eq_mod]
  show IntKind.i64.wrap ((BitVec.ofInt 64 n &&& BitVec.ofInt 64 1).toNat : Nat) = n % 2
  rw [key, IntKind.wrap_i64]
  omega
set_option maxHeartbeats 1000000 in
set_option maxRecDepth 10000 in
theorem bit_any (s : ByteArray) (n k K : Nat) (w : World) (hs : s.size = n) (hn : n ≤ 16) (hk : k < 8 * n) (h : ∀ i, i < n → sbyte s i = kbyte K i) :
    Calls Tryd.prog 22 #[.string s, .int .i64 (k : Int)] w fun e w' => e = .returned (.int .i64 (kb K k : Nat)) ∧ w' = w := by
  have hi : k / 8 < s.size := by omega
  have hi' : (k : Int) / 8 < s.size := by omega
  have hg := sbyte_get hi
  rw [h (k / 8) (by omega)] at hg
  have hb := kb_byte (K := K) (show k < 136 by omega)
  have hk' : (k : Int) < 128 := by omega
  have HG := hide hg
  have HB := hide hb
  clear hg hb h
  go_enter Tryd.func22, Tryd.ntmps22
  go_wp2
  go_ret
  refine ⟨ret_int ?_, rfl⟩
  have hx : s[k / 8].toNat < 256 := by rw [← HG.out]; exact kbyte_lt _ _
  have hy : s[k / 8].toNat / 2 ^ (7 - k % 8) < 256 := Nat.lt_of_le_of_lt (Nat.div_le_self _ _) hx
  have e1 : ((s[k / 8].toNat : Int) / 2 ^ (7 - k % 8)) = ((s[k / 8].toNat / 2 ^ (7 - k % 8) : Nat) : Int) := by norm_cast
  rw [e1, ← HG.out] at *
  have hb := HB.out
  generalize kbyte K (k / 8) / 2 ^ (7 - k % 8) = y at *
  rw [IntWalk.wrap64_in _ ⟨by omega, by omega⟩, i64_and1, ← hb]
  omega
set_option maxHeartbeats 1000000 in
set_option maxRecDepth 10000 in
/-- do the first bits of two addresses agree? -/
theorem fits_any (s1 s2 : ByteArray) (n l A B : Nat) (hop : Int) (w : World) (h1 : s1.size = n) (h2 : s2.size = n) (hn : n ≤ 16) (hl : l ≤ 8 * n) (hA : A < 2 ^ 136) (hB : B < 2 ^ 136) (hA' : ∀ i, i < n → sbyte s1 i = kbyte A i) (hB' : ∀ i, i < n → sbyte s2 i = kbyte B i) :
    Calls Tryd.prog 23 #[.agg #[.string s1, .int .i64 (l : Int), .int .i64 hop], .string s2] w fun e w' => e = .returned (.bool (decide (fitK A l = fitK B l))) ∧ Below w.heap.size w w' := by
  have hn' : (n : Int) ≤ 16 := by omega
  have hl' : (l : Int) ≤ 8 * n := by omega
  have hnl : ¬ (8 * (n : Int) < l) := by omega
  obtain ⟨rb, hrb⟩ : ∃ rb, rb = w.heap.size := ⟨_, rfl⟩
  obtain ⟨wx, hwx⟩ : ∃ wx, wx = w.alloc (.cells #[.string s1, .int .i64 (l : Int), .int .i64 hop] 47) := ⟨_, rfl⟩
  have hbx : Below w.heap.size w wx := by rw [hwx]; exact ext_alloc _ _
  have bz : wx.heap[rb]? = some (.cells #[.string s1, .int .i64 (l : Int), .int .i64 hop] 47 (0, 0)) := by rw [hwx, hrb]; exact heap_alloc_new _ _
  obtain ⟨c0, c1, c2⟩ := cells3 bz
  have hlz := lt_of_block bz
  have HBX := hide hbx
  have HWX := hide hwx
  have HRB := hide hrb
  have HBA := hide (fun (k : Nat) (w : World) (hk : k < 8 * n) => bit_any s1 n k A w h1 hn hk hA')
  have HBB := hide (fun (k : Nat) (w : World) (hk : k < 8 * n) => bit_any s2 n k B w h2 hn hk hB')
  have HZ := hide (show fitK A 0 = fitK B 0 by rw [fit_zero hA, fit_zero hB])
  clear hbx hwx bz hrb hA' hB' hA hB
  go_enter Tryd.func23, Tryd.ntmps23
  go_wp2
  rw [← HWX.out, ← HRB.out]
  go_loopw [5] (fun v wr => ∃ i : Nat, v = .int .i64 (i : Int) ∧ i ≤ l ∧ fitK A i = fitK B i ∧ wr = wx) (fun v _ => l - (intOf v).toNat)
  case atStart => exact ⟨0, rfl, Nat.zero_le _, HZ.out, rfl⟩
  case round =>
    obtain ⟨i, rfl, hi, hf, rfl⟩ := hrel
    have HF := hide hf
    clear hf
    by_cases hil : i < l
    · have hil' : (i : Int) < l := by omega
      go_wp2_with fail
      refine (HBA.out i _ (by omega)).mono ?_
      rintro e w1 ⟨rfl, rfl⟩
      go_wp2_with fail
      refine (HBB.out i _ (by omega)).mono ?_
      rintro e w2 ⟨rfl, rfl⟩
      by_cases hb : kb A i = kb B i
      · have eb : ((kb A i : Int) != (kb B i : Int)) = false := by rw [hb]; simp
        have HN := hide (show fitK A (i + 1) = fitK B (i + 1) by rw [fit_succ (by omega), fit_succ (by omega), HF.out, hb])
        clear hb
        go_wp2
        exact ⟨⟨i + 1, by simp, by omega, HN.out, trivial⟩, by simp [intOf]; omega⟩
      · have eb : ((kb A i : Int) != (kb B i : Int)) = true := by simp; omega
        have HN := hide (fit_bit hil (by omega) hb)
        clear hb
        go_wp2
        go_ret
        exact ⟨by rw [decide_eq_false HN.out]; rfl, HBX.out⟩
    · obtain rfl : i = l := by omega
      go_wp2
      go_ret
      exact ⟨by rw [decide_eq_true HF.out]; rfl, HBX.out⟩
end Go.Proofs.YtnapboelfimaaaaDoor
/- found: every route of a dump, and the lookup. -/
namespace Go.Proofs.YtnapboelfimaaaaDoor
open Go.RowKit Go.Deep
/-- what is known of each route of a dump -/
structure RtOk (M : Tab) (n : Nat) (x : Nat × Nat × Nat) : Prop where
  len : x.1 ≤ 8 * n
  val : x.2.1 < 2 ^ x.1
  hop : x.2.2 ≤ 65535
  tab : M x.1 x.2.1 = some x.2.2
theorem rt_ok {S : St} (h : S.ok) {f : Int} (hf : famBytes f ≠ 0) {x : Nat × Nat × Nat} (hx : x ∈ dumpR (S.M (fam f)) (dp (fam f))) : RtOk (S.M (fam f)) (famBytes f) x := by
  have hT := h.tab (fam f)
  have hm := (mem_dumpR hT (dp_le _) x).1 hx
  have hb := fam_bits hf
  have hl := hT.len x.1 x.2.1 (by rw [hm]; rfl)
  have hv := hT.val x.1 x.2.1 (by rw [hm]; rfl)
  exact ⟨by omega, hv, h.hops _ _ _ _ hm, hm⟩
/-- the longest route so far that fits -/
def Best (D : List (Nat × Nat × Nat)) (K i : Nat) (best : Int) : Prop :=
  (best = -1 ∧ ∀ j x, j < i → D[j]? = some x → fitK K x.1 ≠ x.2.1) ∨ ∃ j x, j < i ∧ D[j]? = some x ∧ best = (j : Int) ∧ fitK K x.1 = x.2.1 ∧ ∀ j' y, j' < i → D[j']? = some y → fitK K y.1 = y.2.1 → y.1 ≤ x.1
theorem best_no {D : List (Nat × Nat × Nat)} {K i : Nat} {best : Int} {x : Nat × Nat × Nat} (h : Best D K i best) (hx : D[i]? = some x) (hn : fitK K x.1 ≠ x.2.1) : Best D K (i + 1) best := by
  rcases h with ⟨h1, h2⟩ | ⟨j, y, h1, h2, h3, h4, h5⟩
  · refine Or.inl ⟨h1, fun j y hj hy => ?_⟩
    by_cases e : j = i
    · subst e; rw [hx] at hy; cases hy; exact hn
    · exact h2 j y (by omega) hy
  · refine Or.inr ⟨j, y, by omega, h2, h3, h4, fun j' z hj hz hf => ?_⟩
    by_cases e : j' = i
    · subst e; rw [hx] at hz; cases hz; exact absurd hf hn
    · exact h5 j' z (by omega) hz hf
theorem best_yes {D : List (Nat × Nat × Nat)} {K i : Nat} {best : Int} {x : Nat × Nat × Nat} (h : Best D K i best) (hx : D[i]? = some x) (hf : fitK K x.1 = x.2.1) (hb : best = -1 ∨ ∀ (j : Nat) (y : Nat × Nat × Nat), best = (j : Int) → D[j]? = some y → y.1 < x.1) : Best D K (i + 1) (i : Int) := by
  refine Or.inr ⟨i, x, by omega, hx, rfl, hf, fun j' z hj hz hz' => ?_⟩
  by_cases e : j' = i
  · subst e; rw [hx] at hz; cases hz; exact Nat.le_refl _
  · rcases h with ⟨h1, h2⟩ | ⟨j, y, h1, h2, h3, h4, h5⟩
    · exact absurd hz' (h2 j' z (by omega) hz)
    · have h6 := h5 j' z (by omega) hz hz'
      rcases hb with hb | hb
      · omega
      · have := hb j y h3 h2; omega
theorem best_keep {D : List (Nat × Nat × Nat)} {K i j : Nat} {x y : Nat × Nat × Nat} (h : Best D K i (j : Int)) (hx : D[i]? = some x) (hy : D[j]? = some y) (hl : x.1 ≤ y.1) : Best D K (i + 1) (j : Int) := by
  rcases h with ⟨h1, _⟩ | ⟨j0, y0, h1, h2, h3, h4, h5⟩
  · omega
  · obtain rfl : j = j0 := by omega
    rw [hy] at h2
    cases h2
    refine Or.inr ⟨j, y, by omega, hy, rfl, h4, fun j' z hj hz hz' => ?_⟩
    by_cases e : j' = i
    · subst e; rw [hx] at hz; cases hz; exact hl
    · exact h5 j' z (by omega) hz hz'
/-- what a lookup finds is the longest of the dump that fits -/
theorem best_found {S : St} (h : S.ok) {q : Bool} {K : Nat} {best : Int} (hb : Best (dumpR (S.M q) (dp q)) K (dumpR (S.M q) (dp q)).length best) :
    (best = -1 ∧ hopN S.M q K = none) ∨ ∃ (j : Nat) (x : Nat × Nat × Nat), best = (j : Int) ∧ (dumpR (S.M q) (dp q))[j]? = some x ∧ hopN S.M q K = some x.2.2 := by
  have hT := h.tab q
  have mem := fun x => mem_dumpR hT (dp_le q) x
  have idx : ∀ x, x ∈ dumpR (S.M q) (dp q) → ∃ j, j < (dumpR (S.M q) (dp q)).length ∧ (dumpR (S.M q) (dp q))[j]? = some x := fun x hx => by
    obtain ⟨j, hj, e⟩ := List.getElem_of_mem hx
    exact ⟨j, hj, by rw [List.getElem?_eq_getElem hj, e]⟩
  unfold hopN
  rcases bestL_spec (M := S.M q) (K := K) 129 with ⟨e, e'⟩ | ⟨l0, h0, e1, e2, e3, e4⟩
  · rcases hb with ⟨h1, _⟩ | ⟨j, x, h1, h2, h3, h4, _⟩
    · exact Or.inl ⟨h1, e⟩
    · have hm := (mem x).1 (List.mem_of_getElem? h2)
      have hl := hT.len x.1 x.2.1 (by rw [hm]; rfl)
      have hd := dp_le q
      have := e' x.1 (by omega)
      rw [h4, hm] at this
      cases this
  · obtain ⟨j', hj', hx'⟩ := idx (l0, fitK K l0, h0) ((mem _).2 e3)
    rcases hb with ⟨_, h2⟩ | ⟨j, x, h1, h2, h3, h4, h5⟩
    · exact absurd rfl (h2 j' _ hj' hx')
    · have hm := (mem x).1 (List.mem_of_getElem? h2)
      have hl := hT.len x.1 x.2.1 (by rw [hm]; rfl)
      have hd := dp_le q
      have h6 := h5 j' _ hj' hx' rfl
      simp only at h6
      have h7 : l0 = x.1 := by
        by_cases hlt : l0 < x.1
        · have := e4 x.1 hlt (by omega)
          rw [h4, hm] at this
          cases this
        · omega
      rw [h7, h4, hm] at e3
      cases e3
      exact Or.inr ⟨j, x, h3, h2, e2⟩
/-- two routes of a dump, one behind the other: their strings and lengths -/
theorem rt_order {S : St} (h : S.ok) {f : Int} (hf : famBytes f ≠ 0) {i : Nat} {x y : Nat × Nat × Nat} (hx : (dumpR (S.M (fam f)) (dp (fam f)))[i]? = some x) (hy : (dumpR (S.M (fam f)) (dp (fam f)))[i + 1]? = some y) :
    (Op.bytesLess (keyS (famBytes f) (addr x)).toList (keyS (famBytes f) (addr y)).toList = true ∧ (keyS (famBytes f) (addr x)).toList ≠ (keyS (famBytes f) (addr y)).toList) ∨ ((keyS (famBytes f) (addr x)).toList = (keyS (famBytes f) (addr y)).toList ∧ x.1 < y.1) := by
  have hsort := dumpR_sorted (S.M (fam f)) (dp (fam f)) (by have := dp_le (fam f); omega)
  have hb : before2 x y := by
    obtain ⟨h1, e1⟩ := List.getElem?_eq_some_iff.1 hx
    obtain ⟨h2, e2⟩ := List.getElem?_eq_some_iff.1 hy
    rw [← e1, ← e2]
    exact List.pairwise_iff_getElem.1 hsort i (i + 1) h1 h2 (by omega)
  have rx := rt_ok h hf (List.mem_of_getElem? hx)
  have ry := rt_ok h hf (List.mem_of_getElem? hy)
  have hn : famBytes f ≤ 16 := by unfold famBytes; split <;> (try split) <;> omega
  have wx : Whole (famBytes f) (addr x) := whole_of (l := x.1) (addr_lt (l := x.1) (v := x.2.1) (h := x.2.2) (by have := rx.len; omega) rx.val) rx.len (by omega) (Nat.mul_mod_left _ _)
  have wy : Whole (famBytes f) (addr y) := whole_of (l := y.1) (addr_lt (l := y.1) (v := y.2.1) (h := y.2.2) (by have := ry.len; omega) ry.val) ry.len (by omega) (Nat.mul_mod_left _ _)
  unfold keyS
  rw [ByteArray.toList_mk, ByteArray.toList_mk, less_whole (by omega) wx wy]
  rcases hb with hb | ⟨hb, hl⟩
  · refine Or.inl ⟨decide_eq_true hb, fun e => ?_⟩
    have := (same_whole (by omega) wx wy).1 e
    omega
  · exact Or.inr ⟨by rw [hb], hl⟩
end Go.Proofs.YtnapboelfimaaaaDoor
