/- MathA, MathB, MathC: parts of the proof, one behind the other. -/
/- Sums, bits and blocks: nothing of the program. -/
namespace Go.Proofs.YtnapboelfimaaaaDoor
/-- how many of the lowest bits are set -/
def ones (n x : Nat) : Nat := (List.range n).countP fun i => x.testBit i
theorem ones_zero (x : Nat) : ones 0 x = 0 := rfl
theorem ones_succ (n x : Nat) : ones (n + 1) x = ones n x + (if x.testBit n then 1 else 0) := by
  unfold ones
  rw [List.range_succ, List.countP_append]
  simp [List.countP_cons]
theorem ones_le (n x : Nat) : ones n x ≤ n := by
  unfold ones
  exact Nat.le_trans List.countP_le_length (by simp)
theorem ones_mono {k n : Nat} (x : Nat) (h : k ≤ n) : ones k x ≤ ones n x := by
  induction n with
  | zero => have : k = 0 := by omega
            subst this; exact Nat.le_refl _
  | succ n ih =>
    by_cases hk : k = n + 1
    · subst hk; exact Nat.le_refl _
    · have := ih (by omega)
      rw [ones_succ]; omega
theorem ones_lt {k n x : Nat} (h : k < n) (hb : x.testBit k = true) : ones k x < ones n x := by
  have h1 := ones_mono x (show k + 1 ≤ n by omega)
  rw [ones_succ, hb] at h1
  simp at h1; omega
theorem ones_congr {n x y : Nat} (h : ∀ i, i < n → x.testBit i = y.testBit i) : ones n x = ones n y := by
  induction n with
  | zero => rfl
  | succ n ih => rw [ones_succ, ones_succ, ih fun i hi => h i (by omega), h n (by omega)]
/-- a bit more -/
theorem ones_more {n x y k : Nat} (hx : x.testBit k = false) (hy : y.testBit k = true) (h : ∀ i, i ≠ k → y.testBit i = x.testBit i) : ones n y = ones n x + (if k < n then 1 else 0) := by
  induction n with
  | zero => rfl
  | succ n ih =>
    rw [ones_succ, ones_succ, ih]
    by_cases hn : n = k
    · subst hn; rw [hx, hy]; simp
    · rw [h n hn]
      by_cases hk : k < n
      · simp [hk, show k < n + 1 by omega]; omega
      · simp [hk, show ¬ k < n + 1 by omega]
theorem ones_zero_iff {n x : Nat} (h : ones n x = 0) : ∀ i, i < n → x.testBit i = false := by
  intro i hi
  by_cases hb : x.testBit i = true
  · have := ones_lt hi hb; omega
  · simpa using hb
theorem nat_bits16 {x y : Nat} (hx : x < 65536) (hy : y < 65536) (h : ∀ i, i < 16 → x.testBit i = y.testBit i) : x = y := by
  apply Nat.eq_of_testBit_eq
  intro i
  by_cases hi : i < 16
  · exact h i hi
  · have h2 : 65536 ≤ 2 ^ i := Nat.pow_le_pow_right (n := 2) (by decide) (show 16 ≤ i by omega)
    rw [Nat.testBit_lt_two_pow (by omega), Nat.testBit_lt_two_pow (by omega)]
/-- a sum -/
def sumTo : Nat → (Nat → Nat) → Nat
  | 0, _ => 0
  | n + 1, g => sumTo n g + g n
theorem sumTo_congr {n : Nat} {g g' : Nat → Nat} (h : ∀ i, i < n → g i = g' i) : sumTo n g = sumTo n g' := by
  induction n with
  | zero => rfl
  | succ n ih => rw [sumTo, sumTo, ih fun i hi => h i (by omega), h n (by omega)]
theorem sumTo_add (n : Nat) (g g' : Nat → Nat) : sumTo n (fun i => g i + g' i) = sumTo n g + sumTo n g' := by
  induction n with
  | zero => rfl
  | succ n ih => simp only [sumTo, ih]; omega
theorem sumTo_le {n : Nat} {g g' : Nat → Nat} (h : ∀ i, i < n → g i ≤ g' i) : sumTo n g ≤ sumTo n g' := by
  induction n with
  | zero => exact Nat.le_refl _
  | succ n ih =>
    have h1 := ih fun i hi => h i (by omega)
    have h2 := h n (by omega)
    simp only [sumTo]; omega
theorem sumTo_zero {n : Nat} {g : Nat → Nat} (h : ∀ i, i < n → g i = 0) : sumTo n g = 0 := by
  induction n with
  | zero => rfl
  | succ n ih => rw [sumTo, ih fun i hi => h i (by omega), h n (by omega)]
theorem le_sumTo {n : Nat} (g : Nat → Nat) {i : Nat} (h : i < n) : g i ≤ sumTo n g := by
  induction n with
  | zero => omega
  | succ n ih =>
    simp only [sumTo]
    by_cases hi : i = n
    · subst hi; omega
    · have := ih (by omega); omega
theorem two_sumTo {n : Nat} (g : Nat → Nat) {i j : Nat} (h : i < j) (hj : j < n) : g i + g j ≤ sumTo n g := by
  induction n with
  | zero => omega
  | succ n ih =>
    simp only [sumTo]
    by_cases hn : j = n
    · subst hn; have := le_sumTo g h; omega
    · have := ih (by omega); omega
/-- a sum of which one row turns -/
theorem sumTo_one {n k : Nat} {g g' : Nat → Nat} (hk : k < n) (h : ∀ i, i < n → i ≠ k → g' i = g i) : sumTo n g' + g k = sumTo n g + g' k := by
  induction n with
  | zero => omega
  | succ n ih =>
    simp only [sumTo]
    by_cases hn : k = n
    · subst hn
      rw [sumTo_congr (g := g') (g' := g) fun i hi => h i (by omega) (by omega)]
      omega
    · have h1 := ih (by omega) fun i hi => h i (by omega)
      have h2 := h n (by omega) (by omega)
      omega
theorem sumTo_mul (n c : Nat) (g : Nat → Nat) : sumTo n (fun i => c * g i) = c * sumTo n g := by
  induction n with
  | zero => rfl
  | succ n ih => simp only [sumTo, ih, Nat.mul_add]
theorem sumTo_ones (n x : Nat) : sumTo n (fun i => if x.testBit i then 1 else 0) = ones n x := by
  induction n with
  | zero => rfl
  | succ n ih => rw [sumTo, ih, ones_succ]
theorem sumTo_pos {n : Nat} {g : Nat → Nat} (h : 1 ≤ sumTo n g) : ∃ i, i < n ∧ 1 ≤ g i := by
  induction n with
  | zero => simp [sumTo] at h
  | succ n ih =>
    simp only [sumTo] at h
    by_cases hn : 1 ≤ g n
    · exact ⟨n, by omega, hn⟩
    · obtain ⟨i, hi, h1⟩ := ih (by omega)
      exact ⟨i, by omega, h1⟩
/-- is a place within a block? -/
def inB (a b n : Nat) : Nat := if b ≤ a ∧ a < b + n then 1 else 0
theorem inB_le (a b n : Nat) : inB a b n ≤ 1 := by unfold inB; split <;> omega
theorem inB_one {a b n : Nat} (h1 : b ≤ a) (h2 : a < b + n) : inB a b n = 1 := by unfold inB; rw [if_pos ⟨h1, h2⟩]
theorem inB_pos {a b n : Nat} (h : 1 ≤ inB a b n) : b ≤ a ∧ a < b + n := by
  unfold inB at h
  split at h
  · assumption
  · omega
theorem inB_nil (a b : Nat) : inB a b 0 = 0 := by unfold inB; rw [if_neg (by omega)]
theorem inB_split {a b n k : Nat} : inB a b (k + n) = inB a b k + inB a (b + k) n := by
  unfold inB
  by_cases h1 : b ≤ a ∧ a < b + k
  · rw [if_pos h1, if_pos (by omega), if_neg (by omega)]
  · by_cases h2 : b + k ≤ a ∧ a < b + k + n
    · rw [if_neg h1, if_pos h2, if_pos (by omega)]
    · rw [if_neg h1, if_neg h2, if_neg (by omega)]
/-- a row of words of which one is another -/
def setW (W : Nat → Nat) (a v : Nat) : Nat → Nat := fun b => if b = a then v else W b
theorem setW_same (W : Nat → Nat) (a v : Nat) : setW W a v a = v := by simp [setW]
theorem setW_ne {W : Nat → Nat} {a v b : Nat} (h : b ≠ a) : setW W a v b = W b := by simp [setW, h]
/-- a row of words in which some are copied -/
def copyW (W : Nat → Nat) (dst src n : Nat) : Nat → Nat := fun a => if dst ≤ a ∧ a < dst + n then W (src + (a - dst)) else W a
theorem copyW_in {W : Nat → Nat} {dst src n i : Nat} (h : i < n) : copyW W dst src n (dst + i) = W (src + i) := by
  unfold copyW
  rw [if_pos (by omega)]
  congr 1; omega
theorem copyW_out {W : Nat → Nat} {dst src n a : Nat} (h : inB a dst n = 0) : copyW W dst src n a = W a := by
  unfold copyW
  rw [if_neg]
  intro hh
  rw [inB_one hh.1 hh.2] at h
  omega
end Go.Proofs.YtnapboelfimaaaaDoor
/- An arena as numbers: blocks are taken, given back, grown, shrunk. -/
namespace Go.Proofs.YtnapboelfimaaaaDoor
structure Ar where
  size : Nat
  word : Nat → Nat
  top : Nat
  given : Nat → Nat
  free : Int
def Ar.give (A : Ar) (b n : Nat) : Ar := if n = 0 then A else { A with word := setW A.word b (A.given n), given := setW A.given n b, free := A.free + n }
/-- the first size from n on of which there is a block -/
def Ar.fit (A : Ar) (n : Nat) : Nat → Option Nat
  | 0 => none
  | k + 1 => if A.given n ≠ 0 then some n else A.fit (n + 1) k
def Ar.take (A : Ar) (n : Nat) : Ar × Option Nat :=
  match A.fit n (33 - n) with
  | some s => (({ A with given := setW A.given s (A.word (A.given s)), free := A.free - s } : Ar).give (A.given s + n) (s - n), some (A.given s))
  | none => if A.size - A.top < n then (A, none) else ({ A with top := A.top + n, free := A.free - n }, some A.top)
def Ar.growAt (A : Ar) (b n gap more x : Nat) : Ar := ({ A with word := copyW (copyW A.word x b gap) (x + gap + more) (b + gap) (n - gap) } : Ar).give b n
def Ar.grow (A : Ar) (b n gap more : Nat) : Ar × Option Nat :=
  match A.take (n + more) with
  | (B, none) => (B, none)
  | (B, some x) => (B.growAt b n gap more x, some x)
def Ar.shrink (A : Ar) (b n gap less : Nat) : Ar := ({ A with word := copyW A.word (b + gap) (b + gap + less) (n - gap - less) } : Ar).give (b + n - less) less
/-- the blocks of one size that lie free, from one on -/
def chain (W : Nat → Nat) : Nat → List Nat → Prop
  | g, [] => g = 0
  | g, x :: xs => g = x ∧ x ≠ 0 ∧ chain W (W x) xs
def lsum (l : List Nat) (g : Nat → Nat) : Nat := (l.map g).sum
theorem lsum_cons (x : Nat) (l : List Nat) (g : Nat → Nat) : lsum (x :: l) g = g x + lsum l g := by simp [lsum]
theorem lsum_mem {l : List Nat} {x : Nat} (g : Nat → Nat) (h : x ∈ l) : g x ≤ lsum l g := by
  induction l with
  | nil => simp at h
  | cons y l ih =>
    rw [lsum_cons]
    rcases List.mem_cons.1 h with rfl | h
    · omega
    · have := ih h; omega
theorem chain_congr {W W' : Nat → Nat} {g : Nat} {l : List Nat} (h : ∀ x, x ∈ l → W' x = W x) (hc : chain W g l) : chain W' g l := by
  induction l generalizing g with
  | nil => exact hc
  | cons x l ih =>
    obtain ⟨h1, h2, h3⟩ := hc
    refine ⟨h1, h2, ?_⟩
    rw [h x (by simp)]
    exact ih (fun y hy => h y (by simp [hy])) h3
def ffp (F : Nat → List Nat) (a : Nat) : Nat := sumTo 33 fun s => lsum (F s) fun x => inB a x s
/-- what lies free: in blocks, and behind the last -/
def Ar.frees (A : Ar) (F : Nat → List Nat) (a : Nat) : Nat := ffp F a + inB a A.top (A.size - A.top)
structure ArOk (A : Ar) (F : Nat → List Nat) : Prop where
  lists : ∀ s, 1 ≤ s → s ≤ 32 → chain A.word (A.given s) (F s)
  top : A.top ≤ A.size
  size : A.size ≤ 65536
  zero : F 0 = []
  apart : ∀ a, A.frees F a ≤ 1
def upd {α : Type} (F : Nat → α) (s : Nat) (l : α) : Nat → α := fun k => if k = s then l else F k
theorem upd_same {α : Type} (F : Nat → α) (s : Nat) (l : α) : upd F s l s = l := by simp [upd]
theorem upd_ne {α : Type} {F : Nat → α} {s k : Nat} {l : α} (h : k ≠ s) : upd F s l k = F k := by simp [upd, h]
theorem ffp_upd (F : Nat → List Nat) (s : Nat) (l : List Nat) (hs : s < 33) (a : Nat) : ffp (upd F s l) a + lsum (F s) (fun x => inB a x s) = ffp F a + lsum l (fun x => inB a x s) := by
  have := sumTo_one (n := 33) (k := s) (g := fun s => lsum (F s) fun x => inB a x s) (g' := fun k => lsum (upd F s l k) fun x => inB a x k) hs (fun i _ hi => by simp [upd_ne hi])
  simp only [upd_same] at this
  exact this
theorem ffp_mem {F : Nat → List Nat} {s x a : Nat} (hs : s < 33) (hx : x ∈ F s) (h1 : x ≤ a) (h2 : a < x + s) : 1 ≤ ffp F a := by
  have h3 := lsum_mem (fun y => inB a y s) hx
  simp only [inB_one h1 h2] at h3
  have h4 := le_sumTo (fun s => lsum (F s) fun x => inB a x s) hs
  unfold ffp
  omega
/-- giving a block back that is not free -/
theorem give_ok {A : Ar} {F : Nat → List Nat} {b n : Nat} (h : ArOk A F) (hn : n ≤ 32) (hb : n ≠ 0 → b ≠ 0) (ha : ∀ a, A.frees F a + inB a b n ≤ 1) :
    ∃ F', ArOk (A.give b n) F' ∧ (∀ a, (A.give b n).frees F' a = A.frees F a + inB a b n) ∧ (∀ a, a ≠ b ∨ n = 0 → (A.give b n).word a = A.word a) ∧ (A.give b n).free = A.free + n ∧ (A.give b n).size = A.size ∧ (A.give b n).top = A.top := by
  by_cases hz : n = 0
  · subst hz
    refine ⟨F, ?_, ?_, ?_, ?_, ?_, ?_⟩ <;> simp [Ar.give, inB_nil]
    exact h
  · have hg : A.give b n = { A with word := setW A.word b (A.given n), given := setW A.given n b, free := A.free + n } := by simp [Ar.give, hz]
    have hfr : ∀ a, (A.give b n).frees (upd F n (b :: F n)) a = A.frees F a + inB a b n := by
      intro a
      have h1 := ffp_upd F n (b :: F n) (by omega) a
      rw [lsum_cons] at h1
      rw [hg]
      simp only [Ar.frees]
      omega
    refine ⟨upd F n (b :: F n), ⟨?_, ?_, ?_, ?_, ?_⟩, hfr, ?_, ?_, ?_, ?_⟩
    · intro s h1 h2
      rw [hg]
      have hno : ∀ x, x ∈ F s → setW A.word b (A.given n) x = A.word x := by
        intro x hx
        apply setW_ne
        rintro rfl
        have h3 := ffp_mem (F := F) (show s < 33 by omega) hx (Nat.le_refl _) (by omega)
        have h4 := ha x
        rw [inB_one (Nat.le_refl _) (by omega)] at h4
        unfold Ar.frees at h4
        omega
      by_cases hs : s = n
      · subst hs
        simp only [setW_same, upd_same]
        refine ⟨rfl, hb hz, ?_⟩
        rw [setW_same]
        exact chain_congr hno (h.lists s h1 h2)
      · simp only [upd_ne hs, setW_ne hs]
        exact chain_congr hno (h.lists s h1 h2)
    · rw [hg]; exact h.top
    · rw [hg]; exact h.size
    · rw [upd_ne (by omega)]; exact h.zero
    · intro a; rw [hfr]; exact ha a
    · intro a hab
      rw [hg]
      exact setW_ne (by omega)
    · rw [hg]
    · rw [hg]
    · rw [hg]
theorem fit_some {A : Ar} {n k s : Nat} (h : A.fit n k = some s) : n ≤ s ∧ s < n + k ∧ A.given s ≠ 0 := by
  induction k generalizing n with
  | zero => simp [Ar.fit] at h
  | succ k ih =>
    simp only [Ar.fit] at h
    split at h
    · simp at h; subst h; exact ⟨by omega, by omega, by assumption⟩
    · obtain ⟨h1, h2, h3⟩ := ih h
      exact ⟨by omega, by omega, h3⟩
theorem fit_none {A : Ar} {n k : Nat} (h : ∀ s, n ≤ s → s < n + k → A.given s = 0) : A.fit n k = none := by
  induction k generalizing n with
  | zero => rfl
  | succ k ih =>
    simp only [Ar.fit]
    rw [if_neg (by simp [h n (by omega) (by omega)])]
    exact ih fun s h1 h2 => h s (by omega) (by omega)
structure Took (A : Ar) (F : Nat → List Nat) (B : Ar) (F' : Nat → List Nat) (x n : Nat) : Prop where
  ok : ArOk B F'
  frees : ∀ a, B.frees F' a + inB a x n = A.frees F a
  word : ∀ a, B.frees F' a = 0 → B.word a = A.word a
  free : B.free = A.free - n
  size : B.size = A.size
  pos : x ≠ 0
/-- taking a block -/
theorem take_ok {A : Ar} {F : Nat → List Nat} {n : Nat} (h : ArOk A F) (hn : 1 ≤ n) (hn2 : n ≤ 32) (ht : A.top ≠ 0) :
    (A.take n = (A, none) ∧ A.size - A.top < n) ∨ ∃ x B F', A.take n = (B, some x) ∧ Took A F B F' x n := by
  unfold Ar.take
  split
  · rename_i s hs
    obtain ⟨h1, h2, h3⟩ := fit_some hs
    right
    have hc := h.lists s (by omega) (by omega)
    cases hF : F s with
    | nil => rw [hF] at hc; exact absurd hc h3
    | cons x xs =>
      rw [hF] at hc
      obtain ⟨g1, g2, g3⟩ := hc
      have hxs : x ∈ F s := by rw [hF]; simp
      have hcount : ∀ a, ffp (upd F s xs) a + inB a x s = ffp F a := by
        intro a
        have := ffp_upd F s xs (by omega) a
        rw [hF, lsum_cons] at this
        omega
      have hA : ArOk ({ A with given := setW A.given s (A.word (A.given s)), free := A.free - s } : Ar) (upd F s xs) := by
        refine ⟨?_, h.top, h.size, ?_, ?_⟩
        · intro s' q1 q2
          by_cases hq : s' = s
          · subst hq; simp only [setW_same, upd_same]; rw [g1]; exact g3
          · simp only [setW_ne hq, upd_ne hq]; exact h.lists s' q1 q2
        · rw [upd_ne (by omega)]; exact h.zero
        · intro a
          have h4 := hcount a
          have h5 := h.apart a
          simp only [Ar.frees] at h5 ⊢
          omega
      have hsp : ∀ a, inB a x s = inB a x n + inB a (x + n) (s - n) := by
        intro a
        have := @inB_split a x (s - n) n
        rw [show n + (s - n) = s by omega] at this
        exact this
      obtain ⟨F', k1, k2, k3, k4, k5, k6⟩ := give_ok (b := A.given s + n) (n := s - n) hA (by omega) (by omega) (by
        intro a
        have h4 := hcount a
        have h5 := h.apart a
        have h6 := hsp a
        rw [g1]
        simp only [Ar.frees] at h5 ⊢
        omega)
      refine ⟨A.given s, _, F', rfl, ⟨k1, ?_, ?_, ?_, k5, h3⟩⟩
      · intro a
        rw [k2 a, g1]
        have h4 := hcount a
        have h6 := hsp a
        simp only [Ar.frees]
        omega
      · intro a h0
        by_cases hz : s - n = 0
        · exact k3 a (Or.inr hz)
        · apply k3 a (Or.inl _)
          rintro rfl
          rw [k2, inB_one (Nat.le_refl _) (by omega)] at h0
          omega
      · rw [k4]
        simp only []
        omega
  · split
    · rename_i hlt
      exact Or.inl ⟨rfl, hlt⟩
    · rename_i hge
      right
      have htop := h.top
      refine ⟨A.top, _, F, rfl, ⟨⟨h.lists, ?_, h.size, h.zero, ?_⟩, ?_, ?_, rfl, rfl, ht⟩⟩
      · simp only []; omega
      · intro a
        have h5 := h.apart a
        have h6 := @inB_split a A.top (A.size - (A.top + n)) n
        rw [show n + (A.size - (A.top + n)) = A.size - A.top by omega] at h6
        simp only [Ar.frees] at h5 ⊢
        omega
      · intro a
        have h6 := @inB_split a A.top (A.size - (A.top + n)) n
        rw [show n + (A.size - (A.top + n)) = A.size - A.top by omega] at h6
        simp only [Ar.frees]
        omega
      · intro a _; rfl
end Go.Proofs.YtnapboelfimaaaaDoor
/- Blocks that grow and shrink. -/
namespace Go.Proofs.YtnapboelfimaaaaDoor
structure Grown (A : Ar) (F : Nat → List Nat) (B : Ar) (F' : Nat → List Nat) (b n gap more x : Nat) : Prop where
  ok : ArOk B F'
  frees : ∀ a, B.frees F' a + inB a x (n + more) = A.frees F a + inB a b n
  head : ∀ i, i < gap → B.word (x + i) = A.word (b + i)
  tail : ∀ i, i < n - gap → B.word (x + gap + more + i) = A.word (b + gap + i)
  word : ∀ a, B.frees F' a = 0 → inB a x (n + more) = 0 → B.word a = A.word a
  free : B.free = A.free - more
  size : B.size = A.size
  pos : x ≠ 0
theorem grow_ok {A : Ar} {F : Nat → List Nat} {b n gap more : Nat} (h : ArOk A F) (hm : 1 ≤ more) (hn : n + more ≤ 32) (hg : gap ≤ n) (ht : A.top ≠ 0) (hb : n ≠ 0 → b ≠ 0) (ha : ∀ a, A.frees F a + inB a b n ≤ 1) :
    (A.grow b n gap more = (A, none) ∧ A.size - A.top < n + more) ∨ ∃ x B F', A.grow b n gap more = (B, some x) ∧ Grown A F B F' b n gap more x := by
  unfold Ar.grow
  rcases take_ok (n := n + more) h (by omega) hn ht with ⟨h1, h2⟩ | ⟨x, B, F', h1, h2⟩
  · left; rw [h1]; exact ⟨rfl, h2⟩
  · right
    rw [h1]
    simp only []
    unfold Ar.growAt
    generalize hW : copyW (copyW B.word x b gap) (x + gap + more) (b + gap) (n - gap) = W
    have hsep : ∀ a, inB a x (n + more) + inB a b n ≤ 1 := by
      intro a
      have q1 := h2.frees a
      have q2 := ha a
      omega
    have hdis : ∀ a, b ≤ a → a < b + n → a < x ∨ x + (n + more) ≤ a := by
      intro a q1 q2
      have q3 := hsep a
      rw [inB_one q1 q2] at q3
      by_cases q4 : x ≤ a ∧ a < x + (n + more)
      · rw [inB_one q4.1 q4.2] at q3; omega
      · omega
    have hout : ∀ a, inB a x (n + more) = 0 → W a = B.word a := by
      intro a q
      have q1 : ¬ (x ≤ a ∧ a < x + (n + more)) := fun q2 => by rw [inB_one q2.1 q2.2] at q; omega
      rw [← hW]
      unfold copyW
      rw [if_neg (by omega), if_neg (by omega)]
    have hsrc : ∀ i, i < n → B.word (b + i) = A.word (b + i) := by
      intro i hi
      apply h2.word
      have q1 := h2.frees (b + i)
      have q2 := ha (b + i)
      rw [inB_one (b := b) (by omega) (by omega)] at q2
      omega
    have hhead : ∀ i, i < gap → W (x + i) = A.word (b + i) := by
      intro i hi
      rw [← hW]
      unfold copyW
      rw [if_neg (by omega), if_pos (by omega), show b + (x + i - x) = b + i by omega]
      exact hsrc i (by omega)
    have htail : ∀ i, i < n - gap → W (x + gap + more + i) = A.word (b + gap + i) := by
      intro i hi
      have q := hdis (b + gap + i) (by omega) (by omega)
      rw [← hW]
      unfold copyW
      rw [if_pos (by omega), show b + gap + (x + gap + more + i - (x + gap + more)) = b + gap + i by omega, if_neg (by omega), show b + gap + i = b + (gap + i) by omega]
      exact hsrc (gap + i) (by omega)
    have hB : ArOk ({ B with word := W } : Ar) F' := by
      refine ⟨?_, h2.ok.top, h2.ok.size, h2.ok.zero, h2.ok.apart⟩
      intro s s1 s2
      refine chain_congr ?_ (h2.ok.lists s s1 s2)
      intro y hy
      apply hout
      have q1 := ffp_mem (F := F') (show s < 33 by omega) hy (Nat.le_refl _) (by omega)
      have q2 := h2.frees y
      have q3 := h.apart y
      unfold Ar.frees at q2 q3
      omega
    obtain ⟨F'', k1, k2, k3, k4, k5, k6⟩ := give_ok (b := b) (n := n) hB (by omega) hb (by
      intro a
      have q1 := h2.frees a
      have q2 := ha a
      have q3 : ({ B with word := W } : Ar).frees F' a = B.frees F' a := rfl
      omega)
    have q3 : ∀ a, ({ B with word := W } : Ar).frees F' a = B.frees F' a := fun _ => rfl
    refine ⟨x, _, F'', rfl, ⟨k1, ?_, ?_, ?_, ?_, ?_, ?_, h2.pos⟩⟩
    · intro a
      rw [k2, q3]
      have := h2.frees a
      omega
    · intro i hi
      rw [k3]
      · exact hhead i hi
      · by_cases hz : n = 0
        · exact Or.inr hz
        · left
          intro e
          have := hdis (x + i) (by omega) (by omega)
          omega
    · intro i hi
      rw [k3]
      · exact htail i hi
      · by_cases hz : n = 0
        · exact Or.inr hz
        · left
          intro e
          have := hdis (x + gap + more + i) (by omega) (by omega)
          omega
    · intro a h0 h1
      rw [k2, q3] at h0
      have : a ≠ b ∨ n = 0 := by
        by_cases hz : n = 0
        · exact Or.inr hz
        · left
          rintro rfl
          rw [inB_one (Nat.le_refl _) (by omega)] at h0
          omega
      rw [k3 a this]
      show W a = _
      rw [hout a h1]
      exact h2.word a (by omega)
    · rw [k4]
      show B.free + _ = _
      rw [h2.free]
      omega
    · rw [k5]; exact h2.size
structure Shrunk (A : Ar) (F : Nat → List Nat) (B : Ar) (F' : Nat → List Nat) (b n gap less : Nat) : Prop where
  ok : ArOk B F'
  frees : ∀ a, B.frees F' a = A.frees F a + inB a (b + n - less) less
  head : ∀ i, i < gap → B.word (b + i) = A.word (b + i)
  tail : ∀ i, i < n - gap - less → B.word (b + gap + i) = A.word (b + gap + less + i)
  word : ∀ a, inB a b n = 0 → B.word a = A.word a
  free : B.free = A.free + less
  size : B.size = A.size
  top : B.top = A.top
theorem shrink_ok {A : Ar} {F : Nat → List Nat} {b n gap less : Nat} (h : ArOk A F) (hl : 1 ≤ less) (hn : n ≤ 32) (hg : gap + less ≤ n) (hb : b ≠ 0) (ha : ∀ a, A.frees F a + inB a b n ≤ 1) :
    ∃ F', Shrunk A F (A.shrink b n gap less) F' b n gap less := by
  unfold Ar.shrink
  generalize hW : copyW A.word (b + gap) (b + gap + less) (n - gap - less) = W
  have hout : ∀ a, inB a b n = 0 → W a = A.word a := by
    intro a q
    have q1 : ¬ (b ≤ a ∧ a < b + n) := fun q2 => by rw [inB_one q2.1 q2.2] at q; omega
    rw [← hW]
    unfold copyW
    rw [if_neg (by omega)]
  have hA : ArOk ({ A with word := W } : Ar) F := by
    refine ⟨?_, h.top, h.size, h.zero, h.apart⟩
    intro s s1 s2
    refine chain_congr ?_ (h.lists s s1 s2)
    intro y hy
    apply hout
    have q1 := ffp_mem (F := F) (show s < 33 by omega) hy (Nat.le_refl _) (by omega)
    have q2 := ha y
    unfold Ar.frees at q2
    omega
  have q3 : ∀ a, ({ A with word := W } : Ar).frees F a = A.frees F a := fun _ => rfl
  have hsp : ∀ a, inB a b n = inB a b (n - less) + inB a (b + n - less) less := by
    intro a
    have := @inB_split a b less (n - less)
    rw [show n - less + less = n by omega, show b + (n - less) = b + n - less by omega] at this
    exact this
  obtain ⟨F', k1, k2, k3, k4, k5, k6⟩ := give_ok (b := b + n - less) (n := less) hA (by omega) (by omega) (by
    intro a
    have q1 := ha a
    have q2 := hsp a
    have q4 := q3 a
    omega)
  refine ⟨F', ⟨k1, ?_, ?_, ?_, ?_, k4, k5, k6⟩⟩
  · intro a
    rw [k2, q3]
  · intro i hi
    rw [k3 _ (Or.inl (by omega))]
    show W _ = _
    rw [← hW]
    unfold copyW
    rw [if_neg (by omega)]
  · intro i hi
    rw [k3 _ (Or.inl (by omega))]
    show W _ = _
    rw [← hW]
    unfold copyW
    rw [if_pos (by omega)]
    congr 1; omega
  · intro a h0
    have : a ≠ b + n - less := by
      rintro rfl
      rw [inB_one (by omega) (by omega)] at h0
      omega
    rw [k3 a (Or.inl this)]
    exact hout a h0
end Go.Proofs.YtnapboelfimaaaaDoor
