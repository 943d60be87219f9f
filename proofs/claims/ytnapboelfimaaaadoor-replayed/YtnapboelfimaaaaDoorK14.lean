/- MathZ, Mach, KeyM: parts of the proof, one behind the other. -/
import Derived.Test.YtnapboelfimaaaaDoorK11
import Derived.Test.YtnapboelfimaaaaDoorK13
/- There is room where there must be. -/
namespace Go.Proofs.YtnapboelfimaaaaDoor
theorem ones_missing {x k : Nat} (hk : k < 16) (h : x.testBit k = false) : ones 16 x ≤ 15 := by
  have h1 := ones_more (n := 16) h (or_bit x k) (fun i hi => or_bits x k i hi)
  have h2 := ones_le 16 (x ||| 2 ^ k)
  rw [if_pos hk] at h1
  omega
theorem need_le {W : Nat → Nat} {M : Tab} {q : Bool} {l v : Nat} (R : Root W M (rt q) (dp q)) (h1 : 8 ≤ l) (h3 : l ≤ 8 + 4 * dp q) (hv : v < 2 ^ l) : needRoot W q l v ≤ 107 := by
  have hL := dp_le q
  have hb := byte_of h1 hv
  unfold needRoot
  split
  · omega
  · rename_i h0
    obtain ⟨t, d2, y, e, q1, q2, q3, q4, q5⟩ := reach_facts (l := l) (v := v) ((l - 8) / 4) (dp q) 8 _ _ (R.rep _ hb h0) (by omega) (by omega) rfl
    unfold needTree
    rw [e]
    simp only []
    have h15 : ones 16 (nodeAt W y).routes ≤ 16 := ones_le _ _
    split
    · split <;> omega
    · have hbit := q5 (by omega)
      have := ones_missing (fourV_lt _ _ _) hbit
      omega
/-- how many routes there are -/
def count2 (M : Bool → Tab) : Nat := (dumpR (M false) (dp false)).length + (dumpR (M true) (dp true)).length
theorem free_room {A : Ar} {F : Nat → List Nat} {M : Bool → Tab} (h : Inv A F M) : (A.size : Int) - 1024 - 63 * (count2 M : Nat) ≤ A.free := by
  have h1 := cost_dump (h.root false) (h.tab false) (dp_le false)
  have h2 := cost_dump (h.root true) (h.tab true) (dp_le true)
  have h3 := h.free
  unfold count2
  omega
theorem enough_need {A : Ar} {F : Nat → List Nat} {M : Bool → Tab} (h : Inv A F M) (q : Bool) {l v : Nat} (h1 : 8 ≤ l) (h3 : l ≤ 8 + 4 * dp q) (hv : v < 2 ^ l) (he : 64 * (count2 M + 1) + 1280 ≤ A.size) : (needRoot A.word q l v : Int) ≤ A.free := by
  have e1 := need_le (h.root q) h1 h3 hv
  have e2 := free_room h
  omega
/-- each long route needs a word at least -/
theorem long_cost {W : Nat → Nat} {M : Tab} {r dm : Nat} (R : Root W M r dm) : sumTo 256 (fun b => (if anyBelow M 8 b = true then dumpN M dm 8 b else []).length) ≤ costR W r dm := by
  have hcc : ∀ {d x}, cntW W d x ≤ costW W d x := by
    intro d
    induction d with
    | zero => intro x; simp only [cntW, costW]; omega
    | succ d ih =>
      intro x
      simp only [cntW, costW]
      have : sumTo 16 (fun f => if (nodeAt W x).ways.testBit f = true then cntW W d ((nodeAt W x).kid f) else 0) ≤ sumTo 16 (fun f => if (nodeAt W x).ways.testBit f = true then costW W d ((nodeAt W x).kid f) else 0) := by
        apply sumTo_le
        intro f _
        split
        · exact ih
        · exact Nat.le_refl _
      omega
  apply sumTo_le
  intro b hb
  unfold cost1
  by_cases h0 : W (r + b) % 65536 = 0
  · rw [if_pos h0, (R.node b hb).1 h0]
    exact Nat.le_refl _
  · have hany : anyBelow M 8 b = true := by
      have : anyBelow M 8 b ≠ false := fun e => h0 ((R.node b hb).2 e)
      simpa using this
    rw [if_neg h0, if_pos hany, length_dumpN (R.rep b hb h0)]
    have := hcc (d := dm) (x := W (r + b) % 65536)
    omega
/-- of lists in order with the same routes there is one -/
theorem sorted_unique {a b : List (Nat × Nat × Nat)} (ha : a.Pairwise before2) (hb : b.Pairwise before2) (h : ∀ x, x ∈ a ↔ x ∈ b) : a = b := by
  have irr : ∀ x : Nat × Nat × Nat, ¬ before2 x x := fun x hx => by
    rcases hx with hx | hx <;> omega
  have asym : ∀ x y : Nat × Nat × Nat, before2 x y → ¬ before2 y x := fun x y h1 h2 => by
    rcases h1 with h1 | h1 <;> rcases h2 with h2 | h2 <;> omega
  induction a generalizing b with
  | nil =>
    cases b with
    | nil => rfl
    | cons y b => have := (h y).2 (by simp); cases this
  | cons x a ih =>
    cases b with
    | nil => have := (h x).1 (by simp); cases this
    | cons y b =>
      obtain ⟨a1, a2⟩ := List.pairwise_cons.1 ha
      obtain ⟨b1, b2⟩ := List.pairwise_cons.1 hb
      have hxy : x = y := by
        rcases List.mem_cons.1 ((h x).1 (by simp)) with e | e
        · exact e
        · rcases List.mem_cons.1 ((h y).2 (by simp)) with e2 | e2
          · exact e2.symm
          · exact absurd (b1 x e) (asym _ _ (a1 y e2))
      subst hxy
      congr 1
      refine ih a2 b2 ?_
      intro z
      constructor
      · intro hz
        rcases List.mem_cons.1 ((h z).1 (by simp [hz])) with e | e
        · subst e; exact absurd (a1 z hz) (irr z)
        · exact e
      · intro hz
        rcases List.mem_cons.1 ((h z).2 (by simp [hz])) with e | e
        · subst e; exact absurd (b1 z hz) (irr z)
        · exact e
end Go.Proofs.YtnapboelfimaaaaDoor
/- What is done to the tables, whole. -/
namespace Go.Proofs.YtnapboelfimaaaaDoor
def insN (A : Ar) (q : Bool) (l v h : Nat) : Ar × Bool := if l < 8 then (shortN A q l v (some h), true) else insLong A q l v h
def delN (A : Ar) (q : Bool) (l v : Nat) : Ar × Bool :=
  if l < 8 then (if (A.word (rt q + v * 2 ^ (8 - l)) / 65536).testBit l then (shortN A q l v none, true) else (A, false)) else delLong A q l v
theorem short_byte {l v : Nat} (hl : l < 8) (hv : v < 2 ^ l) : v * 2 ^ (8 - l) < 256 ∧ v * 2 ^ (8 - l) / 2 ^ (8 - l) = v := by
  have hp := Nat.two_pow_pos (8 - l)
  constructor
  · have : (v + 1) * 2 ^ (8 - l) ≤ 2 ^ l * 2 ^ (8 - l) := Nat.mul_le_mul_right _ (by omega)
    rw [← Nat.pow_add, show l + (8 - l) = 8 by omega, Nat.add_mul, Nat.one_mul] at this
    omega
  · exact Nat.mul_div_cancel _ hp
theorem insN_ok {A : Ar} {F : Nat → List Nat} {M : Bool → Tab} (h : Inv A F M) (q : Bool) {l v x : Nat} (h3 : l ≤ 8 + 4 * dp q) (hv : v < 2 ^ l) :
    (insN A q l v x = (A, false) ∧ ¬ 64 * (count2 M + 1) + 1280 ≤ A.size) ∨ ∃ B F', insN A q l v x = (B, true) ∧ Inv B F' (updM M q l v (some x)) ∧ B.size = A.size := by
  unfold insN
  by_cases h8 : l < 8
  · rw [if_pos h8]
    exact Or.inr ⟨_, F, rfl, short_ok h q (some x) h8 hv, rfl⟩
  · rw [if_neg h8]
    rcases insLong_ok (x := x) h q (by omega) h3 hv with ⟨h1, h2⟩ | ⟨h1, B, F', h2, h4, h5⟩
    · refine Or.inl ⟨h2, fun he => ?_⟩
      have := enough_need h q (by omega) h3 hv he
      omega
    · exact Or.inr ⟨B, F', h2, h4, h5⟩
theorem delN_ok {A : Ar} {F : Nat → List Nat} {M : Bool → Tab} (h : Inv A F M) (q : Bool) {l v : Nat} (h3 : l ≤ 8 + 4 * dp q) (hv : v < 2 ^ l) :
    ∃ B F', delN A q l v = (B, (M q l v).isSome) ∧ Inv B F' (updM M q l v none) ∧ B.size = A.size := by
  unfold delN
  by_cases h8 : l < 8
  · rw [if_pos h8]
    obtain ⟨b1, b2⟩ := short_byte h8 hv
    have hs := (h.root q).short _ l b1 h8
    rw [b2] at hs
    rw [hs]
    cases hm : M q l v with
    | none =>
      refine ⟨A, F, rfl, ?_, rfl⟩
      rw [updM_id hm]; exact h
    | some y => exact ⟨_, F, rfl, short_ok h q none h8 hv, rfl⟩
  · rw [if_neg h8]
    exact delLong_ok h q (by omega) h3 hv
/-- the nodes on the way of an address -/
def nodesOn (W : Nat → Nat) (K : Nat) : Nat → Nat → Nat → Nat
  | 0, _, _ => 1
  | d + 1, len, x => if (nodeAt W x).ways.testBit (fitK K (len + 4) % 16) then 1 + nodesOn W K d (len + 4) ((nodeAt W x).kid (fitK K (len + 4) % 16)) else 1
theorem nodesOn_le (W : Nat → Nat) (K : Nat) : ∀ d len x, 1 ≤ nodesOn W K d len x ∧ nodesOn W K d len x ≤ d + 1 := by
  intro d
  induction d with
  | zero => intro len x; exact ⟨Nat.le_refl _, Nat.le_refl _⟩
  | succ d ih =>
    intro len x
    rw [nodesOn]
    split
    · have := ih (len + 4) ((nodeAt W x).kid (fitK K (len + 4) % 16))
      omega
    · omega
/-- how often a lookup reads -/
def readsN (W : Nat → Nat) (q : Bool) (K : Nat) (found : Bool) : Nat := 1 + (if W (rt q + fitK K 8) % 65536 = 0 then 0 else nodesOn W K (dp q) 8 (W (rt q + fitK K 8) % 65536)) + (if found then 1 else 0)
theorem readsN_le (W : Nat → Nat) (q : Bool) (K : Nat) (found : Bool) : 1 ≤ readsN W q K found ∧ readsN W q K found ≤ dp q + 3 := by
  have := nodesOn_le W K (dp q) 8 (W (rt q + fitK K 8) % 65536)
  unfold readsN
  split <;> split <;> omega
/-- the hop that is found -/
def hopN (M : Bool → Tab) (q : Bool) (K : Nat) : Option Nat := bestL (M q) K 129
theorem bestL_spec {M : Tab} {K : Nat} : ∀ n, (bestL M K n = none ∧ ∀ l, l < n → M l (fitK K l) = none) ∨ ∃ l h, l < n ∧ bestL M K n = some h ∧ M l (fitK K l) = some h ∧ ∀ l', l < l' → l' < n → M l' (fitK K l') = none := by
  intro n
  induction n with
  | zero => exact Or.inl ⟨rfl, fun l hl => by omega⟩
  | succ n ih =>
    rw [bestL]
    cases hm : M n (fitK K n) with
    | some h => exact Or.inr ⟨n, h, by omega, rfl, hm, fun l' h1 h2 => by omega⟩
    | none =>
      simp only [Option.isSome_none, Bool.false_eq_true, if_false]
      rcases ih with ⟨h1, h2⟩ | ⟨l, h, h1, h2, h3, h4⟩
      · refine Or.inl ⟨h1, fun l hl => ?_⟩
        by_cases e : l = n
        · subst e; exact hm
        · exact h2 l (by omega)
      · refine Or.inr ⟨l, h, by omega, h2, h3, fun l' h5 h6 => ?_⟩
        by_cases e : l' = n
        · subst e; exact hm
        · exact h4 l' h5 (by omega)
/-- the length of a list of routes in order, with one more, or one less -/
theorem dump_perm_none {M : Tab} {dm l v : Nat} (hT : TabOk (8 + 4 * dm) M) (hL : 8 + 4 * dm ≤ 128) : dumpR (updT M l v none) dm = (dumpR M dm).filter fun x => !(x.1 == l && x.2.1 == v) := by
  apply sorted_unique (dumpR_sorted _ _ (by omega))
  · exact (dumpR_sorted _ _ (by omega)).filter _
  · intro x
    rw [mem_dumpR (tab_upd_none hT) hL, List.mem_filter, mem_dumpR hT hL]
    unfold updT
    by_cases e : x.1 = l ∧ x.2.1 = v
    · rw [if_pos e]; simp [e.1, e.2]
    · rw [if_neg e]
      simp only [Bool.not_eq_true', Bool.and_eq_false_iff, beq_eq_false_iff_ne, ne_eq]
      constructor
      · intro h
        refine ⟨h, ?_⟩
        by_cases e1 : x.1 = l
        · exact Or.inr fun e2 => e ⟨e1, e2⟩
        · exact Or.inl e1
      · exact fun h => h.1
end Go.Proofs.YtnapboelfimaaaaDoor
/- Keys as numbers, and the bits of their prefixes. -/
namespace Go.Proofs.YtnapboelfimaaaaDoor
theorem fit_fit {K l len : Nat} (h : len ≤ l) (hl : l ≤ 136) : fitK K l / 2 ^ (l - len) = fitK K len := by
  unfold fitK
  rw [Nat.div_div_eq_div_mul, ← Nat.pow_add]
  congr 2; omega
theorem fourV_key {K l len : Nat} (h : len + 4 ≤ l) (hl : l ≤ 136) : fourV l (fitK K l) len = fitK K (len + 4) % 16 := by
  unfold fourV
  rw [fit_fit h hl]
theorem mod_div16 (X k : Nat) (hk : k ≤ 4) : X % 16 / 2 ^ (4 - k) = X / 2 ^ (4 - k) % 2 ^ k := by
  rcases k with _ | _ | _ | _ | _ | k
  · simp; omega
  · simp; omega
  · simp; omega
  · simp; omega
  · simp
  · omega
theorem pnum_key {K l len : Nat} (h1 : len ≤ l) (h2 : l < len + 4) (hl : len + 4 ≤ 136) : pnum l (fitK K l) len = 2 ^ (l - len) - 1 + fitK K (len + 4) % 16 / 2 ^ (4 - (l - len)) := by
  unfold pnum num
  rw [mod_div16 _ _ (by omega)]
  congr 2
  have := fit_fit (K := K) (l := len + 4) (len := l) (by omega) hl
  rw [show len + 4 - l = 4 - (l - len) by omega] at this
  exact this.symm
theorem fit_lt {K l : Nat} (hK : K < 2 ^ 136) (hl : l ≤ 136) : fitK K l < 2 ^ l := by
  unfold fitK
  rw [Nat.div_lt_iff_lt_mul (Nat.two_pow_pos _), ← Nat.pow_add, show l + (136 - l) = 136 by omega]
  exact hK
/-- two keys whose bits behind the length are zero are one, if their prefixes are -/
theorem key_of {K K' l : Nat} (h1 : K % 2 ^ (136 - l) = 0) (h2 : K' % 2 ^ (136 - l) = 0) (h : fitK K l = fitK K' l) : K = K' := by
  unfold fitK at h
  have e1 := Nat.div_add_mod K (2 ^ (136 - l))
  have e2 := Nat.div_add_mod K' (2 ^ (136 - l))
  rw [h1, Nat.add_zero] at e1
  rw [h2, Nat.add_zero] at e2
  rw [← e1, ← e2, h]
/-- the key of a prefix of a dump -/
theorem addr_fit {K l h : Nat} (h1 : K % 2 ^ (136 - l) = 0) : addr (l, fitK K l, h) = K := by
  unfold addr fitK
  have e1 := Nat.div_add_mod K (2 ^ (136 - l))
  rw [h1, Nat.add_zero, Nat.mul_comm] at e1
  exact e1
end Go.Proofs.YtnapboelfimaaaaDoor
