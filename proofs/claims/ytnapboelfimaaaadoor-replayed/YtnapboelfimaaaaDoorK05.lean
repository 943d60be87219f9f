/- MathM, MathN, MathO: parts of the proof, one behind the other. -/
import Derived.Test.YtnapboelfimaaaaDoorK04
/- New nodes, from where a prefix ends upwards. -/
namespace Go.Proofs.YtnapboelfimaaaaDoor
theorem give_top (A : Ar) (b n : Nat) : (A.give b n).top = A.top := by unfold Ar.give; split <;> rfl
theorem give_size (A : Ar) (b n : Nat) : (A.give b n).size = A.size := by unfold Ar.give; split <;> rfl
theorem take_top (A : Ar) (n : Nat) : A.top ≤ (A.take n).1.top := by
  unfold Ar.take
  split
  · rw [give_top]; exact Nat.le_refl _
  · split
    · exact Nat.le_refl _
    · simp only []; omega
/-- nothing has been given back -/
def Ar.fresh (A : Ar) : Prop := ∀ s, 1 ≤ s → s ≤ 32 → A.given s = 0
theorem take_fresh {A : Ar} {n : Nat} (h : A.fresh) (h1 : 1 ≤ n) : A.take n = if A.size - A.top < n then (A, none) else ({ A with top := A.top + n, free := A.free - n }, some A.top) := by
  unfold Ar.take
  rw [fit_none fun s q1 q2 => h s (by omega) (by omega)]
/-- the one route below some bits -/
structure Single (M : Tab) (l v h len u : Nat) : Prop where
  only : ∀ k j, j < 2 ^ k → (M (len + k) (u * 2 ^ k + j)).isSome = true → len + k = l ∧ u * 2 ^ k + j = v
  is : M l v = some h
theorem Single.kid {M : Tab} {l v h len u f : Nat} (s : Single M l v h len u) (hf : f < 16) : Single M l v h (len + 4) (16 * u + f) := by
  refine ⟨?_, s.is⟩
  intro k j hj hm
  have e : u * 2 ^ (k + 4) + (f * 2 ^ k + j) = (16 * u + f) * 2 ^ k + j := by
    have : u * (2 ^ k * 2 ^ 4) = 16 * u * 2 ^ k := by rw [Nat.mul_comm (2 ^ k), ← Nat.mul_assoc, Nat.mul_comm u]
    rw [Nat.pow_add, Nat.add_mul]
    omega
  have := s.only (k + 4) (f * 2 ^ k + j) (by
    have : (f + 1) * 2 ^ k ≤ 16 * 2 ^ k := Nat.mul_le_mul_right _ (by omega)
    rw [Nat.pow_add]; rw [Nat.add_mul] at this; omega) (by rw [e, show len + (k + 4) = len + 4 + k by omega]; exact hm)
  rw [e] at this
  exact ⟨by omega, this.2⟩
theorem single_any {M : Tab} {l v h len u : Nat} (s : Single M l v h len u) (hl : l ≤ 128) : anyBelow M len u = (decide (len ≤ l) && decide (v / 2 ^ (l - len) = u)) := by
  rw [Bool.eq_iff_iff, anyBelow_iff]
  simp only [Bool.and_eq_true, decide_eq_true_eq]
  constructor
  · rintro ⟨k, j, hk, hj, hm⟩
    obtain ⟨e1, e2⟩ := s.only k j hj hm
    refine ⟨by omega, ?_⟩
    rw [show l - len = k by omega]
    exact div_of hj e2
  · rintro ⟨h1, h2⟩
    have e := (here_iff (fu := l - len) (j := v % 2 ^ (l - len)) h1 h2 (Nat.mod_lt _ (Nat.two_pow_pos _))).2 ⟨rfl, rfl⟩
    refine ⟨l - len, v % 2 ^ (l - len), by omega, Nat.mod_lt _ (Nat.two_pow_pos _), ?_⟩
    rw [e.1, e.2, s.is]; rfl
/-- a node that is to be written: wherever it comes to lie it will stand for its routes -/
def Pend (W : Nat → Nat) (M : Tab) (d len u : Nat) (n : NodeD) (tk : Nat → Nat) (c : Nat) : Prop :=
  ∀ W' y, (∀ a, 1 ≤ tk a → W' a = W a) → nodeAt W' y = n → Rep W' M d len u y ∧ (∀ a, fp W' d y a = tk a) ∧ costW W' d y = c
theorem ones_pow_below {k i : Nat} (h : i ≤ k) : ones i (2 ^ k) = 0 := by
  induction i with
  | zero => rfl
  | succ i ih =>
    rw [ones_succ, ih (by omega), Nat.testBit_two_pow]
    simp; omega
theorem ones_pow_all {k : Nat} (h : k < 16) : ones 16 (2 ^ k) = 1 := by
  have h0 : (0 : Nat).testBit k = false := by simp
  have := ones_more (n := 16) h0 (show (2 ^ k).testBit k = true by simp) (fun i hi => by rw [Nat.testBit_two_pow]; simp; omega)
  rw [this, if_pos h]
  decide
theorem pend_base {W : Nat → Nat} {M : Tab} {d l v h len u b : Nat} (s : Single M l v h len u) (hl : l ≤ 128) (h1 : len ≤ l) (h3 : l < len + 4) (h2 : v / 2 ^ (l - len) = u) (hW : W b = h) :
    Pend W M d len u ⟨2 ^ pnum l v len, 0, b, 0⟩ (fun a => inB a b 1) 1 := by
  intro W' y ha hn
  replace ha : ∀ a, 1 ≤ inB a b 1 → W' a = W a := ha
  have hp := pnum_lt (v := v) h1 (show l ≤ len + 3 by omega)
  have hno : NodeOk W' M len u y := by
    refine ⟨?_, ?_, ?_, ?_, ?_, ?_, ?_, ?_⟩
    · rw [hn]; exact Nat.pow_lt_pow_right (n := 15) (by decide) hp
    · rw [hn]; exact (by decide : 0 < 65536)
    · rw [hn]; exact (by decide : 0 < 65536)
    · rw [hn]; intro e; have := Nat.two_pow_pos (pnum l v len); simp only [] at e; omega
    · rw [hn]; intro _; rfl
    · intro fu j hfu hj
      rw [hn]
      show (2 ^ pnum l v len).testBit (num fu j) = _
      rw [Nat.testBit_two_pow, Bool.eq_iff_iff, decide_eq_true_eq]
      constructor
      · intro e
        have := num_inj (by omega) hfu (Nat.mod_lt _ (Nat.two_pow_pos _)) hj e
        have e2 := (here_iff (fu := fu) (j := j) h1 h2 hj).2 ⟨this.1.symm, this.2.symm⟩
        rw [e2.1, e2.2, s.is]; rfl
      · intro hm
        have e2 := (here_iff (fu := fu) (j := j) h1 h2 hj).1 (s.only fu j hj hm)
        obtain ⟨rfl, rfl⟩ := e2
        rfl
    · intro fu j h' hfu hj hm
      have e2 := (here_iff (fu := fu) (j := j) h1 h2 hj).1 (s.only fu j hj (by rw [hm]; rfl))
      have e3 := s.only fu j hj (by rw [hm]; rfl)
      rw [e3.1, e3.2, s.is] at hm
      obtain ⟨rfl, rfl⟩ := e2
      rw [hn]
      show W' (b + ones (pnum l v len) (2 ^ pnum l v len)) = h'
      rw [ones_pow_below (Nat.le_refl _), Nat.add_zero, ha b (by rw [inB_one (Nat.le_refl _) (by omega)]; omega), hW]
      simpa using hm
    · intro f hf
      rw [hn, single_any (s.kid hf) hl]
      show (0 : Nat).testBit f = _
      simp; omega
  have hr : (nodeAt W' y).routes = 2 ^ pnum l v len := by rw [hn]
  have hw : (nodeAt W' y).ways = 0 := by rw [hn]
  have hh : (nodeAt W' y).hops = b := by rw [hn]
  have h16 : ones 16 0 = 0 := by decide
  have hpw := ones_pow_all (show pnum l v len < 16 by omega)
  cases d with
  | zero =>
    refine ⟨⟨hno, hw⟩, ?_, ?_⟩
    · intro a; simp only [fp, hr, hw, hh, h16, hpw, Nat.mul_zero, inB_nil, Nat.add_zero]
    · simp only [costW, hr, hw, h16, hpw, Nat.mul_zero]
  | succ d =>
    refine ⟨⟨hno, ?_⟩, ?_, ?_⟩
    · intro f hf hb; rw [hw] at hb; simp at hb
    · intro a
      simp only [fp, hr, hw, hh, h16, hpw, Nat.mul_zero, inB_nil, Nat.add_zero]
      rw [sumTo_zero fun i _ => by simp, Nat.add_zero]
    · simp only [costW, hr, hw, h16, hpw, Nat.mul_zero]
      rw [sumTo_zero fun i _ => by simp]
theorem pend_step {W W0 : Nat → Nat} {M : Tab} {d l v h len u b c : Nat} {n : NodeD} {tk : Nat → Nat} (s : Single M l v h len u) (hl : l ≤ 128) (h1 : len + 4 ≤ l) (h2 : v / 2 ^ (l - len) = u) (hb : b < 65536)
    (hn1 : n.routes < 65536) (hn2 : n.hops < 65536) (hW : ∀ a, 1 ≤ tk a → W0 a = W a) (hsep : ∀ a, inB a b 2 + tk a ≤ 1) (P : Pend W M d (len + 4) (16 * u + fourV l v len) n tk c) :
    Pend (putNode W0 b n) M (d + 1) len u ⟨0, 2 ^ fourV l v len, 0, b⟩ (fun a => inB a b 2 + tk a) (c + 2) := by
  intro W' y ha hn
  replace ha : ∀ a, 1 ≤ inB a b 2 + tk a → W' a = putNode W0 b n a := ha
  have hf4 := fourV_lt l v len
  have hnext := fourV_next (v := v) (u := u) h1 h2
  have hr : (nodeAt W' y).routes = 0 := by rw [hn]
  have hw : (nodeAt W' y).ways = 2 ^ fourV l v len := by rw [hn]
  have hh : (nodeAt W' y).hops = 0 := by rw [hn]
  have hc : (nodeAt W' y).children = b := by rw [hn]
  have hk : (nodeAt W' y).kid (fourV l v len) = b := by
    unfold NodeD.kid
    rw [hw, hc, ones_pow_below (Nat.le_refl _)]; omega
  have hnb : nodeAt W' b = n := by
    rw [← nodeAt_put (W := W0) (x := b) hn1 hn2]
    exact node_same (ha b (by rw [inB_one (Nat.le_refl _) (by omega)]; omega)) (ha (b + 1) (by rw [inB_one (by omega) (by omega)]; omega))
  obtain ⟨p1, p2, p3⟩ := P W' b (by
    intro a q
    rw [ha a (by omega), putNode_out (by have := hsep a; omega)]
    exact hW a q) hnb
  have hno : NodeOk W' M len u y := by
    refine ⟨?_, ?_, ?_, ?_, ?_, ?_, ?_, ?_⟩
    · rw [hr]; decide
    · rw [hw]; exact Nat.pow_lt_pow_right (n := 16) (by decide) hf4
    · rw [hc]; exact hb
    · intro _; exact hh
    · rw [hw]; intro e; have := Nat.two_pow_pos (fourV l v len); omega
    · intro fu j hfu hj
      rw [hr]
      cases hm : (M (len + fu) (u * 2 ^ fu + j)).isSome with
      | false => simp
      | true => have := s.only fu j hj hm; omega
    · intro fu j h' hfu hj hm
      have := s.only fu j hj (by rw [hm]; rfl)
      omega
    · intro f hf
      rw [hw, single_any (s.kid hf) hl, hnext, Nat.testBit_two_pow, Bool.eq_iff_iff]
      simp
      omega
  have h16 : ones 16 0 = 0 := by decide
  have hpw := ones_pow_all hf4
  refine ⟨⟨hno, ?_⟩, ?_, ?_⟩
  · intro f hf hbit
    rw [hw, Nat.testBit_two_pow, decide_eq_true_eq] at hbit
    subst hbit
    rw [hk]; exact p1
  · intro a
    have h0 : sumTo 16 (fun f => if (nodeAt W' y).ways.testBit f then fp W' d ((nodeAt W' y).kid f) a else 0) = tk a := by
      have := sumTo_one (n := 16) (k := fourV l v len) (g := fun _ => 0) (g' := fun f => if (nodeAt W' y).ways.testBit f then fp W' d ((nodeAt W' y).kid f) a else 0) hf4 (by
        intro f _ hff
        rw [hw, Nat.testBit_two_pow]
        simp [Ne.symm hff])
      rw [sumTo_zero (g := fun _ => 0) fun _ _ => rfl] at this
      rw [hk, p2 a, hw, Nat.testBit_two_pow_self] at this
      rw [hw]
      simpa using this
    simp only [fp]
    rw [h0, hr, hw, hh, hc, h16, hpw, inB_nil, Nat.zero_add]
  · have h0 : sumTo 16 (fun f => if (nodeAt W' y).ways.testBit f then costW W' d ((nodeAt W' y).kid f) else 0) = c := by
      have := sumTo_one (n := 16) (k := fourV l v len) (g := fun _ => 0) (g' := fun f => if (nodeAt W' y).ways.testBit f then costW W' d ((nodeAt W' y).kid f) else 0) hf4 (by
        intro f _ hff
        rw [hw, Nat.testBit_two_pow]
        simp [Ne.symm hff])
      rw [sumTo_zero (g := fun _ => 0) fun _ _ => rfl] at this
      rw [hk, p3, hw, Nat.testBit_two_pow_self] at this
      rw [hw]
      simpa using this
    simp only [costW]
    rw [h0, hr, hw, h16, hpw]
    omega
end Go.Proofs.YtnapboelfimaaaaDoor
/- A chain of new nodes in an arena. -/
namespace Go.Proofs.YtnapboelfimaaaaDoor
def chainLoop (l v : Nat) : Nat → Nat → Ar → NodeD → Ar × Option NodeD
  | 0, _, A, n => (A, some n)
  | s + 1, len, A, n =>
    match A.take 2 with
    | (B, none) => (B, none)
    | (B, some b) => chainLoop l v s len (B.putN b n) ⟨0, 2 ^ fourV l v (len + 4 * s), 0, b⟩
/-- the nodes from one whose bits are len on down to where a prefix ends, s steps below -/
def chainN (l v h s len : Nat) (A : Ar) : Ar × Option NodeD :=
  match A.take 1 with
  | (B, none) => (B, none)
  | (B, some b) => chainLoop l v s len ({ B with word := setW B.word b h } : Ar) ⟨2 ^ pnum l v (len + 4 * s), 0, b, 0⟩
structure Chained (A : Ar) (F : Nat → List Nat) (B : Ar) (F' : Nat → List Nat) (M : Tab) (d len u : Nat) (n : NodeD) (tk0 tk : Nat → Nat) (c : Nat) : Prop where
  ok : ArOk B F'
  pend : Pend B.word M d len u n tk c
  frees : ∀ a, tk a + B.frees F' a = tk0 a + A.frees F a
  word : ∀ a, A.frees F a = 0 → B.word a = A.word a
  size : B.size = A.size
  top : A.top ≤ B.top
  good : n.ok
theorem single_path {M : Tab} {l v h len : Nat} (s : Single M l v h len (v / 2 ^ (l - len))) : ∀ i, len + 4 * i ≤ l → Single M l v h (len + 4 * i) (v / 2 ^ (l - (len + 4 * i))) := by
  intro i
  induction i with
  | zero => intro _; exact s
  | succ i ih =>
    intro hi
    have h1 := ih (by omega)
    have h2 := fourV_next (l := l) (v := v) (len := len + 4 * i) (u := v / 2 ^ (l - (len + 4 * i))) (by omega) rfl
    rw [show len + 4 * (i + 1) = len + 4 * i + 4 by omega, h2]
    exact h1.kid (fourV_lt _ _ _)
theorem chainLoop_ok {M : Tab} {l v h : Nat} (hl : l ≤ 128) {live : Nat → Nat} (hlive : ∀ a, 65536 ≤ a → 1 ≤ live a) : ∀ (s d len c : Nat) (A : Ar) (F : Nat → List Nat) (n : NodeD) (tk : Nat → Nat), ArOk A F → A.top ≠ 0 → Single M l v h len (v / 2 ^ (l - len)) → len + 4 * s ≤ l →
    Pend A.word M d (len + 4 * s) (v / 2 ^ (l - (len + 4 * s))) n tk c → n.ok → (∀ a, live a + tk a + A.frees F a ≤ 1) →
    ((chainLoop l v s len A n).2 = none ∧ (∀ a, A.frees F a = 0 → (chainLoop l v s len A n).1.word a = A.word a) ∧ (chainLoop l v s len A n).1.size = A.size ∧ ¬ (A.fresh ∧ 2 * s ≤ A.size - A.top)) ∨
    ∃ B n' F' tk', chainLoop l v s len A n = (B, some n') ∧ Chained A F B F' M (d + s) len (v / 2 ^ (l - len)) n' tk tk' (c + 2 * s) ∧ B.free = A.free - 2 * s ∧ (A.fresh → B.fresh ∧ B.top = A.top + 2 * s) := by
  intro s
  induction s with
  | zero =>
    intro d len c A F n tk h _ _ _ hp hn _
    right
    exact ⟨A, n, F, tk, rfl, ⟨h, hp, fun _ => rfl, fun _ _ => rfl, rfl, Nat.le_refl _, hn⟩, by simp, fun hf => ⟨hf, rfl⟩⟩
  | succ s ih =>
    intro d len c A F n tk h ht hsi hlen hp hn hsep
    unfold chainLoop
    rcases take_ok (n := 2) h (by omega) (by omega) ht with ⟨e, hlt⟩ | ⟨b, B, F', e, T⟩
    · left
      rw [e]
      exact ⟨rfl, fun _ _ => rfl, rfl, fun q => by omega⟩
    · rw [e]
      simp only []
      have hbT := T.frees
      have hb : b < 65536 := by
        by_cases q : b < 65536
        · exact q
        · have q1 := hlive b (by omega)
          have q2 := hsep b
          have q3 := hbT b
          rw [inB_one (Nat.le_refl _) (by omega)] at q3
          omega
      have hd2 : ∀ a, B.frees F' a + inB a b 2 + tk a + live a ≤ 1 := by
        intro a
        have := hsep a; have := hbT a; omega
      have hwB : ∀ a, A.frees F a = 0 → B.word a = A.word a := fun a q => T.word a (by have := hbT a; omega)
      have hwP : ∀ a, A.frees F a = 0 → (B.putN b n).word a = A.word a := by
        intro a q
        show putNode B.word b n a = _
        rw [putNode_out (by have := hbT a; omega)]
        exact hwB a q
      have hst : Pend (B.putN b n).word M (d + 1) (len + 4 * s) (v / 2 ^ (l - (len + 4 * s))) ⟨0, 2 ^ fourV l v (len + 4 * s), 0, b⟩ (fun a => inB a b 2 + tk a) (c + 2) := by
        have hnx := fourV_next (l := l) (v := v) (len := len + 4 * s) (u := v / 2 ^ (l - (len + 4 * s))) (by omega) rfl
        refine pend_step (W := A.word) (single_path hsi s (by omega)) hl (by omega) rfl hb hn.1 hn.2.2.1 (fun a q => hwB a (by have := hsep a; omega)) (fun a => by have := hd2 a; omega) ?_
        rw [← hnx]
        exact hp
      have hokn : NodeD.ok ⟨0, 2 ^ fourV l v (len + 4 * s), 0, b⟩ := ⟨(by decide : 0 < 65536), Nat.pow_lt_pow_right (n := 16) (by decide) (fourV_lt _ _ _), (by decide : 0 < 65536), hb⟩
      have hokB : ArOk (B.putN b n) F' := ok_word T.ok fun a q => putNode_out (by have := hd2 a; omega)
      have htop : A.top ≤ B.top := by have := take_top A 2; rw [e] at this; exact this
      have hfr : ∀ a, (B.putN b n).frees F' a = B.frees F' a := fun _ => rfl
      have hfresh : A.fresh → (B.putN b n).fresh ∧ (B.putN b n).top = A.top + 2 := by
        intro hf
        rw [take_fresh hf (by omega)] at e
        split at e
        · cases e
        · simp only [Prod.mk.injEq] at e
          obtain ⟨rfl, _⟩ := e
          exact ⟨hf, rfl⟩
      rcases ih (d + 1) len (c + 2) (B.putN b n) F' _ (fun a => inB a b 2 + tk a) hokB (by show B.top ≠ 0; omega) hsi (by omega) hst hokn (by
        intro a
        have := hd2 a
        rw [hfr]
        show live a + (inB a b 2 + tk a) + _ ≤ 1
        omega) with ⟨i1, i2, i3, i4⟩ | ⟨C, n', F'', tk', i1, i2, i3, i4⟩
      · left
        refine ⟨i1, ?_, i3.trans T.size, ?_⟩
        · intro a q
          rw [i2 a (by rw [hfr]; have := hbT a; omega)]
          exact hwP a q
        · rintro ⟨q1, q2⟩
          obtain ⟨q3, q4⟩ := hfresh q1
          apply i4
          refine ⟨q3, ?_⟩
          rw [q4]
          show 2 * s ≤ B.size - _
          rw [T.size]; omega
      · right
        refine ⟨C, n', F'', tk', i1, ⟨i2.ok, ?_, ?_, ?_, ?_, ?_, i2.good⟩, ?_, ?_⟩
        · have := i2.pend
          rw [show d + 1 + s = d + (s + 1) by omega, show c + 2 + 2 * s = c + 2 * (s + 1) by omega] at this
          exact this
        · intro a
          have q1 := i2.frees a
          have q2 := hbT a
          rw [hfr] at q1
          omega
        · intro a q
          rw [i2.word a (by rw [hfr]; have := hbT a; omega)]
          exact hwP a q
        · exact i2.size.trans T.size
        · have q1 : B.top ≤ C.top := i2.top
          omega
        · rw [i3]
          show B.free - _ = _
          rw [T.free]; omega
        · intro hf
          obtain ⟨q3, q4⟩ := hfresh hf
          obtain ⟨q5, q6⟩ := i4 q3
          exact ⟨q5, by rw [q6, q4]; omega⟩
theorem chainN_ok {M : Tab} {l v h : Nat} (hl : l ≤ 128) {live : Nat → Nat} (hlive : ∀ a, 65536 ≤ a → 1 ≤ live a) {s d len : Nat} {A : Ar} {F : Nat → List Nat} (hA : ArOk A F) (ht : A.top ≠ 0) (hsi : Single M l v h len (v / 2 ^ (l - len))) (hlen : len + 4 * s ≤ l) (hlen2 : l < len + 4 * s + 4)
    (hsep : ∀ a, live a + A.frees F a ≤ 1) :
    ((chainN l v h s len A).2 = none ∧ (∀ a, A.frees F a = 0 → (chainN l v h s len A).1.word a = A.word a) ∧ (chainN l v h s len A).1.size = A.size ∧ ¬ (A.fresh ∧ 2 * s + 1 ≤ A.size - A.top)) ∨
    ∃ B n' F' tk', chainN l v h s len A = (B, some n') ∧ Chained A F B F' M (d + s) len (v / 2 ^ (l - len)) n' (fun _ => 0) tk' (1 + 2 * s) ∧ B.free = A.free - 2 * s - 1 ∧ (A.fresh → B.fresh ∧ B.top = A.top + 2 * s + 1) := by
  unfold chainN
  rcases take_ok (n := 1) hA (by omega) (by omega) ht with ⟨e, hlt⟩ | ⟨b, B, F', e, T⟩
  · left
    rw [e]
    exact ⟨rfl, fun _ _ => rfl, rfl, fun q => by omega⟩
  · rw [e]
    simp only []
    have hbT := T.frees
    have hb : b < 65536 := by
      by_cases q : b < 65536
      · exact q
      · have q1 := hlive b (by omega)
        have q2 := hsep b
        have q3 := hbT b
        rw [inB_one (Nat.le_refl _) (by omega)] at q3
        omega
    have hd2 : ∀ a, B.frees F' a + inB a b 1 + live a ≤ 1 := by
      intro a
      have := hsep a; have := hbT a; omega
    have hne : ∀ a, inB a b 1 = 0 → a ≠ b := by
      rintro a q rfl
      rw [inB_one (Nat.le_refl _) (by omega)] at q; omega
    have hwP : ∀ a, A.frees F a = 0 → setW B.word b h a = A.word a := by
      intro a q
      rw [setW_ne (hne a (by have := hbT a; omega))]
      exact T.word a (by have := hbT a; omega)
    have hokB : ArOk ({ B with word := setW B.word b h } : Ar) F' := ok_word T.ok fun a q => setW_ne (hne a (by have := hd2 a; omega))
    have htop : A.top ≤ B.top := by have := take_top A 1; rw [e] at this; exact this
    have hfr : ∀ a, ({ B with word := setW B.word b h } : Ar).frees F' a = B.frees F' a := fun _ => rfl
    have hfresh : A.fresh → ({ B with word := setW B.word b h } : Ar).fresh ∧ ({ B with word := setW B.word b h } : Ar).top = A.top + 1 := by
      intro hf
      rw [take_fresh hf (by omega)] at e
      split at e
      · cases e
      · simp only [Prod.mk.injEq] at e
        obtain ⟨rfl, _⟩ := e
        exact ⟨hf, rfl⟩
    have hp := pnum_lt (v := v) (show len + 4 * s ≤ l by omega) (show l ≤ len + 4 * s + 3 by omega)
    rcases chainLoop_ok hl hlive s d len 1 ({ B with word := setW B.word b h } : Ar) F' _ (fun a => inB a b 1) hokB (by show B.top ≠ 0; omega) hsi hlen (pend_base (single_path hsi s hlen) hl hlen hlen2 rfl (setW_same _ _ _)) ⟨Nat.pow_lt_pow_right (n := 16) (by decide) (by omega), (by decide : 0 < 65536), hb, (by decide : 0 < 65536)⟩ (by
      intro a
      have := hd2 a
      rw [hfr]
      show live a + inB a b 1 + _ ≤ 1
      omega) with ⟨i1, i2, i3, i4⟩ | ⟨C, n', F'', tk', i1, i2, i3, i4⟩
    · left
      refine ⟨i1, ?_, i3.trans T.size, ?_⟩
      · intro a q
        rw [i2 a (by rw [hfr]; have := hbT a; omega)]
        exact hwP a q
      · rintro ⟨q1, q2⟩
        obtain ⟨q3, q4⟩ := hfresh q1
        apply i4
        refine ⟨q3, ?_⟩
        rw [q4]
        show 2 * s ≤ B.size - _
        rw [T.size]; omega
    · right
      refine ⟨C, n', F'', tk', i1, ⟨i2.ok, i2.pend, ?_, ?_, ?_, ?_, i2.good⟩, ?_, ?_⟩
      · intro a
        have q1 := i2.frees a
        have q2 := hbT a
        rw [hfr] at q1
        omega
      · intro a q
        rw [i2.word a (by rw [hfr]; have := hbT a; omega)]
        exact hwP a q
      · exact i2.size.trans T.size
      · have q1 : B.top ≤ C.top := i2.top
        omega
      · rw [i3]
        show B.free - _ = _
        rw [T.free]; omega
      · intro hf
        obtain ⟨q3, q4⟩ := hfresh hf
        obtain ⟨q5, q6⟩ := i4 q3
        exact ⟨q5, by rw [q6, q4]; omega⟩
end Go.Proofs.YtnapboelfimaaaaDoor
/- Putting a route into the node where it ends, and a child into the last node on the way. -/
namespace Go.Proofs.YtnapboelfimaaaaDoor
structure Put (A : Ar) (F : Nat → List Nat) (B : Ar) (F' : Nat → List Nat) (M : Tab) (l v h d len u x : Nat) : Prop where
  ok : ArOk B F'
  rep : Rep B.word (updT M l v (some h)) d len u x
  frees : ∀ a, B.frees F' a + fp B.word d x a = A.frees F a + fp A.word d x a
  free : B.free + costW B.word d x = A.free + costW A.word d x
  word : ∀ a, inB a x 2 = 0 → fp A.word d x a = 0 → A.frees F a = 0 → B.word a = A.word a
  size : B.size = A.size
  top : A.top ≤ B.top
def NodeD.moreHop (n : NodeD) (k p : Nat) : NodeD := { n with routes := n.routes ||| 2 ^ k, hops := p }
def NodeD.moreKid (n : NodeD) (f p : Nat) : NodeD := { n with ways := n.ways ||| 2 ^ f, children := p }
def putHopN (l v h len : Nat) (A : Ar) (y : Nat) : Ar × Bool :=
  if (nodeAt A.word y).routes.testBit (pnum l v len) then ({ A with word := setW A.word ((nodeAt A.word y).hops + ones (pnum l v len) (nodeAt A.word y).routes) h }, true)
  else match A.grow (nodeAt A.word y).hops (ones 16 (nodeAt A.word y).routes) (ones (pnum l v len) (nodeAt A.word y).routes) 1 with
    | (B, none) => (B, false)
    | (B, some p) => ({ B with word := setW (putNode B.word y ((nodeAt A.word y).moreHop (pnum l v len) p)) (p + ones (pnum l v len) ((nodeAt A.word y).moreHop (pnum l v len) p).routes) h }, true)
def putKidN (f : Nat) (A : Ar) (y : Nat) (child : NodeD) : Ar × Bool :=
  match A.grow (nodeAt A.word y).children (2 * ones 16 (nodeAt A.word y).ways) (2 * ones f (nodeAt A.word y).ways) 2 with
  | (B, none) => (B, false)
  | (B, some p) => ((B.putN y ((nodeAt A.word y).moreKid f p)).putN (((nodeAt A.word y).moreKid f p).kid f) child, true)
theorem or_bit (x k : Nat) : (x ||| 2 ^ k).testBit k = true := by simp [Nat.testBit_or]
theorem or_bits (x k i : Nat) (h : i ≠ k) : (x ||| 2 ^ k).testBit i = x.testBit i := by
  rw [Nat.testBit_or, Nat.testBit_two_pow]
  simp [Ne.symm h]
theorem or_lt {x k n : Nat} (h : x < 2 ^ n) (hk : k < n) : x ||| 2 ^ k < 2 ^ n := Nat.or_lt_two_pow h (Nat.pow_lt_pow_right (by decide) hk)
theorem grow_top (A : Ar) (b n gap more : Nat) : A.top ≤ (A.grow b n gap more).1.top := by
  have h := take_top A (n + more)
  unfold Ar.grow
  split
  · rename_i e; rw [e] at h; exact h
  · rename_i e; rw [e] at h; simp only [Ar.growAt, give_top]; exact h
theorem grow_fresh {A : Ar} {b n gap more : Nat} (h : A.fresh) (hm : 1 ≤ more) (ht : n + more ≤ A.size - A.top) : ∃ B x, A.grow b n gap more = (B, some x) := by
  unfold Ar.grow
  rw [take_fresh h (by omega), if_neg (by omega)]
  exact ⟨_, _, rfl⟩
theorem putHop_ok {A : Ar} {F : Nat → List Nat} {M : Tab} {l v h d len u y : Nat} {live : Nat → Nat} (hA : ArOk A F) (ht : A.top ≠ 0) (hr : Rep A.word M d len u y) (h1 : len ≤ l) (h3 : l < len + 4) (h2 : v / 2 ^ (l - len) = u)
    (hs : ∀ a, live a + inB a y 2 + fp A.word d y a + A.frees F a ≤ 1) (hl0 : 1 ≤ live 0) (hlive : ∀ a, 65536 ≤ a → 1 ≤ live a) :
    ((putHopN l v h len A y).2 = false ∧ (∀ a, A.frees F a = 0 → (putHopN l v h len A y).1.word a = A.word a) ∧ (putHopN l v h len A y).1.size = A.size ∧ (nodeAt A.word y).routes.testBit (pnum l v len) = false ∧ ¬ (A.fresh ∧ ones 16 (nodeAt A.word y).routes + 1 ≤ A.size - A.top)) ∨
    ∃ B F', putHopN l v h len A y = (B, true) ∧ Put A F B F' M l v h d len u y := by
  have n := hr.node
  have hp := pnum_lt (v := v) h1 (show l ≤ len + 3 by omega)
  have hown := fp_own A.word d y
  have hle := ones_le 16 (nodeAt A.word y).routes
  have hag : ∀ f, f < 16 → Agree M (updT M l v (some h)) (len + 4) (16 * u + f) := fun f _ => agree_upd (by omega)
  have hbit := bit_pnum n h1 h2 (by omega)
  have hmono := ones_mono (nodeAt A.word y).routes (show pnum l v len ≤ 16 by omega)
  unfold putHopN
  by_cases hb : (nodeAt A.word y).routes.testBit (pnum l v len) = true
  · rw [if_pos hb]
    right
    have hlt := ones_lt (show pnum l v len < 16 by omega) hb
    have hplace : inB ((nodeAt A.word y).hops + ones (pnum l v len) (nodeAt A.word y).routes) (nodeAt A.word y).hops (ones 16 (nodeAt A.word y).routes) = 1 := inB_one (by omega) (by omega)
    have hne : ∀ a, inB a (nodeAt A.word y).hops (ones 16 (nodeAt A.word y).routes) = 0 → a ≠ (nodeAt A.word y).hops + ones (pnum l v len) (nodeAt A.word y).routes := by
      rintro a q rfl; omega
    have hN : nodeAt (setW A.word ((nodeAt A.word y).hops + ones (pnum l v len) (nodeAt A.word y).routes) h) y = nodeAt A.word y := by
      have q0 := hs y; have q1 := hs (y + 1); have p0 := hown y; have p1 := hown (y + 1)
      rw [inB_one (b := y) (Nat.le_refl _) (by omega)] at q0
      rw [inB_one (b := y) (by omega) (by omega)] at q1
      exact node_same (setW_ne (hne y (by omega))) (setW_ne (hne (y + 1) (by omega)))
    have hn' := hop_set (W' := setW A.word ((nodeAt A.word y).hops + ones (pnum l v len) (nodeAt A.word y).routes) h) n h1 h2 (by omega) (by rw [← hbit]; exact hb) hN (setW_same _ _ _) (by
      intro i hi hii
      exact setW_ne (by omega))
    obtain ⟨r1, r2, r3⟩ := rep_hops hr hn' (by rw [hN]) (by rw [hN]) hag (fun a => by have := hs a; omega) (fun a _ q => setW_ne (hne a q))
    rw [hN] at r2 r3
    refine ⟨_, F, rfl, ⟨?_, r1, ?_, ?_, ?_, rfl, Nat.le_refl _⟩⟩
    · apply ok_word hA
      intro a q
      exact setW_ne (hne a (by have := hs a; have := hown a; omega))
    · intro a
      have := r2 a
      show A.frees F a + fp (setW A.word ((nodeAt A.word y).hops + ones (pnum l v len) (nodeAt A.word y).routes) h) d y a = _
      omega
    · show A.free + ((costW (setW A.word ((nodeAt A.word y).hops + ones (pnum l v len) (nodeAt A.word y).routes) h) d y : Nat) : Int) = _
      omega
    · intro a _ q _
      exact setW_ne (hne a (by have := hown a; omega))
  · rw [if_neg hb]
    have hb' : (nodeAt A.word y).routes.testBit (pnum l v len) = false := by simpa using hb
    have hm : M l v = none := by
      rw [hbit] at hb'
      simpa using hb'
    have hh0 : ones 16 (nodeAt A.word y).routes ≠ 0 → (nodeAt A.word y).hops ≠ 0 := by
      intro q e
      have p := hown 0
      have p2 := hs 0
      rw [e, inB_one (b := 0) (Nat.le_refl 0) (by omega)] at p
      omega
    have hg := grow_ok (b := (nodeAt A.word y).hops) (n := ones 16 (nodeAt A.word y).routes) (gap := ones (pnum l v len) (nodeAt A.word y).routes) (more := 1) hA (by omega) (by omega) hmono ht hh0 (fun a => by have := hs a; have := hown a; omega)
    have htop := grow_top A (nodeAt A.word y).hops (ones 16 (nodeAt A.word y).routes) (ones (pnum l v len) (nodeAt A.word y).routes) 1
    rcases hg with ⟨e, hlt⟩ | ⟨p, B, F', e, G⟩
    · left
      rw [e]
      refine ⟨rfl, fun _ _ => rfl, rfl, hb', ?_⟩
      rintro ⟨q1, q2⟩
      obtain ⟨B, x, e2⟩ := grow_fresh (b := (nodeAt A.word y).hops) (gap := ones (pnum l v len) (nodeAt A.word y).routes) q1 (Nat.le_refl 1) q2
      rw [e] at e2
      simp at e2
    · rw [e] at htop ⊢
      right
      have hgf := G.frees
      have hpb : p < 65536 := by
        by_cases q : p < 65536
        · exact q
        · have q1 := hlive p (by omega)
          have q2 := hs p
          have q3 := hgf p
          have q4 := hown p
          rw [inB_one (b := p) (Nat.le_refl _) (by omega)] at q3
          omega
      have hor : ∀ i, i ≠ pnum l v len → ((nodeAt A.word y).routes ||| 2 ^ pnum l v len).testBit i = (nodeAt A.word y).routes.testBit i := fun i hi => or_bits _ _ i hi
      have hone : ∀ i, ones i ((nodeAt A.word y).routes ||| 2 ^ pnum l v len) = ones i (nodeAt A.word y).routes + (if pnum l v len < i then 1 else 0) := fun i => ones_more hb' (or_bit _ _) hor
      have hone16 := hone 16
      rw [if_pos (by omega)] at hone16
      have honek := hone (pnum l v len)
      rw [if_neg (by omega), Nat.add_zero] at honek
      have hrl : (nodeAt A.word y).routes ||| 2 ^ pnum l v len < 32768 := or_lt (n := 15) n.lt hp
      have hpin : inB (p + ones (pnum l v len) (nodeAt A.word y).routes) p (ones 16 (nodeAt A.word y).routes + 1) = 1 := inB_one (by omega) (by omega)
      show ∃ B' F'', (({ B with word := setW (putNode B.word y ((nodeAt A.word y).moreHop (pnum l v len) p)) (p + ones (pnum l v len) ((nodeAt A.word y).routes ||| 2 ^ pnum l v len)) h } : Ar), true) = (B', true) ∧ _
      rw [honek]
      generalize hW : setW (putNode B.word y ((nodeAt A.word y).moreHop (pnum l v len) p)) (p + ones (pnum l v len) (nodeAt A.word y).routes) h = W
      have hyp : ∀ a, 1 ≤ inB a y 2 → inB a p (ones 16 (nodeAt A.word y).routes + 1) = 0 := by
        intro a q
        have := hs a; have := hgf a; have := hown a
        omega
      have hWy : ∀ a, 1 ≤ inB a y 2 → W a = putNode B.word y ((nodeAt A.word y).moreHop (pnum l v len) p) a := by
        intro a q
        rw [← hW]
        apply setW_ne
        rintro rfl
        have := hyp _ q
        omega
      have hWo : ∀ a, inB a y 2 = 0 → a ≠ p + ones (pnum l v len) (nodeAt A.word y).routes → W a = B.word a := by
        intro a q1 q2
        rw [← hW, setW_ne q2, putNode_out q1]
      have hWn : ∀ a, inB a y 2 = 0 → inB a p (ones 16 (nodeAt A.word y).routes + 1) = 0 → B.frees F' a = 0 → W a = A.word a := by
        intro a q1 q2 q3
        rw [hWo a q1 (by rintro rfl; omega)]
        exact G.word a q3 q2
      have hN' : nodeAt W y = (nodeAt A.word y).moreHop (pnum l v len) p := by
        rw [node_same (hWy y (by rw [inB_one (Nat.le_refl _) (by omega)]; omega)) (hWy (y + 1) (by rw [inB_one (by omega) (by omega)]; omega))]
        apply nodeAt_put
        · show (nodeAt A.word y).routes ||| 2 ^ pnum l v len < 65536
          omega
        · exact hpb
      have hpy : ∀ i, i < ones 16 (nodeAt A.word y).routes + 1 → inB (p + i) y 2 = 0 := by
        intro i hi
        by_cases q : 1 ≤ inB (p + i) y 2
        · have := hyp _ q
          rw [inB_one (b := p) (by omega) (by omega)] at this
          omega
        · omega
      have hn' : NodeOk W (updT M l v (some h)) len u y := by
        refine hop_new n h1 h2 (by omega) hm (by rw [hN']; rfl) (by rw [hN']; rfl) (by rw [hN']; exact hrl) (by rw [hN']; exact or_bit _ _) (by rw [hN']; exact hor) ?_ ?_ ?_
        · rw [hN']
          show W (p + _) = h
          rw [← hW, setW_same]
        · intro i hi
          rw [hN']
          show W (p + i) = _
          rw [hWo _ (hpy i (by omega)) (by omega)]
          exact G.head i hi
        · intro i hi
          rw [hN']
          show W (p + ones (pnum l v len) (nodeAt A.word y).routes + 1 + i) = _
          rw [hWo _ (by have := hpy (ones (pnum l v len) (nodeAt A.word y).routes + 1 + i) (by omega); rw [← Nat.add_assoc, ← Nat.add_assoc] at this; exact this) (by omega)]
          exact G.tail i hi
      obtain ⟨r1, r2, r3⟩ := rep_hops hr hn' (by rw [hN']; rfl) (by rw [hN']; rfl) hag (fun a => by have := hs a; omega) (by
        intro a q1 q2
        have := hs a; have := hgf a
        exact hWn a (by omega) (by omega) (by omega))
      rw [hN'] at r2 r3
      have r2' : ∀ a, fp W d y a + inB a (nodeAt A.word y).hops (ones 16 (nodeAt A.word y).routes) = fp A.word d y a + inB a p (ones 16 (nodeAt A.word y).routes + 1) := by
        intro a
        have := r2 a
        rw [show ((nodeAt A.word y).moreHop (pnum l v len) p).routes = (nodeAt A.word y).routes ||| 2 ^ pnum l v len from rfl, hone16] at this
        exact this
      rw [show ((nodeAt A.word y).moreHop (pnum l v len) p).routes = (nodeAt A.word y).routes ||| 2 ^ pnum l v len from rfl, hone16] at r3
      refine ⟨_, F', rfl, ⟨?_, r1, ?_, ?_, ?_, G.size, htop⟩⟩
      · apply ok_word G.ok
        intro a q
        have := hs a; have := hgf a; have := hown a
        exact hWo a (by omega) (by rintro rfl; omega)
      · intro a
        have := r2' a; have := hgf a
        show B.frees F' a + fp W d y a = _
        omega
      · show B.free + _ = _
        rw [G.free]
        show _ + ((costW W d y : Nat) : Int) = _
        omega
      · intro a q1 q2 q3
        have := hown a; have := hgf a
        exact hWn a q1 (by omega) (by omega)
end Go.Proofs.YtnapboelfimaaaaDoor
