/- MathD, MathE, MathF: parts of the proof, one behind the other. -/
import Derived.Test.YtnapboelfimaaaaDoorK01
/- Nodes in an arena that stand for a table of routes. -/
namespace Go.Proofs.YtnapboelfimaaaaDoor
structure NodeD where
  routes : Nat
  ways : Nat
  hops : Nat
  children : Nat
def NodeD.ok (n : NodeD) : Prop := n.routes < 65536 ∧ n.ways < 65536 ∧ n.hops < 65536 ∧ n.children < 65536
def NodeD.kid (n : NodeD) (f : Nat) : Nat := n.children + 2 * ones f n.ways
def nodeAt (W : Nat → Nat) (x : Nat) : NodeD := ⟨W x % 65536, W x / 65536, W (x + 1) % 65536, W (x + 1) / 65536⟩
/-- the routes of a family: length, value of so many bits -/
abbrev Tab := Nat → Nat → Option Nat
def num (fu j : Nat) : Nat := 2 ^ fu - 1 + j
/-- is there a route that begins with these bits? -/
def anyBelow (M : Tab) (len u : Nat) : Bool := (List.range (129 - len)).any fun k => (List.range (2 ^ k)).any fun j => (M (len + k) (u * 2 ^ k + j)).isSome
theorem anyBelow_iff {M : Tab} {len u : Nat} : anyBelow M len u = true ↔ ∃ k j, k < 129 - len ∧ j < 2 ^ k ∧ (M (len + k) (u * 2 ^ k + j)).isSome = true := by
  unfold anyBelow
  simp only [List.any_eq_true, List.mem_range]
  constructor
  · rintro ⟨k, hk, j, hj, h⟩; exact ⟨k, j, hk, hj, h⟩
  · rintro ⟨k, j, hk, hj, h⟩; exact ⟨k, hk, j, hj, h⟩
/-- two tables are the same below some bits -/
def Agree (M M' : Tab) (len u : Nat) : Prop := ∀ k j, j < 2 ^ k → M' (len + k) (u * 2 ^ k + j) = M (len + k) (u * 2 ^ k + j)
theorem anyBelow_agree {M M' : Tab} {len u : Nat} (h : Agree M M' len u) : anyBelow M' len u = anyBelow M len u := by
  rw [Bool.eq_iff_iff, anyBelow_iff, anyBelow_iff]
  constructor
  · rintro ⟨k, j, hk, hj, hh⟩; exact ⟨k, j, hk, hj, by rw [← h k j hj]; exact hh⟩
  · rintro ⟨k, j, hk, hj, hh⟩; exact ⟨k, j, hk, hj, by rw [h k j hj]; exact hh⟩
theorem Agree.kid {M M' : Tab} {len u f : Nat} (h : Agree M M' len u) (hf : f < 16) : Agree M M' (len + 4) (16 * u + f) := by
  intro k j hj
  have h1 := h (k + 4) (f * 2 ^ k + j) (by
    have : (f + 1) * 2 ^ k ≤ 16 * 2 ^ k := Nat.mul_le_mul_right _ (by omega)
    rw [Nat.pow_add]; rw [Nat.add_mul] at this; omega)
  have e : u * 2 ^ (k + 4) + (f * 2 ^ k + j) = (16 * u + f) * 2 ^ k + j := by
    have : u * (2 ^ k * 2 ^ 4) = 16 * u * 2 ^ k := by rw [Nat.mul_comm (2 ^ k), ← Nat.mul_assoc, Nat.mul_comm u]
    rw [Nat.pow_add, Nat.add_mul]
    omega
  rw [show len + (k + 4) = len + 4 + k by omega, e] at h1
  exact h1
structure NodeOk (W : Nat → Nat) (M : Tab) (len u x : Nat) : Prop where
  lt : (nodeAt W x).routes < 32768
  lt2 : (nodeAt W x).ways < 65536
  lt3 : (nodeAt W x).children < 65536
  hops0 : (nodeAt W x).routes = 0 → (nodeAt W x).hops = 0
  kids0 : (nodeAt W x).ways = 0 → (nodeAt W x).children = 0
  route : ∀ fu j, fu ≤ 3 → j < 2 ^ fu → (nodeAt W x).routes.testBit (num fu j) = (M (len + fu) (u * 2 ^ fu + j)).isSome
  hop : ∀ fu j h, fu ≤ 3 → j < 2 ^ fu → M (len + fu) (u * 2 ^ fu + j) = some h → W ((nodeAt W x).hops + ones (num fu j) (nodeAt W x).routes) = h
  way : ∀ f, f < 16 → (nodeAt W x).ways.testBit f = anyBelow M (len + 4) (16 * u + f)
/-- the node at a place stands for the routes that begin with u, of which len bits are fixed; d steps lie below it -/
def Rep (W : Nat → Nat) (M : Tab) : Nat → Nat → Nat → Nat → Prop
  | 0, len, u, x => NodeOk W M len u x ∧ (nodeAt W x).ways = 0
  | d + 1, len, u, x => NodeOk W M len u x ∧ ∀ f, f < 16 → (nodeAt W x).ways.testBit f = true → Rep W M d (len + 4) (16 * u + f) ((nodeAt W x).kid f)
/-- what belongs to a node, but for its own two words -/
def fp (W : Nat → Nat) : Nat → Nat → Nat → Nat
  | 0, x, a => inB a (nodeAt W x).hops (ones 16 (nodeAt W x).routes) + inB a (nodeAt W x).children (2 * ones 16 (nodeAt W x).ways)
  | d + 1, x, a => inB a (nodeAt W x).hops (ones 16 (nodeAt W x).routes) + inB a (nodeAt W x).children (2 * ones 16 (nodeAt W x).ways) + sumTo 16 fun f => if (nodeAt W x).ways.testBit f then fp W d ((nodeAt W x).kid f) a else 0
/-- how many words -/
def costW (W : Nat → Nat) : Nat → Nat → Nat
  | 0, x => ones 16 (nodeAt W x).routes + 2 * ones 16 (nodeAt W x).ways
  | d + 1, x => ones 16 (nodeAt W x).routes + 2 * ones 16 (nodeAt W x).ways + sumTo 16 fun f => if (nodeAt W x).ways.testBit f then costW W d ((nodeAt W x).kid f) else 0
theorem Rep.node {W : Nat → Nat} {M : Tab} {d len u x : Nat} (h : Rep W M d len u x) : NodeOk W M len u x := by
  cases d with
  | zero => exact h.1
  | succ d => exact h.1
theorem fp_own (W : Nat → Nat) (d x a : Nat) : inB a (nodeAt W x).hops (ones 16 (nodeAt W x).routes) + inB a (nodeAt W x).children (2 * ones 16 (nodeAt W x).ways) ≤ fp W d x a := by
  cases d with
  | zero => exact Nat.le_refl _
  | succ d => simp only [fp]; omega
theorem fp_kid {W : Nat → Nat} {x f : Nat} (d a : Nat) (hf : f < 16) (hb : (nodeAt W x).ways.testBit f = true) : inB a ((nodeAt W x).kid f) 2 + fp W d ((nodeAt W x).kid f) a ≤ fp W (d + 1) x a := by
  have h1 := le_sumTo (fun f => if (nodeAt W x).ways.testBit f then fp W d ((nodeAt W x).kid f) a else 0) hf
  simp only [hb, if_true] at h1
  have h2 : inB a ((nodeAt W x).kid f) 2 ≤ inB a (nodeAt W x).children (2 * ones 16 (nodeAt W x).ways) := by
    have h3 := ones_lt hf hb
    unfold NodeD.kid inB
    split
    · rw [if_pos (by omega)]; exact Nat.le_refl _
    · omega
  simp only [fp]
  omega
theorem node_same {W W' : Nat → Nat} {x x' : Nat} (h0 : W' x' = W x) (h1 : W' (x' + 1) = W (x + 1)) : nodeAt W' x' = nodeAt W x := by simp [nodeAt, h0, h1]
theorem testBit_lt16 {x k : Nat} (hx : x < 65536) (h : x.testBit k = true) : k < 16 := by
  by_cases hk : k < 16
  · exact hk
  · have h2 : 65536 ≤ 2 ^ k := Nat.pow_le_pow_right (n := 2) (by decide) (show 16 ≤ k by omega)
    rw [Nat.testBit_lt_two_pow (by omega)] at h
    cases h
theorem num_lt {fu j : Nat} (h : fu ≤ 3) (hj : j < 2 ^ fu) : num fu j < 15 := by
  unfold num
  have h1 : 2 ^ fu ≤ 2 ^ 3 := Nat.pow_le_pow_right (by decide) h
  have h2 : 1 ≤ 2 ^ fu := Nat.one_le_two_pow
  omega
/-- a node may lie elsewhere, if what belongs to it is as it was -/
theorem rep_move {W W' : Nat → Nat} {M M' : Tab} {d : Nat} : ∀ {len u x x' : Nat}, Rep W M d len u x → Agree M M' len u → W' x' = W x → W' (x' + 1) = W (x + 1) → (∀ a, 1 ≤ fp W d x a → W' a = W a) →
    Rep W' M' d len u x' ∧ (∀ a, fp W' d x' a = fp W d x a) ∧ costW W' d x' = costW W d x := by
  induction d with
  | zero =>
    intro len u x x' h ha h0 h1 hw
    have hn := node_same h0 h1
    obtain ⟨n, hways⟩ := h
    refine ⟨⟨⟨?_, ?_, ?_, ?_, ?_, ?_, ?_, ?_⟩, ?_⟩, ?_, ?_⟩
    · rw [hn]; exact n.lt
    · rw [hn]; exact n.lt2
    · rw [hn]; exact n.lt3
    · rw [hn]; exact n.hops0
    · rw [hn]; exact n.kids0
    · intro fu j hfu hj
      rw [hn, ha fu j hj]; exact n.route fu j hfu hj
    · intro fu j hp hfu hj hm
      rw [ha fu j hj] at hm
      have hb := n.route fu j hfu hj
      rw [hm] at hb
      have hlt := ones_lt (show num fu j < 16 by have := num_lt hfu hj; omega) hb
      rw [hn, hw]
      · exact n.hop fu j hp hfu hj hm
      · have := fp_own W 0 x ((nodeAt W x).hops + ones (num fu j) (nodeAt W x).routes)
        rw [inB_one (b := (nodeAt W x).hops) (by omega) (by omega)] at this
        omega
    · intro f hf
      rw [hn, anyBelow_agree (ha.kid hf)]; exact n.way f hf
    · rw [hn]; exact hways
    · intro a; simp only [fp, hn]
    · simp only [costW, hn]
  | succ d ih =>
    intro len u x x' h ha h0 h1 hw
    have hn := node_same h0 h1
    obtain ⟨n, hk⟩ := h
    have key : ∀ f, f < 16 → (nodeAt W x).ways.testBit f = true → Rep W' M' d (len + 4) (16 * u + f) ((nodeAt W x).kid f) ∧ (∀ a, fp W' d ((nodeAt W x).kid f) a = fp W d ((nodeAt W x).kid f) a) ∧ costW W' d ((nodeAt W x).kid f) = costW W d ((nodeAt W x).kid f) := by
      intro f hf hb
      refine ih (hk f hf hb) (ha.kid hf) (hw _ ?_) (hw _ ?_) (fun a h1 => hw a ?_)
      · have := fp_kid d ((nodeAt W x).kid f) hf hb
        rw [inB_one (Nat.le_refl _) (by omega)] at this
        omega
      · have := fp_kid d ((nodeAt W x).kid f + 1) hf hb
        rw [inB_one (by omega) (by omega)] at this
        omega
      · have := fp_kid d a hf hb
        omega
    refine ⟨⟨⟨?_, ?_, ?_, ?_, ?_, ?_, ?_, ?_⟩, ?_⟩, ?_, ?_⟩
    · rw [hn]; exact n.lt
    · rw [hn]; exact n.lt2
    · rw [hn]; exact n.lt3
    · rw [hn]; exact n.hops0
    · rw [hn]; exact n.kids0
    · intro fu j hfu hj
      rw [hn, ha fu j hj]; exact n.route fu j hfu hj
    · intro fu j hp hfu hj hm
      rw [ha fu j hj] at hm
      have hb := n.route fu j hfu hj
      rw [hm] at hb
      have hlt := ones_lt (show num fu j < 16 by have := num_lt hfu hj; omega) hb
      rw [hn, hw]
      · exact n.hop fu j hp hfu hj hm
      · have := fp_own W (d + 1) x ((nodeAt W x).hops + ones (num fu j) (nodeAt W x).routes)
        rw [inB_one (b := (nodeAt W x).hops) (by omega) (by omega)] at this
        omega
    · intro f hf
      rw [hn, anyBelow_agree (ha.kid hf)]; exact n.way f hf
    · rw [hn]; intro f hf hb; exact (key f hf hb).1
    · intro a
      simp only [fp, hn]
      congr 1
      apply sumTo_congr
      intro f hf
      split
      · rename_i hb; exact (key f hf hb).2.1 a
      · rfl
    · simp only [costW, hn]
      congr 1
      apply sumTo_congr
      intro f hf
      split
      · rename_i hb; exact (key f hf hb).2.2
      · rfl
end Go.Proofs.YtnapboelfimaaaaDoor
/- A table turns, and a node with it. -/
namespace Go.Proofs.YtnapboelfimaaaaDoor
def updT (M : Tab) (l v : Nat) (o : Option Nat) : Tab := fun l' v' => if l' = l ∧ v' = v then o else M l' v'
theorem updT_same (M : Tab) (l v : Nat) (o : Option Nat) : updT M l v o l v = o := by simp [updT]
theorem updT_ne {M : Tab} {l v l' v' : Nat} {o : Option Nat} (h : ¬ (l' = l ∧ v' = v)) : updT M l v o l' v' = M l' v' := by unfold updT; rw [if_neg h]
theorem div_of {u k j v : Nat} (hj : j < 2 ^ k) (h : u * 2 ^ k + j = v) : v / 2 ^ k = u := by
  subst h
  rw [Nat.mul_comm, Nat.mul_add_div (Nat.two_pow_pos k), Nat.div_eq_of_lt hj, Nat.add_zero]
theorem agree_upd {M : Tab} {l v len u : Nat} {o : Option Nat} (h : ¬ (len ≤ l ∧ v / 2 ^ (l - len) = u)) : Agree M (updT M l v o) len u := by
  intro k j hj
  apply updT_ne
  rintro ⟨h1, h2⟩
  apply h
  refine ⟨by omega, ?_⟩
  rw [show l - len = k by omega]
  exact div_of hj h2
theorem agree_refl (M : Tab) (len u : Nat) : Agree M M len u := fun _ _ _ => rfl
theorem anyBelow_put {M : Tab} {l v len u h : Nat} (hl : l ≤ 128) (h1 : len ≤ l) (h2 : v / 2 ^ (l - len) = u) : anyBelow (updT M l v (some h)) len u = true := by
  rw [anyBelow_iff]
  refine ⟨l - len, v % 2 ^ (l - len), by omega, Nat.mod_lt _ (Nat.two_pow_pos _), ?_⟩
  have e : u * 2 ^ (l - len) + v % 2 ^ (l - len) = v := by
    rw [← h2, Nat.mul_comm]; exact Nat.div_add_mod v _
  rw [show len + (l - len) = l by omega, e, updT_same]
  rfl
theorem num_inj {fu j fu' j' : Nat} (h : fu ≤ 3) (h' : fu' ≤ 3) (hj : j < 2 ^ fu) (hj' : j' < 2 ^ fu') (e : num fu j = num fu' j') : fu = fu' ∧ j = j' := by
  unfold num at e
  rcases fu with _ | _ | _ | _ | fu <;> rcases fu' with _ | _ | _ | _ | fu' <;> simp at * <;> omega
theorem num_all {i : Nat} (h : i < 15) : ∃ fu j, fu ≤ 3 ∧ j < 2 ^ fu ∧ num fu j = i := by
  by_cases h0 : i < 1
  · exact ⟨0, 0, by omega, by simp, by simp [num]; omega⟩
  · by_cases h1 : i < 3
    · exact ⟨1, i - 1, by omega, by simp; omega, by simp [num]; omega⟩
    · by_cases h2 : i < 7
      · exact ⟨2, i - 3, by omega, by simp; omega, by simp [num]; omega⟩
      · exact ⟨3, i - 7, by omega, by simp; omega, by simp [num]; omega⟩
/-- the words of a node -/
def putNode (W : Nat → Nat) (x : Nat) (n : NodeD) : Nat → Nat := setW (setW W x (n.routes + 65536 * n.ways)) (x + 1) (n.hops + 65536 * n.children)
theorem nodeAt_put {W : Nat → Nat} {x : Nat} {n : NodeD} (h1 : n.routes < 65536) (h2 : n.hops < 65536) : nodeAt (putNode W x n) x = n := by
  have e0 : putNode W x n x = n.routes + 65536 * n.ways := by unfold putNode; rw [setW_ne (by omega), setW_same]
  have e1 : putNode W x n (x + 1) = n.hops + 65536 * n.children := by unfold putNode; rw [setW_same]
  unfold nodeAt
  rw [e0, e1]
  cases n
  simp only [NodeD.mk.injEq] at *
  refine ⟨?_, ?_, ?_, ?_⟩ <;> omega
theorem putNode_out {W : Nat → Nat} {x a : Nat} {n : NodeD} (h : inB a x 2 = 0) : putNode W x n a = W a := by
  have : ¬ (x ≤ a ∧ a < x + 2) := fun q => by rw [inB_one q.1 q.2] at h; omega
  unfold putNode
  rw [setW_ne (by omega), setW_ne (by omega)]
/-- a node of which only the hops turn -/
theorem rep_hops {W W' : Nat → Nat} {M M' : Tab} {d len u x x' : Nat} (h : Rep W M d len u x) (hn : NodeOk W' M' len u x') (hw : (nodeAt W' x').ways = (nodeAt W x).ways) (hc : (nodeAt W' x').children = (nodeAt W x).children)
    (ha : ∀ f, f < 16 → Agree M M' (len + 4) (16 * u + f)) (hs : ∀ a, fp W d x a ≤ 1) (hW : ∀ a, 1 ≤ fp W d x a → inB a (nodeAt W x).hops (ones 16 (nodeAt W x).routes) = 0 → W' a = W a) :
    Rep W' M' d len u x' ∧ (∀ a, fp W' d x' a + inB a (nodeAt W x).hops (ones 16 (nodeAt W x).routes) = fp W d x a + inB a (nodeAt W' x').hops (ones 16 (nodeAt W' x').routes)) ∧ costW W' d x' + ones 16 (nodeAt W x).routes = costW W d x + ones 16 (nodeAt W' x').routes := by
  have hk : ∀ f, (nodeAt W' x').kid f = (nodeAt W x).kid f := by intro f; simp [NodeD.kid, hw, hc]
  cases d with
  | zero =>
    refine ⟨⟨hn, by rw [hw]; exact h.2⟩, ?_, ?_⟩
    · intro a; simp only [fp, hw, hc]; omega
    · simp only [costW, hw]; omega
  | succ d =>
    have key : ∀ f, f < 16 → (nodeAt W x).ways.testBit f = true → Rep W' M' d (len + 4) (16 * u + f) ((nodeAt W x).kid f) ∧ (∀ a, fp W' d ((nodeAt W x).kid f) a = fp W d ((nodeAt W x).kid f) a) ∧ costW W' d ((nodeAt W x).kid f) = costW W d ((nodeAt W x).kid f) := by
      intro f hf hb
      have hq : ∀ a, 1 ≤ inB a ((nodeAt W x).kid f) 2 + fp W d ((nodeAt W x).kid f) a → W' a = W a := by
        intro a q
        have q1 := fp_kid d a hf hb
        apply hW a (by omega)
        have q2 := hs a
        have q3 := le_sumTo (fun f => if (nodeAt W x).ways.testBit f then fp W d ((nodeAt W x).kid f) a else 0) hf
        simp only [hb, if_true] at q3
        have q4 : inB a ((nodeAt W x).kid f) 2 ≤ inB a (nodeAt W x).children (2 * ones 16 (nodeAt W x).ways) := by
          have h3 := ones_lt hf hb
          unfold NodeD.kid inB
          split
          · rw [if_pos (by omega)]; exact Nat.le_refl _
          · omega
        simp only [fp] at q2
        omega
      refine rep_move (h.2 f hf hb) (ha f hf) (hq _ ?_) (hq _ ?_) (fun a h1 => hq a (by omega))
      · rw [inB_one (Nat.le_refl _) (by omega)]; omega
      · rw [inB_one (by omega) (by omega)]; omega
    refine ⟨⟨hn, ?_⟩, ?_, ?_⟩
    · intro f hf hb
      rw [hw] at hb
      rw [hk]; exact (key f hf hb).1
    · intro a
      simp only [fp, hw, hc, hk]
      have : sumTo 16 (fun f => if (nodeAt W x).ways.testBit f = true then fp W' d ((nodeAt W x).kid f) a else 0) = sumTo 16 (fun f => if (nodeAt W x).ways.testBit f = true then fp W d ((nodeAt W x).kid f) a else 0) := by
        apply sumTo_congr
        intro f hf
        split
        · rename_i hb; exact (key f hf hb).2.1 a
        · rfl
      omega
    · simp only [costW, hw, hk]
      have : sumTo 16 (fun f => if (nodeAt W x).ways.testBit f = true then costW W' d ((nodeAt W x).kid f) else 0) = sumTo 16 (fun f => if (nodeAt W x).ways.testBit f = true then costW W d ((nodeAt W x).kid f) else 0) := by
        apply sumTo_congr
        intro f hf
        split
        · rename_i hb; exact (key f hf hb).2.2
        · rfl
      omega
end Go.Proofs.YtnapboelfimaaaaDoor
/- A node's hops and its children turn. -/
namespace Go.Proofs.YtnapboelfimaaaaDoor
/-- the number of a prefix among those that end in a node -/
def pnum (l v len : Nat) : Nat := num (l - len) (v % 2 ^ (l - len))
theorem here_iff {l v len u fu j : Nat} (h1 : len ≤ l) (h2 : v / 2 ^ (l - len) = u) (hj : j < 2 ^ fu) : (len + fu = l ∧ u * 2 ^ fu + j = v) ↔ (fu = l - len ∧ j = v % 2 ^ (l - len)) := by
  constructor
  · rintro ⟨a, b⟩
    have e : fu = l - len := by omega
    subst e
    refine ⟨rfl, ?_⟩
    rw [← b, Nat.mul_comm, Nat.mul_add_mod, Nat.mod_eq_of_lt hj]
  · rintro ⟨rfl, rfl⟩
    refine ⟨by omega, ?_⟩
    rw [← h2, Nat.mul_comm]; exact Nat.div_add_mod v _
theorem pnum_lt {l v len : Nat} (h1 : len ≤ l) (h3 : l ≤ len + 3) : pnum l v len < 15 := num_lt (by omega) (Nat.mod_lt _ (Nat.two_pow_pos _))
/-- the general case -/
theorem node_hops {W W' : Nat → Nat} {M : Tab} {l v len u x x' : Nat} {o : Option Nat} (n : NodeOk W M len u x) (h1 : len ≤ l) (h2 : v / 2 ^ (l - len) = u) (h3 : l ≤ len + 3)
    (hw : (nodeAt W' x').ways = (nodeAt W x).ways) (hc : (nodeAt W' x').children = (nodeAt W x).children) (hlt : (nodeAt W' x').routes < 32768) (h0 : (nodeAt W' x').routes = 0 → (nodeAt W' x').hops = 0)
    (hbit : (nodeAt W' x').routes.testBit (pnum l v len) = o.isSome) (hbits : ∀ i, i ≠ pnum l v len → (nodeAt W' x').routes.testBit i = (nodeAt W x).routes.testBit i)
    (hhop : ∀ h, o = some h → W' ((nodeAt W' x').hops + ones (pnum l v len) (nodeAt W' x').routes) = h)
    (hhops : ∀ i, i ≠ pnum l v len → (nodeAt W x).routes.testBit i = true → W' ((nodeAt W' x').hops + ones i (nodeAt W' x').routes) = W ((nodeAt W x).hops + ones i (nodeAt W x).routes)) :
    NodeOk W' (updT M l v o) len u x' := by
  have hag : ∀ f, f < 16 → Agree M (updT M l v o) (len + 4) (16 * u + f) := fun f _ => agree_upd (by omega)
  refine ⟨hlt, by rw [hw]; exact n.lt2, by rw [hc]; exact n.lt3, h0, by rw [hw, hc]; exact n.kids0, ?_, ?_, ?_⟩
  · intro fu j hfu hj
    by_cases hh : fu = l - len ∧ j = v % 2 ^ (l - len)
    · have e := (here_iff h1 h2 hj).2 hh
      rw [e.1, e.2, updT_same, ← hbit]
      obtain ⟨rfl, rfl⟩ := hh
      rfl
    · rw [updT_ne fun e => hh ((here_iff h1 h2 hj).1 e), hbits, n.route fu j hfu hj]
      intro e
      exact hh (num_inj hfu (by omega) hj (Nat.mod_lt _ (Nat.two_pow_pos _)) e)
  · intro fu j h hfu hj hm
    by_cases hh : fu = l - len ∧ j = v % 2 ^ (l - len)
    · have e := (here_iff h1 h2 hj).2 hh
      rw [e.1, e.2, updT_same] at hm
      obtain ⟨rfl, rfl⟩ := hh
      exact hhop h hm
    · rw [updT_ne fun e => hh ((here_iff h1 h2 hj).1 e)] at hm
      have hr := n.route fu j hfu hj
      rw [hm] at hr
      rw [hhops _ (fun e => hh (num_inj hfu (by omega) hj (Nat.mod_lt _ (Nat.two_pow_pos _)) e)) hr]
      exact n.hop fu j h hfu hj hm
  · intro f hf
    rw [hw, anyBelow_agree (hag f hf)]
    exact n.way f hf
theorem bit_pnum {W : Nat → Nat} {M : Tab} {l v len u x : Nat} (n : NodeOk W M len u x) (h1 : len ≤ l) (h2 : v / 2 ^ (l - len) = u) (h3 : l ≤ len + 3) : (nodeAt W x).routes.testBit (pnum l v len) = (M l v).isSome := by
  have e := (here_iff (fu := l - len) (j := v % 2 ^ (l - len)) h1 h2 (Nat.mod_lt _ (Nat.two_pow_pos _))).2 ⟨rfl, rfl⟩
  have := n.route (l - len) (v % 2 ^ (l - len)) (by omega) (Nat.mod_lt _ (Nat.two_pow_pos _))
  rw [e.1, e.2] at this
  exact this
theorem hop_pnum {W : Nat → Nat} {M : Tab} {l v len u x h : Nat} (n : NodeOk W M len u x) (h1 : len ≤ l) (h2 : v / 2 ^ (l - len) = u) (h3 : l ≤ len + 3) (hm : M l v = some h) : W ((nodeAt W x).hops + ones (pnum l v len) (nodeAt W x).routes) = h := by
  have e := (here_iff (fu := l - len) (j := v % 2 ^ (l - len)) h1 h2 (Nat.mod_lt _ (Nat.two_pow_pos _))).2 ⟨rfl, rfl⟩
  refine n.hop (l - len) (v % 2 ^ (l - len)) h (by omega) (Nat.mod_lt _ (Nat.two_pow_pos _)) ?_
  rw [e.1, e.2]; exact hm
theorem ones_ne {n x y k i : Nat} (hx : x.testBit k = false) (hy : y.testBit k = true) (h : ∀ i, i ≠ k → y.testBit i = x.testBit i) (hi : i ≤ n) : ones i y = ones i x + (if k < i then 1 else 0) := by
  have := hi
  exact ones_more hx hy h
/-- a route more in a node -/
theorem hop_new {W W' : Nat → Nat} {M : Tab} {l v len u x x' h : Nat} (n : NodeOk W M len u x) (h1 : len ≤ l) (h2 : v / 2 ^ (l - len) = u) (h3 : l ≤ len + 3) (hm : M l v = none)
    (hw : (nodeAt W' x').ways = (nodeAt W x).ways) (hc : (nodeAt W' x').children = (nodeAt W x).children) (hlt : (nodeAt W' x').routes < 32768)
    (hbit : (nodeAt W' x').routes.testBit (pnum l v len) = true) (hbits : ∀ i, i ≠ pnum l v len → (nodeAt W' x').routes.testBit i = (nodeAt W x).routes.testBit i)
    (hnew : W' ((nodeAt W' x').hops + ones (pnum l v len) (nodeAt W x).routes) = h)
    (hhead : ∀ i, i < ones (pnum l v len) (nodeAt W x).routes → W' ((nodeAt W' x').hops + i) = W ((nodeAt W x).hops + i))
    (htail : ∀ i, i < ones 16 (nodeAt W x).routes - ones (pnum l v len) (nodeAt W x).routes → W' ((nodeAt W' x').hops + ones (pnum l v len) (nodeAt W x).routes + 1 + i) = W ((nodeAt W x).hops + ones (pnum l v len) (nodeAt W x).routes + i)) :
    NodeOk W' (updT M l v (some h)) len u x' := by
  have hold : (nodeAt W x).routes.testBit (pnum l v len) = false := by rw [bit_pnum n h1 h2 h3, hm]; rfl
  have hone : ∀ i, ones i (nodeAt W' x').routes = ones i (nodeAt W x).routes + (if pnum l v len < i then 1 else 0) := fun i => ones_more hold hbit hbits
  refine node_hops n h1 h2 h3 hw hc hlt ?_ hbit hbits ?_ ?_
  · intro e; rw [e] at hbit; simp at hbit
  · intro h' e
    have e' : h = h' := by simpa using e
    rw [hone, if_neg (by omega), Nat.add_zero, hnew, e']
  · intro i hi hb
    rw [hone]
    by_cases hlt' : pnum l v len < i
    · have q1 := ones_mono (nodeAt W x).routes (show pnum l v len ≤ i by omega)
      have q2 : i < 16 := testBit_lt16 (by have := n.lt; omega) hb
      have q3 := ones_lt q2 hb
      have := htail (ones i (nodeAt W x).routes - ones (pnum l v len) (nodeAt W x).routes) (by omega)
      rw [if_pos hlt', show (nodeAt W' x').hops + (ones i (nodeAt W x).routes + 1) = (nodeAt W' x').hops + ones (pnum l v len) (nodeAt W x).routes + 1 + (ones i (nodeAt W x).routes - ones (pnum l v len) (nodeAt W x).routes) by omega, this]
      congr 1; omega
    · have q1 : ones i (nodeAt W x).routes < ones (pnum l v len) (nodeAt W x).routes := ones_lt (by omega) hb
      rw [if_neg hlt', Nat.add_zero]
      exact hhead _ q1
/-- another hop in a node -/
theorem hop_set {W W' : Nat → Nat} {M : Tab} {l v len u x h : Nat} (n : NodeOk W M len u x) (h1 : len ≤ l) (h2 : v / 2 ^ (l - len) = u) (h3 : l ≤ len + 3) (hm : (M l v).isSome = true) (hn : nodeAt W' x = nodeAt W x)
    (hnew : W' ((nodeAt W x).hops + ones (pnum l v len) (nodeAt W x).routes) = h) (hW : ∀ i, i < ones 16 (nodeAt W x).routes → i ≠ ones (pnum l v len) (nodeAt W x).routes → W' ((nodeAt W x).hops + i) = W ((nodeAt W x).hops + i)) :
    NodeOk W' (updT M l v (some h)) len u x := by
  have hold : (nodeAt W x).routes.testBit (pnum l v len) = true := by rw [bit_pnum n h1 h2 h3]; exact hm
  refine node_hops n h1 h2 h3 (by rw [hn]) (by rw [hn]) (by rw [hn]; exact n.lt) (by rw [hn]; exact n.hops0) (by rw [hn]; exact hold) (by rw [hn]; intros; rfl) ?_ ?_
  · intro h' e
    have e' : h = h' := by simpa using e
    rw [hn, hnew, e']
  · intro i hi hb
    rw [hn]
    have q2 : i < 16 := testBit_lt16 (by have := n.lt; omega) hb
    apply hW _ (ones_lt q2 hb)
    intro e
    by_cases hlt' : pnum l v len < i
    · have := ones_lt hlt' hold; omega
    · have := ones_lt (show i < pnum l v len by omega) hb; omega
/-- a route less in a node -/
theorem hop_del {W W' : Nat → Nat} {M : Tab} {l v len u x x' : Nat} (n : NodeOk W M len u x) (h1 : len ≤ l) (h2 : v / 2 ^ (l - len) = u) (h3 : l ≤ len + 3) (hm : (M l v).isSome = true)
    (hw : (nodeAt W' x').ways = (nodeAt W x).ways) (hc : (nodeAt W' x').children = (nodeAt W x).children) (hlt : (nodeAt W' x').routes < 32768)
    (hbit : (nodeAt W' x').routes.testBit (pnum l v len) = false) (hbits : ∀ i, i ≠ pnum l v len → (nodeAt W' x').routes.testBit i = (nodeAt W x).routes.testBit i) (h0 : (nodeAt W' x').routes = 0 → (nodeAt W' x').hops = 0)
    (hh : (nodeAt W' x').routes ≠ 0 → (nodeAt W' x').hops = (nodeAt W x).hops)
    (hhead : ∀ i, i < ones (pnum l v len) (nodeAt W x).routes → W' ((nodeAt W x).hops + i) = W ((nodeAt W x).hops + i))
    (htail : ∀ i, i < ones 16 (nodeAt W x).routes - ones (pnum l v len) (nodeAt W x).routes - 1 → W' ((nodeAt W x).hops + ones (pnum l v len) (nodeAt W x).routes + i) = W ((nodeAt W x).hops + ones (pnum l v len) (nodeAt W x).routes + 1 + i)) :
    NodeOk W' (updT M l v none) len u x' := by
  have hold : (nodeAt W x).routes.testBit (pnum l v len) = true := by rw [bit_pnum n h1 h2 h3]; exact hm
  have hone : ∀ i, ones i (nodeAt W x).routes = ones i (nodeAt W' x').routes + (if pnum l v len < i then 1 else 0) := fun i => ones_more hbit hold (fun i hi => (hbits i hi).symm)
  refine node_hops n h1 h2 h3 hw hc hlt h0 hbit hbits (by intro h e; cases e) ?_
  intro i hi hb
  have hne : (nodeAt W' x').routes ≠ 0 := by intro e; rw [← hbits i hi, e] at hb; simp at hb
  have q2 : i < 16 := testBit_lt16 (by have := n.lt; omega) hb
  have q3 := ones_lt q2 hb
  rw [hh hne]
  have hon := hone i
  by_cases hlt' : pnum l v len < i
  · rw [if_pos hlt'] at hon
    have q1 := ones_lt hlt' hold
    have := htail (ones i (nodeAt W x).routes - 1 - ones (pnum l v len) (nodeAt W x).routes) (by omega)
    rw [show ones i (nodeAt W' x').routes = ones (pnum l v len) (nodeAt W x).routes + (ones i (nodeAt W x).routes - 1 - ones (pnum l v len) (nodeAt W x).routes) by omega, ← Nat.add_assoc, this]
    congr 1; omega
  · rw [if_neg hlt', Nat.add_zero] at hon
    rw [← hon]
    exact hhead _ (ones_lt (by omega) hb)
end Go.Proofs.YtnapboelfimaaaaDoor
