/- FouB, RepM, FamM: parts of the proof, one behind the other. -/
import Derived.Test.YtnapboelfimaaaaDoorRe00
import Derived.BigQuiet
import Derived.Deep.QuietTactic
/- found: every route of a dump, and the lookup. -/
namespace Go.Proofs.YtnapboelfimaaaaDoor
open Go.RowKit Go.Deep
/-- what is known of each route of a dump -/
structure RtOk (M : Tab) (n : Nat) (x : Nat × Nat × Nat) : Prop where
  len : x.1 ≤ 8 * n
  val : x.2.1 < 2 ^ x.1
  hop : x.2.2 ≤ 65535
  tab : M x.1 x.2.1 = some x.2.2
theorem rt_ok {S : St} (h : S.ok) {f : Int} (hf : famBytes f ≠ 0) {x : Nat × Nat × Nat} (hx : x ∈ dumpR (S.M (fam f)) (dp (fam f))) : RtOk (S.M (fam f)) (famBytes f) x := by
  have hT := h.tab (fam f)
  have hm := (mem_dumpR hT (dp_le _) x).1 hx
  have hb := fam_bits hf
  have hl := hT.len x.1 x.2.1 (by rw [hm]; rfl)
  have hv := hT.val x.1 x.2.1 (by rw [hm]; rfl)
  exact ⟨by omega, hv, h.hops _ _ _ _ hm, hm⟩
/-- the longest route so far that fits -/
def Best (D : List (Nat × Nat × Nat)) (K i : Nat) (best : Int) : Prop :=
  (best = -1 ∧ ∀ j x, j < i → D[j]? = some x → fitK K x.1 ≠ x.2.1) ∨ ∃ j x, j < i ∧ D[j]? = some x ∧ best = (j : Int) ∧ fitK K x.1 = x.2.1 ∧ ∀ j' y, j' < i → D[j']? = some y → fitK K y.1 = y.2.1 → y.1 ≤ x.1
theorem best_no {D : List (Nat × Nat × Nat)} {K i : Nat} {best : Int} {x : Nat × Nat × Nat} (h : Best D K i best) (hx : D[i]? = some x) (hn : fitK K x.1 ≠ x.2.1) : Best D K (i + 1) best := by
  rcases h with ⟨h1, h2⟩ | ⟨j, y, h1, h2, h3, h4, h5⟩
  · refine Or.inl ⟨h1, fun j y hj hy => ?_⟩
    by_cases e : j = i
    · subst e; rw [hx] at hy; cases hy; exact hn
    · exact h2 j y (by omega) hy
  · refine Or.inr ⟨j, y, by omega, h2, h3, h4, fun j' z hj hz hf => ?_⟩
    by_cases e : j' = i
    · subst e; rw [hx] at hz; cases hz; exact absurd hf hn
    · exact h5 j' z (by omega) hz hf
theorem best_yes {D : List (Nat × Nat × Nat)} {K i : Nat} {best : Int} {x : Nat × Nat × Nat} (h : Best D K i best) (hx : D[i]? = some x) (hf : fitK K x.1 = x.2.1) (hb : best = -1 ∨ ∀ (j : Nat) (y : Nat × Nat × Nat), best = (j : Int) → D[j]? = some y → y.1 < x.1) : Best D K (i + 1) (i : Int) := by
  refine Or.inr ⟨i, x, by omega, hx, rfl, hf, fun j' z hj hz hz' => ?_⟩
  by_cases e : j' = i
  · subst e; rw [hx] at hz; cases hz; exact Nat.le_refl _
  · rcases h with ⟨h1, h2⟩ | ⟨j, y, h1, h2, h3, h4, h5⟩
    · exact absurd hz' (h2 j' z (by omega) hz)
    · have h6 := h5 j' z (by omega) hz hz'
      rcases hb with hb | hb
      · omega
      · have := hb j y h3 h2; omega
theorem best_keep {D : List (Nat × Nat × Nat)} {K i j : Nat} {x y : Nat × Nat × Nat} (h : Best D K i (j : Int)) (hx : D[i]? = some x) (hy : D[j]? = some y) (hl : x.1 ≤ y.1) : Best D K (i + 1) (j : Int) := by
  rcases h with ⟨h1, _⟩ | ⟨j0, y0, h1, h2, h3, h4, h5⟩
  · omega
  · obtain rfl : j = j0 := by omega
    rw [hy] at h2
    cases h2
    refine Or.inr ⟨j, y, by omega, hy, rfl, h4, fun j' z hj hz hz' => ?_⟩
    by_cases e : j' = i
    · subst e; rw [hx] at hz; cases hz; exact hl
    · exact h5 j' z (by omega) hz hz'
/-- what a lookup finds is the longest of the dump that fits -/
theorem best_found {S : St} (h : S.ok) {q : Bool} {K : Nat} {best : Int} (hb : Best (dumpR (S.M q) (dp q)) K (dumpR (S.M q) (dp q)).length best) :
    (best = -1 ∧ hopN S.M q K = none) ∨ ∃ (j : Nat) (x : Nat × Nat × Nat), best = (j : Int) ∧ (dumpR (S.M q) (dp q))[j]? = some x ∧ hopN S.M q K = some x.2.2 := by
  have hT := h.tab q
  have mem := fun x => mem_dumpR hT (dp_le q) x
  have idx : ∀ x, x ∈ dumpR (S.M q) (dp q) → ∃ j, j < (dumpR (S.M q) (dp q)).length ∧ (dumpR (S.M q) (dp q))[j]? = some x := fun x hx => by
    obtain ⟨j, hj, e⟩ := List.getElem_of_mem hx
    exact ⟨j, hj, by rw [List.getElem?_eq_getElem hj, e]⟩
  unfold hopN
  rcases bestL_spec (M := S.M q) (K := K) 129 with ⟨e, e'⟩ | ⟨l0, h0, e1, e2, e3, e4⟩
  · rcases hb with ⟨h1, _⟩ | ⟨j, x, h1, h2, h3, h4, _⟩
    · exact Or.inl ⟨h1, e⟩
    · have hm := (mem x).1 (List.mem_of_getElem? h2)
      have hl := hT.len x.1 x.2.1 (by rw [hm]; rfl)
      have hd := dp_le q
      have := e' x.1 (by omega)
      rw [h4, hm] at this
      cases this
  · obtain ⟨j', hj', hx'⟩ := idx (l0, fitK K l0, h0) ((mem _).2 e3)
    rcases hb with ⟨_, h2⟩ | ⟨j, x, h1, h2, h3, h4, h5⟩
    · exact absurd rfl (h2 j' _ hj' hx')
    · have hm := (mem x).1 (List.mem_of_getElem? h2)
      have hl := hT.len x.1 x.2.1 (by rw [hm]; rfl)
      have hd := dp_le q
      have h6 := h5 j' _ hj' hx' rfl
      simp only at h6
      have h7 : l0 = x.1 := by
        by_cases hlt : l0 < x.1
        · have := e4 x.1 hlt (by omega)
          rw [h4, hm] at this
          cases this
        · omega
      rw [h7, h4, hm] at e3
      cases e3
      exact Or.inr ⟨j, x, h3, h2, e2⟩
/-- two routes of a dump, one behind the other: their strings and lengths -/
theorem rt_order {S : St} (h : S.ok) {f : Int} (hf : famBytes f ≠ 0) {i : Nat} {x y : Nat × Nat × Nat} (hx : (dumpR (S.M (fam f)) (dp (fam f)))[i]? = some x) (hy : (dumpR (S.M (fam f)) (dp (fam f)))[i + 1]? = some y) :
    (Op.bytesLess (keyS (famBytes f) (addr x)).toList (keyS (famBytes f) (addr y)).toList = true ∧ (keyS (famBytes f) (addr x)).toList ≠ (keyS (famBytes f) (addr y)).toList) ∨ ((keyS (famBytes f) (addr x)).toList = (keyS (famBytes f) (addr y)).toList ∧ x.1 < y.1) := by
  have hsort := dumpR_sorted (S.M (fam f)) (dp (fam f)) (by have := dp_le (fam f); omega)
  have hb : before2 x y := by
    obtain ⟨h1, e1⟩ := List.getElem?_eq_some_iff.1 hx
    obtain ⟨h2, e2⟩ := List.getElem?_eq_some_iff.1 hy
    rw [← e1, ← e2]
    exact List.pairwise_iff_getElem.1 hsort i (i + 1) h1 h2 (by omega)
  have rx := rt_ok h hf (List.mem_of_getElem? hx)
  have ry := rt_ok h hf (List.mem_of_getElem? hy)
  have hn : famBytes f ≤ 16 := by unfold famBytes; split <;> (try split) <;> omega
  have wx : Whole (famBytes f) (addr x) := whole_of (l := x.1) (addr_lt (l := x.1) (v := x.2.1) (h := x.2.2) (by have := rx.len; omega) rx.val) rx.len (by omega) (Nat.mul_mod_left _ _)
  have wy : Whole (famBytes f) (addr y) := whole_of (l := y.1) (addr_lt (l := y.1) (v := y.2.1) (h := y.2.2) (by have := ry.len; omega) ry.val) ry.len (by omega) (Nat.mul_mod_left _ _)
  unfold keyS
  rw [ByteArray.toList_mk, ByteArray.toList_mk, less_whole (by omega) wx wy]
  rcases hb with hb | ⟨hb, hl⟩
  · refine Or.inl ⟨decide_eq_true hb, fun e => ?_⟩
    have := (same_whole (by omega) wx wy).1 e
    omega
  · exact Or.inr ⟨by rw [hb], hl⟩
end Go.Proofs.YtnapboelfimaaaaDoor
/- Tables as lists of routes: what is put in and taken out one by one. -/
namespace Go.Proofs.YtnapboelfimaaaaDoor
open Go.RowKit Go.Deep
/-- the table that holds these routes -/
def tabL : List (Nat × Nat × Nat) → Tab
  | [] => fun _ _ => none
  | x :: L => fun l v => if l = x.1 ∧ v = x.2.1 then some x.2.2 else tabL L l v
theorem tabL_cons (x : Nat × Nat × Nat) (L : List (Nat × Nat × Nat)) (l v : Nat) : tabL (x :: L) l v = if l = x.1 ∧ v = x.2.1 then some x.2.2 else tabL L l v := rfl
theorem tabL_ins (x : Nat × Nat × Nat) (L : List (Nat × Nat × Nat)) : updT (tabL L) x.1 x.2.1 (some x.2.2) = tabL (x :: L) := rfl
theorem key_ne {x y : Nat × Nat × Nat} (h : before2 x y) : ¬ (x.1 = y.1 ∧ x.2.1 = y.2.1) := by
  rintro ⟨h1, h2⟩
  have e : addr x = addr y := by unfold addr; rw [h1, h2]
  rcases h with h | ⟨_, h⟩ <;> omega
theorem tabL_mem : ∀ (L : List (Nat × Nat × Nat)), L.Pairwise before2 → ∀ x : Nat × Nat × Nat, tabL L x.1 x.2.1 = some x.2.2 ↔ x ∈ L
  | [], _, x => by simp [tabL]
  | y :: L, h, x => by
    obtain ⟨h1, h2⟩ := List.pairwise_cons.1 h
    rw [tabL_cons, List.mem_cons]
    by_cases e : x.1 = y.1 ∧ x.2.1 = y.2.1
    · rw [if_pos e]
      constructor
      · intro q
        left
        obtain ⟨a, b, c⟩ := x
        obtain ⟨a', b', c'⟩ := y
        simp only [Option.some.injEq] at q e
        obtain ⟨rfl, rfl⟩ := e
        rw [q]
      · rintro (rfl | q)
        · rfl
        · exact absurd ⟨e.1.symm, e.2.symm⟩ (key_ne (h1 x q))
    · rw [if_neg e, tabL_mem L h2 x]
      constructor
      · exact Or.inr
      · rintro (rfl | q)
        · exact absurd ⟨rfl, rfl⟩ e
        · exact q
theorem tabL_dump {M : Tab} {dm : Nat} (hT : TabOk (8 + 4 * dm) M) (hL : 8 + 4 * dm ≤ 128) : tabL (dumpR M dm) = M := by
  have hs := dumpR_sorted M dm (by omega)
  funext l v
  cases hm : M l v with
  | some h => exact (tabL_mem _ hs (l, v, h)).2 ((mem_dumpR hT hL (l, v, h)).2 hm)
  | none =>
    cases ht : tabL (dumpR M dm) l v with
    | none => rfl
    | some h =>
      have := (mem_dumpR hT hL (l, v, h)).1 ((tabL_mem _ hs (l, v, h)).1 ht)
      rw [hm] at this
      cases this
theorem tabL_out : ∀ (L : List (Nat × Nat × Nat)) (l v : Nat), (∀ y, y ∈ L → ¬ (y.1 = l ∧ y.2.1 = v)) → tabL L l v = none
  | [], _, _, _ => rfl
  | y :: L, l, v, h => by
    rw [tabL_cons, if_neg (fun e => h y (List.mem_cons_self ..) ⟨e.1.symm, e.2.symm⟩)]
    exact tabL_out L l v (fun z hz => h z (List.mem_cons_of_mem _ hz))
theorem tabL_del {x : Nat × Nat × Nat} {L : List (Nat × Nat × Nat)} (h : (x :: L).Pairwise before2) : updT (tabL (x :: L)) x.1 x.2.1 none = tabL L := by
  obtain ⟨h1, _⟩ := List.pairwise_cons.1 h
  funext l v
  unfold updT
  by_cases e : l = x.1 ∧ v = x.2.1
  · rw [if_pos e]
    exact (tabL_out L l v (fun y hy q => key_ne (h1 y hy) ⟨by omega, by omega⟩)).symm
  · rw [if_neg e, tabL_cons, if_neg e]
theorem dump_tabL {L : List (Nat × Nat × Nat)} {dm : Nat} (hT : TabOk (8 + 4 * dm) (tabL L)) (hL : 8 + 4 * dm ≤ 128) (hs : L.Pairwise before2) : dumpR (tabL L) dm = L := by
  apply sorted_unique (dumpR_sorted _ _ (by omega)) hs
  intro x
  rw [mem_dumpR hT hL x, tabL_mem L hs x]
theorem drop_cons {D : List (Nat × Nat × Nat)} {i : Nat} {x : Nat × Nat × Nat} (h : D[i]? = some x) : D.drop i = x :: D.drop (i + 1) := by
  obtain ⟨hi, e⟩ := List.getElem?_eq_some_iff.1 h
  rw [List.drop_eq_getElem_cons hi, e]
/-- a key's own bytes say the key -/
theorem key_again {n K : Nat} (hn : n ≤ 16) (h : Whole n K) : keyNum (keyS n K) = K := by
  have hw : ∀ X, X < 2 ^ 136 → Whole 17 X := fun X hX => ⟨hX, by rw [show 8 * (17 - 17) = 0 from rfl, Nat.pow_zero, Nat.mod_one]⟩
  refine (same_whole (n := 17) (by omega) (hw _ (keyNum_lt _)) (hw _ h.1)).1 ?_
  rw [digL_map, digL_map]
  apply List.map_congr_left
  intro j hj
  rw [List.mem_range] at hj
  rw [Nat.zero_add]
  congr 1
  show kbyte (keyNum (keyS n K)) j = kbyte K j
  rw [keyNum_byte _ _ hj]
  by_cases hjn : j < n
  · exact keyS_byte hjn
  · have e1 : sbyte (keyS n K) j = 0 := by
      unfold sbyte keyS
      simp only
      rw [List.getD_eq_getElem?_getD, List.getElem?_eq_none (by rw [digL_len]; omega)]
      rfl
    rw [e1]
    obtain ⟨q, hq⟩ := Nat.dvd_of_mod_eq_zero h.2
    unfold kbyte
    rw [hq, show 8 * (17 - n) = 8 * (16 - j) + (8 * (j - n) + 8) by omega, Nat.pow_add, Nat.mul_assoc, Nat.mul_div_cancel_left _ (Nat.two_pow_pos _), Nat.pow_add, Nat.mul_assoc, Nat.mul_left_comm]
    exact (Nat.mul_mod_right _ _).symm
/-- a told route, put in or taken out again -/
def rtOp (c : Int) (f : Int) (n : Nat) (x : Nat × Nat × Nat) : OpD := ⟨c, f, keyS n (addr x), (x.1 : Int), (x.2.2 : Int)⟩
theorem rt_op {M : Tab} {f : Int} {n : Nat} {x : Nat × Nat × Nat} (hn : famBytes f = n) (hn0 : n ≠ 0) (h : RtOk M n x) (c : Int) : prefFault f (keyS n (addr x)) (x.1 : Int) = 0 ∧ (rtOp c f n x).l = x.1 ∧ (rtOp c f n x).v = x.2.1 := by
  have hn16 : n ≤ 16 := by rw [← hn]; unfold famBytes; split <;> (try split) <;> omega
  have hw : Whole n (addr x) := whole_of (l := x.1) (addr_lt (l := x.1) (v := x.2.1) (h := x.2.2) (by have := h.len; omega) h.val) h.len (by omega) (Nat.mul_mod_left _ _)
  have hk := key_again hn16 hw
  refine ⟨?_, ?_, ?_⟩
  · unfold prefFault
    have hl := h.len
    have hz : keyNum (keyS n (addr x)) % 2 ^ (136 - (x.1 : Int).toNat) = 0 := by
      rw [hk, Int.toNat_natCast]
      unfold addr
      exact Nat.mul_mod_left _ _
    rw [hn, if_neg hn0, if_neg (by omega), if_pos ⟨keyS_size _ _, hz⟩]
  · show (x.1 : Int).toNat = x.1
    exact Int.toNat_natCast _
  · show fitK (keyNum (keyS n (addr x))) (x.1 : Int).toNat = x.2.1
    rw [hk, Int.toNat_natCast]
    exact fit_addr (l := x.1) (v := x.2.1) (h := x.2.2)
end Go.Proofs.YtnapboelfimaaaaDoor
/- Three Fibs: one takes all, one the fours, one the rest. -/
namespace Go.Proofs.YtnapboelfimaaaaDoor
open Go.RowKit Go.Deep
def nextT (t : Tab) (o : OpD) : Tab := if opFault o = 0 then (if o.code = 1 then updT t o.l o.v (some o.hop.toNat) else if o.code = 2 then updT t o.l o.v none else t) else t
theorem next_at (M : Bool → Tab) (o : OpD) (q : Bool) : mNext M o q = if q = fam o.family then nextT (M q) o else M q := by
  unfold mNext nextT
  by_cases hf : opFault o = 0
  · rw [if_pos hf, if_pos hf]
    by_cases h1 : o.code = 1
    · rw [if_pos h1, if_pos h1]
      unfold updM
      by_cases hq : q = fam o.family
      · subst hq; simp
      · simp [hq]
    · rw [if_neg h1, if_neg h1]
      by_cases h2 : o.code = 2
      · rw [if_pos h2, if_pos h2]
        unfold updM
        by_cases hq : q = fam o.family
        · subst hq; simp
        · simp [hq]
      · rw [if_neg h2, if_neg h2]
        split <;> rfl
  · rw [if_neg hf, if_neg hf]
    split <;> rfl
theorem next_none {M : Bool → Tab} {o : OpD} (h : famBytes o.family = 0) : mNext M o = M := by
  unfold mNext
  by_cases hf : opFault o = 0
  · rw [if_pos hf]
    have h1 : o.code ≠ 1 := by
      intro hc
      unfold opFault prefFault at hf
      rw [if_pos hc, if_pos h] at hf
      simp at hf
    have h2 : o.code ≠ 2 := by
      intro hc
      unfold opFault prefFault at hf
      rw [if_neg (by omega), if_pos hc, if_pos h] at hf
      simp at hf
    rw [if_neg h1, if_neg h2]
  · rw [if_neg hf]
theorem step_count {S : St} (h : S.ok) (o : OpD) : count2 (S.step o).1.M ≤ count2 S.M + 1 := by
  by_cases h8 : (S.step o).2.err = 8
  · rw [(step_full h h8).2.1]; omega
  · rw [(step_m h h8).1]
    exact count_next (fun q => h.tab q) o
/-- what the three hold, behind so many operations -/
structure FamS (F G H : St) (k : Nat) : Prop where
  fg : F.M false = G.M false
  ge : G.M true = noTab true
  fh : F.M true = H.M true
  he : H.M false = noTab false
  cF : count2 F.M ≤ k
  cG : count2 G.M ≤ k
  cH : count2 H.M ≤ k
  sF : F.A.size = 65536
  sG : G.A.size = 65536
  sH : H.A.size = 65536
theorem fam_four {F G H : St} {k : Nat} (h : FamS F G H k) (hF : F.ok) (hG : G.ok) {o : OpD} (ho : o.family = 4) (e1 : (F.step o).2.err ≠ 8) (e2 : (G.step o).2.err ≠ 8) : FamS (F.step o).1 (G.step o).1 H (k + 1) := by
  have m1 := (step_m hF e1).1
  have m2 := (step_m hG e2).1
  have c1 := step_count hF o
  have c2 := step_count hG o
  have hf : fam o.family = false := by rw [ho]; decide
  obtain ⟨g1, g2, g3, g4, g5, g6, g7, g8, g9, g10⟩ := h
  refine ⟨?_, ?_, ?_, g4, by omega, by omega, by omega, (step_ok hF o).2.trans g8, (step_ok hG o).2.trans g9, g10⟩
  · rw [m1, m2, next_at, next_at, if_pos hf.symm, if_pos hf.symm, g1]
  · rw [m2, next_at, if_neg (by rw [hf]; decide)]; exact g2
  · rw [m1, next_at, if_neg (by rw [hf]; decide)]; exact g3
theorem fam_rest {F G H : St} {k : Nat} (h : FamS F G H k) (hF : F.ok) (hH : H.ok) {o : OpD} (ho : o.family ≠ 4) (e1 : (F.step o).2.err ≠ 8) (e2 : (H.step o).2.err ≠ 8) : FamS (F.step o).1 G (H.step o).1 (k + 1) := by
  have m1 := (step_m hF e1).1
  have m2 := (step_m hH e2).1
  have c1 := step_count hF o
  have c2 := step_count hH o
  obtain ⟨g1, g2, g3, g4, g5, g6, g7, g8, g9, g10⟩ := h
  by_cases h6 : o.family = 6
  · have hf : fam o.family = true := by rw [h6]; decide
    refine ⟨?_, g2, ?_, ?_, by omega, by omega, by omega, (step_ok hF o).2.trans g8, g9, (step_ok hH o).2.trans g10⟩
    · rw [m1, next_at, if_neg (by rw [hf]; decide)]; exact g1
    · rw [m1, m2, next_at, next_at, if_pos hf.symm, if_pos hf.symm, g3]
    · rw [m2, next_at, if_neg (by rw [hf]; decide)]; exact g4
  · have hz : famBytes o.family = 0 := by unfold famBytes; rw [if_neg ho, if_neg h6]
    rw [next_none hz] at m1 m2
    refine ⟨?_, g2, ?_, ?_, by omega, by omega, by omega, (step_ok hF o).2.trans g8, g9, (step_ok hH o).2.trans g10⟩
    · rw [m1]; exact g1
    · rw [m1, m2]; exact g3
    · rw [m2]; exact g4
/-- no room: more than a thousand operations -/
theorem fam_full {S : St} (h : S.ok) (hs : S.A.size = 65536) {k : Nat} (hc : count2 S.M ≤ k) {o : OpD} (e : (S.step o).2.err = 8) : o.code = 1 ∧ 1000 ≤ k := by
  obtain ⟨h1, _, h3⟩ := step_full h e
  rw [hs] at h3
  exact ⟨h1, by omega⟩
theorem look_same {S T : St} (hS : S.ok) (hT : T.ok) {o : OpD} (hc : o.code = 3) (h : S.M (fam o.family) = T.M (fam o.family)) : (S.step o).2.err = (T.step o).2.err ∧ (S.step o).2.hop = (T.step o).2.hop := by
  have e1 : (S.step o).2.err ≠ 8 := fun e => by have := (step_full hS e).1; omega
  have e2 : (T.step o).2.err ≠ 8 := fun e => by have := (step_full hT e).1; omega
  obtain ⟨_, a2, a3⟩ := step_m hS e1
  obtain ⟨_, b2, b3⟩ := step_m hT e2
  rw [a2, a3, b2, b3]
  unfold mErr mHop hopN
  rw [h, if_neg (show ¬ o.code = 2 by omega)]
  exact ⟨rfl, rfl⟩
theorem tell_at {S T : St} {f : Int} (h : S.M (fam f) = T.M (fam f)) : tellL S f = tellL T f := by unfold tellL; rw [h]
theorem tell_none {S : St} {f : Int} (h : S.M (fam f) = noTab (fam f)) : tellL S f = [] := by
  unfold tellL
  rw [h, dump_none]
  rfl
theorem fam_new {S : St} (h : S.M = noTab) (hs : S.A.size = 65536) : FamS S S S 0 :=
  ⟨rfl, by rw [h], rfl, by rw [h], by rw [h, count_none]; exact Nat.le_refl _, by rw [h, count_none]; exact Nat.le_refl _, by rw [h, count_none]; exact Nat.le_refl _, hs, hs, hs⟩
/-- three Fibs side by side -/
structure Trio (w0 : World) (b c d : FB) (F G H : St) (w : World) : Prop where
  lb : b.lies w F.A
  lc : c.lies w G.A
  ld : d.lies w H.A
  bc : b.apart c
  bd : b.apart d
  cd : c.apart d
  gb : b.ge w0.heap.size
  gc : c.ge w0.heap.size
  gd : d.ge w0.heap.size
  bw : Below w0.heap.size w0 w
  okF : F.ok
  okG : G.ok
  okH : H.ok
theorem Trio.ext {w0 : World} {b c d : FB} {F G H : St} {w w' : World} (h : Trio w0 b c d F G H w) (hb : Below w.heap.size w w') : Trio w0 b c d F G H w' := ⟨h.lb.ext hb, h.lc.ext hb, h.ld.ext hb, h.bc, h.bd, h.cd, h.gb, h.gc, h.gd, ext_trans h.bw hb, h.okF, h.okG, h.okH⟩
theorem Trio.one {w0 : World} {b b' c d : FB} {F G H T : St} {w w' : World} (h : Trio w0 b c d F G H w) (hm : b.moved b' w w' T.A) (hT : T.ok) : Trio w0 b' c d T G H w' :=
  ⟨hm.lies, hm.other h.lc h.bc, hm.other h.ld h.bd, hm.apart c _ h.lc h.bc, hm.apart d _ h.ld h.bd, h.cd, hm.ge _ h.gb h.bw.size, h.gc, h.gd, h.bw.trans (hm.below h.gb h.bw.size), hT, h.okG, h.okH⟩
theorem Trio.two {w0 : World} {b c c' d : FB} {F G H T : St} {w w' : World} (h : Trio w0 b c d F G H w) (hm : c.moved c' w w' T.A) (hT : T.ok) : Trio w0 b c' d F T H w' :=
  ⟨hm.other h.lb h.bc.symm, hm.lies, hm.other h.ld h.cd, (hm.apart b _ h.lb h.bc.symm).symm, h.bd, hm.apart d _ h.ld h.cd, h.gb, hm.ge _ h.gc h.bw.size, h.gd, h.bw.trans (hm.below h.gc h.bw.size), h.okF, hT, h.okH⟩
theorem Trio.three {w0 : World} {b c d d' : FB} {F G H T : St} {w w' : World} (h : Trio w0 b c d F G H w) (hm : d.moved d' w w' T.A) (hT : T.ok) : Trio w0 b c d' F G T w' :=
  ⟨hm.other h.lb h.bd.symm, hm.other h.lc h.cd.symm, hm.lies, h.bc, (hm.apart b _ h.lb h.bd.symm).symm, (hm.apart c _ h.lc h.cd.symm).symm, h.gb, h.gc, hm.ge _ h.gd h.bw.size, h.bw.trans (hm.below h.gd h.bw.size), h.okF, h.okG, hT⟩
end Go.Proofs.YtnapboelfimaaaaDoor
