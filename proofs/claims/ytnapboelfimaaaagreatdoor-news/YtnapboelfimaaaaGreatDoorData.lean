import Derived.Test.YtnapboelfimaaaaGreatDoorLib
/- A script as data, and how it lies in memory. -/
namespace Go.Proofs.YtnapboelfimaaaaGreatDoor
open Go.RowKit Go.Deep
/-- an operation -/
structure OpD where
  code : Int
  family : Int
  bits : ByteArray
  len : Int
  hop : Int
def OpD.cells (o : OpD) : List Value := [.int .i64 o.code, .int .i64 o.family, .string o.bits, .int .i64 o.len, .int .i64 o.hop]
def OpD.agg (o : OpD) : Value := .agg #[.int .i64 o.code, .int .i64 o.family, .string o.bits, .int .i64 o.len, .int .i64 o.hop]
def i64ok (x : Int) : Prop := -9223372036854775808 ≤ x ∧ x ≤ 9223372036854775807
def OpD.ok (o : OpD) : Prop := i64ok o.code ∧ i64ok o.family ∧ o.bits.size ≤ maxLen ∧ i64ok o.len ∧ i64ok o.hop
/-- a row of operations -/
def OpsAt (w : World) (ao : Option Addr) (ops : List OpD) : Prop :=
  (∀ o ∈ ops, o.ok) ∧ (ops ≠ [] → ∃ b off, ao = some ⟨b, off, none⟩ ∧ b < w.heap.size ∧ ∀ i, i < ops.length → ∀ j, j < 5 → w.cell? ⟨b, off + (i * 5 + j), none⟩ = ((ops.getD i ⟨0, 0, .empty, 0, 0⟩).cells)[j]?)
/-- a step of a script -/
structure StepD where
  kind : Int
  n : Int
  words : Int
  ops : List OpD
  opsAt : Option Addr
  opsCap : Nat
  family : Int
def StepD.ok (s : StepD) : Prop := i64ok s.kind ∧ i64ok s.n ∧ i64ok s.words ∧ i64ok s.family ∧ s.ops.length * 48 ≤ 140737488351232
def StepD.opsVal (s : StepD) : Value := .slice s.opsAt s.ops.length s.opsCap
def StepD.cells (s : StepD) : List Value := [.int .i64 s.kind, .int .i64 s.n, .int .i64 s.words, s.opsVal, .int .i64 s.family]
def StepD.zero : StepD := ⟨0, 0, 0, [], none, 0, 0⟩
/-- a script -/
def ScriptAt (w : World) (ao : Option Addr) (ss : List StepD) : Prop :=
  (∀ s ∈ ss, s.ok ∧ OpsAt w s.opsAt s.ops) ∧ (ss ≠ [] → ∃ b off, ao = some ⟨b, off, none⟩ ∧ b < w.heap.size ∧ ∀ i, i < ss.length → ∀ j, j < 5 → w.cell? ⟨b, off + (i * 5 + j), none⟩ = ((ss.getD i StepD.zero).cells)[j]?)
theorem OpsAt.ext {w w' : World} {B : Nat} {ao : Option Addr} {ops : List OpD} (h : OpsAt w ao ops) (hB : w.heap.size ≤ B) (hb : Below B w w') : OpsAt w' ao ops := by
  refine ⟨h.1, fun hne => ?_⟩
  obtain ⟨b, off, e, hlt, hc⟩ := h.2 hne
  exact ⟨b, off, e, Nat.lt_of_lt_of_le hlt hb.size, fun i hi j hj => (hb.cell (p := ⟨b, off + (i * 5 + j), none⟩) (by simp; omega)).trans (hc i hi j hj)⟩
theorem ScriptAt.ext {w w' : World} {B : Nat} {ao : Option Addr} {ss : List StepD} (h : ScriptAt w ao ss) (hB : w.heap.size ≤ B) (hb : Below B w w') : ScriptAt w' ao ss := by
  refine ⟨fun s hs => ⟨(h.1 s hs).1, (h.1 s hs).2.ext hB hb⟩, fun hne => ?_⟩
  obtain ⟨b, off, e, hlt, hc⟩ := h.2 hne
  exact ⟨b, off, e, Nat.lt_of_lt_of_le hlt hb.size, fun i hi j hj => (hb.cell (p := ⟨b, off + (i * 5 + j), none⟩) (by simp; omega)).trans (hc i hi j hj)⟩
/-- the cells of one step, as a walk spells them -/
theorem step_cells {w w' : World} {B b off k : Nat} {ss : List StepD} (hlt : b < w.heap.size) (hB : w.heap.size ≤ B) (hb : Below B w w') (hk : k < ss.length) (hc : ∀ i, i < ss.length → ∀ j, j < 5 → w.cell? ⟨b, off + (i * 5 + j), none⟩ = ((ss.getD i StepD.zero).cells)[j]?) :
    w'.cell? ⟨b, off + k * 5, none⟩ = some (.int .i64 (ss.getD k StepD.zero).kind) ∧ w'.cell? ⟨b, off + k * 5 + 1, none⟩ = some (.int .i64 (ss.getD k StepD.zero).n) ∧ w'.cell? ⟨b, off + k * 5 + 2, none⟩ = some (.int .i64 (ss.getD k StepD.zero).words) ∧ w'.cell? ⟨b, off + k * 5 + 3, none⟩ = some (ss.getD k StepD.zero).opsVal ∧ w'.cell? ⟨b, off + k * 5 + 4, none⟩ = some (.int .i64 (ss.getD k StepD.zero).family) := by
  have g : ∀ j, j < 5 → w'.cell? ⟨b, off + (k * 5 + j), none⟩ = ((ss.getD k StepD.zero).cells)[j]? := fun j hj => (hb.cell (p := ⟨b, off + (k * 5 + j), none⟩) (by simp; omega)).trans (hc k hk j hj)
  exact ⟨g 0 (by omega), g 1 (by omega), g 2 (by omega), g 3 (by omega), g 4 (by omega)⟩
/-- the cells of one operation -/
theorem op_cells {w w' : World} {B b off k : Nat} {ops : List OpD} (hlt : b < w.heap.size) (hB : w.heap.size ≤ B) (hb : Below B w w') (hk : k < ops.length) (hc : ∀ i, i < ops.length → ∀ j, j < 5 → w.cell? ⟨b, off + (i * 5 + j), none⟩ = ((ops.getD i ⟨0, 0, .empty, 0, 0⟩).cells)[j]?) :
    w'.cell? ⟨b, off + k * 5, none⟩ = some (.int .i64 (ops.getD k ⟨0, 0, .empty, 0, 0⟩).code) ∧ w'.cell? ⟨b, off + k * 5 + 1, none⟩ = some (.int .i64 (ops.getD k ⟨0, 0, .empty, 0, 0⟩).family) ∧ w'.cell? ⟨b, off + k * 5 + 2, none⟩ = some (.string (ops.getD k ⟨0, 0, .empty, 0, 0⟩).bits) ∧ w'.cell? ⟨b, off + k * 5 + 3, none⟩ = some (.int .i64 (ops.getD k ⟨0, 0, .empty, 0, 0⟩).len) ∧ w'.cell? ⟨b, off + k * 5 + 4, none⟩ = some (.int .i64 (ops.getD k ⟨0, 0, .empty, 0, 0⟩).hop) := by
  have g : ∀ j, j < 5 → w'.cell? ⟨b, off + (k * 5 + j), none⟩ = ((ops.getD k ⟨0, 0, .empty, 0, 0⟩).cells)[j]? := fun j hj => (hb.cell (p := ⟨b, off + (k * 5 + j), none⟩) (by simp; omega)).trans (hc k hk j hj)
  exact ⟨g 0 (by omega), g 1 (by omega), g 2 (by omega), g 3 (by omega), g 4 (by omega)⟩
theorem getD_mem {α : Type} {l : List α} {k : Nat} (d : α) (h : k < l.length) : l.getD k d ∈ l := by
  rw [List.getD_eq_getElem?_getD, List.getElem?_eq_getElem h]
  exact List.getElem_mem h
/-- the operations that are played -/
def keptOps (code : Int) (ops : List OpD) : List OpD := ops.filter fun o => decide (o.code ≤ code) || decide (4 < o.code)
theorem keptOps_yes (code : Int) (ops : List OpD) (m : Nat) (h : m < ops.length) (hy : (ops.getD m ⟨0, 0, .empty, 0, 0⟩).code ≤ code ∨ 4 < (ops.getD m ⟨0, 0, .empty, 0, 0⟩).code) :
    keptOps code (ops.take (m + 1)) = keptOps code (ops.take m) ++ [ops.getD m ⟨0, 0, .empty, 0, 0⟩] := by
  unfold keptOps
  rw [List.getD_eq_getElem?_getD, List.getElem?_eq_getElem h] at hy ⊢
  rw [List.take_succ_eq_append_getElem h, List.filter_append]
  simp only [Option.getD_some] at hy ⊢
  rw [List.filter_cons_of_pos (by simpa using hy)]
  rfl
theorem keptOps_no (code : Int) (ops : List OpD) (m : Nat) (h : m < ops.length) (hy : ¬ ((ops.getD m ⟨0, 0, .empty, 0, 0⟩).code ≤ code ∨ 4 < (ops.getD m ⟨0, 0, .empty, 0, 0⟩).code)) :
    keptOps code (ops.take (m + 1)) = keptOps code (ops.take m) := by
  unfold keptOps
  rw [List.getD_eq_getElem?_getD, List.getElem?_eq_getElem h] at hy
  rw [List.take_succ_eq_append_getElem h, List.filter_append]
  simp only [Option.getD_some] at hy
  rw [List.filter_cons_of_neg (by simpa using hy)]
  simp
theorem keptOps_le (code : Int) (ops : List OpD) (m : Nat) : (keptOps code (ops.take m)).length ≤ m :=
  Nat.le_trans (List.length_filter_le _ _) (List.length_take_le _ _)
theorem flat_len (l : List OpD) : (l.flatMap OpD.cells).length = l.length * 5 := by
  induction l with
  | nil => rfl
  | cons o l ih => rw [List.flatMap_cons, List.length_append, ih]; simp [OpD.cells]; omega
theorem op_news (w : World) (o : OpD) (t : TypeId) : ∀ j u, o.cells[j]? = some u → (w.alloc (.cells #[.int .i64 o.code, .int .i64 o.family, .string o.bits, .int .i64 o.len, .int .i64 o.hop] t)).cell? ((⟨w.heap.size, 0, none⟩ : Addr).add j) = some u := by
  intro j u hj
  have e : (⟨w.heap.size, 0, none⟩ : Addr).add j = ⟨w.heap.size, j, none⟩ := by unfold Addr.add; split <;> simp_all
  rw [e, cell_new rfl]
  simpa [OpD.cells] using hj
theorem op_one (o : OpD) : ∀ u ∈ o.cells, u.oneCell' = true := by
  intro u hu
  simp only [OpD.cells, List.mem_cons, List.not_mem_nil, or_false] at hu
  rcases hu with rfl | rfl | rfl | rfl | rfl <;> rfl
theorem kept_snoc {a b : List OpD} {o : OpD} (K : b = a ++ [o]) : b.length = a.length + 1 ∧ b.flatMap OpD.cells = a.flatMap OpD.cells ++ o.cells := by
  subst K
  simp
theorem owns_shape {w : World} {base : Nat} {e : TypeId} {size : Nat} {v : Value} {n : Nat} {xs : List Value} (h : w.ownsRow base e size v n xs) : ∃ ao cp, v = .slice ao n cp := by
  rcases h.2 with ⟨rfl, rfl⟩ | ⟨g, cp, cur, hv, _⟩
  · exact ⟨_, _, rfl⟩
  · exact ⟨_, _, hv⟩
end Go.Proofs.YtnapboelfimaaaaGreatDoor
