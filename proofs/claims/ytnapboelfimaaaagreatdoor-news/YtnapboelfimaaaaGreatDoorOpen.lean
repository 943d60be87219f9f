import Derived.Test.YtnapboelfimaaaaGreatDoorData
import Derived.Test.YtnapboelfimaaaaGreatDoorCards
import Derived.Test.YtnapboelfimaaaaGreatDoorTie
import Derived.ProofKit
import Derived.OpenShut
import Derived.SizedLaws
import Derived.Deep.Slices
/- An argument that is a script, opened: what lies in memory. -/
namespace Go.Proofs.YtnapboelfimaaaaGreatDoor
open Go.ChangeShapes Go.WideShapes Go.RowKit Go.Deep
theorem cellsInt : Tryz.prog.cellsOf 3 = 1 := by kernel_rfl
theorem cellsString : Tryz.prog.cellsOf 9 = 1 := by kernel_rfl
theorem cellsOp : Tryz.prog.cellsOf 27 = 5 := by kernel_rfl
theorem cellsOps : Tryz.prog.cellsOf 28 = 1 := by kernel_rfl
theorem bytesOp : Tryz.prog.bytesOf 27 = 48 := by kernel_rfl
section
variable {H : Type} {enc : TypeId × Value → H} {w : World} {base : Nat} {spare : Nat → Bool} {held : Bool}
theorem trod_struct5 {P : Program} {t : TypeId} {f0 f1 f2 f3 f4 : Field} {fuel : Nat} {cs : List Value} {x : DataW H × List MemPlace} (ht : P.underlying t = some (.struct #[f0, f1, f2, f3, f4])) (h : DataW.trod enc P w base spare held fuel t cs = some x) :
    ∃ y0 y1 y2 y3 y4 n, x = (.agg [y0.1, y1.1, y2.1, y3.1, y4.1], y0.2 ++ (y1.2 ++ (y2.2 ++ (y3.2 ++ y4.2)))) ∧ cs.length = P.cellsOf t ∧ DataW.trod enc P w base spare held n f0.type ((cs.drop f0.offset).take (P.cellsOf f0.type)) = some y0 ∧
      DataW.trod enc P w base spare held n f1.type ((cs.drop f1.offset).take (P.cellsOf f1.type)) = some y1 ∧ DataW.trod enc P w base spare held n f2.type ((cs.drop f2.offset).take (P.cellsOf f2.type)) = some y2 ∧
      DataW.trod enc P w base spare held n f3.type ((cs.drop f3.offset).take (P.cellsOf f3.type)) = some y3 ∧ DataW.trod enc P w base spare held n f4.type ((cs.drop f4.offset).take (P.cellsOf f4.type)) = some y4 := by
  obtain ⟨xs, n, _, rfl, hl, hlen, hf⟩ := DataW.trod_struct ht h
  match xs, hlen with
  | [y0, y1, y2, y3, y4], _ => exact ⟨y0, y1, y2, y3, y4, n, by simp, hl, by simpa using hf 0 f0 rfl, by simpa using hf 1 f1 rfl, by simpa using hf 2 f2 rfl, by simpa using hf 3 f3 rfl, by simpa using hf 4 f4 rfl⟩
theorem list5 {α : Type} {l : List α} (h : l.length = 5) : ∃ a b c d e, l = [a, b, c, d, e] := by
  match l, h with
  | [a, b, c, d, e], _ => exact ⟨a, b, c, d, e, rfl⟩
/-- AN OPERATION. -/
theorem open_op {fuel : Nat} {cs : List Value} {x : DataW H × List MemPlace} (h : DataW.trod enc Tryz.prog w base spare held fuel 27 cs = some x) : ∃ o : OpD, o.ok ∧ cs = o.cells := by
  obtain ⟨y0, y1, y2, y3, y4, n, rfl, hl, h0, h1, h2, h3, h4⟩ := trod_struct5 Tryz.underlying27 h
  rw [cellsOp] at hl
  obtain ⟨a, b, c, d, e, rfl⟩ := list5 hl
  simp only [cellsInt, cellsString] at h0 h1 h2 h3 h4
  obtain ⟨i0, e0, _, b0⟩ := DataW.trod_int Tryz.underlying3 h0
  obtain ⟨i1, e1, _, b1⟩ := DataW.trod_int Tryz.underlying3 h1
  obtain ⟨s2, e2, _, b2⟩ := DataW.trod_string Tryz.underlying9 h2
  obtain ⟨i3, e3, _, b3⟩ := DataW.trod_int Tryz.underlying3 h3
  obtain ⟨i4, e4, _, b4⟩ := DataW.trod_int Tryz.underlying3 h4
  simp at e0 e1 e2 e3 e4
  subst e0 e1 e2 e3 e4
  exact ⟨⟨i0, i1, s2, i3, i4⟩, ⟨bounds_i64 b0, bounds_i64 b1, b2, bounds_i64 b3, bounds_i64 b4⟩, rfl⟩
theorem spot_none {a : Addr} {v : Value} (h : w.cell? a = some v) : a = ⟨a.block, a.off, none⟩ := by
  rcases a with ⟨b, o, s⟩
  cases s with
  | none => rfl
  | some s =>
    unfold World.cell? at h
    split at h
    · simp at h
    · simp at h
theorem add_none (b off k : Nat) : (⟨b, off, none⟩ : Addr).add k = ⟨b, off + k, none⟩ := by unfold Addr.add; split <;> simp_all
/-- rows of elements of five cells each -/
theorem rows5 {α : Type} (d : α) {a : Addr} {len : Nat} (cells : α → List Value) (hlen5 : ∀ x, (cells x).length = 5) (hlen : 0 < len) (h : ∀ i, i < len → ∃ x : α, w.cells? base (a.add (i * 5)) 5 = some (cells x)) :
    ∃ xs : List α, xs.length = len ∧ ∃ b off, a = ⟨b, off, none⟩ ∧ b < w.heap.size ∧ ∀ i, i < len → ∀ j, j < 5 → w.cell? ⟨b, off + (i * 5 + j), none⟩ = (cells (xs.getD i d))[j]? := by
  have : Inhabited α := ⟨d⟩
  obtain ⟨f, hf⟩ := choose_lt h
  have hsp : a = ⟨a.block, a.off, none⟩ := by
    have h0 := (World.cells?_some (hf 0 hlen)).2.2 0 (by omega)
    simp only [Nat.zero_mul] at h0
    have e : (a.add 0).add 0 = a := by simp [Addr.add]
    rw [e] at h0
    have h5 := hlen5 (f 0)
    rw [List.getElem?_eq_getElem (by omega)] at h0
    exact spot_none h0
  refine ⟨(List.range len).map f, by simp, a.block, a.off, hsp, World.cells?_block (by simpa [Addr.add] using hf 0 hlen) (by omega), ?_⟩
  intro i hi j hj
  have hij := (World.cells?_some (hf i hi)).2.2 j (by omega)
  rw [hsp, add_none, add_none] at hij
  rw [show a.off + (i * 5 + j) = a.off + i * 5 + j by omega, hij]
  simp [List.getD, hi]
/-- A ROW OF OPERATIONS. -/
theorem open_ops {fuel : Nat} {cs : List Value} {x : DataW H × List MemPlace} (h : DataW.trod enc Tryz.prog w base spare held fuel 28 cs = some x) :
    ∃ (ops : List OpD) (ao : Option Addr) (cap : Nat), cs = [.slice ao ops.length cap] ∧ OpsAt w ao ops ∧ ((∀ n ∈ x.1.weights Tryz.prog 28, n ≤ reachBytes) → ops.length * 48 ≤ 140737488351232) := by
  rcases open_slice Tryz.underlying28 h with ⟨rfl, rfl⟩ | ⟨a, len, cap, m, n, D, Pl, rfl, hb, hl, hm, hmm, rfl, hx⟩
  · exact ⟨[], none, 0, rfl, ⟨by simp, by simp⟩, fun _ => by simp⟩
  · have hlm : len ≤ m := by subst hmm; split <;> omega
    rw [cellsOp] at hx
    by_cases h0 : len = 0
    · subst h0
      exact ⟨[], some a, cap, rfl, ⟨by simp, by simp⟩, fun _ => by simp⟩
    · have hx' : ∀ i, i < len → ∃ o : OpD, w.cells? base (a.add (i * 5)) 5 = some o.cells := by
        intro i hi
        obtain ⟨cs', h1, h2⟩ := hx i (by omega)
        obtain ⟨o, _, rfl⟩ := open_op h2
        exact ⟨o, h1⟩
      obtain ⟨ops, hlen, b, off, rfl, hblt, hc⟩ := rows5 ⟨0, 0, .empty, 0, 0⟩ OpD.cells (fun _ => rfl) (by omega) hx'
      subst hlen
      refine ⟨ops, some ⟨b, off, none⟩, cap, rfl, ⟨?_, fun _ => ⟨b, off, rfl, hblt, hc⟩⟩, ?_⟩
      · intro o ho
        obtain ⟨i, hi, rfl⟩ := List.getElem_of_mem ho
        obtain ⟨cs', h1, h2⟩ := hx i (by omega)
        obtain ⟨o', ok', rfl⟩ := open_op h2
        have e : ops[i].cells = o'.cells := by
          apply List.ext_getElem?
          intro j
          by_cases hj : j < 5
          · have g1 := (World.cells?_some h1).2.2 j hj
            have g2 := hc i hi j hj
            rw [add_none, add_none, show off + i * 5 + j = off + (i * 5 + j) by omega, g2] at g1
            rw [← g1]
            simp [List.getD, hi]
          · rw [List.getElem?_eq_none (by simp [OpD.cells]; omega), List.getElem?_eq_none (by simp [OpD.cells]; omega)]
        simp only [OpD.cells, List.cons.injEq, Value.int.injEq, Value.string.injEq, true_and, and_true] at e
        obtain ⟨q0, q1, q2, q3, q4⟩ := e
        unfold OpD.ok
        rw [q0, q1, q2, q3, q4]
        exact ok'
      · intro hw
        have := hw ((ops.length + ((List.range (m - ops.length)).map fun j => D (ops.length + j)).length) * Tryz.prog.bytesOf 27) (by simp [DataW.weights, Tryz.underlying28])
        rw [bytesOp] at this
        simp only [reachBytes] at this
        omega
/-- A STEP. -/
theorem open_step {fuel : Nat} {cs : List Value} {x : DataW H × List MemPlace} (h : DataW.trod enc Tryz.prog w base spare held fuel 30 cs = some x) (hw : ∀ n ∈ x.1.weights Tryz.prog 30, n ≤ reachBytes) :
    ∃ s : StepD, s.ok ∧ OpsAt w s.opsAt s.ops ∧ cs = s.cells := by
  obtain ⟨y0, y1, y2, y3, y4, n, rfl, hl, h0, h1, h2, h3, h4⟩ := trod_struct5 Tryz.underlying30 h
  rw [show Tryz.prog.cellsOf 30 = 5 from by kernel_rfl] at hl
  obtain ⟨a, b, c, d, e, rfl⟩ := list5 hl
  simp only [cellsInt, cellsOps] at h0 h1 h2 h3 h4
  obtain ⟨i0, e0, _, b0⟩ := DataW.trod_int Tryz.underlying3 h0
  obtain ⟨i1, e1, _, b1⟩ := DataW.trod_int Tryz.underlying3 h1
  obtain ⟨i2, e2, _, b2⟩ := DataW.trod_int Tryz.underlying3 h2
  obtain ⟨ops, ao, cap, e3, b3, b5⟩ := open_ops h3
  obtain ⟨i4, e4, _, b4⟩ := DataW.trod_int Tryz.underlying3 h4
  simp at e0 e1 e2 e3 e4
  subst e0 e1 e2 e3 e4
  refine ⟨⟨i0, i1, i2, ops, ao, cap, i4⟩, ⟨bounds_i64 b0, bounds_i64 b1, bounds_i64 b2, bounds_i64 b4, b5 fun n hn => hw n ?_⟩, b3, rfl⟩
  simp only [DataW.weights, Tryz.underlying30]
  exact DataW.weights_mem_each (j := 3) (t := 28) (d := y3.1) rfl rfl n hn
theorem weights_mem_all {P : Program} {e : TypeId} {l : List (DataW H)} {d : DataW H} {n : Nat} (hd : d ∈ l) (hn : n ∈ d.weights P e) : n ∈ DataW.weightsAll P e l := by
  induction l with
  | nil => cases hd
  | cons x l ih =>
    simp only [DataW.weightsAll, List.mem_append]
    rcases List.mem_cons.1 hd with rfl | h
    · exact .inl hn
    · exact .inr (ih h)
/-- A SCRIPT. -/
theorem open_script {fuel : Nat} {cs : List Value} {x : DataW H × List MemPlace} (h : DataW.trod enc Tryz.prog w base spare held fuel 22 cs = some x) (hw : ∀ n ∈ x.1.weights Tryz.prog 22, n ≤ reachBytes) :
    ∃ (ss : List StepD) (ao : Option Addr) (cap : Nat), cs = [.slice ao ss.length cap] ∧ ScriptAt w ao ss ∧ ss.length * 56 ≤ 140737488351232 := by
  rcases open_slice Tryz.underlying22 h with ⟨rfl, rfl⟩ | ⟨a, len, cap, m, n, D, Pl, rfl, hb, hl, hm, hmm, rfl, hx⟩
  · exact ⟨[], none, 0, rfl, ⟨by simp, by simp⟩, by simp⟩
  · have hlm : len ≤ m := by subst hmm; split <;> omega
    rw [show Tryz.prog.cellsOf 30 = 5 from by kernel_rfl] at hx
    by_cases h0 : len = 0
    · subst h0
      exact ⟨[], some a, cap, rfl, ⟨by simp, by simp⟩, by simp⟩
    · have hx' : ∀ i, i < len → ∃ s : StepD, s.ok ∧ OpsAt w s.opsAt s.ops ∧ w.cells? base (a.add (i * 5)) 5 = some s.cells := by
        intro i hi
        obtain ⟨cs', h1, h2⟩ := hx i (by omega)
        obtain ⟨s, hok, hops, rfl⟩ := open_step h2 (fun n hn => hw n (by
          simp only [DataW.weights, Tryz.underlying22, List.mem_cons, List.mem_append]
          exact .inr (.inl (weights_mem_all (List.mem_map_of_mem (List.mem_range.2 hi)) hn))))
        exact ⟨s, hok, hops, h1⟩
      obtain ⟨ss, hlen, b, off, rfl, hblt, hc⟩ := rows5 (len := len) (α := { s : StepD // s.ok ∧ OpsAt w s.opsAt s.ops }) ⟨StepD.zero, by simp [StepD.zero, StepD.ok, i64ok, OpsAt]⟩ (fun s => s.1.cells) (fun _ => rfl) (by omega) (fun i hi => by
        obtain ⟨s, h1, h2, h3⟩ := hx' i hi
        exact ⟨⟨s, h1, h2⟩, h3⟩)
      subst hlen
      refine ⟨ss.map (·.1), some ⟨b, off, none⟩, cap, by simp, ⟨?_, fun _ => ⟨b, off, rfl, hblt, ?_⟩⟩, ?_⟩
      · intro s hs
        obtain ⟨y, _, rfl⟩ := List.mem_map.1 hs
        exact y.2
      · intro i hi j hj
        rw [List.length_map] at hi
        rw [hc i hi j hj]
        simp [List.getD, hi]
      · have := hw ((ss.length + ((List.range (m - ss.length)).map fun j => D (ss.length + j)).length) * Tryz.prog.bytesOf 30) (by simp [DataW.weights, Tryz.underlying22])
        rw [show Tryz.prog.bytesOf 30 = 56 from by kernel_rfl] at this
        simp only [reachBytes] at this
        rw [List.length_map]
        omega
end
end Go.Proofs.YtnapboelfimaaaaGreatDoor
