/- Lib, Fra, New: parts of the proof, one behind the other. -/
import Derived.Test.YtnapboelfimaaaaDoorRows
import Derived.WalkKit
import Derived.WalkSpells
import Derived.WalkLawsBesides
import Derived.Deep.OwnRows
/- Small facts on worlds: nothing of the program. -/
namespace Go.Proofs.YtnapboelfimaaaaDoor
open Go.RowKit Go.Deep
theorem hide {p : Prop} (h : p) : Hid p := h
theorem cell_two0 {w : World} {b : Nat} {u v : Value} {t : TypeId} (h : w.heap[b]? = some (.cells #[u, v] t (0, 0))) : w.cell? ⟨b, 0, none⟩ = some u := by simp [World.cell?, h]
theorem cell_two1 {w : World} {b : Nat} {u v : Value} {t : TypeId} (h : w.heap[b]? = some (.cells #[u, v] t (0, 0))) : w.cell? ⟨b, 1, none⟩ = some v := by simp [World.cell?, h]
theorem free_two {w : World} {b : Nat} {u v : Value} {t : TypeId} (i : Nat) (h : w.heap[b]? = some (.cells #[u, v] t (0, 0))) : w.frozen? ⟨b, i, none⟩ = false := by simp [World.frozen?, h]
theorem two_setCell0 {w : World} {b : Nat} {u v x : Value} {t : TypeId} (h : w.heap[b]? = some (.cells #[u, v] t (0, 0))) : (w.setCell ⟨b, 0, none⟩ x).heap[b]? = some (.cells #[x, v] t (0, 0)) := by
  have hlt := lt_of_block h
  have h' : w.heap[b] = .cells #[u, v] t (0, 0) := by simpa [Array.getElem?_eq_getElem hlt] using h
  show (w.heap.modify b _)[b]? = _
  rw [Array.getElem?_eq_getElem (by simpa using hlt), Array.getElem_modify_self, h']
  rfl
/-- what is owned stays owned where nothing old has turned -/
theorem owns_ext {w w' : World} {base : Nat} {e : TypeId} {size : Nat} {v : Value} {n : Nat} {xs : List Value} (h : w.ownsRow base e size v n xs) (hb : Below w.heap.size w w') : w'.ownsRow base e size v n xs :=
  h.kept (row := none) ⟨hb.os, hb.tape, hb.output, hb.size, fun k hk _ => hb.block k hk⟩ (by cases hv : v.ownBlock <;> simp)
theorem block_ext {w w' : World} {b : Nat} {o : Obj} (h : w.heap[b]? = some o) (hb : Below w.heap.size w w') : w'.heap[b]? = some o := (hb.block b (lt_of_block h)).trans h
theorem ext_trans {a b c : World} (h : Below a.heap.size a b) (k : Below b.heap.size b c) : Below a.heap.size a c := h.trans (k.mono h.size)
theorem ext_alloc (w : World) (o : Obj) : Below w.heap.size w (w.alloc o) := (Below.refl _ _).alloc (Nat.le_refl _) _
theorem cell_new {w : World} {c : Array Value} {t : TypeId} {n j : Nat} (h : n = w.heap.size) : (w.alloc (.cells c t)).cell? ⟨n, j, none⟩ = c[j]? := by
  subst h
  have e : (w.alloc (.cells c t)).heap[w.heap.size]? = some (.cells c t) := heap_alloc_new w _
  unfold World.cell?
  rw [e]
  rfl
theorem heap_setCell_at {w : World} {b off : Nat} {c : Array Value} {t : TypeId} {fz : Nat × Nat} (v : Value) (h : w.heap[b]? = some (.cells c t fz)) : (w.setCell ⟨b, off, none⟩ v).heap[b]? = some (.cells (c.setIfInBounds off v) t fz) := by
  have hlt := lt_of_block h
  have h' : w.heap[b] = .cells c t fz := by simpa [Array.getElem?_eq_getElem hlt] using h
  show (w.heap.modify b _)[b]? = _
  rw [Array.getElem?_eq_getElem (by simpa using hlt), Array.getElem_modify_self, h']
  rfl
theorem cell_at {w : World} {b : Nat} {c : Array Value} {t : TypeId} {fz : Nat × Nat} (h : w.heap[b]? = some (.cells c t fz)) (i : Nat) : w.cell? ⟨b, i, none⟩ = c[i]? := by simp [World.cell?, h]
theorem free_at {w : World} {b : Nat} {c : Array Value} {t : TypeId} (h : w.heap[b]? = some (.cells c t (0, 0))) (i : Nat) : w.frozen? ⟨b, i, none⟩ = false := by simp [World.frozen?, h]
/-- every old block of cells of one type is as it was -/
def KeepsT (t : TypeId) (w w' : World) : Prop := ∀ (k : Nat) (c : Array Value) (fz : Nat × Nat), w.heap[k]? = some (.cells c t fz) → w'.heap[k]? = some (.cells c t fz)
theorem KeepsT.ext {t : TypeId} {w w' : World} (hb : Below w.heap.size w w') : KeepsT t w w' := fun _ _ _ h => block_ext h hb
theorem KeepsT.trans {t : TypeId} {a b c : World} (h : KeepsT t a b) (k : KeepsT t b c) : KeepsT t a c := fun i x fz e => k i x fz (h i x fz e)
theorem KeepsT.setCell {t t' : TypeId} {w : World} {b : Nat} {c : Array Value} {fz : Nat × Nat} (h : w.heap[b]? = some (.cells c t' fz)) (hne : t' ≠ t) (off : Nat) (v : Value) : KeepsT t w (w.setCell ⟨b, off, none⟩ v) := by
  intro k x f e
  rw [Below.heap_setCell]
  · exact e
  · rintro rfl
    rw [h] at e
    simp at e
    exact hne e.2.1
theorem KeepsT.grown {t e : TypeId} {w w' : World} {base size n : Nat} {v : Value} {xs : List Value} (hown : w.ownsRow base e size v n xs) (hne : e ≠ t) (hg : w.grownBy w' v.ownBlock) : KeepsT t w w' := by
  intro k x f ek
  rw [hg.block k (lt_of_block ek) ?_]
  · exact ek
  · intro er
    rcases hown.2 with ⟨rfl, _⟩ | ⟨g, cap, cur, rfl, hb, hh, _⟩
    · simp [Value.ownBlock] at er
    · simp [Value.ownBlock] at er
      subst er
      rw [hh] at ek
      simp at ek
      exact hne ek.2.1
end Go.Proofs.YtnapboelfimaaaaDoor
/- What stays as it was. -/
namespace Go.Proofs.YtnapboelfimaaaaDoor
open Go.RowKit Go.Deep
/-- all old blocks but these are as they were -/
structure Fr (S : List Nat) (w w' : World) : Prop where
  os : w'.os = w.os
  tape : w'.tape = w.tape
  output : w'.output = w.output
  size : w.heap.size ≤ w'.heap.size
  block : ∀ k, k < w.heap.size → k ∉ S → w'.heap[k]? = w.heap[k]?
theorem Fr.of_below {S : List Nat} {w w' : World} (h : Below w.heap.size w w') : Fr S w w' := ⟨h.os, h.tape, h.output, h.size, fun k hk _ => h.block k hk⟩
theorem Fr.refl (S : List Nat) (w : World) : Fr S w w := Fr.of_below (Below.refl _ _)
theorem Fr.trans {S : List Nat} {a b c : World} (h : Fr S a b) (k : Fr S b c) : Fr S a c :=
  ⟨k.os.trans h.os, k.tape.trans h.tape, k.output.trans h.output, Nat.le_trans h.size k.size, fun i hi hn => (k.block i (Nat.lt_of_lt_of_le hi h.size) hn).trans (h.block i hi hn)⟩
theorem Fr.mono {S T : List Nat} {w w' : World} (h : Fr S w w') (hs : ∀ k, k ∈ S → k < w.heap.size → k ∈ T) : Fr T w w' :=
  ⟨h.os, h.tape, h.output, h.size, fun k hk hn => h.block k hk (fun hm => hn (hs k hm hk))⟩
theorem Fr.setCell {S : List Nat} {a w : World} (h : Fr S a w) {b off : Nat} (hb : b ∈ S ∨ a.heap.size ≤ b) (v : Value) : Fr S a (w.setCell ⟨b, off, none⟩ v) := by
  refine ⟨h.os, h.tape, h.output, by simpa [World.setCell] using h.size, fun k hk hn => ?_⟩
  rw [Below.heap_setCell]
  · exact h.block k hk hn
  · rintro rfl
    rcases hb with hb | hb
    · exact hn hb
    · omega
theorem Fr.below {S : List Nat} {w w' : World} {B : Nat} (h : Fr S w w') (hB : B ≤ w.heap.size) (hS : ∀ k ∈ S, B ≤ k) : Below B w w' :=
  ⟨h.os, h.tape, h.output, h.size, fun k hk => h.block k (by omega) (fun hm => by have := hS k hm; omega)⟩
theorem Fr.at {S : List Nat} {w w' : World} {k : Nat} {o : Obj} (h : Fr S w w') (hk : w.heap[k]? = some o) (hn : k ∉ S) : w'.heap[k]? = some o := (h.block k (lt_of_block hk) hn).trans hk
end Go.Proofs.YtnapboelfimaaaaDoor
/- What New of the program does: the error and nothing else, or new blocks. -/
namespace Go.Proofs.YtnapboelfimaaaaDoor
open Go.RowKit Go.Deep
theorem infoWord : (Tryd.prog.info? 110).map (fun i => (i.zero, i.size, i.bytes)) = some (some (.int .u32 0), 1, 4) := by kernel_rfl
/-- the cells of an arena in which nothing has been taken -/
def zeros33 : List Value := List.replicate 33 (.int .i64 0)
def arenaCells (n : Nat) (bw : Nat) : Array Value := (.slice (some ⟨bw, 0, none⟩) n n :: .int .i64 1024 :: (zeros33 ++ [.int .i64 ((n : Int) - 1024)])).toArray
/-- the world behind New -/
def afterNew (w : World) (n : Nat) : World :=
  (((w.alloc (.cells (madeCells #[.int .u32 0] n) 110)).alloc (.cells (arenaCells n w.heap.size) 104)).alloc (.cells #[.pointer (some ⟨w.heap.size + 1, 0, none⟩)] 67)).alloc (.cells #[.pointer (some ⟨w.heap.size + 2, 0, none⟩)] 56)

set_option maxHeartbeats 400000 in
theorem arenaNew_any (n : Nat) (w : World) (h : 2048 ≤ n) (h2 : n ≤ 65536) : Calls Tryd.prog 35 #[.int .i64 n, .int .i64 1024] w fun e w' => e = .returned (.pointer (some ⟨w.heap.size + 1, 0, none⟩)) ∧ w' = (w.alloc (.cells (madeCells #[.int .u32 0] n) 110)).alloc (.cells (arenaCells n w.heap.size) 104) := by
  obtain ⟨i0, hi, hz0, hz1, hz2⟩ := info_parts infoWord
  have hmk := run_make_row (P := Tryd.prog) 101 110 i0 (.int .u32 0) Tryd.underlying101 hi hz0 hz1 rfl .i64 .i64 n (by rw [hz2]; omega) (by omega)
  go_enter Tryd.func35, Tryd.ntmps35
  go_wp2
  go_ret
  exact ⟨rfl, rfl⟩
set_option maxHeartbeats 400000 in
theorem trieNew_any (n : Nat) (w : World) (h : 2048 ≤ n) (h2 : n ≤ 65536) : Calls Tryd.prog 27 #[.int .i64 n] w fun e w' => e = .returned (.pointer (some ⟨w.heap.size + 2, 0, none⟩)) ∧ w' = ((w.alloc (.cells (madeCells #[.int .u32 0] n) 110)).alloc (.cells (arenaCells n w.heap.size) 104)).alloc (.cells #[.pointer (some ⟨w.heap.size + 1, 0, none⟩)] 67) := by
  go_enter Tryd.func27, Tryd.ntmps27
  go_wp2_with (go_at_call 35; refine (arenaNew_any n _ h h2).mono ?_; rintro e w' ⟨rfl, rfl⟩)
  go_ret
  exact ⟨rfl, rfl⟩
set_option maxHeartbeats 400000 in
theorem bywayNew_yes (n : Nat) (w : World) (h : 2048 ≤ n) (h2 : n ≤ 65536) : Calls Tryd.prog 19 #[.int .i64 n] w fun e w' => e = .returned (.tuple #[.pointer (some ⟨w.heap.size + 3, 0, none⟩), .int .i64 0]) ∧ w' = afterNew w n := by
  go_enter Tryd.func19, Tryd.ntmps19
  go_wp2_with (go_at_call 27; refine (trieNew_any n _ h h2).mono ?_; rintro e w' ⟨rfl, rfl⟩)
  go_ret2
  exact ⟨rfl, rfl⟩
set_option maxHeartbeats 400000 in
theorem bywayNew_no (n : Int) (w : World) (h : n < 2048 ∨ 65536 < n) : Calls Tryd.prog 19 #[.int .i64 n] w fun e w' => e = .returned (.tuple #[.pointer none, .int .i64 1]) ∧ w' = w := by
  rcases h with h | h
  · go_enter Tryd.func19, Tryd.ntmps19
    go_wp2
    go_ret2
    exact ⟨rfl, rfl⟩
  · have h' : ¬ n < 2048 := by omega
    go_enter Tryd.func19, Tryd.ntmps19
    go_wp2
    go_ret2
    exact ⟨rfl, rfl⟩
/-- New, as a caller sees it who looks into nothing but what is free. -/
theorem bywayNew_ext (n : Nat) (w : World) (h : 2048 ≤ n) (h2 : n ≤ 65536) : Calls Tryd.prog 19 #[.int .i64 n] w fun e w' => e = .returned (.tuple #[.pointer (some ⟨w.heap.size + 3, 0, none⟩), .int .i64 0]) ∧ Below w.heap.size w w' ∧ w.heap.size + 3 < w'.heap.size ∧ w'.cell? ⟨w.heap.size + 3, 0, none⟩ = some (.pointer (some ⟨w.heap.size + 2, 0, none⟩)) ∧ w'.cell? ⟨w.heap.size + 2, 0, none⟩ = some (.pointer (some ⟨w.heap.size + 1, 0, none⟩)) ∧ w'.cell? ⟨w.heap.size + 1, 35, none⟩ = some (.int .i64 ((n : Int) - 1024)) := by
  refine (bywayNew_yes n w h h2).mono ?_
  rintro e w' ⟨rfl, rfl⟩
  refine ⟨rfl, ?_, ?_, ?_, ?_, ?_⟩
  · unfold afterNew
    exact ((((Below.refl _ _).alloc (Nat.le_refl _) _).alloc (by simp) _).alloc (by simp; omega) _).alloc (by simp; omega) _
  · unfold afterNew; simp
  · unfold afterNew; rw [cell_new (by simp)]; rfl
  · unfold afterNew; rw [World.cell?_alloc_past _ _ _ (by simp), cell_new (by simp)]; rfl
  · unfold afterNew; rw [World.cell?_alloc_past _ _ _ (by simp), World.cell?_alloc_past _ _ _ (by simp), cell_new (by simp)]; rfl
set_option maxHeartbeats 400000 in
theorem arenaFree_any (ab : Nat) (v : Int) (w : World) (h3 : w.cell? ⟨ab, 35, none⟩ = some (.int .i64 v)) : Calls Tryd.prog 34 #[.pointer (some ⟨ab, 0, none⟩)] w fun e w' => e = .returned (.int .i64 v) ∧ w' = w := by
  go_enter Tryd.func34, Tryd.ntmps34
  go_wp2
  go_ret
  exact ⟨rfl, rfl⟩
set_option maxHeartbeats 400000 in
theorem tablesFree_any (tb ab : Nat) (v : Int) (w : World) (h2 : w.cell? ⟨tb, 0, none⟩ = some (.pointer (some ⟨ab, 0, none⟩))) (h3 : w.cell? ⟨ab, 35, none⟩ = some (.int .i64 v)) : Calls Tryd.prog 26 #[.pointer (some ⟨tb, 0, none⟩)] w fun e w' => e = .returned (.int .i64 v) ∧ w' = w := by
  go_enter Tryd.func26, Tryd.ntmps26
  go_wp2_with (go_at_call 34; refine (arenaFree_any ab v _ h3).mono ?_; rintro e w' ⟨rfl, rfl⟩)
  go_ret
  exact ⟨rfl, rfl⟩
set_option maxHeartbeats 400000 in
theorem free_any (fb tb ab : Nat) (v : Int) (w : World) (h1 : w.cell? ⟨fb, 0, none⟩ = some (.pointer (some ⟨tb, 0, none⟩))) (h2 : w.cell? ⟨tb, 0, none⟩ = some (.pointer (some ⟨ab, 0, none⟩))) (h3 : w.cell? ⟨ab, 35, none⟩ = some (.int .i64 v)) : Calls Tryd.prog 17 #[.pointer (some ⟨fb, 0, none⟩)] w fun e w' => e = .returned (.int .i64 v) ∧ w' = w := by
  go_enter Tryd.func17, Tryd.ntmps17
  go_wp2_with (go_at_call 26; refine (tablesFree_any tb ab v _ h2 h3).mono ?_; rintro e w' ⟨rfl, rfl⟩)
  go_ret
  exact ⟨rfl, rfl⟩
end Go.Proofs.YtnapboelfimaaaaDoor
