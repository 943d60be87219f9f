import Derived.Test.YtnapboelfimaaaaGreatDoorLib
/- What New of the program does: the error and nothing else, or new blocks. -/
namespace Go.Proofs.YtnapboelfimaaaaGreatDoor
open Go.RowKit Go.Deep
theorem infoWord : (Tryz.prog.info? 136).map (fun i => (i.zero, i.size, i.bytes)) = some (some (.int .u32 0), 1, 4) := by kernel_rfl
/-- the cells of an arena in which nothing has been taken -/
def zeros33 : List Value := List.replicate 33 (.int .i64 0)
def arenaCells (n : Nat) (bw : Nat) : Array Value := (.slice (some ⟨bw, 0, none⟩) n n :: .int .i64 1024 :: (zeros33 ++ [.int .i64 ((n : Int) - 1024)])).toArray
/-- the world behind New -/
def afterNew (w : World) (n : Nat) : World :=
  (((w.alloc (.cells (madeCells #[.int .u32 0] n) 136)).alloc (.cells (arenaCells n w.heap.size) 103)).alloc (.cells #[.pointer (some ⟨w.heap.size + 1, 0, none⟩)] 81)).alloc (.cells #[.pointer (some ⟨w.heap.size + 2, 0, none⟩)] 69)

set_option maxHeartbeats 400000 in
theorem arenaNew_any (n : Nat) (w : World) (h : 2048 ≤ n) (h2 : n ≤ 65536) : Calls Tryz.prog 38 #[.int .i64 n, .int .i64 1024] w fun e w' => e = .returned (.pointer (some ⟨w.heap.size + 1, 0, none⟩)) ∧ w' = (w.alloc (.cells (madeCells #[.int .u32 0] n) 136)).alloc (.cells (arenaCells n w.heap.size) 103) := by
  obtain ⟨i0, hi, hz0, hz1, hz2⟩ := info_parts infoWord
  have hmk := run_make_row (P := Tryz.prog) 100 136 i0 (.int .u32 0) Tryz.underlying100 hi hz0 hz1 rfl .i64 .i64 n (by rw [hz2]; omega) (by omega)
  go_enter Tryz.func38, Tryz.ntmps38
  go_wp2
  go_ret
  exact ⟨rfl, rfl⟩
set_option maxHeartbeats 400000 in
theorem trieNew_any (n : Nat) (w : World) (h : 2048 ≤ n) (h2 : n ≤ 65536) : Calls Tryz.prog 26 #[.int .i64 n] w fun e w' => e = .returned (.pointer (some ⟨w.heap.size + 2, 0, none⟩)) ∧ w' = ((w.alloc (.cells (madeCells #[.int .u32 0] n) 136)).alloc (.cells (arenaCells n w.heap.size) 103)).alloc (.cells #[.pointer (some ⟨w.heap.size + 1, 0, none⟩)] 81) := by
  go_enter Tryz.func26, Tryz.ntmps26
  go_wp2_with (go_at_call 38; refine (arenaNew_any n _ h h2).mono ?_; rintro e w' ⟨rfl, rfl⟩)
  go_ret
  exact ⟨rfl, rfl⟩
set_option maxHeartbeats 400000 in
theorem bywayNew_yes (n : Nat) (w : World) (h : 2048 ≤ n) (h2 : n ≤ 65536) : Calls Tryz.prog 17 #[.int .i64 n] w fun e w' => e = .returned (.tuple #[.pointer (some ⟨w.heap.size + 3, 0, none⟩), .int .i64 0]) ∧ w' = afterNew w n := by
  go_enter Tryz.func17, Tryz.ntmps17
  go_wp2_with (go_at_call 26; refine (trieNew_any n _ h h2).mono ?_; rintro e w' ⟨rfl, rfl⟩)
  go_ret2
  exact ⟨rfl, rfl⟩
set_option maxHeartbeats 400000 in
theorem bywayNew_no (n : Int) (w : World) (h : n < 2048 ∨ 65536 < n) : Calls Tryz.prog 17 #[.int .i64 n] w fun e w' => e = .returned (.tuple #[.pointer none, .int .i64 1]) ∧ w' = w := by
  rcases h with h | h
  · go_enter Tryz.func17, Tryz.ntmps17
    go_wp2
    go_ret2
    exact ⟨rfl, rfl⟩
  · have h' : ¬ n < 2048 := by omega
    go_enter Tryz.func17, Tryz.ntmps17
    go_wp2
    go_ret2
    exact ⟨rfl, rfl⟩
/-- New, as a caller sees it who looks into nothing but what is free. -/
theorem bywayNew_ext (n : Nat) (w : World) (h : 2048 ≤ n) (h2 : n ≤ 65536) : Calls Tryz.prog 17 #[.int .i64 n] w fun e w' => e = .returned (.tuple #[.pointer (some ⟨w.heap.size + 3, 0, none⟩), .int .i64 0]) ∧ Below w.heap.size w w' ∧ w.heap.size + 3 < w'.heap.size ∧ w'.cell? ⟨w.heap.size + 3, 0, none⟩ = some (.pointer (some ⟨w.heap.size + 2, 0, none⟩)) ∧ w'.cell? ⟨w.heap.size + 2, 0, none⟩ = some (.pointer (some ⟨w.heap.size + 1, 0, none⟩)) ∧ w'.cell? ⟨w.heap.size + 1, 35, none⟩ = some (.int .i64 ((n : Int) - 1024)) := by
  refine (bywayNew_yes n w h h2).mono ?_
  rintro e w' ⟨rfl, rfl⟩
  refine ⟨rfl, ?_, ?_, ?_, ?_, ?_⟩
  · unfold afterNew
    exact ((((Below.refl _ _).alloc (Nat.le_refl _) _).alloc (by simp) _).alloc (by simp; omega) _).alloc (by simp; omega) _
  · unfold afterNew; simp
  · unfold afterNew; rw [cell_new (by simp)]; rfl
  · unfold afterNew; rw [World.cell?_alloc_past _ _ _ (by simp), cell_new (by simp)]; rfl
  · unfold afterNew; rw [World.cell?_alloc_past _ _ _ (by simp), World.cell?_alloc_past _ _ _ (by simp), cell_new (by simp)]; rfl
set_option maxHeartbeats 400000 in
theorem arenaFree_any (ab : Nat) (v : Int) (w : World) (h3 : w.cell? ⟨ab, 35, none⟩ = some (.int .i64 v)) : Calls Tryz.prog 37 #[.pointer (some ⟨ab, 0, none⟩)] w fun e w' => e = .returned (.int .i64 v) ∧ w' = w := by
  go_enter Tryz.func37, Tryz.ntmps37
  go_wp2
  go_ret
  exact ⟨rfl, rfl⟩
set_option maxHeartbeats 400000 in
theorem tablesFree_any (tb ab : Nat) (v : Int) (w : World) (h2 : w.cell? ⟨tb, 0, none⟩ = some (.pointer (some ⟨ab, 0, none⟩))) (h3 : w.cell? ⟨ab, 35, none⟩ = some (.int .i64 v)) : Calls Tryz.prog 25 #[.pointer (some ⟨tb, 0, none⟩)] w fun e w' => e = .returned (.int .i64 v) ∧ w' = w := by
  go_enter Tryz.func25, Tryz.ntmps25
  go_wp2_with (go_at_call 37; refine (arenaFree_any ab v _ h3).mono ?_; rintro e w' ⟨rfl, rfl⟩)
  go_ret
  exact ⟨rfl, rfl⟩
set_option maxHeartbeats 400000 in
theorem free_any (fb tb ab : Nat) (v : Int) (w : World) (h1 : w.cell? ⟨fb, 0, none⟩ = some (.pointer (some ⟨tb, 0, none⟩))) (h2 : w.cell? ⟨tb, 0, none⟩ = some (.pointer (some ⟨ab, 0, none⟩))) (h3 : w.cell? ⟨ab, 35, none⟩ = some (.int .i64 v)) : Calls Tryz.prog 15 #[.pointer (some ⟨fb, 0, none⟩)] w fun e w' => e = .returned (.int .i64 v) ∧ w' = w := by
  go_enter Tryz.func15, Tryz.ntmps15
  go_wp2_with (go_at_call 25; refine (tablesFree_any tb ab v _ h2 h3).mono ?_; rintro e w' ⟨rfl, rfl⟩)
  go_ret
  exact ⟨rfl, rfl⟩
end Go.Proofs.YtnapboelfimaaaaGreatDoor
