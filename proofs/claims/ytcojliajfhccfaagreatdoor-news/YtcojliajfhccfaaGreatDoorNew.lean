import Derived.Test.YtcojliajfhccfaaGreatDoorLib
/- What New of the program and New of the document's answer do: the error and nothing else, or new blocks. -/
namespace Go.Proofs.YtcojliajfhccfaaGreatDoor
open Go.RowKit Go.Deep
theorem infoWord : (Tryz.prog.info? 136).map (fun i => (i.zero, i.size, i.bytes)) = some (some (.int .u32 0), 1, 4) := by kernel_rfl
theorem infoPlayer : (Tryz.prog.info? 38).map (fun i => (i.zero, i.size, i.bytes)) = some (some (.pointer none), 1, 8) := by kernel_rfl
/-- the cells of an arena in which nothing has been taken -/
def zeros33 : List Value := List.replicate 33 (.int .i64 0)
def arenaCells (n : Nat) (bw : Nat) : Array Value := (.slice (some ⟨bw, 0, none⟩) n n :: .int .i64 1024 :: (zeros33 ++ [.int .i64 ((n : Int) - 1024)])).toArray
/-- the world behind New -/
def afterNew (w : World) (n : Nat) : World :=
  (((w.alloc (.cells (madeCells #[.int .u32 0] n) 136)).alloc (.cells (arenaCells n w.heap.size) 103)).alloc (.cells #[.pointer (some ⟨w.heap.size + 1, 0, none⟩)] 82)).alloc (.cells #[.pointer (some ⟨w.heap.size + 2, 0, none⟩)] 70)

set_option maxHeartbeats 400000 in
theorem arenaNew_any (n : Nat) (w : World) (h : 2048 ≤ n) (h2 : n ≤ 65536) : Calls Tryz.prog 35 #[.int .i64 n, .int .i64 1024] w fun e w' => e = .returned (.pointer (some ⟨w.heap.size + 1, 0, none⟩)) ∧ w' = (w.alloc (.cells (madeCells #[.int .u32 0] n) 136)).alloc (.cells (arenaCells n w.heap.size) 103) := by
  obtain ⟨i0, hi, hz0, hz1, hz2⟩ := info_parts infoWord
  have hmk := run_make_row (P := Tryz.prog) 100 136 i0 (.int .u32 0) Tryz.underlying100 hi hz0 hz1 rfl .i64 .i64 n (by rw [hz2]; omega) (by omega)
  go_enter Tryz.func35, Tryz.ntmps35
  go_wp2
  go_ret
  exact ⟨rfl, rfl⟩
set_option maxHeartbeats 400000 in
theorem trieNew_any (n : Nat) (w : World) (h : 2048 ≤ n) (h2 : n ≤ 65536) : Calls Tryz.prog 24 #[.int .i64 n] w fun e w' => e = .returned (.pointer (some ⟨w.heap.size + 2, 0, none⟩)) ∧ w' = ((w.alloc (.cells (madeCells #[.int .u32 0] n) 136)).alloc (.cells (arenaCells n w.heap.size) 103)).alloc (.cells #[.pointer (some ⟨w.heap.size + 1, 0, none⟩)] 82) := by
  go_enter Tryz.func24, Tryz.ntmps24
  go_wp2_with (go_at_call 35; refine (arenaNew_any n _ h h2).mono ?_; rintro e w' ⟨rfl, rfl⟩)
  go_ret
  exact ⟨rfl, rfl⟩
set_option maxHeartbeats 400000 in
theorem bywayNew_yes (n : Nat) (w : World) (h : 2048 ≤ n) (h2 : n ≤ 65536) : Calls Tryz.prog 16 #[.int .i64 n] w fun e w' => e = .returned (.tuple #[.pointer (some ⟨w.heap.size + 3, 0, none⟩), .int .i64 0]) ∧ w' = afterNew w n := by
  go_enter Tryz.func16, Tryz.ntmps16
  go_wp2_with (go_at_call 24; refine (trieNew_any n _ h h2).mono ?_; rintro e w' ⟨rfl, rfl⟩)
  go_ret2
  exact ⟨rfl, rfl⟩
set_option maxHeartbeats 400000 in
theorem bywayNew_no (n : Int) (w : World) (h : n < 2048 ∨ 65536 < n) : Calls Tryz.prog 16 #[.int .i64 n] w fun e w' => e = .returned (.tuple #[.pointer none, .int .i64 1]) ∧ w' = w := by
  rcases h with h | h
  · go_enter Tryz.func16, Tryz.ntmps16
    go_wp2
    go_ret2
    exact ⟨rfl, rfl⟩
  · have h' : ¬ n < 2048 := by omega
    go_enter Tryz.func16, Tryz.ntmps16
    go_wp2
    go_ret2
    exact ⟨rfl, rfl⟩
set_option maxHeartbeats 400000 in
theorem refNew_no (n : Int) (w : World) (h : n < 2048 ∨ 65536 < n) : Calls Tryz.prog 17 #[.int .i64 n] w fun e w' => e = .returned (.tuple #[.pointer none, .int .i64 1]) ∧ w' = w := by
  rcases h with h | h
  · go_enter Tryz.func17, Tryz.ntmps17
    go_wp2
    go_ret2
    exact ⟨rfl, rfl⟩
  · have h' : ¬ n < 2048 := by omega
    go_enter Tryz.func17, Tryz.ntmps17
    go_wp2
    go_ret2
    exact ⟨rfl, rfl⟩
set_option maxHeartbeats 400000 in
theorem refNew_yes (n : Int) (w : World) (h : 2048 ≤ n) (h2 : n ≤ 65536) : Calls Tryz.prog 17 #[.int .i64 n] w fun e w' => e = .returned (.tuple #[.pointer (some ⟨w.heap.size, 0, none⟩), .int .i64 0]) ∧ w' = w.alloc (.cells #[.int .i64 n, .slice none 0 0, .slice none 0 0] 48) := by
  go_enter Tryz.func17, Tryz.ntmps17
  go_wp2
  go_ret2
  exact ⟨rfl, rfl⟩
/-- New, as a caller sees it who looks into nothing. -/
theorem bywayNew_ext (n : Nat) (w : World) (h : 2048 ≤ n) (h2 : n ≤ 65536) : Calls Tryz.prog 16 #[.int .i64 n] w fun e w' => e = .returned (.tuple #[.pointer (some ⟨w.heap.size + 3, 0, none⟩), .int .i64 0]) ∧ Below w.heap.size w w' ∧ w.heap.size + 3 < w'.heap.size := by
  refine (bywayNew_yes n w h h2).mono ?_
  rintro e w' ⟨rfl, rfl⟩
  refine ⟨rfl, ?_, ?_⟩
  · unfold afterNew
    exact ((((Below.refl _ _).alloc (Nat.le_refl _) _).alloc (by simp) _).alloc (by simp; omega) _).alloc (by simp; omega) _
  · unfold afterNew; simp
end Go.Proofs.YtcojliajfhccfaaGreatDoor
