/- TrF, ByA, Stp: parts of the proof, one behind the other. -/
import Derived.Test.YtnapboelfimaaaaDoorK17
import Derived.Deep.AppendSrc
import Derived.Laws.CopyRow
import Derived.Deep.MidRow
/- Keys out of strings. -/
namespace Go.Proofs.YtnapboelfimaaaaDoor
open Go.RowKit Go.Deep
theorem keyNum_cells (s : ByteArray) (h : s.size ≤ 17) : byteCells s ++ List.replicate (17 - s.size) (Value.int .u8 0) = keyL (keyNum s) := by
  have hl := byteCells_length s
  apply List.ext_getElem?
  intro i
  by_cases h1 : i < 17
  · rw [keyL_get _ i h1, keyNum_byte s i h1]
    by_cases h2 : i < s.size
    · rw [List.getElem?_append_left (by omega)]
      unfold byteCells sbyte
      have h3 : i < s.data.toList.length := by simpa [byteCells] using hl ▸ h2
      rw [List.getElem?_map, List.getD_eq_getElem?_getD, List.getElem?_eq_getElem h3]
      rfl
    · rw [List.getElem?_append_right (by omega), List.getElem?_replicate, if_pos (by omega)]
      unfold sbyte
      have h3 : ¬ i < s.data.toList.length := by
        have : s.data.toList.length = s.size := by simp
        omega
      rw [List.getD_eq_getElem?_getD, List.getElem?_eq_none (by omega)]
      rfl
  · rw [List.getElem?_eq_none (by simp; omega), List.getElem?_eq_none (by simp [keyL]; omega)]
theorem sizeByte : (Tryd.prog.info? 5).map (·.size) = some 1 := by kernel_rfl
theorem key_cells (K : Nat) {w : World} {b : Nat} {t : TypeId} {fz : Nat × Nat} (h : w.heap[b]? = some (.cells (keyL K).toArray t fz)) : w.cell? ⟨b, 0, none⟩ = some (.int .u8 (kbyte K 0 : Int)) ∧ w.cell? ⟨b, 1, none⟩ = some (.int .u8 (kbyte K 1 : Int)) ∧ w.cell? ⟨b, 2, none⟩ = some (.int .u8 (kbyte K 2 : Int)) ∧ w.cell? ⟨b, 3, none⟩ = some (.int .u8 (kbyte K 3 : Int)) ∧ w.cell? ⟨b, 4, none⟩ = some (.int .u8 (kbyte K 4 : Int)) ∧ w.cell? ⟨b, 5, none⟩ = some (.int .u8 (kbyte K 5 : Int)) ∧ w.cell? ⟨b, 6, none⟩ = some (.int .u8 (kbyte K 6 : Int)) ∧ w.cell? ⟨b, 7, none⟩ = some (.int .u8 (kbyte K 7 : Int)) ∧ w.cell? ⟨b, 8, none⟩ = some (.int .u8 (kbyte K 8 : Int)) ∧ w.cell? ⟨b, 9, none⟩ = some (.int .u8 (kbyte K 9 : Int)) ∧ w.cell? ⟨b, 10, none⟩ = some (.int .u8 (kbyte K 10 : Int)) ∧ w.cell? ⟨b, 11, none⟩ = some (.int .u8 (kbyte K 11 : Int)) ∧ w.cell? ⟨b, 12, none⟩ = some (.int .u8 (kbyte K 12 : Int)) ∧ w.cell? ⟨b, 13, none⟩ = some (.int .u8 (kbyte K 13 : Int)) ∧ w.cell? ⟨b, 14, none⟩ = some (.int .u8 (kbyte K 14 : Int)) ∧ w.cell? ⟨b, 15, none⟩ = some (.int .u8 (kbyte K 15 : Int)) ∧ w.cell? ⟨b, 16, none⟩ = some (.int .u8 (kbyte K 16 : Int)) := by
  have e : (keyL K).toArray = #[Value.int .u8 (kbyte K 0 : Int), Value.int .u8 (kbyte K 1 : Int), Value.int .u8 (kbyte K 2 : Int), Value.int .u8 (kbyte K 3 : Int), Value.int .u8 (kbyte K 4 : Int), Value.int .u8 (kbyte K 5 : Int), Value.int .u8 (kbyte K 6 : Int), Value.int .u8 (kbyte K 7 : Int), Value.int .u8 (kbyte K 8 : Int), Value.int .u8 (kbyte K 9 : Int), Value.int .u8 (kbyte K 10 : Int), Value.int .u8 (kbyte K 11 : Int), Value.int .u8 (kbyte K 12 : Int), Value.int .u8 (kbyte K 13 : Int), Value.int .u8 (kbyte K 14 : Int), Value.int .u8 (kbyte K 15 : Int), Value.int .u8 (kbyte K 16 : Int)] := rfl
  rw [e] at h
  simp [World.cell?, h]
theorem zero_cells {w : World} {b : Nat} {t : TypeId} (h : w.heap[b]? = some (.cells (List.replicate 17 (Value.int .u8 0)).toArray t (0, 0))) : w.cell? ⟨b, 0, none⟩ = some (.int .u8 0) ∧ w.cell? ⟨b, 1, none⟩ = some (.int .u8 0) ∧ w.cell? ⟨b, 2, none⟩ = some (.int .u8 0) ∧ w.cell? ⟨b, 3, none⟩ = some (.int .u8 0) ∧ w.cell? ⟨b, 4, none⟩ = some (.int .u8 0) ∧ w.cell? ⟨b, 5, none⟩ = some (.int .u8 0) ∧ w.cell? ⟨b, 6, none⟩ = some (.int .u8 0) ∧ w.cell? ⟨b, 7, none⟩ = some (.int .u8 0) ∧ w.cell? ⟨b, 8, none⟩ = some (.int .u8 0) ∧ w.cell? ⟨b, 9, none⟩ = some (.int .u8 0) ∧ w.cell? ⟨b, 10, none⟩ = some (.int .u8 0) ∧ w.cell? ⟨b, 11, none⟩ = some (.int .u8 0) ∧ w.cell? ⟨b, 12, none⟩ = some (.int .u8 0) ∧ w.cell? ⟨b, 13, none⟩ = some (.int .u8 0) ∧ w.cell? ⟨b, 14, none⟩ = some (.int .u8 0) ∧ w.cell? ⟨b, 15, none⟩ = some (.int .u8 0) ∧ w.cell? ⟨b, 16, none⟩ = some (.int .u8 0) := by
  have e : (List.replicate 17 (Value.int .u8 0)).toArray = #[.int .u8 0, .int .u8 0, .int .u8 0, .int .u8 0, .int .u8 0, .int .u8 0, .int .u8 0, .int .u8 0, .int .u8 0, .int .u8 0, .int .u8 0, .int .u8 0, .int .u8 0, .int .u8 0, .int .u8 0, .int .u8 0, .int .u8 0] := rfl
  rw [e] at h
  simp [World.cell?, h]
theorem zero_free {w : World} {b : Nat} {c : Array Value} {t : TypeId} (h : w.heap[b]? = some (.cells c t (0, 0))) : w.frozen? ⟨b, 0, none⟩ = false ∧ w.frozen? ⟨b, 1, none⟩ = false ∧ w.frozen? ⟨b, 2, none⟩ = false ∧ w.frozen? ⟨b, 3, none⟩ = false ∧ w.frozen? ⟨b, 4, none⟩ = false ∧ w.frozen? ⟨b, 5, none⟩ = false ∧ w.frozen? ⟨b, 6, none⟩ = false ∧ w.frozen? ⟨b, 7, none⟩ = false ∧ w.frozen? ⟨b, 8, none⟩ = false ∧ w.frozen? ⟨b, 9, none⟩ = false ∧ w.frozen? ⟨b, 10, none⟩ = false ∧ w.frozen? ⟨b, 11, none⟩ = false ∧ w.frozen? ⟨b, 12, none⟩ = false ∧ w.frozen? ⟨b, 13, none⟩ = false ∧ w.frozen? ⟨b, 14, none⟩ = false ∧ w.frozen? ⟨b, 15, none⟩ = false ∧ w.frozen? ⟨b, 16, none⟩ = false := by
  simp [World.frozen?, h]
theorem results_row {fn : Func} {a : Tmp} {t : TypeId} (h : fn.results = #[.cell a t]) {tmps : Array Value} {ad : Addr} (ht : tmps.getD a undef = .pointer (some ad)) {P : Program} {w : World} {v : Value} (hl : (loadVar t ad).run P w = .ok v w) : (results fn tmps).run P w = .ok v w := by
  unfold results
  rw [h]
  simp only [List.mapM_toArray, List.mapM_cons, List.mapM_nil, ht, Sem.run_bind, Sem.run_pure, asAddr]
  simp [hl]
theorem sizeKeyF : (Tryd.prog.info? 96).map (·.size) = some 17 := by kernel_rfl
theorem copy_str (w : World) (b : Nat) (t : TypeId) (s : ByteArray) (h : w.heap[b]? = some (.cells (List.replicate 17 (Value.int .u8 0)).toArray t (0, 0))) (hs : s.size ≤ 17) :
    ∃ w', (Builtin.copy_ #[113, 9] 3 #[.slice (some ⟨b, 0, none⟩) 17 17, .string s]).run Tryd.prog w = .ok (goInt s.size) w' ∧ w'.heap[b]? = some (.cells (keyL (keyNum s)).toArray t (0, 0)) ∧ Fr [b] w w' := by
  have hl := byteCells_length s
  have hf := firstCells_string (P := Tryd.prog) s w
  have hst := run_storeCells_at (P := Tryd.prog) b 0 t (byteCells s) 0 (List.replicate 17 (Value.int .u8 0)).toArray w h (by simp; omega) (by
    intro v hv
    obtain ⟨x, _, rfl⟩ := List.mem_map.1 hv
    rfl)
  have hn : Nat.min s.size 17 = s.size := Nat.min_eq_left hs
  have hrun : (Builtin.copy_ #[113, 9] 3 #[.slice (some ⟨b, 0, none⟩) 17 17, .string s]).run Tryd.prog w = .ok (goInt s.size) (w.setRow b (keyL (keyNum s)).toArray) := by
    have hcells : List.take (0 + 0) (List.replicate 17 (Value.int .u8 0)).toArray.toList ++ byteCells s ++ List.drop (0 + 0 + (byteCells s).length) (List.replicate 17 (Value.int .u8 0)).toArray.toList = keyL (keyNum s) := by
      rw [← keyNum_cells s hs, hl]
      show List.take 0 (List.replicate 17 (Value.int .u8 0)) ++ byteCells s ++ List.drop (0 + 0 + s.size) (List.replicate 17 (Value.int .u8 0)) = _
      rw [List.take_zero, List.nil_append, Nat.add_zero, Nat.zero_add, List.drop_replicate]
    rw [hcells] at hst
    cases hq : Tryd.prog.info? 5 with
    | none => have := sizeByte; rw [hq] at this; simp at this
    | some i =>
      have hi : i.size = 1 := by have := sizeByte; rw [hq] at this; simpa using this
      simp [Builtin.copy_, run_underlying Tryd.underlying113, Builtin.lenOf, sizeOf, typeInfo, hq, hi, hn, hf, hst]
  refine ⟨_, hrun, ?_, ?_⟩
  · exact setRow_heap _ _ _ _ _ _ h
  · exact ⟨rfl, rfl, rfl, by simp [World.setRow], fun k _ hk => setRow_other _ _ _ _ (by simpa using hk)⟩
theorem fr_setCells (w : World) (b o : Nat) (vs : List Value) : Fr [b] w (w.setCells b o vs) := by
  induction vs generalizing w o with
  | nil => exact Fr.refl _ _
  | cons v vs ih => exact ((Fr.refl [b] w).setCell (Or.inl (by simp)) v).trans (ih _ _)
set_option maxHeartbeats 400000 in
set_option maxRecDepth 10000 in
theorem keyOf_any (s : ByteArray) (w : World) (hs : s.size ≤ 17) : Calls Tryd.prog 79 #[.string s] w fun e w' => e = .returned (.agg (keyL (keyNum s)).toArray) ∧ Below w.heap.size w w' := by
  obtain ⟨w2, hrun, hc, hf⟩ := copy_str ((w.alloc (.cells (List.replicate 17 (Value.int .u8 0)).toArray 96)).alloc (.cells (List.replicate 17 (Value.int .u8 0)).toArray 96)) (w.heap.size + 1) 96 s (by rw [heap_al, if_pos (by simp)]) hs
  have hr : w2.heap[w.heap.size]? = some (.cells (List.replicate 17 (Value.int .u8 0)).toArray 96 (0, 0)) := by
    refine hf.at ?_ (by simp)
    rw [heap_al, if_neg (by simp), heap_al, if_pos rfl]
  have HB := hide (fr_nil (Fr.after (S := []) (((Fr.refl [] w).alloc _).alloc _) hf (by intro y hy; simp at hy; right; omega)))
  have HC := hide hc
  have HR := hide hr
  have hz : w.heap.size + 1 < w2.heap.size := lt_of_block hc
  have e17 : (List.replicate 17 (Value.int .u8 0)).toArray = #[.int .u8 0, .int .u8 0, .int .u8 0, .int .u8 0, .int .u8 0, .int .u8 0, .int .u8 0, .int .u8 0, .int .u8 0, .int .u8 0, .int .u8 0, .int .u8 0, .int .u8 0, .int .u8 0, .int .u8 0, .int .u8 0, .int .u8 0] := rfl
  rw [e17] at hrun
  have R1 := hide (show w2.rangeAt (w.heap.size + 1) 0 (keyL (keyNum s)) from fun j v hj => by rw [cell_at hc, List.getElem?_toArray, Nat.zero_add]; exact hj)
  have R2 := hide (show w2.there w.heap.size 0 (keyL (keyNum s)).length from fun j hj => by
    have hj' : j < 17 := by simpa [keyL] using hj
    rw [cell_at hr, Nat.zero_add]
    refine ⟨?_, free_at hr _⟩
    rw [List.getElem?_toArray, List.getElem?_replicate, if_pos hj']
    rfl)
  have hi : (Tryd.prog.info? 96).map (·.size) = some (keyL (keyNum s)).length := by rw [sizeKeyF]; simp [keyL]
  have HI := hide hi
  have ALL := hide (show (keyL (keyNum s)).toArray.all (·.oneCell') = true from all_oneCell_toArray (by intro v hv; obtain ⟨x, _, rfl⟩ := List.mem_map.1 hv; rfl))
  clear hc hf hr e17 hi
  go_enter Tryd.func79, Tryd.ntmps79
  go_wp2_with (first | (show wpList _ _ _ (⟨_, .load 96 _, _, _, _, _⟩ :: _) _ _; refine wpList_load_mid rfl 96 _ rfl (w.heap.size + 1) 0 rfl (keyL (keyNum s)) _ R1.out Tryd.underlying96 rfl HI.out ?_) | (show wpList _ _ _ (⟨_, .store 96 _ _, _, _, _, _⟩ :: _) _ _; refine wpList_store_mid rfl 96 _ _ rfl w.heap.size 0 (keyL (keyNum s)).toArray rfl rfl R2.out HI.out ALL.out ?_))
  have hl : (loadVar 96 ⟨w.heap.size, 0, none⟩).run Tryd.prog (w2.setCells w.heap.size 0 (keyL (keyNum s))) = .ok (.agg (keyL (keyNum s)).toArray) (w2.setCells w.heap.size 0 (keyL (keyNum s))) := run_loadVar_mid _ _ _ _ _ _ (World.rangeAt_setCells_same _ _ _ _ R2.out) Tryd.underlying96 rfl HI.out
  refine bodyPost_ret (v := .agg (keyL (keyNum s)).toArray) (results_row rfl rfl hl) rfl ⟨rfl, ?_⟩
  exact fr_nil (Fr.after (S := []) (Fr.of_below HB.out) (fr_setCells w2 w.heap.size 0 (keyL (keyNum s))) (by intro y hy; simp at hy; right; omega))
end Go.Proofs.YtnapboelfimaaaaDoor
/- Faults that hang on nothing that is held. -/
namespace Go.Proofs.YtnapboelfimaaaaDoor
open Go.RowKit Go.Deep
set_option maxHeartbeats 400000 in
theorem addressBytes_any (f : Int) (w : World) : Calls Tryd.prog 24 #[.int .i64 f] w fun e w' => e = .returned (.int .i64 (famBytes f : Nat)) ∧ w' = w := by
  by_cases h4 : f = 4
  · subst h4
    go_enter Tryd.func24, Tryd.ntmps24
    go_wp2
    go_ret
    exact ⟨rfl, rfl⟩
  · by_cases h6 : f = 6
    · subst h6
      go_enter Tryd.func24, Tryd.ntmps24
      go_wp2
      go_ret
      exact ⟨rfl, rfl⟩
    · have e4 : (f == 4) = false := by simpa using h4
      have e6 : (f == 6) = false := by simpa using h6
      go_enter Tryd.func24, Tryd.ntmps24
      go_wp2
      go_ret
      exact ⟨retI (by simp [famBytes, h4, h6]), rfl⟩
set_option maxHeartbeats 400000 in
theorem hopFault_any (h : Int) (w : World) : Calls Tryd.prog 37 #[.int .i64 h] w fun e w' => e = .returned (.int .i64 (if 0 ≤ h ∧ h ≤ 65535 then 0 else 6 : Int)) ∧ ∃ n, w' = w.drewN n := by
  by_cases h1 : h < 0
  · have HE := hide (show (if 0 ≤ h ∧ h ≤ 65535 then 0 else 6 : Int) = 6 by rw [if_neg (by omega)])
    rw [HE.out]
    go_enter Tryd.func37, Tryd.ntmps37
    go_wp2
    go_ret
    exact ⟨rfl, 0, rfl⟩
  · by_cases h2 : 65535 < h
    · have HE := hide (show (if 0 ≤ h ∧ h ≤ 65535 then 0 else 6 : Int) = 6 by rw [if_neg (by omega)])
      rw [HE.out]
      go_enter Tryd.func37, Tryd.ntmps37
      go_wp2
      go_ret
      exact ⟨rfl, 0, rfl⟩
    · have HE := hide (show (if 0 ≤ h ∧ h ≤ 65535 then 0 else 6 : Int) = 0 by rw [if_pos (by omega)])
      rw [HE.out]
      go_enter Tryd.func37, Tryd.ntmps37
      go_wp2
      go_ret
      exact ⟨rfl, 0, rfl⟩
set_option maxHeartbeats 400000 in
set_option maxRecDepth 10000 in
theorem addressFault_any (f : Int) (s : ByteArray) (c : Int) (w : World) (hc : c = if famBytes f = 0 then 3 else if s.size = famBytes f then 0 else 5) : Calls Tryd.prog 38 #[.int .i64 f, .string s] w fun e w' => e = .returned (.int .i64 c) ∧ ∃ n, w' = w.drewN n := by
  by_cases h0 : famBytes f = 0
  · rw [if_pos h0] at hc
    subst hc
    have e0 : (((famBytes f : Nat) : Int) == 0) = true := by simp [h0]
    clear h0
    go_enter Tryd.func38, Tryd.ntmps38
    go_wp2_with (go_at_call 24; refine (addressBytes_any f _).mono ?_; rintro e w' ⟨rfl, rfl⟩)
    go_ret
    exact ⟨rfl, 0, rfl⟩
  · rw [if_neg h0] at hc
    have e0 : (((famBytes f : Nat) : Int) == 0) = false := by simp [h0]
    by_cases h1 : s.size = famBytes f
    · rw [if_pos h1] at hc
      subst hc
      have e1 : (((s.size : Nat) : Int) == ((famBytes f : Nat) : Int)) = true := by simp [h1]
      clear h0 h1
      go_enter Tryd.func38, Tryd.ntmps38
      go_wp2_with (go_at_call 24; refine (addressBytes_any f _).mono ?_; rintro e w' ⟨rfl, rfl⟩)
      go_ret
      exact ⟨rfl, 0, rfl⟩
    · rw [if_neg h1] at hc
      subst hc
      have e1 : (((s.size : Nat) : Int) == ((famBytes f : Nat) : Int)) = false := by simp; omega
      clear h0
      go_enter Tryd.func38, Tryd.ntmps38
      go_wp2_with (go_at_call 24; refine (addressBytes_any f _).mono ?_; rintro e w' ⟨rfl, rfl⟩)
      go_ret
      exact ⟨rfl, 0, rfl⟩
end Go.Proofs.YtnapboelfimaaaaDoor
/- What the program does, as a machine on numbers: an arena, the two tables that it stands for, an operation, its answer. -/
namespace Go.Proofs.YtnapboelfimaaaaDoor
structure OpD where
  code : Int
  family : Int
  bits : ByteArray
  len : Int
  hop : Int
structure Ans where
  err : Int
  hop : Int
  reads : Int
def prefFault (f : Int) (s : ByteArray) (l : Int) : Int :=
  if famBytes f = 0 then 3 else if l < 0 ∨ 8 * (famBytes f : Int) < l then 4 else if s.size = famBytes f ∧ keyNum s % 2 ^ (136 - l.toNat) = 0 then 0 else 5
def addrFault (f : Int) (s : ByteArray) : Int := if famBytes f = 0 then 3 else if s.size = famBytes f then 0 else 5
def hopFault (h : Int) : Int := if 0 ≤ h ∧ h ≤ 65535 then 0 else 6
def opFault (o : OpD) : Int :=
  if o.code = 1 then (if prefFault o.family o.bits o.len = 0 then hopFault o.hop else prefFault o.family o.bits o.len)
  else if o.code = 2 then prefFault o.family o.bits o.len
  else if o.code = 3 then addrFault o.family o.bits
  else if o.code = 4 then 0 else 2
structure St where
  A : Ar
  M : Bool → Tab
structure St.ok (S : St) : Prop where
  inv : ∃ F, Inv S.A F S.M
  wok : WOk S.A.word
  hops : ∀ q l v h, S.M q l v = some h → h ≤ 65535
def fam (f : Int) : Bool := decide (f = 6)
def OpD.key (o : OpD) : Nat := keyNum o.bits
def OpD.l (o : OpD) : Nat := o.len.toNat
def OpD.v (o : OpD) : Nat := fitK o.key o.l
def St.put (S : St) (o : OpD) (r : Ar × Bool) : St × Ans := if r.2 then (⟨r.1, updM S.M (fam o.family) o.l o.v (some o.hop.toNat)⟩, ⟨0, 0, 0⟩) else (⟨r.1, S.M⟩, ⟨8, 0, 0⟩)
def St.del (S : St) (o : OpD) (r : Ar × Bool) : St × Ans := if r.2 then (⟨r.1, updM S.M (fam o.family) o.l o.v none⟩, ⟨0, 0, 0⟩) else (⟨r.1, S.M⟩, ⟨7, 0, 0⟩)
def lookAns (W : Nat → Nat) (q : Bool) (K : Nat) (o : Option Nat) : Ans :=
  match o with
  | some h => ⟨0, h, readsN W q K true⟩
  | none => ⟨7, 0, readsN W q K false⟩
def St.step (S : St) (o : OpD) : St × Ans :=
  if opFault o = 0 then
    if o.code = 1 then S.put o (insN S.A (fam o.family) o.l o.v o.hop.toNat)
    else if o.code = 2 then S.del o (delN S.A (fam o.family) o.l o.v)
    else if o.code = 3 then (S, lookAns S.A.word (fam o.family) o.key (hopN S.M (fam o.family) o.key))
    else (⟨compactN S.A.word S.A.size, S.M⟩, ⟨0, 0, 0⟩)
  else (S, ⟨opFault o, 0, 0⟩)
def St.new (n : Nat) : St := ⟨newAr n, noTab⟩
theorem new_ok {n : Nat} (h1 : 2048 ≤ n) (h2 : n ≤ 65536) : (St.new n).ok := ⟨⟨_, inv_new h1 h2⟩, fun a => by show (0 : Nat) < _; decide, fun q l v h e => by cases e⟩
theorem fam_bits {f : Int} (h : famBytes f ≠ 0) : 8 + 4 * dp (fam f) = 8 * famBytes f := by
  unfold famBytes at h ⊢
  unfold fam dp
  by_cases h4 : f = 4
  · subst h4; decide
  · by_cases h6 : f = 6
    · subst h6; decide
    · simp [h4, h6] at h
structure PrefOk (o : OpD) : Prop where
  size : o.bits.size = famBytes o.family
  famok : famBytes o.family ≠ 0
  len0 : 0 ≤ o.len
  len : o.l ≤ 8 + 4 * dp (fam o.family)
  v : o.v < 2 ^ o.l
  zero : o.key % 2 ^ (136 - o.l) = 0
theorem pref_ok {o : OpD} (h : prefFault o.family o.bits o.len = 0) : PrefOk o := by
  unfold prefFault at h
  split at h
  · cases h
  · rename_i h1
    split at h
    · cases h
    · rename_i h2
      split at h
      · rename_i h3
        have hl : o.l ≤ 8 + 4 * dp (fam o.family) := by rw [fam_bits h1]; unfold OpD.l; omega
        have hd := dp_le (Go.Proofs.YtnapboelfimaaaaDoor.fam o.family)
        exact ⟨h3.1, h1, by omega, hl, fit_lt (keyNum_lt _) (by omega), h3.2⟩
      · cases h
theorem fault_ins {o : OpD} (hc : o.code = 1) (h : opFault o = 0) : PrefOk o ∧ 0 ≤ o.hop ∧ o.hop ≤ 65535 := by
  unfold opFault at h
  rw [if_pos hc] at h
  split at h
  · rename_i h1
    refine ⟨pref_ok h1, ?_⟩
    unfold hopFault at h
    split at h
    · assumption
    · cases h
  · rename_i h1; exact absurd h h1
theorem fault_del {o : OpD} (hc : o.code = 2) (h : opFault o = 0) : PrefOk o := by
  unfold opFault at h
  rw [if_neg (by omega), if_pos hc] at h
  exact pref_ok h
theorem fault_look {o : OpD} (hc : o.code = 3) (h : opFault o = 0) : o.bits.size = famBytes o.family ∧ famBytes o.family ≠ 0 := by
  unfold opFault at h
  rw [if_neg (by omega), if_neg (by omega), if_pos hc] at h
  unfold addrFault at h
  split at h
  · cases h
  · rename_i h1
    split at h
    · exact ⟨by assumption, h1⟩
    · cases h
theorem fault_code {o : OpD} (h : opFault o = 0) : o.code = 1 ∨ o.code = 2 ∨ o.code = 3 ∨ o.code = 4 := by
  unfold opFault at h
  by_cases h1 : o.code = 1
  · exact Or.inl h1
  · by_cases h2 : o.code = 2
    · exact Or.inr (Or.inl h2)
    · by_cases h3 : o.code = 3
      · exact Or.inr (Or.inr (Or.inl h3))
      · by_cases h4 : o.code = 4
        · exact Or.inr (Or.inr (Or.inr h4))
        · rw [if_neg h1, if_neg h2, if_neg h3, if_neg h4] at h; cases h
theorem fault_small (o : OpD) : 0 ≤ opFault o ∧ opFault o ≤ 6 := by
  unfold opFault prefFault hopFault addrFault
  repeat (first | omega | split)
theorem updM_hops {M : Bool → Tab} (h : ∀ q l v h, M q l v = some h → h ≤ 65535) (q : Bool) (l v : Nat) (o : Option Nat) (ho : ∀ x, o = some x → x ≤ 65535) : ∀ p l' v' x, updM M q l v o p l' v' = some x → x ≤ 65535 := by
  intro p l' v' x hx
  unfold updM at hx
  split at hx
  · unfold updT at hx
    split at hx
    · exact ho x hx
    · exact h _ _ _ _ hx
  · exact h _ _ _ _ hx
/-- what was sound stays so -/
theorem step_ok {S : St} (h : S.ok) (o : OpD) : (S.step o).1.ok ∧ (S.step o).1.A.size = S.A.size := by
  obtain ⟨F, hI⟩ := h.inv
  unfold St.step
  by_cases hf : opFault o = 0
  · rw [if_pos hf]
    rcases fault_code hf with hc | hc | hc | hc
    · obtain ⟨hp, h0, h1⟩ := fault_ins hc hf
      rw [if_pos hc]
      have hw := insN_wok hI h.wok (fam o.family) (x := o.hop.toNat) hp.len hp.v (by omega)
      rcases insN_ok hI (fam o.family) (x := o.hop.toNat) hp.len hp.v with ⟨e, _⟩ | ⟨B, F', e, hB, hs⟩
      · rw [e] at hw ⊢
        exact ⟨⟨⟨F, hI⟩, hw, h.hops⟩, rfl⟩
      · rw [e] at hw ⊢
        exact ⟨⟨⟨F', hB⟩, hw, updM_hops h.hops _ _ _ _ (fun x hx => by cases hx; omega)⟩, hs⟩
    · have hp := fault_del hc hf
      rw [if_neg (by omega), if_pos hc]
      have hw := delN_wok hI h.wok (fam o.family) hp.len hp.v
      obtain ⟨B, F', e, hB, hs⟩ := delN_ok hI (fam o.family) hp.len hp.v
      rw [e] at hw ⊢
      unfold St.del
      cases hm : S.M (fam o.family) o.l o.v with
      | none =>
        rw [updM_id hm] at hB
        exact ⟨⟨⟨F', hB⟩, hw, h.hops⟩, hs⟩
      | some x => exact ⟨⟨⟨F', hB⟩, hw, updM_hops h.hops _ _ _ _ (fun x hx => by cases hx)⟩, hs⟩
    · rw [if_neg (by omega), if_neg (by omega), if_pos hc]
      exact ⟨h, rfl⟩
    · rw [if_neg (by omega), if_neg (by omega), if_neg (by omega)]
      obtain ⟨h1, h2⟩ := compactInv hI
      exact ⟨⟨⟨_, h1⟩, compactN_wok (hI.src h.wok), h.hops⟩, h2⟩
  · rw [if_neg hf]
    exact ⟨h, rfl⟩
/-- an error 8 is that of an Insert which has changed nothing, and only where the arena may be full -/
theorem step_full {S : St} (h : S.ok) {o : OpD} (he : (S.step o).2.err = 8) : o.code = 1 ∧ (S.step o).1 = S ∧ S.A.size < 64 * (count2 S.M + 1) + 1280 := by
  obtain ⟨F, hI⟩ := h.inv
  unfold St.step at he ⊢
  by_cases hf : opFault o = 0
  · rw [if_pos hf] at he ⊢
    rcases fault_code hf with hc | hc | hc | hc
    · obtain ⟨hp, h0, h1⟩ := fault_ins hc hf
      rw [if_pos hc] at he ⊢
      rcases insN_ok hI (fam o.family) (x := o.hop.toNat) hp.len hp.v with ⟨e, h2⟩ | ⟨B, F', e, hB, hs⟩
      · rw [e]
        exact ⟨hc, rfl, by omega⟩
      · rw [e] at he
        cases he
    · have hp := fault_del hc hf
      rw [if_neg (by omega), if_pos hc] at he
      obtain ⟨B, F', e, hB, hs⟩ := delN_ok hI (fam o.family) hp.len hp.v
      rw [e] at he
      unfold St.del at he
      cases hm : S.M (fam o.family) o.l o.v with
      | none => rw [hm] at he; cases he
      | some x => rw [hm] at he; cases he
    · rw [if_neg (by omega), if_neg (by omega), if_pos hc] at he
      unfold lookAns at he
      split at he <;> cases he
    · rw [if_neg (by omega), if_neg (by omega), if_neg (by omega)] at he
      cases he
  · rw [if_neg hf] at he
    have := fault_small o
    have he' : opFault o = 8 := he
    omega
/-- the tables behind an operation that found room, and its answer, by the tables alone -/
def mNext (M : Bool → Tab) (o : OpD) : Bool → Tab :=
  if opFault o = 0 then (if o.code = 1 then updM M (fam o.family) o.l o.v (some o.hop.toNat) else if o.code = 2 then updM M (fam o.family) o.l o.v none else M) else M
def mErr (M : Bool → Tab) (o : OpD) : Int :=
  if opFault o = 0 then (if o.code = 2 then (if (M (fam o.family) o.l o.v).isSome then 0 else 7) else if o.code = 3 then (if (hopN M (fam o.family) o.key).isSome then 0 else 7) else 0) else opFault o
def mHop (M : Bool → Tab) (o : OpD) : Int := if opFault o = 0 ∧ o.code = 3 then (match hopN M (fam o.family) o.key with | some h => (h : Int) | none => 0) else 0
theorem step_m {S : St} (h : S.ok) {o : OpD} (he : (S.step o).2.err ≠ 8) : (S.step o).1.M = mNext S.M o ∧ (S.step o).2.err = mErr S.M o ∧ (S.step o).2.hop = mHop S.M o := by
  obtain ⟨F, hI⟩ := h.inv
  unfold St.step at he ⊢
  unfold mNext mErr mHop
  by_cases hf : opFault o = 0
  · simp only [hf, if_true, true_and] at he ⊢
    rcases fault_code hf with hc | hc | hc | hc
    · obtain ⟨hp, h0, h1⟩ := fault_ins hc hf
      rw [if_pos hc] at he
      rw [if_pos hc, if_pos hc, if_neg (show ¬ o.code = 2 by omega), if_neg (show ¬ o.code = 3 by omega), if_neg (show ¬ o.code = 3 by omega)]
      rcases insN_ok hI (fam o.family) (x := o.hop.toNat) hp.len hp.v with ⟨e, _⟩ | ⟨B, F', e, hB, hs⟩
      · rw [e] at he
        exact absurd rfl he
      · rw [e]
        exact ⟨rfl, rfl, rfl⟩
    · have hp := fault_del hc hf
      simp only [if_false, hc, if_true, show ¬ (2 : Int) = 3 by omega, show ¬ (2 : Int) = 1 by omega] at he ⊢
      obtain ⟨B, F', e, hB, hs⟩ := delN_ok hI (fam o.family) hp.len hp.v
      rw [e]
      unfold St.del
      cases hm : S.M (fam o.family) o.l o.v with
      | none =>
        rw [updM_id hm]
        refine ⟨?_, ?_, ?_⟩ <;> trivial
      | some x => refine ⟨?_, ?_, ?_⟩ <;> trivial
    · simp only [hc, if_true, show ¬ (3 : Int) = 1 by omega, show ¬ (3 : Int) = 2 by omega, if_false]
      unfold lookAns
      cases hopN S.M (fam o.family) o.key with
      | none => refine ⟨?_, ?_, ?_⟩ <;> trivial
      | some x => refine ⟨?_, ?_, ?_⟩ <;> trivial
    · simp only [hc, show ¬ (4 : Int) = 1 by omega, show ¬ (4 : Int) = 2 by omega, show ¬ (4 : Int) = 3 by omega, if_false]
      refine ⟨?_, ?_, ?_⟩ <;> trivial
  · simp only [hf, if_false, false_and]
    refine ⟨?_, ?_, ?_⟩ <;> trivial
/-- reads of a lookup -/
theorem step_reads {S : St} {o : OpD} (hf : opFault o = 0) (hc : o.code = 3) : 1 ≤ (S.step o).2.reads ∧ (S.step o).2.reads ≤ dp (fam o.family) + 3 := by
  unfold St.step
  rw [if_pos hf, if_neg (by omega), if_neg (by omega), if_pos hc]
  unfold lookAns
  cases hopN S.M (fam o.family) o.key with
  | none => have := readsN_le S.A.word (fam o.family) o.key false; simp only; omega
  | some x => have := readsN_le S.A.word (fam o.family) o.key true; simp only; omega
theorem count_next {M : Bool → Tab} (hT : ∀ q, TabOk (8 + 4 * dp q) (M q)) (o : OpD) : count2 (mNext M o) ≤ count2 M + 1 := by
  unfold mNext
  by_cases hf : opFault o = 0
  · rw [if_pos hf]
    rcases fault_code hf with hc | hc | hc | hc
    · obtain ⟨hp, h0, h1⟩ := fault_ins hc hf
      rw [if_pos hc]
      have h2 := dump_len_some (h := o.hop.toNat) (hT (fam o.family)) (tab_upd_some (hT _) hp.len hp.v) (dp_le _)
      unfold count2
      cases hq : fam o.family with
      | false =>
        rw [hq] at h2
        rw [updM_same, show updM M false o.l o.v (some o.hop.toNat) true = M true from updM_not M false _ _ _]
        omega
      | true =>
        rw [hq] at h2
        rw [updM_same, show updM M true o.l o.v (some o.hop.toNat) false = M false from updM_not M true _ _ _]
        omega
    · rw [if_neg (by omega), if_pos hc]
      have h2 := dump_len_none (l := o.l) (v := o.v) (hT (fam o.family)) (dp_le _)
      unfold count2
      cases hq : fam o.family with
      | false =>
        rw [hq] at h2
        rw [updM_same, show updM M false o.l o.v none true = M true from updM_not M false _ _ _]
        omega
      | true =>
        rw [hq] at h2
        rw [updM_same, show updM M true o.l o.v none false = M false from updM_not M true _ _ _]
        omega
    · rw [if_neg (by omega), if_neg (by omega)]; omega
    · rw [if_neg (by omega), if_neg (by omega)]; omega
  · rw [if_neg hf]; omega
/-- many operations, one behind the other -/
def St.run (S : St) : List OpD → St × List Ans
  | [] => (S, [])
  | o :: os => (((S.step o).1.run os).1, (S.step o).2 :: ((S.step o).1.run os).2)
theorem run_ok {S : St} (h : S.ok) : ∀ os, (S.run os).1.ok ∧ (S.run os).1.A.size = S.A.size ∧ (S.run os).2.length = os.length
  | [] => ⟨h, rfl, rfl⟩
  | o :: os => by
    obtain ⟨h1, h2⟩ := step_ok h o
    obtain ⟨h3, h4, h5⟩ := run_ok h1 os
    exact ⟨h3, h4.trans h2, by simp [St.run, h5]⟩
end Go.Proofs.YtnapboelfimaaaaDoor
