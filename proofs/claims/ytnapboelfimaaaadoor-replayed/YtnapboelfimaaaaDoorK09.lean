/- ArB, ArC, ArD: parts of the proof, one behind the other. -/
import Derived.Test.YtnapboelfimaaaaDoorK08
import Derived.Laws.CopyOwn
/- Giving a block back. -/
namespace Go.Proofs.YtnapboelfimaaaaDoor
open Go.RowKit Go.Deep
set_option maxHeartbeats 400000 in
set_option maxRecDepth 10000 in
theorem give_any (A : Ar) (ab wb b n : Nat) (w : World) (h : ArAt w ab wb A) (hn : n ≤ 32) (hb : n ≠ 0 → b < A.size) (hg : n ≠ 0 → A.given n < 65536) (hf1 : -100000 ≤ A.free) (hf2 : A.free ≤ 100000) :
    Calls Tryd.prog 107 #[.pointer (some ⟨ab, 0, none⟩), .agg #[.int .i64 b, .int .i64 n]] w fun e w' => e = .returned (.tuple #[]) ∧ ArAt w' ab wb (A.give b n) ∧ Fr [ab, wb] w w' := by
  by_cases hz : n = 0
  · subst hz
    have HA := hide (show ArAt (w.alloc (.cells #[.int .i64 b, .int .i64 0] 146)) ab wb (A.give b 0) from h.ext (ext_alloc _ _))
    go_enter Tryd.func107, Tryd.ntmps107
    go_wp2
    exact bodyPost_ret (v := .tuple #[]) (by simp [results, Tryd.results107, go_sem]) rfl ⟨rfl, HA.out, Fr.of_below (ext_alloc _ _)⟩
  · have hb' := hb hz
    replace hg := hg hz
    have e0 : ((n : Int) == 0) = false := by simp [hz]
    have HA := hide h
    have c0 := h.slice
    have c1 := h.given hn
    have c2 := h.free
    have c3 := h.fw b
    have c4 := h.fa (2 + n)
    have c5 := h.fa 35
    have c6 := h.word hb'
    have hne := h.ne
    have hne2 := h.ne.symm
    have hla := h.la
    have hlw := h.lw
    have h35 : 35 ≠ 2 + n := by omega
    have h35' : 2 + n ≠ 35 := by omega
    clear h hb
    go_enter Tryd.func107, Tryd.ntmps107
    go_wp2
    go_region
    go_wp2
    go_region
    go_wp2
    go_region
    go_wp2
    go_end0
    refine ⟨rfl, ?_, ?_⟩
    · have h1 := (((HA.out.setWord hb' (A.given n)).setGiven hn b).setFree (A.free + n)).alloc (.cells #[.int .i64 b, .int .i64 n] 146)
      have e : A.give b n = { A with word := setW A.word b (A.given n), given := setW A.given n b, free := A.free + n } := by simp [Ar.give, hz]
      rw [e]
      exact h1.drew.drew.drew
    · exact (((((Fr.refl _ _).setCell (Or.inl (by simp)) _).setCell (Or.inl (by simp)) _).setCell (Or.inl (by simp)) _).alloc _).drew.drew.drew
theorem give_at (A : Ar) (ab wb : Nat) (x y : Int) (b n : Nat) (w : World) (h : ArAt w ab wb A) (hx : x = b) (hy : y = n) (hn : n ≤ 32) (hb : n ≠ 0 → b < A.size) (hg : n ≠ 0 → A.given n < 65536) (hf1 : -100000 ≤ A.free) (hf2 : A.free ≤ 100000) :
    Calls Tryd.prog 107 #[.pointer (some ⟨ab, 0, none⟩), .agg #[.int .i64 x, .int .i64 y]] w fun e w' => e = .returned (.tuple #[]) ∧ ArAt w' ab wb (A.give b n) ∧ Fr [ab, wb] w w' := by
  subst hx hy
  exact give_any A ab wb b n w h hn hb hg hf1 hf2
end Go.Proofs.YtnapboelfimaaaaDoor
/- Taking a block. -/
namespace Go.Proofs.YtnapboelfimaaaaDoor
open Go.RowKit Go.Deep
/-- what the walks ask of an arena -/
structure Sane (A : Ar) : Prop where
  size : A.size ≤ 65536
  top : A.top ≤ A.size
  given : ∀ s, 1 ≤ s → s ≤ 32 → A.given s = 0 ∨ A.given s + s ≤ A.size
  word : ∀ a, A.word a < 4294967296
  free1 : -50000 ≤ A.free
  free2 : A.free ≤ 70000
set_option maxHeartbeats 400000 in
set_option maxRecDepth 10000 in
theorem take_any (A : Ar) (ab wb n : Nat) (w : World) (h : ArAt w ab wb A) (hs : Sane A) (h1 : 1 ≤ n) (h2 : n ≤ 32) (Q : Ending → World → Prop)
    (q1 : ∀ x B w', A.take n = (B, some x) → ArAt w' ab wb B → Fr [ab, wb] w w' → Q (.returned (.tuple #[.agg #[.int .i64 (x : Nat), .int .i64 n], .bool true])) w')
    (q0 : ∀ w', A.take n = (A, none) → ArAt w' ab wb A → Fr [ab, wb] w w' → Q (.returned (.tuple #[.agg #[.int .i64 0, .int .i64 0], .bool false])) w') :
    Calls Tryd.prog 106 #[.pointer (some ⟨ab, 0, none⟩), .int .i64 n] w Q := by
  have Q1 := hide q1
  have Q0 := hide q0
  clear q0 q1
  have hA := h
  have hsz := hs.size
  have htp := hs.top
  have hf1 := hs.free1
  have hf2 := hs.free2
  have c0 := h.slice
  have c1 := h.top
  have c2 := h.free
  have f1 := h.fa 1
  have f35 := h.fa 35
  have hne := h.ne
  have hne2 := h.ne.symm
  have hla := h.la
  have hlw := h.lw
  have HA := hide hA
  have HS := hide hs
  clear h hA hs
  go_enter Tryd.func106, Tryd.ntmps106
  go_wp2
  go_loop [6] (fun i => ∃ k : Nat, n ≤ k ∧ k ≤ 33 ∧ i = .int .i64 k ∧ A.fit n (33 - n) = A.fit k (33 - k)) (fun i => 33 - (intOf i).toNat)
  case atStart => exact ⟨n, Nat.le_refl _, by omega, rfl, rfl⟩
  case round =>
    obtain ⟨k, hk1, hk2, rfl, hfit⟩ := hrel
    have HF := hide hfit
    clear hfit
    by_cases hk : k < 33
    · have g0 := HA.out.given (show k ≤ 32 by omega)
      by_cases hg : A.given k = 0
      · have hst : A.fit k (33 - k) = A.fit (k + 1) (33 - (k + 1)) := by
          obtain ⟨m, hm⟩ : ∃ m, 33 - k = m + 1 := ⟨33 - k - 1, by omega⟩
          rw [hm, Ar.fit, if_neg (by simp [hg])]
          congr 1; omega
        have e0 : (((A.given k : Nat) : Int) == 0) = true := by simp [hg]
        have HG := hide hg
        have HT := hide hst
        clear hg hst
        go_wp2
        go_round
        case rel => exact ⟨k + 1, by omega, by omega, by go_num, HF.out.trans HT.out⟩
        case measure => simp [intOf]; omega
      · have e0 : (((A.given k : Nat) : Int) == 0) = false := by simp [hg]
        have hgs : A.given k + k ≤ A.size := (HS.out.given k (by omega) (by omega)).resolve_left hg
        have g1 := HA.out.word (show A.given k < A.size by omega)
        have g2 := HA.out.fa (2 + k)
        have g3 := HS.out.word (A.given k)
        have h35 : 35 ≠ 2 + k := by omega
        have h35' : 2 + k ≠ 35 := by omega
        have hres : A.take n = (({ A with given := setW A.given k (A.word (A.given k)), free := A.free - k } : Ar).give (A.given k + n) (k - n), some (A.given k)) := by
          unfold Ar.take
          rw [HF.out]
          obtain ⟨m, hm⟩ : ∃ m, 33 - k = m + 1 := ⟨33 - k - 1, by omega⟩
          rw [hm, Ar.fit, if_pos hg]
        have HR := hide hres
        clear hres
        go_wp2
        go_region
        go_wp2_with fail
        refine (give_at ({ A with given := setW A.given k (A.word (A.given k)), free := A.free - k } : Ar) ab wb _ _ (A.given k + n) (k - n) _ ?_ ?_ ?_ ?_ ?_ ?_ ?_ ?_).mono ?_
        · have t1 := ((HA.out.setGiven (show k ≤ 32 by omega) (A.word (A.given k))).setFree (A.free - k)).alloc (.cells #[.int .i64 0, .int .i64 0] 146)
          exact t1.drew
        · omega
        · omega
        · omega
        · intro hq; show A.given k + n < A.size; omega
        · intro hq
          show setW A.given k (A.word (A.given k)) (k - n) < 65536
          rw [setW_ne (by omega)]
          rcases HS.out.given (k - n) (by omega) (by omega) with q | q <;> omega
        · show -100000 ≤ A.free - k
          omega
        · show A.free - k ≤ 100000
          omega
        rintro e w' ⟨rfl, hA', hF'⟩
        have r0 : w'.heap[w.heap.size]? = some (.cells #[.int .i64 0, .int .i64 0] 146 (0, 0)) := by
          refine hF'.at ?_ (by simp; omega)
          have hz : ((w.setCell ⟨ab, 2 + k, none⟩ (.int .i64 (A.word (A.given k) : Int))).setCell ⟨ab, 35, none⟩ (.int .i64 (A.free - k))).heap.size = w.heap.size := by simp
          have := heap_alloc_new ((w.setCell ⟨ab, 2 + k, none⟩ (.int .i64 (A.word (A.given k) : Int))).setCell ⟨ab, 35, none⟩ (.int .i64 (A.free - k))) (.cells #[.int .i64 0, .int .i64 0] 146)
          rw [hz] at this
          exact this
        have r1 := cell_two0 r0
        have r2 := cell_two1 r0
        have r3 := free_two 0 r0
        have r4 := free_two 1 r0
        have HF2 := hide hF'
        have HA2 := hide hA'
        clear hF' hA' r0
        go_wp2
        refine bodyPost_ret (v := .tuple #[.agg #[.int .i64 (A.given k : Nat), .int .i64 n], .bool true]) (by simp [results, Tryd.results106, go_sem, r1, r2]) rfl (Q1.out (A.given k) _ _ HR.out ?_ ?_)
        · exact (HA2.out.other (by omega) (by omega)).other (by omega) (by omega)
        · refine (Fr.setCell (Fr.setCell (Fr.trans ?_ HF2.out) (Or.inr (Nat.le_refl _)) _) (Or.inr (Nat.le_refl _)) _)
          exact ((((Fr.refl _ _).setCell (Or.inl (by simp)) _).setCell (Or.inl (by simp)) _).alloc _).drew
    · have hk' : k = 33 := by omega
      subst hk'
      have hfit : A.fit n (33 - n) = none := HF.out
      have HT := hide (show A.take n = if A.size - A.top < n then (A, none) else ({ A with top := A.top + n, free := A.free - n }, some A.top) by
        unfold Ar.take; rw [hfit])
      clear hfit
      by_cases hr : A.size - A.top < n
      · have hd : decide ((A.size : Int) - A.top < n) = true := by simp; omega
        go_wp2
        go_quiet (fail)
        go_wp2
        refine bodyPost_ret (v := .tuple #[.agg #[.int .i64 0, .int .i64 0], .bool false]) (by simp [results, Tryd.results106, go_sem]) rfl (Q0.out _ ?_ ?_ ?_)
        · rw [HT.out, if_pos hr]
        · exact (((HA.out.alloc _).drewN _).other (by omega) (by omega)).other (by omega) (by omega)
        · exact ((((Fr.refl _ _).alloc _).drewN _).setCell (Or.inr (Nat.le_refl _)) _).setCell (Or.inr (Nat.le_refl _)) _
      · have hd : decide ((A.size : Int) - A.top < n) = false := by simp; omega
        go_wp2
        go_quiet (fail)
        go_wp2
        refine bodyPost_ret (v := .tuple #[.agg #[.int .i64 (A.top : Nat), .int .i64 n], .bool true]) (by simp [results, Tryd.results106, go_sem]) rfl (Q1.out A.top { A with top := A.top + n, free := A.free - n } _ ?_ ?_ ?_)
        · rw [HT.out, if_neg hr]
        · have t1 := ((((HA.out.alloc (.cells #[.int .i64 0, .int .i64 0] 146)).drewN nq).setTop (A.top + n)).setFree (A.free - n))
          exact (((t1.other (by omega) (by omega)).other (by omega) (by omega)).alloc _)
        · exact (((((((Fr.refl _ _).alloc _).drewN _).setCell (Or.inl (by simp)) _).setCell (Or.inl (by simp)) _).setCell (Or.inr (Nat.le_refl _)) _).setCell (Or.inr (Nat.le_refl _)) _).alloc _
end Go.Proofs.YtnapboelfimaaaaDoor
/- Words are written and read. -/
namespace Go.Proofs.YtnapboelfimaaaaDoor
open Go.RowKit Go.Deep
theorem sizeWord : (Tryd.prog.info? 110).map (·.size) = some 1 := by
  obtain ⟨i0, hi, hz0, hz1, hz2⟩ := info_parts infoWord
  rw [hi]; simp [hz1]
/-- words laid over others from a place on -/
def layW (W : Nat → Nat) (off : Nat) (ns : List Nat) : Nat → Nat := fun a => if off ≤ a ∧ a < off + ns.length then ns.getD (a - off) 0 else W a
def wordVals (ns : List Nat) : List Value := ns.map fun x : Nat => Value.int .u32 (x : Int)
theorem lay_cells (A : Ar) (off : Nat) (ns : List Nat) (h : off + ns.length ≤ A.size) : (wordCells A).take off ++ (wordVals ns ++ (wordCells A).drop (off + (wordVals ns).length)) = wordCells { A with word := layW A.word off ns } := by
  have hl : (wordVals ns).length = ns.length := by simp [wordVals]
  apply List.ext_getElem?
  intro i
  by_cases h1 : i < off
  · rw [List.getElem?_append_left (by rw [List.length_take, word_len]; omega), List.getElem?_take_of_lt h1, word_get A i (by omega), word_get _ i (by show i < A.size; omega)]
    simp only [layW]
    rw [if_neg (by omega)]
  · rw [List.getElem?_append_right (by rw [List.length_take, word_len]; omega), List.length_take, word_len, show min off A.size = off by omega]
    by_cases h2 : i < off + ns.length
    · rw [List.getElem?_append_left (by rw [hl]; omega)]
      rw [word_get _ i (by show i < A.size; omega)]
      simp only [layW]
      rw [if_pos (by omega)]
      unfold wordVals
      rw [List.getElem?_map, List.getElem?_eq_getElem (by omega), List.getD_eq_getElem?_getD, List.getElem?_eq_getElem (by omega)]
      rfl
    · rw [List.getElem?_append_right (by rw [hl]; omega), List.getElem?_drop, hl, show off + ns.length + (i - off - ns.length) = i by omega]
      by_cases h3 : i < A.size
      · rw [word_get A i h3, word_get _ i (by show i < A.size; omega)]
        simp only [layW]
        rw [if_neg (by omega)]
      · rw [List.getElem?_eq_none (by rw [word_len]; omega), List.getElem?_eq_none (by rw [word_len]; show A.size ≤ i; omega)]
theorem word_one (ns : List Nat) : ∀ v ∈ wordVals ns, v.oneCell' = true := by
  intro v hv
  obtain ⟨x, _, rfl⟩ := List.mem_map.1 hv
  rfl
/-- copying words into the arena -/
theorem wpList_copy_words {w : World} {ops : Array Oper} {rest : List Oper} {o : Oper} {a : Act} {Q : Exit → Act → World → Prop} (hgd : o.guard = none) (d s : Operand)
    (ho : o.op = .call { callee := .builtin .copy, args := #[d, s], argTypes := #[101, 101] })
    (dp sp : Option Addr) (dLen dCap sLen sCap : Nat) (hd : a.eval d = .slice dp dLen dCap) (hs : a.eval s = .slice sp sLen sCap)
    (A : Ar) (ab wb off : Nat) (hA : ArAt w ab wb A) (ns : List Nat) (hn : ns.length = Nat.min sLen dLen)
    (hpos : 0 < ns.length → dp = some ⟨wb, off, none⟩ ∧ ∃ ad, sp = some ad ∧ ∀ j v, (wordVals ns)[j]? = some v → w.cell? (ad.add j) = some v)
    (hfit : off + ns.length ≤ A.size)
    (h : ∀ w', ArAt w' ab wb { A with word := layW A.word off ns } → Fr [wb] w w' → wpList Tryd.prog ops Q rest (a.put o.dst (goInt ns.length)) w') :
    wpList Tryd.prog ops Q (o :: rest) a w := by
  by_cases h0 : ns.length = 0
  · obtain rfl : ns = [] := List.eq_nil_of_length_eq_zero h0
    refine wpList_copy_nothing hgd d s _ _ ho 110 Tryd.underlying101 sizeWord dp sp dLen dCap sLen sCap hd hs (by simpa using hn.symm) ?_
    refine h w ?_ (Fr.refl _ _)
    have e : layW A.word off [] = A.word := by
      funext x
      unfold layW
      rw [if_neg]
      simp
    rw [e]; exact hA
  · obtain ⟨rfl, ad, rfl, hsrc⟩ := hpos (by omega)
    have hl : (wordVals ns).length = ns.length := by simp [wordVals]
    refine wpList_copy_own hgd d s _ _ ho 110 Tryd.underlying101 sizeWord wb off dLen dCap ad sLen sCap hd hs (wordCells A).toArray 110 hA.words (wordVals ns) (by rw [hl]; exact hn) hsrc (by rw [hl]; simp [word_len]; omega) (word_one ns) ?_
    rw [hl]
    refine h _ ⟨?_, ?_⟩ ?_
    · rw [setRow_other _ _ _ _ hA.ne]; exact hA.arena
    · rw [setRow_heap _ _ _ _ _ _ hA.words]
      have := lay_cells A off ns hfit
      rw [hl] at this
      rw [this]
    · exact ⟨rfl, rfl, rfl, by simp [World.setRow], fun k _ hk => setRow_other _ _ _ _ (by simpa using hk)⟩
theorem copy_words (w : World) (A : Ar) (ab wb off dLen dCap sLen sCap : Nat) (dp sp : Option Addr) (hA : ArAt w ab wb A) (ns : List Nat) (hn : ns.length = Nat.min sLen dLen)
    (hpos : 0 < ns.length → dp = some ⟨wb, off, none⟩ ∧ ∃ ad, sp = some ad ∧ ∀ j v, (wordVals ns)[j]? = some v → w.cell? (ad.add j) = some v) (hfit : off + ns.length ≤ A.size) :
    ∃ w', (Builtin.copy_ #[101, 101] 3 #[.slice dp dLen dCap, .slice sp sLen sCap]).run Tryd.prog w = .ok (goInt ns.length) w' ∧ ArAt w' ab wb { A with word := layW A.word off ns } ∧ Fr [wb] w w' ∧ w'.heap.size = w.heap.size := by
  by_cases h0 : ns.length = 0
  · obtain rfl : ns = [] := List.eq_nil_of_length_eq_zero h0
    refine ⟨w, run_copy_none w _ _ _ 110 _ _ _ _ _ _ Tryd.underlying101 sizeWord (by simpa using hn.symm), ?_, Fr.refl _ _, rfl⟩
    have e : layW A.word off [] = A.word := by
      funext x
      unfold layW
      rw [if_neg]
      simp
    rw [e]; exact hA
  · obtain ⟨rfl, ad, rfl, hsrc⟩ := hpos (by omega)
    have hl : (wordVals ns).length = ns.length := by simp [wordVals]
    have hrun := run_copy_row (P := Tryd.prog) w 101 101 3 110 wb off dLen dCap ad sLen sCap (wordCells A).toArray 110 (wordVals ns) Tryd.underlying101 sizeWord hA.words (by rw [hl]; exact hn) hsrc (by rw [hl]; simp [word_len]; omega) (word_one ns)
    rw [hl] at hrun
    refine ⟨_, hrun, ⟨?_, ?_⟩, ?_, ?_⟩
    · rw [setRow_other _ _ _ _ hA.ne]; exact hA.arena
    · rw [setRow_heap _ _ _ _ _ _ hA.words]
      have := lay_cells A off ns hfit
      rw [hl] at this
      show some (Obj.cells (List.take off (wordCells A) ++ wordVals ns ++ List.drop (off + ns.length) (wordCells A)).toArray _ _) = _
      rw [List.append_assoc, this]
    · exact ⟨rfl, rfl, rfl, by simp [World.setRow], fun k _ hk => setRow_other _ _ _ _ (by simpa using hk)⟩
    · simp [World.setRow]
/-- the same as one step of a region that draws its order -/
theorem step_copy_words {ops : Array Oper} {o : Oper} {a : Act} {w : World} {K : Act → World → Prop} {Q : Exit → Act → World → Prop} {E : Prop} (hgd : o.guard = none) (d s : Operand)
    (ho : o.op = .call { callee := .builtin .copy, args := #[d, s], argTypes := #[101, 101] }) (hty : o.type = 3)
    (dp sp : Option Addr) (dLen dCap sLen sCap : Nat) (hd : a.eval d = .slice dp dLen dCap) (hs : a.eval s = .slice sp sLen sCap)
    (A : Ar) (ab wb off : Nat) (hA : ArAt w ab wb A) (ns : List Nat) (hn : ns.length = Nat.min sLen dLen)
    (hpos : 0 < ns.length → dp = some ⟨wb, off, none⟩ ∧ ∃ ad, sp = some ad ∧ ∀ j v, (wordVals ns)[j]? = some v → w.cell? (ad.add j) = some v) (hfit : off + ns.length ≤ A.size)
    (h : ∀ w', ArAt w' ab wb { A with word := layW A.word off ns } → Fr [wb] w w' → K (a.put o.dst (goInt ns.length)) w') :
    if Region.wanted o (yielded ops a.tmps) = true then Oper.wp Tryd.prog o a w K Q else E := by
  have hw : Region.wanted o (yielded ops a.tmps) = true := by simp [Region.wanted, hgd]
  rw [if_pos hw]
  obtain ⟨w', hrun, h2, h3, _⟩ := copy_words w A ab wb off dLen dCap sLen sCap dp sp hA ns hn hpos hfit
  unfold Oper.wp
  simp [execOp, ho, hty, resolve, invoke, builtin, hd, hs, hrun, Result.andThen]
  exact h w' h2 h3
theorem addr_add (b off k : Nat) : (⟨b, off, none⟩ : Addr).add k = ⟨b, off + k, none⟩ := by unfold Addr.add; split <;> simp_all
theorem src_words {w : World} {ab wb : Nat} {A : Ar} (h : ArAt w ab wb A) (s m : Nat) (hm : s + m ≤ A.size) : ∀ j v, (wordVals ((List.range m).map fun i => A.word (s + i)))[j]? = some v → w.cell? ((⟨wb, s, none⟩ : Addr).add j) = some v := by
  intro j v hj
  have hlt : j < m := by
    have := (List.getElem?_eq_some_iff.1 hj).1
    simpa [wordVals] using this
  have e : (wordVals ((List.range m).map fun i => A.word (s + i)))[j]? = some (.int .u32 (A.word (s + j) : Int)) := by
    unfold wordVals
    rw [List.getElem?_map, List.getElem?_map, List.getElem?_range hlt]
    rfl
  rw [e] at hj
  have := h.word (show s + j < A.size by omega)
  rw [← hj, addr_add]
  exact this
theorem lay_copy (W U : Nat → Nat) (dst src m : Nat) : layW W dst ((List.range m).map fun i => U (src + i)) = fun a => if dst ≤ a ∧ a < dst + m then U (src + (a - dst)) else W a := by
  funext a
  unfold layW
  simp only [List.length_map, List.length_range]
  by_cases h : dst ≤ a ∧ a < dst + m
  · rw [if_pos h, if_pos h, List.getD_eq_getElem?_getD, List.getElem?_map, List.getElem?_range (by omega)]
    rfl
  · rw [if_neg h, if_neg h]
set_option maxHeartbeats 400000 in
set_option maxRecDepth 10000 in
theorem write_any (A : Ar) (ab wb : Nat) (x : Int) (off len cap : Nat) (ns : List Nat) (ad : Addr) (w : World) (h : ArAt w ab wb A) (hx : x = off) (hn : 0 < ns.length) (hlen : ns.length = len) (hfit : off + ns.length ≤ A.size) (hsrc : ∀ j v, (wordVals ns)[j]? = some v → w.cell? (ad.add j) = some v) :
    Calls Tryd.prog 88 #[.pointer (some ⟨ab, 0, none⟩), .int .i64 x, .slice (some ad) len cap] w fun e w' => e = .returned (.tuple #[]) ∧ ArAt w' ab wb { A with word := layW A.word off ns } ∧ Fr [wb] w w' := by
  subst hx
  have c0 := h.slice
  have hlt : (off : Int) < A.size := by omega
  obtain ⟨w2, hrun, h2, hf, _⟩ := copy_words w A ab wb off (A.size - off) (A.size - off) len cap (some ⟨wb, off, none⟩) (some ad) h ns (by rw [← hlen]; exact (Nat.min_eq_left (by omega)).symm) (fun _ => ⟨rfl, ad, rfl, hsrc⟩) hfit
  have H2 := hide h2
  have HF := hide hf
  clear h2 hf hsrc hn h
  go_enter Tryd.func88, Tryd.ntmps88
  go_wp2
  go_end0
  exact ⟨rfl, H2.out, HF.out⟩
set_option maxHeartbeats 400000 in
set_option maxRecDepth 10000 in
theorem read1_any (A : Ar) (ab wb rb : Nat) (x : Int) (p c sb cap : Nat) (k : Int) (w : World) (h : ArAt w ab wb A) (hsz : A.size ≤ 65536) (hx : x = p) (hp : p < A.size) (hr : w.heap[rb]? = some (.cells #[.pointer (some ⟨ab, 0, none⟩), .int .i64 k] 65 (0, 0))) (hk1 : 0 ≤ k) (hk2 : k ≤ 1000000000000) (y : Value) (hc : w.heap[c]? = some (.cells #[y] 110 (0, 0))) (hs : w.cell? ⟨sb, 0, none⟩ = some (.pointer (some ⟨c, 0, none⟩))) (hcw : c ≠ wb) :
    Calls Tryd.prog 49 #[.pointer (some ⟨rb, 0, none⟩), .int .i64 x, .slice (some ⟨sb, 0, none⟩) 1 cap] w fun e w' => e = .returned (.tuple #[]) ∧ ArAt w' ab wb A ∧ w'.heap[rb]? = some (.cells #[.pointer (some ⟨ab, 0, none⟩), .int .i64 (k + 1)] 65 (0, 0)) ∧ w'.heap[c]? = some (.cells #[.int .u32 (A.word p : Int)] 110 (0, 0)) ∧ Fr [rb, c] w w' := by
  subst hx
  have c0 := h.slice
  have c1 := h.word hp
  have r0 := cell_two0 hr
  have r1 := cell_two1 hr
  have r2 := free_two 1 hr
  have k0 : w.cell? ⟨c, 0, none⟩ = some y := by simp [World.cell?, hc]
  have k1 : w.frozen? ⟨c, 0, none⟩ = false := by simp [World.frozen?, hc]
  have hlt : (p : Int) < A.size := by omega
  have hlt2 : (p : Int) < 65536 := by omega
  have hrc : rb ≠ c := by
    rintro rfl
    rw [hc] at hr
    simp at hr
  have hrc' := hrc.symm
  have hca : c ≠ ab := by
    rintro rfl
    have := h.arena
    rw [hc] at this
    simp at this
  have hra : rb ≠ ab := by
    rintro rfl
    have := h.arena
    rw [hr] at this
    simp at this
  have hrw : rb ≠ wb := by
    rintro rfl
    have := h.words
    rw [hr] at this
    simp at this
  have HA := hide h
  have HR := hide hr
  have HC := hide hc
  clear h hr hc
  go_enter Tryd.func49, Tryd.ntmps49
  go_wp2
  refine wp_loop_rounds 2 ?_
  rw [rounds_succ]
  go_wp2
  rw [rounds_succ]
  go_wp2
  go_end0
  refine ⟨rfl, (HA.out.other hca.symm hcw.symm).other hra.symm hrw.symm, ?_, ?_, ?_⟩
  · exact heap_setCell_at _ ((Below.heap_setCell _ _ _ _ hrc).trans HR.out)
  · rw [Below.heap_setCell _ _ _ _ hrc']
    exact heap_setCell_at _ HC.out
  · exact ((Fr.refl _ _).setCell (Or.inl (by simp)) _).setCell (Or.inl (by simp)) _
set_option maxHeartbeats 400000 in
set_option maxRecDepth 10000 in
theorem read2_any (A : Ar) (ab wb rb : Nat) (x : Int) (p c d sb cap : Nat) (k : Int) (w : World) (h : ArAt w ab wb A) (hsz : A.size ≤ 65536) (hx : x = p) (hp : p + 1 < A.size) (hr : w.heap[rb]? = some (.cells #[.pointer (some ⟨ab, 0, none⟩), .int .i64 k] 65 (0, 0))) (hk1 : 0 ≤ k) (hk2 : k ≤ 1000000000000) (y z : Value) (hc : w.heap[c]? = some (.cells #[y] 110 (0, 0))) (hd : w.heap[d]? = some (.cells #[z] 110 (0, 0)))
    (hs : w.cell? ⟨sb, 0, none⟩ = some (.pointer (some ⟨c, 0, none⟩))) (hs2 : w.cell? ⟨sb, 1, none⟩ = some (.pointer (some ⟨d, 0, none⟩))) (hcw : c ≠ wb) (hdw : d ≠ wb) (hcd : c ≠ d) (hsc : sb ≠ c) (hsd : sb ≠ d) :
    Calls Tryd.prog 49 #[.pointer (some ⟨rb, 0, none⟩), .int .i64 x, .slice (some ⟨sb, 0, none⟩) 2 cap] w fun e w' => e = .returned (.tuple #[]) ∧ ArAt w' ab wb A ∧ w'.heap[rb]? = some (.cells #[.pointer (some ⟨ab, 0, none⟩), .int .i64 (k + 1)] 65 (0, 0)) ∧ w'.heap[c]? = some (.cells #[.int .u32 (A.word p : Int)] 110 (0, 0)) ∧ w'.heap[d]? = some (.cells #[.int .u32 (A.word (p + 1) : Int)] 110 (0, 0)) ∧ Fr [rb, c, d] w w' := by
  subst hx
  have c0 := h.slice
  have c1 := h.word (show p < A.size by omega)
  have c2 := h.word hp
  have r0 := cell_two0 hr
  have r1 := cell_two1 hr
  have r2 := free_two 1 hr
  have k0 : w.cell? ⟨c, 0, none⟩ = some y := by simp [World.cell?, hc]
  have k1 : w.frozen? ⟨c, 0, none⟩ = false := by simp [World.frozen?, hc]
  have k2 : w.cell? ⟨d, 0, none⟩ = some z := by simp [World.cell?, hd]
  have k3 : w.frozen? ⟨d, 0, none⟩ = false := by simp [World.frozen?, hd]
  have hlt : (p : Int) + 1 < A.size := by omega
  have hlt2 : (p : Int) < 65536 := by omega
  have hrc : rb ≠ c := by
    rintro rfl
    rw [hc] at hr
    simp at hr
  have hrd : rb ≠ d := by
    rintro rfl
    rw [hd] at hr
    simp at hr
  have hrc' := hrc.symm
  have hrd' := hrd.symm
  have hcd' := hcd.symm
  have hca : c ≠ ab := by
    rintro rfl
    have := h.arena
    rw [hc] at this
    simp at this
  have hda : d ≠ ab := by
    rintro rfl
    have := h.arena
    rw [hd] at this
    simp at this
  have hra : rb ≠ ab := by
    rintro rfl
    have := h.arena
    rw [hr] at this
    simp at this
  have hrw : rb ≠ wb := by
    rintro rfl
    have := h.words
    rw [hr] at this
    simp at this
  have HA := hide h
  have HR := hide hr
  have HC := hide hc
  have HD := hide hd
  clear h hr hc hd
  go_enter Tryd.func49, Tryd.ntmps49
  go_wp2
  refine wp_loop_rounds 3 ?_
  rw [rounds_succ]
  go_wp2
  rw [rounds_succ]
  go_wp2
  rw [rounds_succ]
  go_wp2
  go_end0
  refine ⟨rfl, ((HA.out.other hca.symm hcw.symm).other hda.symm hdw.symm).other hra.symm hrw.symm, ?_, ?_, ?_, ?_⟩
  · exact heap_setCell_at _ ((Below.heap_setCell _ _ _ _ hrd).trans ((Below.heap_setCell _ _ _ _ hrc).trans HR.out))
  · rw [Below.heap_setCell _ _ _ _ hrc', Below.heap_setCell _ _ _ _ hcd]
    exact heap_setCell_at _ HC.out
  · rw [Below.heap_setCell _ _ _ _ hrd']
    exact heap_setCell_at _ ((Below.heap_setCell _ _ _ _ hcd').trans HD.out)
  · exact (((Fr.refl _ _).setCell (Or.inl (by simp)) _).setCell (Or.inl (by simp)) _).setCell (Or.inl (by simp)) _
end Go.Proofs.YtnapboelfimaaaaDoor
