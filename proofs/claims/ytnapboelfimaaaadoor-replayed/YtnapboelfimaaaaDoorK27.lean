/- CoW, CoN, CoM: parts of the proof, one behind the other. -/
import Derived.Test.YtnapboelfimaaaaDoorK16
import Derived.Test.YtnapboelfimaaaaDoorK26
/- Compacting: words out of the old arena into the new one. -/
namespace Go.Proofs.YtnapboelfimaaaaDoor
open Go.RowKit Go.Deep
/-- an old arena with a reader of it, and tables in a new one -/
structure Cp (w : World) (tb ab wb rb ab0 wb0 : Nat) (O A : Ar) (k : Nat) : Prop where
  tab : TabAt w tb ab wb A
  old : ArAt w ab0 wb0 O
  rd : w.heap[rb]? = some (.cells #[.pointer (some ⟨ab0, 0, none⟩), .int .i64 (k : Int)] 65 (0, 0))
  n1 : ab0 ≠ ab
  n2 : ab0 ≠ wb
  n3 : wb0 ≠ ab
  n4 : wb0 ≠ wb
theorem ty_ne {w : World} {b c : Nat} {x y : Array Value} {t u : TypeId} {p q : Nat × Nat} (h : w.heap[b]? = some (.cells x t p)) (k : w.heap[c]? = some (.cells y u q)) (htu : t ≠ u) : b ≠ c := by
  intro e
  subst e
  rw [h] at k
  injection k with k
  injection k with _ k2
  exact htu k2
theorem Cp.ra {w : World} {tb ab wb rb ab0 wb0 : Nat} {O A : Ar} {k : Nat} (h : Cp w tb ab wb rb ab0 wb0 O A k) : rb ≠ ab := ty_ne h.rd h.tab.ar.arena (by decide)
theorem Cp.rw' {w : World} {tb ab wb rb ab0 wb0 : Nat} {O A : Ar} {k : Nat} (h : Cp w tb ab wb rb ab0 wb0 O A k) : rb ≠ wb := ty_ne h.rd h.tab.ar.words (by decide)
theorem Cp.rt {w : World} {tb ab wb rb ab0 wb0 : Nat} {O A : Ar} {k : Nat} (h : Cp w tb ab wb rb ab0 wb0 O A k) : rb ≠ tb := ty_ne h.rd h.tab.tab (by decide)
theorem Cp.ra0 {w : World} {tb ab wb rb ab0 wb0 : Nat} {O A : Ar} {k : Nat} (h : Cp w tb ab wb rb ab0 wb0 O A k) : rb ≠ ab0 := ty_ne h.rd h.old.arena (by decide)
theorem Cp.rw0 {w : World} {tb ab wb rb ab0 wb0 : Nat} {O A : Ar} {k : Nat} (h : Cp w tb ab wb rb ab0 wb0 O A k) : rb ≠ wb0 := ty_ne h.rd h.old.words (by decide)
theorem Cp.lr {w : World} {tb ab wb rb ab0 wb0 : Nat} {O A : Ar} {k : Nat} (h : Cp w tb ab wb rb ab0 wb0 O A k) : rb < w.heap.size := lt_of_block h.rd
theorem Cp.ext {w w' : World} {tb ab wb rb ab0 wb0 : Nat} {O A : Ar} {k : Nat} (h : Cp w tb ab wb rb ab0 wb0 O A k) (hb : Below w.heap.size w w') : Cp w' tb ab wb rb ab0 wb0 O A k := ⟨h.tab.ext hb, h.old.ext hb, block_ext h.rd hb, h.n1, h.n2, h.n3, h.n4⟩
theorem Cp.other {w : World} {tb ab wb rb ab0 wb0 b off : Nat} {O A : Ar} {k : Nat} {v : Value} (h : Cp w tb ab wb rb ab0 wb0 O A k) (h1 : tb ≠ b) (h2 : ab ≠ b) (h3 : wb ≠ b) (h4 : rb ≠ b) (h5 : ab0 ≠ b) (h6 : wb0 ≠ b) : Cp (w.setCell ⟨b, off, none⟩ v) tb ab wb rb ab0 wb0 O A k := ⟨h.tab.other h1 h2 h3, h.old.other h5 h6, (Below.heap_setCell _ _ _ _ h4).trans h.rd, h.n1, h.n2, h.n3, h.n4⟩
theorem fill_next (U W : Nat → Nat) (b s i : Nat) : setW (fillW U W b s i) (b + i) (W (s + i)) = fillW U W b s (i + 1) := by
  funext a
  unfold setW fillW
  by_cases h : a = b + i
  · subst h
    rw [if_pos rfl, if_pos (by omega), show b + i - b = i by omega]
  · rw [if_neg h]
    by_cases h2 : b ≤ a ∧ a < b + i
    · rw [if_pos h2, if_pos (by omega)]
    · rw [if_neg h2, if_neg (by omega)]
theorem fill_zero (U W : Nat → Nat) (b s : Nat) : fillW U W b s 0 = U := by
  funext a
  unfold fillW
  rw [if_neg (by omega)]
set_option maxHeartbeats 2000000 in
set_option maxRecDepth 10000 in
theorem copyWords_any (O A : Ar) (tb ab wb rb ab0 wb0 from' at' n k : Nat) (x y z : Int) (w : World) (h : Cp w tb ab wb rb ab0 wb0 O A k) (hx : x = from') (hy : y = at') (hz : z = n) (h1 : from' + n ≤ O.size) (h2 : at' + n ≤ A.size) (hO : O.size ≤ 65536) (hA : A.size ≤ 65536) (hk : k ≤ 10000000000) :
    Calls Tryd.prog 86 #[.pointer (some ⟨tb, 0, none⟩), .pointer (some ⟨rb, 0, none⟩), .int .i64 x, .agg #[.int .i64 y, .int .i64 z]] w fun e w' => e = .returned (.tuple #[]) ∧ Cp w' tb ab wb rb ab0 wb0 O { A with word := fillW A.word O.word at' from' n } (k + n) ∧ Fr [rb, wb] w w' := by
  subst hx hy hz
  have hn' : (n : Int) ≤ 65536 := by omega
  have hra := h.ra
  have hrw := h.rw'
  have hrt := h.rt
  have hra0 := h.ra0
  have hrw0 := h.rw0
  have n1 := h.n1
  have n2 := h.n2
  have n3 := h.n3
  have n4 := h.n4
  have hla := h.tab.ar.la
  have hlw := h.tab.ar.lw
  have hlt := h.tab.lt
  have hl0 := h.old.la
  have hlw0 := h.old.lw
  have hlr := h.lr
  have hna := h.tab.na
  have hnw := h.tab.nw
  obtain ⟨wx, hwx⟩ : ∃ wx, wx = (w.alloc (.cells #[.int .i64 (at' : Int), .int .i64 (n : Int)] 146)).alloc (.cells #[.int .u32 0] 110) := ⟨_, rfl⟩
  have HBX : Below w.heap.size w wx := by rw [hwx]; exact ext_trans (ext_alloc _ _) (ext_alloc _ _)
  obtain ⟨bb, hbb⟩ : ∃ bb, bb = w.heap.size := ⟨_, rfl⟩
  obtain ⟨cb, hcb⟩ : ∃ cb, cb = w.heap.size + 1 := ⟨_, rfl⟩
  have bx : wx.heap[bb]? = some (.cells #[.int .i64 (at' : Int), .int .i64 (n : Int)] 146 (0, 0)) := by rw [hwx, hbb]; exact block_ext (heap_alloc_new _ _) (ext_alloc _ _)
  have cx : wx.heap[cb]? = some (.cells #[.int .u32 0] 110 (0, 0)) := by rw [hwx, hcb, ← World.size_alloc w (.cells #[.int .i64 (at' : Int), .int .i64 (n : Int)] 146)]; exact heap_alloc_new _ _
  have hCx := h.ext HBX
  obtain ⟨q0, q1, q2, q3⟩ := cells2 bx
  have hlbx := lt_of_block bx
  have hlcx := lt_of_block cx
  have HWX := hide hwx
  have HBB := hide hbb
  have HCB := hide hcb
  have HC0 := hide hCx
  have HB0 := hide HBX
  have HBX2 := hide bx
  have HCX := hide cx
  have hwb : w.heap.size ≤ bb := by omega
  have hwc : w.heap.size ≤ cb := by omega
  have hbr : rb ≠ bb := by omega
  have hbw : wb ≠ bb := by omega
  have hbt : tb ≠ bb := by omega
  have hba : ab ≠ bb := by omega
  have hba0 : ab0 ≠ bb := by omega
  have hbw0 : wb0 ≠ bb := by omega
  have hcr : rb ≠ cb := by omega
  have hcw : wb ≠ cb := by omega
  have hct : tb ≠ cb := by omega
  have hca : ab ≠ cb := by omega
  have hca0 : ab0 ≠ cb := by omega
  have hcw0 : wb0 ≠ cb := by omega
  have hbc : bb ≠ cb := by omega
  clear h hwx hbb hcb HBX hCx
  go_enter Tryd.func86, Tryd.ntmps86
  go_wp2_with fail
  rw [← HWX.out, ← HCB.out, ← HBB.out]
  clear bx cx
  go_loopw [12] (fun iv wr => ∃ (i : Nat) (v : Value), iv = .int .i64 (i : Int) ∧ i ≤ n ∧ Cp wr tb ab wb rb ab0 wb0 O { A with word := fillW A.word O.word at' from' i } (k + i) ∧ wr.heap[bb]? = some (.cells #[.int .i64 (at' : Int), .int .i64 (n : Int)] 146 (0, 0)) ∧ wr.heap[cb]? = some (.cells #[v] 110 (0, 0)) ∧ Fr [rb, wb] w wr) (fun iv _ => n - (intOf iv).toNat)
  case atStart =>
    refine ⟨0, _, rfl, by omega, ?_, HBX2.out, HCX.out, fr_below HB0.out⟩
    rw [fill_zero]
    exact HC0.out
  case round =>
    obtain ⟨i, v0, rfl, hi, hC, bb1, cb1, hF⟩ := hrel
    have HC := hide hC
    have HF := hide hF
    have HBB1 := hide bb1
    have HCB1 := hide cb1
    clear hC hF
    by_cases hlt2 : i < n
    · have hlt3 : (i : Int) < n := by omega
      obtain ⟨v, hv⟩ : ∃ v, v = O.word (from' + i) := ⟨_, rfl⟩
      have HV := hide hv
      have HRD := hide (fun (x : Int) (sb cap : Nat) (w : World) (h : Cp w tb ab wb rb ab0 wb0 O { A with word := fillW A.word O.word at' from' i } (k + i)) (hx : x = (from' : Int) + (i : Int)) (hc : w.heap[cb]? = some (.cells #[v0] 110 (0, 0))) (hs : w.cell? ⟨sb, 0, none⟩ = some (.pointer (some ⟨cb, 0, none⟩))) => read1_any O ab0 wb0 rb x (from' + i) cb sb cap ((k + i : Nat) : Int) w h.old hO (by rw [hx]; push_cast; rfl) (by omega) h.rd (by omega) (by omega) v0 hc hs (by omega))
      rw [← hv] at HRD
      clear hv
      go_wp2_with fail
      refine (HRD.out _ _ _ _ (HC.out.ext (ext_alloc _ _)) rfl (block_ext HCB1.out (ext_alloc _ _)) (by rw [cell_new rfl]; rfl)).mono ?_
      rintro e w3 ⟨rfl, hA3, hr3, hc3, hF3⟩
      have bb3 := hF3.at (block_ext HBB1.out (ext_alloc _ _)) (show bb ∉ [rb, cb] by simp; omega)
      have hCx := HC.out.ext (ext_alloc wr (.cells #[.pointer (some ⟨cb, 0, none⟩)] 112))
      have htr : tb ∉ [rb, cb] := by simp; omega
      have hT3 := hCx.tab.of hF3 htr (hCx.tab.ar.fr hF3 (by simp; omega) (by simp; omega))
      have hF3' : Fr [rb, wb] w w3 := Fr.after (HF.out.alloc _) hF3 (fun y hy => by
        simp at hy
        rcases hy with rfl | rfl
        · exact Or.inl (by simp)
        · exact Or.inr hwc)
      rw [show ((k + i : Nat) : Int) + 1 = ((k + (i + 1) : Nat) : Int) by omega] at hr3
      have HR3 := hide hr3
      have HA3 := hide hA3
      have HF3 := hide hF3'
      have HTW := hide hT3
      clear hF3 hCx hA3 hr3 hF3' hT3 HC HF HBB1 HCB1 bb1 cb1 q0 q1 q2 q3
      obtain ⟨wq, hwq⟩ : ∃ wz, wz = w3 := ⟨_, rfl⟩
      subst hwq
      obtain ⟨pi, hpi⟩ : ∃ pi, pi = at' + i := ⟨_, rfl⟩
      have hwr : IntKind.i64.wrap ((at' : Int) + (i : Int)) = (pi : Int) := by rw [IntKind.wrap_i64]; omega
      have hbw1 : bb ∉ [wb] := by simpa using hbw.symm
      have hcw1 : cb ∉ [wb] := by simpa using hcw.symm
      have htw1 : tb ∉ [wb] := by simpa using hnw
      have hlb3 := lt_of_block bb3
      have hlc3 := lt_of_block hc3
      have hlt3' := HTW.out.lt
      have KS : ∀ w', Fr [wb] wq w' → (fun w' : World => Fr [wb] wq w' ∧ w'.cell? ⟨tb, 0, none⟩ = some (.pointer (some ⟨ab, 0, none⟩)) ∧ w'.cell? ⟨bb, 0, none⟩ = some (.int .i64 (at' : Int)) ∧ w'.cell? ⟨cb, 0, none⟩ = some (.int .u32 (v : Int))) w' := fun w' hf => ⟨hf, HTW.out.frw hf htw1, (cells2 (hf.at bb3 hbw1)).1, by rw [cell_at (hf.at hc3 hcw1)]; rfl⟩
      simp only [] at KS
      have hfit : pi + [v].length ≤ ({ A with word := fillW A.word O.word at' from' i } : Ar).size := by show pi + 1 ≤ A.size; omega
      have HPI := hide hpi
      clear hpi
      go_wp2_with fail
      go_region_held3 (fun w' : World => Fr [wb] wq w' ∧ w'.cell? ⟨tb, 0, none⟩ = some (.pointer (some ⟨ab, 0, none⟩)) ∧ w'.cell? ⟨bb, 0, none⟩ = some (.int .i64 (at' : Int)) ∧ w'.cell? ⟨cb, 0, none⟩ = some (.int .u32 (v : Int))) (with_reducible (first | assumption | exact KS _ (fr_below (drew_ext wq)) | exact KS _ (by assumption) | exact KS _ (fr_below (by assumption)) | exact KS _ (fr_below (ext_trans (by assumption) (ext_alloc _ _))) | exact KS _ (fr_below (Below.drew (ext_alloc _ _))) | exact KS _ (Fr.alloc (by assumption) _) | (refine KS _ (Fr.setCell (Fr.setCell (by assumption) (Or.inr ?_) _) (Or.inr ?_) _) <;> first | assumption | exact Nat.le_refl _))) ((go_at_call 88; refine (write_any { A with word := fillW A.word O.word at' from' i } ab wb _ pi 1 1 [v] _ _ (HTW.out.ar.ext (Below.drew (ext_alloc _ _))) rfl (by simp) rfl hfit (by intro j u hj; rw [addr_add]; exact one_src 0 0 hj (cell_new (w := wq) rfl))).mono ?_; rintro e w6 ⟨rfl, hA6, hF6⟩; have F6 := (Fr.after (fr_below (Below.drew (ext_alloc _ _))) hF6 (fun y hy => Or.inl hy) : Fr [wb] wq w6); clear hF6))
      have hT6 := HTW.out.of F6 htw1 hA6
      rw [lay_one] at hT6
      have e6 : setW (fillW A.word O.word at' from' i) pi v = fillW A.word O.word at' from' (i + 1) := by rw [HPI.out, HV.out]; exact fill_next _ _ _ _ _
      have hT6' : TabAt w6 tb ab wb { A with word := fillW A.word O.word at' from' (i + 1) } := by rw [← e6]; exact hT6
      have HX := hide (show Cp w6 tb ab wb rb ab0 wb0 O { A with word := fillW A.word O.word at' from' (i + 1) } (k + (i + 1)) ∧ w6.heap[bb]? = some (.cells #[.int .i64 (at' : Int), .int .i64 (n : Int)] 146 (0, 0)) ∧ w6.heap[cb]? = some (.cells #[.int .u32 (v : Int)] 110 (0, 0)) ∧ Fr [rb, wb] w w6 from ⟨⟨hT6', HA3.out.fr F6 (by simpa using n2) (by simpa using n4), F6.at HR3.out (by simpa using hrw), n1, n2, n3, n4⟩, F6.at bb3 hbw1, F6.at hc3 hcw1, Fr.after HF3.out F6 (fun y hy => Or.inl (by simp at hy ⊢; exact Or.inr hy))⟩)
      clear KS hT6 hT6' hA6 F6 bb3 hc3
      go_wp2
      go_roundw
      case rel => exact ⟨i + 1, _, by go_num, by omega, HX.out⟩
      case measure => simp [intOf]; omega
    · have hin : i = n := by omega
      subst hin
      go_wp2
      go_end0
      exact ⟨rfl, HC.out, HF.out⟩
end Go.Proofs.YtnapboelfimaaaaDoor
/- Compacting: a node and all below it. -/
namespace Go.Proofs.YtnapboelfimaaaaDoor
open Go.RowKit Go.Deep
/-- what is to be written: the node with its blocks' new places -/
def withHops (n : NodeD) (p : Nat) : NodeD := { n with hops := p }
def withKids (n : NodeD) (p : Nat) : NodeD := { n with children := p }
theorem block_hops {w : World} {b : Nat} {n : NodeD} {p : Nat} {t : TypeId} (h : w.heap[b]? = some (.cells #[.int .u16 n.routes, .int .u16 n.ways, .int .i64 n.hops, .int .i64 n.children] t (0, 0))) : (w.setCell ⟨b, 2, none⟩ (.int .i64 (p : Int))).heap[b]? = some (.cells #[.int .u16 (withHops n p).routes, .int .u16 (withHops n p).ways, .int .i64 (withHops n p).hops, .int .i64 (withHops n p).children] t (0, 0)) := by
  rw [heap_setCell_at _ h]; rfl
theorem block_kids {w : World} {b : Nat} {n : NodeD} {p : Nat} {t : TypeId} (h : w.heap[b]? = some (.cells #[.int .u16 n.routes, .int .u16 n.ways, .int .i64 n.hops, .int .i64 n.children] t (0, 0))) : (w.setCell ⟨b, 3, none⟩ (.int .i64 (p : Int))).heap[b]? = some (.cells #[.int .u16 (withKids n p).routes, .int .u16 (withKids n p).ways, .int .i64 (withKids n p).hops, .int .i64 (withKids n p).children] t (0, 0)) := by
  rw [heap_setCell_at _ h]; rfl
theorem Cp.of {w w' : World} {tb ab wb rb ab0 wb0 : Nat} {O A B : Ar} {k : Nat} (h : Cp w tb ab wb rb ab0 wb0 O A k) (hF : Fr [ab, wb] w w') (hB : TabAt w' tb ab wb B) : Cp w' tb ab wb rb ab0 wb0 O B k := ⟨hB, h.old.fr hF (by have := h.n1; have := h.n2; simp; omega) (by have := h.n3; have := h.n4; simp; omega), hF.at h.rd (by have := h.ra; have := h.rw'; simp; omega), h.n1, h.n2, h.n3, h.n4⟩
theorem Cp.ofw {w w' : World} {tb ab wb rb ab0 wb0 : Nat} {O A B : Ar} {k : Nat} (h : Cp w tb ab wb rb ab0 wb0 O A k) (hF : Fr [wb] w w') (hB : TabAt w' tb ab wb B) : Cp w' tb ab wb rb ab0 wb0 O B k := h.of (hF.mono (fun y hy _ => by simp at hy ⊢; exact Or.inr hy)) hB
theorem Cp.read {w w' : World} {tb ab wb rb ab0 wb0 : Nat} {O A : Ar} {k j : Nat} (h : Cp w tb ab wb rb ab0 wb0 O A k) (hF : Fr [rb] w w') (hO : ArAt w' ab0 wb0 O) (hr : w'.heap[rb]? = some (.cells #[.pointer (some ⟨ab0, 0, none⟩), .int .i64 (j : Int)] 65 (0, 0))) : Cp w' tb ab wb rb ab0 wb0 O A j := ⟨h.tab.of hF (by simpa using h.rt.symm) (h.tab.ar.fr hF (by simpa using h.ra.symm) (by simpa using h.rw'.symm)), hO, hr, h.n1, h.n2, h.n3, h.n4⟩
theorem readNode_cp (O A : Ar) (tb ab wb rb ab0 wb0 : Nat) (x : Int) (p k : Nat) (n : NodeD) (w : World) (h : Cp w tb ab wb rb ab0 wb0 O A k) (hs : Sane O) (hx : x = p) (hp : p + 1 < O.size) (hk : k ≤ 10000000000) (hn : n = nodeAt O.word p) :
    Calls Tryd.prog 50 #[.pointer (some ⟨rb, 0, none⟩), .int .i64 x] w fun e w' => e = .returned (.agg #[.int .u16 n.routes, .int .u16 n.ways, .int .i64 n.hops, .int .i64 n.children]) ∧ Cp w' tb ab wb rb ab0 wb0 O A (k + 1) ∧ Fr [rb] w w' := by
  subst hn
  refine (readNode_any O ab0 wb0 rb x p k w h.old hs hx hp h.rd (by omega) (by omega)).mono ?_
  rintro e w' ⟨rfl, hA, hr, hF⟩
  exact ⟨rfl, h.read hF hA (by rw [show ((k + 1 : Nat) : Int) = (k : Int) + 1 by omega]; exact hr), hF⟩
theorem fr_read {S : List Nat} {rb : Nat} {w w' : World} (h : Fr [rb] w w') (hS : rb ∈ S) : Fr S w w' := h.mono (fun y hy _ => by simp at hy; subst hy; exact hS)
set_option maxHeartbeats 4000000 in
set_option maxRecDepth 10000 in
theorem copyNode_step (O A H : Ar) (Bk : Nat → Ar) (cost : Nat → Nat) (tb ab wb rb ab0 wb0 x y r c k : Nat) (nn : NodeD) (w : World) (h : Cp w tb ab wb rb ab0 wb0 O A k) (hsO : Sane O) (hxO : x + 1 < O.size) (hn : nn = nodeAt O.word x) (hok : nn.ok) (hr : r = ones 16 nn.routes) (hc : c = ones 16 nn.ways) (hs : Sane A) (hfr : A.fresh) (hy : y + 1 < A.size) (htop : A.top + r + 2 * c ≤ A.size) (hhop : nn.hops + r ≤ O.size) (hk : k + r + 1 ≤ 1000000000) (E : Ar) (hE : E = if c = 0 then H else Bk c) (n2 : NodeD) (hn2 : n2 = { nn with hops := if r = 0 then nn.hops else A.top, children := if c = 0 then nn.children else H.top })
    (hH : H = if r = 0 then A else { A.bump r with word := fillW A.word O.word A.top nn.hops r }) (hsH : Sane H) (hfH : H.fresh) (hHt : H.top + 2 * c ≤ A.size) (hB0 : Bk 0 = H.bump (2 * c)) (hBs : ∀ j, j ≤ c → (Bk j).size = A.size)
    (hIH : ∀ j, j < c → ∀ (w' : World) (kk : Nat), kk ≤ k + 1 + r + sumTo j cost → Cp w' tb ab wb rb ab0 wb0 O (Bk j) kk → Calls Tryd.prog 101 #[.pointer (some ⟨tb, 0, none⟩), .pointer (some ⟨rb, 0, none⟩), .int .i64 ((nn.children : Int) + 2 * (j : Int)), .int .i64 ((H.top : Int) + 2 * (j : Int))] w' fun e w'' => e = .returned (.tuple #[]) ∧ ∃ kk', kk' ≤ kk + cost j ∧ Cp w'' tb ab wb rb ab0 wb0 O (Bk (j + 1)) kk' ∧ Fr [rb, ab, wb] w' w'') :
    Calls Tryd.prog 101 #[.pointer (some ⟨tb, 0, none⟩), .pointer (some ⟨rb, 0, none⟩), .int .i64 (x : Nat), .int .i64 (y : Nat)] w fun e w' => e = .returned (.tuple #[]) ∧ ∃ k', k' ≤ k + 1 + r + sumTo c cost ∧ Cp w' tb ab wb rb ab0 wb0 O (E.putN y n2) k' ∧ Fr [rb, ab, wb] w w' := by
  have hr16 : r ≤ 16 := by rw [hr]; exact ones_le 16 _
  have hc16 : c ≤ 16 := by rw [hc]; exact ones_le 16 _
  have hra := h.ra
  have hrw := h.rw'
  have hrt := h.rt
  have hra0 := h.ra0
  have hrw0 := h.rw0
  have ne1 := h.n1
  have ne2 := h.n2
  have ne3 := h.n3
  have ne4 := h.n4
  have hla := h.tab.ar.la
  have hlw := h.tab.ar.lw
  have hlt := h.tab.lt
  have hl0 := h.old.la
  have hlw0 := h.old.lw
  have hlr := h.lr
  have hna := h.tab.na
  have hnw := h.tab.nw
  have hz := hs.size
  have hzO := hsO.size
  have HRN := hide (readNode_cp O A tb ab wb rb ab0 wb0 x x k nn w h hsO rfl hxO (by omega) hn)
  have HHB := hide (fun (w : World) => hopBlock_any nn w hok)
  rw [← hr] at HHB
  have HIH := hide hIH
  have hfd := field_block0
  clear h hn hIH
  go_enter Tryd.func101, Tryd.ntmps101
  go_wp2_with fail
  refine HRN.out.mono ?_
  rintro e w1 ⟨rfl, hC1, hF1⟩
  have bn1 := heap_alloc_new w1 (.cells #[.int .u16 nn.routes, .int .u16 nn.ways, .int .i64 nn.hops, .int .i64 nn.children] 116)
  have HC1 := hide (hC1.ext (ext_alloc w1 (.cells #[.int .u16 nn.routes, .int .u16 nn.ways, .int .i64 nn.hops, .int .i64 nn.children] 116)))
  have hF1' := (fr_read hF1 (by simp) : Fr [rb, ab, wb] w w1).alloc (.cells #[.int .u16 nn.routes, .int .u16 nn.ways, .int .i64 nn.hops, .int .i64 nn.children] 116)
  have hw1 := hF1.size
  obtain ⟨nb, hnb⟩ : ∃ nb, nb = w1.heap.size := ⟨_, rfl⟩
  rw [← hnb] at bn1 hw1
  have HNB := hide hnb
  have HF1 := hide hF1'
  have HBN1 := hide bn1
  clear hC1 hF1 hF1' hnb bn1
  go_wp2_with fail
  refine (HHB.out _).mono ?_
  rintro e w2 ⟨rfl, hb2⟩
  have bn2 := block_ext HBN1.out hb2
  have HC2 := hide (HC1.out.ext hb2)
  have HF2 := hide (Fr.after HF1.out (fr_below (S := []) hb2) (fun y hy => by cases hy) : Fr [rb, ab, wb] w w2)
  have hl2 := lt_of_block bn2
  clear hb2
  obtain ⟨wq, hwq⟩ : ∃ wq, wq = w2.alloc (.cells #[.int .i64 (nn.hops : Int), .int .i64 (r : Int)] 146) := ⟨_, rfl⟩
  have hBq : Below w2.heap.size w2 wq := by rw [hwq]; exact ext_alloc _ _
  obtain ⟨b1, hb1⟩ : ∃ b1, b1 = w2.heap.size := ⟨_, rfl⟩
  have bb1 : wq.heap[b1]? = some (.cells #[.int .i64 (nn.hops : Int), .int .i64 (r : Int)] 146 (0, 0)) := by rw [hwq, hb1]; exact heap_alloc_new _ _
  have bnq := block_ext bn2 hBq
  have HCQ := hide (HC2.out.ext hBq)
  have HFQ := hide (Fr.after HF2.out (fr_below (S := []) hBq) (fun y hy => by cases hy) : Fr [rb, ab, wb] w wq)
  have HWQ := hide hwq
  have HB1 := hide hb1
  rw [← hb1] at hl2
  have hwnb : w.heap.size ≤ nb := by omega
  have hwb1 : w.heap.size ≤ b1 := by omega
  have hnbt : tb ≠ nb := by omega
  have hnba : ab ≠ nb := by omega
  have hnbw : wb ≠ nb := by omega
  have hnbr : rb ≠ nb := by omega
  have hnba0 : ab0 ≠ nb := by omega
  have hnbw0 : wb0 ≠ nb := by omega
  have hb1n : b1 ≠ nb := by omega
  have hlb1 := lt_of_block bb1
  have hlnq := lt_of_block bnq
  obtain ⟨q0, q1, q2, q3⟩ := cells4n bn2
  rw [HNB.out] at q0 q1 q2 q3
  have hl2w : w1.heap.size < w2.heap.size := by rw [← HNB.out, ← HB1.out]; exact hl2
  clear hwq hBq hb1 bn2
  have hn2ok : n2.ok := by
    rw [hn2]
    refine ⟨hok.1, hok.2.1, ?_, ?_⟩
    · simp only
      have := hok.2.2.1
      split <;> omega
    · simp only
      have := hok.2.2.2
      have h2 := hsH.top
      have h3 := hBs 0 (by omega)
      rw [hB0] at h3
      have h4 : H.size = A.size := h3
      split
      · omega
      · have h5 : H.top ≤ A.size := by omega
        have h6 : H.top + 2 * c ≤ A.size := hHt
        omega
  have hyE : y + 1 < E.size := by
    rw [hE]
    have h3 := hBs 0 (by omega)
    rw [hB0] at h3
    have h4 : H.size = A.size := h3
    have h5 := hBs c (by omega)
    split <;> omega
  have hHs : H.size = A.size := by
    have h3 := hBs 0 (by omega)
    rw [hB0] at h3
    exact h3
  by_cases hr0 : r = 0
  · have hr0' : (r : Int) ≤ 0 := by omega
    rw [if_pos hr0] at hH hn2
    subst hH
    obtain ⟨n1, hn1⟩ : ∃ n1, n1 = nn := ⟨_, rfl⟩
    rw [← hn1] at bnq
    have hn1ok : n1.ok := by rw [hn1]; exact hok
    have HCB := hide (fun (w : World) => childBlock_any nn w hok)
    rw [← hc] at HCB
    obtain ⟨kq, hkq⟩ : ∃ kq, kq = k + 1 := ⟨_, rfl⟩
    rw [← hkq] at HCQ
    have hkq' : kq ≤ k + 1 + r := by omega
    have HE1 := hide (show withKids n1 H.top = { nn with hops := nn.hops, children := H.top } by rw [hn1]; rfl)
    have HE2 := hide (show n1 = { nn with hops := nn.hops, children := nn.children } by rw [hn1])
    clear hkq hn1 HHB hr hc hr0
    go_wp2_with fail
    rw [← HWQ.out, ← HNB.out]
    clear q0 q1 q2 q3
    refine (HCB.out _).mono ?_
    rintro e w5 ⟨rfl, hb5⟩
    have bn5 := block_ext bnq hb5
    have HC5 := hide (HCQ.out.ext hb5)
    have HF5 := hide (Fr.after HFQ.out (fr_below (S := []) hb5) (fun y hy => by cases hy) : Fr [rb, ab, wb] w w5)
    have hl5 := lt_of_block bn5
    clear hb5 bnq HCQ HFQ
    obtain ⟨wz, hwz⟩ : ∃ wz, wz = w5.alloc (.cells #[.int .i64 (nn.children : Int), .int .i64 (2 * (c : Int))] 146) := ⟨_, rfl⟩
    have hBz : Below w5.heap.size w5 wz := (by rw [hwz]; exact ext_alloc _ _)
    obtain ⟨b2, hb2⟩ : ∃ b2, b2 = w5.heap.size := ⟨_, rfl⟩
    have bb2 : wz.heap[b2]? = some (.cells #[.int .i64 (nn.children : Int), .int .i64 (2 * (c : Int))] 146 (0, 0)) := (by rw [hwz, hb2]; exact heap_alloc_new _ _)
    have bnz := block_ext bn5 hBz
    have HCZ := hide (HC5.out.ext hBz)
    have HFZ := hide (Fr.after HF5.out (fr_below (S := []) hBz) (fun y hy => by cases hy) : Fr [rb, ab, wb] w wz)
    have HWZ := hide hwz
    have HB2 := hide hb2
    have hwb2 : w.heap.size ≤ b2 := (by have := HF5.out.size; omega)
    have hb2n : b2 ≠ nb := (by omega)
    obtain ⟨q0, q1, q2, q3⟩ := cells4n bn5
    clear hwz hBz hb2 HC5 HF5
    by_cases hc0 : c = 0
    · have hc0' : (c : Int) ≤ 0 := (by omega)
      rw [if_pos hc0] at hE hn2
      have e2 : n1 = n2 := HE2.out.trans hn2.symm
      rw [e2] at bnz bn5 q0 q1 q2 q3
      rw [← hE] at HCZ
      have hkE : kq ≤ k + 1 + r + sumTo c cost := (by omega)
      clear hc0 hE hn2 e2
      go_wp2_with fail
      rw [← HWZ.out]
      clear q0 q1 q2 q3 bn5
      obtain ⟨wq, hwq⟩ : ∃ wq, wq = wz := ⟨_, rfl⟩
      subst hwq
      have bn5 := bnz
      have HC5 := HCZ
      have HF5 := HFZ
      have hnw1 : nb ∉ [wb] := (by simpa using hnbw.symm); have htw1 : tb ∉ [wb] := (by simpa using hnw); have HTW := hide HC5.out.tab; have hltq := HTW.out.lt; have hlnq := lt_of_block bn5; have KS : ∀ w', Fr [wb] wq w' → (fun w' : World => Fr [wb] wq w' ∧ w'.cell? ⟨tb, 0, none⟩ = some (.pointer (some ⟨ab, 0, none⟩)) ∧ w'.cell? ⟨nb, 0, none⟩ = some (.int .u16 n2.routes) ∧ w'.cell? ⟨nb, 1, none⟩ = some (.int .u16 n2.ways) ∧ w'.cell? ⟨nb, 2, none⟩ = some (.int .i64 n2.hops) ∧ w'.cell? ⟨nb, 3, none⟩ = some (.int .i64 n2.children)) w' := fun w' hf => ⟨hf, HTW.out.frw hf htw1, cells4n (hf.at bn5 hnw1)⟩; simp only [] at KS; go_wp2_with fail; go_region_held3 (fun w' : World => Fr [wb] wq w' ∧ w'.cell? ⟨tb, 0, none⟩ = some (.pointer (some ⟨ab, 0, none⟩)) ∧ w'.cell? ⟨nb, 0, none⟩ = some (.int .u16 n2.routes) ∧ w'.cell? ⟨nb, 1, none⟩ = some (.int .u16 n2.ways) ∧ w'.cell? ⟨nb, 2, none⟩ = some (.int .i64 n2.hops) ∧ w'.cell? ⟨nb, 3, none⟩ = some (.int .i64 n2.children)) (with_reducible (first | assumption | exact KS _ (fr_below (drew_ext wq)) | exact KS _ (by assumption) | exact KS _ (fr_below (by assumption)) | exact KS _ (fr_below (ext_trans (by assumption) (ext_alloc _ _))) | exact KS _ (fr_below (Below.drew (ext_alloc _ _))) | exact KS _ (Fr.alloc (by assumption) _) | (refine KS _ (Fr.setCell (Fr.setCell (by assumption) (Or.inr ?_) _) (Or.inr ?_) _) <;> first | assumption | exact Nat.le_refl _))) ((go_at_call 105; refine (writeNode_any E ab wb _ y n2 _ HTW.out.ar.drew hn2ok rfl hyE).mono ?_; rintro e w8 ⟨rfl, hA8, hF8⟩; have F8 := (Fr.after (fr_below (drew_ext wq)) hF8 (fun y hy => Or.inl hy) : Fr [wb] wq w8); clear hF8)); have HX := hide (And.intro (HC5.out.ofw F8 (HTW.out.of F8 htw1 hA8)) (Fr.after HF5.out F8 (fun y hy => Or.inl (by simp at hy ⊢; exact Or.inr (Or.inr hy))) : Fr [rb, ab, wb] w w8)); clear KS F8 hA8; go_wp2; go_end0; exact ⟨rfl, _, hkE, HX.out.1, HX.out.2⟩
    · have hc0' : (0 : Int) < c := (by omega)
      rw [if_neg hc0] at hE hn2
      have e2 : withKids n1 H.top = n2 := HE1.out.trans hn2.symm
      have HMK := hide (fun (w : World) (h : TabAt w tb ab wb H) => mustTake_any H tb ab wb (2 * (c : Int)) (2 * c) w h hsH hfH (by push_cast; rfl) (by omega) (by omega) (by omega))
      have hn2c : n2.children = H.top := (by rw [← e2]; rfl)
      have HI2 := hide (fun (j : Nat) (hj : j < c) (w' : World) (kk : Nat) (hkk : kk ≤ k + 1 + r + sumTo j cost) (hC : Cp w' tb ab wb rb ab0 wb0 O (Bk j) kk) => HIH.out j hj w' kk hkk hC)
      rw [← hn2c] at HI2
      clear hc0 hn2 hn2c
      go_wp2_with fail
      rw [← HWZ.out]
      refine (HMK.out _ HCZ.out.tab).mono ?_
      rintro e w6 ⟨rfl, hT6, hF6⟩
      have hns : nb ∉ [ab, wb] := (by simp; omega)
      have hb2s : b2 ∉ [ab, wb] := (by have := lt_of_block bb2; simp; omega)
      have bn6 := hF6.at bnz hns
      have bb6 := hF6.at bb2 hb2s
      have hC6 := HCZ.out.of hF6 hT6
      have hF6' := (Fr.after HFZ.out hF6 (fun y hy => Or.inl (by simp at hy ⊢; exact Or.inr hy)) : Fr [rb, ab, wb] w w6)
      obtain ⟨g0, g1, g2, g3, g4, g5, g6, g7⟩ := cells4 bn6
      have bn7 := block_kids (p := H.top) bn6
      rw [e2] at bn7
      have bb7 := (Below.heap_setCell w6 ⟨nb, 3, none⟩ (.int .i64 (H.top : Int)) b2 hb2n).trans bb6
      have hC7 := hC6.other (off := 3) (v := .int .i64 (H.top : Int)) hnbt hnba hnbw hnbr hnba0 hnbw0
      rw [← hB0] at hC7
      have hF7 := hF6'.setCell (off := 3) (Or.inr hwnb) (.int .i64 (H.top : Int))
      have hl6 := lt_of_block bn6
      obtain ⟨wy, hwy⟩ : ∃ wy, wy = w6.setCell ⟨nb, 3, none⟩ (.int .i64 (H.top : Int)) := ⟨_, rfl⟩
      rw [← hwy] at bn7 bb7 hC7 hF7
      have HWY := hide hwy
      have HX7 := hide (And.intro hC7 (And.intro bn7 (And.intro bb7 hF7)))
      clear hwy bn6 bb6 hC6 hT6 hF6 hF6' q0 q1 q2 q3 bnz bb2 hC7 bn7 bb7 hF7 bn5
      go_wp2_with fail
      rw [← HWY.out, ← HB2.out]
      clear g0 g1 g2 g3 g4 g5 g6 g7
      go_loopw [11] (fun iv wr => ∃ (j kk : Nat), iv = .int .i64 (2 * (j : Int)) ∧ j ≤ c ∧ kk ≤ k + 1 + r + sumTo j cost ∧ Cp wr tb ab wb rb ab0 wb0 O (Bk j) kk ∧ wr.heap[nb]? = some (.cells #[.int .u16 n2.routes, .int .u16 n2.ways, .int .i64 n2.hops, .int .i64 n2.children] 116 (0, 0)) ∧ wr.heap[b2]? = some (.cells #[.int .i64 (nn.children : Int), .int .i64 (2 * (c : Int))] 146 (0, 0)) ∧ Fr [rb, ab, wb] w wr) (fun iv _ => 2 * c - (intOf iv).toNat)
      case atStart => exact ⟨0, kq, rfl, by omega, by rw [sumTo]; omega, HX7.out⟩
      case round =>
        obtain ⟨j, kk, rfl, hj, hkk, hC, bn, bb, hF⟩ := hrel
        obtain ⟨k0, k1, k2, k3⟩ := cells2 bb
        obtain ⟨g0, g1, g2, g3⟩ := cells4n bn
        have hln := lt_of_block bn
        have hlb := lt_of_block bb
        have HC := hide hC
        have HF := hide hF
        have HBN := hide bn
        have HBB := hide bb
        clear hC hF bn bb
        by_cases hjc : j < c
        · have hjc' : (2 : Int) * j < 2 * c := (by omega)
          have hch := hok.2.2.2
          have hn2h := hn2ok.2.2.2
          go_wp2_with fail
          refine (HI2.out j hjc _ kk hkk HC.out).mono ?_
          rintro e w9 ⟨rfl, kk', hkk', hC9, hF9⟩
          have hns3 : nb ∉ [rb, ab, wb] := (by simp; omega)
          have hb23 : b2 ∉ [rb, ab, wb] := (by simp; omega)
          have HX := hide (And.intro hC9 (And.intro (hF9.at HBN.out hns3) (And.intro (hF9.at HBB.out hb23) (Fr.after HF.out hF9 (fun y hy => Or.inl hy) : Fr [rb, ab, wb] w w9))))
          clear hC9 hF9 k0 k1 k2 k3 g0 g1 g2 g3
          go_wp2
          go_roundw
          case rel => exact ⟨j + 1, kk', congrArg (Value.int .i64) (by omega), by omega, by rw [sumTo]; omega, HX.out⟩
          case measure => simp [intOf]; omega
        · have hjc' : j = c := (by omega)
          subst hjc'
          rw [← hE] at HC
          have hkE := hkk
          clear hkk hE hj
          go_wp2_with fail
          obtain ⟨wq, hwq⟩ : ∃ wq, wq = wr := ⟨_, rfl⟩
          subst hwq
          have bn5 := HBN.out
          have HC5 := HC
          have HF5 := HF
          clear k0 k1 k2 k3 g0 g1 g2 g3
          have hnw1 : nb ∉ [wb] := (by simpa using hnbw.symm); have htw1 : tb ∉ [wb] := (by simpa using hnw); have HTW := hide HC5.out.tab; have hltq := HTW.out.lt; have hlnq := lt_of_block bn5; have KS : ∀ w', Fr [wb] wq w' → (fun w' : World => Fr [wb] wq w' ∧ w'.cell? ⟨tb, 0, none⟩ = some (.pointer (some ⟨ab, 0, none⟩)) ∧ w'.cell? ⟨nb, 0, none⟩ = some (.int .u16 n2.routes) ∧ w'.cell? ⟨nb, 1, none⟩ = some (.int .u16 n2.ways) ∧ w'.cell? ⟨nb, 2, none⟩ = some (.int .i64 n2.hops) ∧ w'.cell? ⟨nb, 3, none⟩ = some (.int .i64 n2.children)) w' := fun w' hf => ⟨hf, HTW.out.frw hf htw1, cells4n (hf.at bn5 hnw1)⟩; simp only [] at KS; go_wp2_with fail; go_region_held3 (fun w' : World => Fr [wb] wq w' ∧ w'.cell? ⟨tb, 0, none⟩ = some (.pointer (some ⟨ab, 0, none⟩)) ∧ w'.cell? ⟨nb, 0, none⟩ = some (.int .u16 n2.routes) ∧ w'.cell? ⟨nb, 1, none⟩ = some (.int .u16 n2.ways) ∧ w'.cell? ⟨nb, 2, none⟩ = some (.int .i64 n2.hops) ∧ w'.cell? ⟨nb, 3, none⟩ = some (.int .i64 n2.children)) (with_reducible (first | assumption | exact KS _ (fr_below (drew_ext wq)) | exact KS _ (by assumption) | exact KS _ (fr_below (by assumption)) | exact KS _ (fr_below (ext_trans (by assumption) (ext_alloc _ _))) | exact KS _ (fr_below (Below.drew (ext_alloc _ _))) | exact KS _ (Fr.alloc (by assumption) _) | (refine KS _ (Fr.setCell (Fr.setCell (by assumption) (Or.inr ?_) _) (Or.inr ?_) _) <;> first | assumption | exact Nat.le_refl _))) ((go_at_call 105; refine (writeNode_any E ab wb _ y n2 _ HTW.out.ar.drew hn2ok rfl hyE).mono ?_; rintro e w8 ⟨rfl, hA8, hF8⟩; have F8 := (Fr.after (fr_below (drew_ext wq)) hF8 (fun y hy => Or.inl hy) : Fr [wb] wq w8); clear hF8)); have HX := hide (And.intro (HC5.out.ofw F8 (HTW.out.of F8 htw1 hA8)) (Fr.after HF5.out F8 (fun y hy => Or.inl (by simp at hy ⊢; exact Or.inr (Or.inr hy))) : Fr [rb, ab, wb] w w8)); clear KS F8 hA8; go_wp2; go_end0; exact ⟨rfl, _, hkE, HX.out.1, HX.out.2⟩
  · have hr0' : (0 : Int) < r := by omega
    rw [if_neg hr0] at hH hn2
    have HMT := hide (fun (w : World) (h : TabAt w tb ab wb A) => mustTake_any A tb ab wb r r w h hs hfr rfl (by omega) (by omega) (by omega))
    obtain ⟨n1, hn1⟩ : ∃ n1, n1 = withHops nn A.top := ⟨_, rfl⟩
    have hAt : A.top < 65536 := by omega
    have hn1ok : n1.ok := by rw [hn1]; exact ⟨hok.1, hok.2.1, hAt, hok.2.2.2⟩
    have HHB1 := hide (fun (w : World) => hopBlock_any n1 w hn1ok)
    rw [show ones 16 n1.routes = r by rw [hn1, hr]; rfl] at HHB1
    have HCW := hide (fun (w : World) (h : Cp w tb ab wb rb ab0 wb0 O (A.bump r) (k + 1)) => copyWords_any O (A.bump r) tb ab wb rb ab0 wb0 nn.hops A.top r (k + 1) nn.hops n1.hops r w h rfl (by rw [hn1]; rfl) rfl hhop (by show A.top + r ≤ A.size; omega) hzO hz (by omega))
    have hn1w : ones 16 n1.ways = c := by rw [hn1, hc]; rfl
    have hn1k : n1.children = nn.children := by rw [hn1]; rfl
    have HCB := hide (fun (w : World) => (childBlock_any n1 w hn1ok).mono (R' := fun e w' => e = .returned (.agg #[.int .i64 (nn.children : Int), .int .i64 ((2 * c : Nat) : Int)]) ∧ Below w.heap.size w w') (by rintro e w' ⟨rfl, hb⟩; exact ⟨by rw [hn1w, hn1k], hb⟩))
    clear hn1w hn1k
    have HE1 := hide (show withKids n1 H.top = { nn with hops := A.top, children := H.top } by rw [hn1]; rfl)
    have HE2 := hide (show n1 = { nn with hops := A.top, children := nn.children } by rw [hn1]; rfl)
    clear HHB hr hc
    go_wp2_with fail
    rw [← HWQ.out, ← HNB.out]
    clear q0 q1 q2 q3
    refine (HMT.out _ HCQ.out.tab).mono ?_
    rintro e w3 ⟨rfl, hT3, hF3⟩
    have hns : nb ∉ [ab, wb] := by simp; omega
    have hb1s : b1 ∉ [ab, wb] := by simp; omega
    have bn3 := hF3.at bnq hns
    have bb3 := hF3.at bb1 hb1s
    have hC3 := HCQ.out.of hF3 hT3
    have hF3' := (Fr.after HFQ.out hF3 (fun y hy => Or.inl (by simp at hy ⊢; exact Or.inr hy)) : Fr [rb, ab, wb] w w3)
    obtain ⟨g0, g1, g2, g3, g4, g5, g6, g7⟩ := cells4 bn3
    have bn4 := block_hops (p := A.top) bn3
    rw [← hn1] at bn4
    have bb4 := (Below.heap_setCell w3 ⟨nb, 2, none⟩ (.int .i64 (A.top : Int)) b1 hb1n).trans bb3
    have hC4 := hC3.other (off := 2) (v := .int .i64 (A.top : Int)) hnbt hnba hnbw hnbr hnba0 hnbw0
    have hF4 := hF3'.setCell (off := 2) (Or.inr hwnb) (.int .i64 (A.top : Int))
    have hl3 := lt_of_block bn3
    obtain ⟨wr, hwr⟩ : ∃ wr, wr = w3.setCell ⟨nb, 2, none⟩ (.int .i64 (A.top : Int)) := ⟨_, rfl⟩
    rw [← hwr] at bn4 bb4 hC4 hF4
    have HWR := hide hwr
    clear hwr bn3 bb3 hC3 hT3 hF3 hF3' bnq bb1 hn1
    go_wp2_with fail
    rw [← HWR.out, ← HB1.out]
    clear g0 g1 g2 g3 g4 g5 g6 g7 HWQ HWR
    obtain ⟨wq, hwq⟩ : ∃ wz, wz = wr := ⟨_, rfl⟩
    subst hwq
    have hnrw : nb ∉ [rb, wb] := by simp; omega
    have hbrw : b1 ∉ [rb, wb] := by simp; omega
    have hlnq := lt_of_block bn4
    have hlbq := lt_of_block bb4
    have HC4 := hide hC4
    have HF4 := hide hF4
    have KS : ∀ w', Fr [rb, wb] wq w' → (fun w' : World => Fr [rb, wb] wq w' ∧ w'.cell? ⟨b1, 0, none⟩ = some (.int .i64 nn.hops) ∧ w'.cell? ⟨nb, 0, none⟩ = some (.int .u16 n1.routes) ∧ w'.cell? ⟨nb, 1, none⟩ = some (.int .u16 n1.ways) ∧ w'.cell? ⟨nb, 2, none⟩ = some (.int .i64 n1.hops) ∧ w'.cell? ⟨nb, 3, none⟩ = some (.int .i64 n1.children)) w' := fun w' hf => ⟨hf, (cells2 (hf.at bb4 hbrw)).1, cells4n (hf.at bn4 hnrw)⟩
    simp only [] at KS
    clear hC4 hF4
    go_region_held3 (fun w' : World => Fr [rb, wb] wq w' ∧ w'.cell? ⟨b1, 0, none⟩ = some (.int .i64 nn.hops) ∧ w'.cell? ⟨nb, 0, none⟩ = some (.int .u16 n1.routes) ∧ w'.cell? ⟨nb, 1, none⟩ = some (.int .u16 n1.ways) ∧ w'.cell? ⟨nb, 2, none⟩ = some (.int .i64 n1.hops) ∧ w'.cell? ⟨nb, 3, none⟩ = some (.int .i64 n1.children)) (with_reducible (first | assumption | exact KS _ (fr_below (drew_ext wq)) | exact KS _ (by assumption) | exact KS _ (fr_below (by assumption)) | exact KS _ (fr_below (ext_trans (by assumption) (ext_alloc _ _))) | exact KS _ (fr_below (Below.drew (ext_alloc _ _))) | exact KS _ (Fr.alloc (by assumption) _) | (refine KS _ (Fr.setCell (Fr.setCell (by assumption) (Or.inr ?_) _) (Or.inr ?_) _) <;> first | assumption | exact Nat.le_refl _))) (first | (go_at_call 94; refine (HHB1.out _).mono ?_; rintro e w5 ⟨rfl, hb5⟩; have S5 := (ext_trans (drew_ext wq) hb5 : Below wq.heap.size wq w5); clear hb5) | (go_at_call 86; refine (HCW.out _ (HC4.out.ext S5)).mono ?_; rintro e w6 ⟨rfl, hC6, hF6⟩; have F6 := (Fr.after (fr_below S5) hF6 (fun y hy => Or.inl hy) : Fr [rb, wb] wq w6); clear hF6))
    have bnq := F6.at bn4 hnrw
    have hFq := (Fr.after HF4.out F6 (fun y hy => Or.inl (by simp at hy ⊢; rcases hy with rfl | rfl <;> simp)) : Fr [rb, ab, wb] w w6)
    have HFQ := hide hFq
    have hHe : ({ A.bump r with word := fillW (A.bump r).word O.word A.top nn.hops r } : Ar) = H := by rw [hH]; rfl
    rw [hHe] at hC6
    obtain ⟨kq, hkq⟩ : ∃ kq, kq = k + 1 + r := ⟨_, rfl⟩
    rw [← hkq] at hC6
    have hkq' : kq ≤ k + 1 + r := by omega
    have HCQ := hide hC6
    clear KS F6 hC6 hFq hHe hH hkq bn4 bb4 S5
    obtain ⟨wq, hwq⟩ : ∃ wz, wz = w6 := ⟨_, rfl⟩
    subst hwq
    obtain ⟨q0, q1, q2, q3⟩ := cells4n bnq
    have hlnq := lt_of_block bnq
    go_wp2_with fail
    clear q0 q1 q2 q3
    refine (HCB.out _).mono ?_
    rintro e w5 ⟨rfl, hb5⟩
    have bn5 := block_ext bnq hb5
    have HC5 := hide (HCQ.out.ext hb5)
    have HF5 := hide (Fr.after HFQ.out (fr_below (S := []) hb5) (fun y hy => by cases hy) : Fr [rb, ab, wb] w w5)
    have hl5 := lt_of_block bn5
    clear hb5 bnq HCQ HFQ
    obtain ⟨wz, hwz⟩ : ∃ wz, wz = w5.alloc (.cells #[.int .i64 (nn.children : Int), .int .i64 (2 * (c : Int))] 146) := ⟨_, rfl⟩
    have hBz : Below w5.heap.size w5 wz := (by rw [hwz]; exact ext_alloc _ _)
    obtain ⟨b2, hb2⟩ : ∃ b2, b2 = w5.heap.size := ⟨_, rfl⟩
    have bb2 : wz.heap[b2]? = some (.cells #[.int .i64 (nn.children : Int), .int .i64 (2 * (c : Int))] 146 (0, 0)) := (by rw [hwz, hb2]; exact heap_alloc_new _ _)
    have bnz := block_ext bn5 hBz
    have HCZ := hide (HC5.out.ext hBz)
    have HFZ := hide (Fr.after HF5.out (fr_below (S := []) hBz) (fun y hy => by cases hy) : Fr [rb, ab, wb] w wz)
    have HWZ := hide hwz
    have HB2 := hide hb2
    have hwb2 : w.heap.size ≤ b2 := (by have := HF5.out.size; omega)
    have hb2n : b2 ≠ nb := (by omega)
    obtain ⟨q0, q1, q2, q3⟩ := cells4n bn5
    clear hwz hBz hb2 HC5 HF5
    by_cases hc0 : c = 0
    · have hc0' : (c : Int) ≤ 0 := (by omega)
      rw [if_pos hc0] at hE hn2
      have e2 : n1 = n2 := HE2.out.trans hn2.symm
      rw [e2] at bnz bn5 q0 q1 q2 q3
      rw [← hE] at HCZ
      have hkE : kq ≤ k + 1 + r + sumTo c cost := (by omega)
      clear hc0 hE hn2 e2
      go_wp2_with fail
      rw [← HWZ.out]
      clear q0 q1 q2 q3 bn5
      obtain ⟨wq, hwq⟩ : ∃ wq, wq = wz := ⟨_, rfl⟩
      subst hwq
      have bn5 := bnz
      have HC5 := HCZ
      have HF5 := HFZ
      have hnw1 : nb ∉ [wb] := (by simpa using hnbw.symm); have htw1 : tb ∉ [wb] := (by simpa using hnw); have HTW := hide HC5.out.tab; have hltq := HTW.out.lt; have hlnq := lt_of_block bn5; have KS : ∀ w', Fr [wb] wq w' → (fun w' : World => Fr [wb] wq w' ∧ w'.cell? ⟨tb, 0, none⟩ = some (.pointer (some ⟨ab, 0, none⟩)) ∧ w'.cell? ⟨nb, 0, none⟩ = some (.int .u16 n2.routes) ∧ w'.cell? ⟨nb, 1, none⟩ = some (.int .u16 n2.ways) ∧ w'.cell? ⟨nb, 2, none⟩ = some (.int .i64 n2.hops) ∧ w'.cell? ⟨nb, 3, none⟩ = some (.int .i64 n2.children)) w' := fun w' hf => ⟨hf, HTW.out.frw hf htw1, cells4n (hf.at bn5 hnw1)⟩; simp only [] at KS; go_wp2_with fail; go_region_held3 (fun w' : World => Fr [wb] wq w' ∧ w'.cell? ⟨tb, 0, none⟩ = some (.pointer (some ⟨ab, 0, none⟩)) ∧ w'.cell? ⟨nb, 0, none⟩ = some (.int .u16 n2.routes) ∧ w'.cell? ⟨nb, 1, none⟩ = some (.int .u16 n2.ways) ∧ w'.cell? ⟨nb, 2, none⟩ = some (.int .i64 n2.hops) ∧ w'.cell? ⟨nb, 3, none⟩ = some (.int .i64 n2.children)) (with_reducible (first | assumption | exact KS _ (fr_below (drew_ext wq)) | exact KS _ (by assumption) | exact KS _ (fr_below (by assumption)) | exact KS _ (fr_below (ext_trans (by assumption) (ext_alloc _ _))) | exact KS _ (fr_below (Below.drew (ext_alloc _ _))) | exact KS _ (Fr.alloc (by assumption) _) | (refine KS _ (Fr.setCell (Fr.setCell (by assumption) (Or.inr ?_) _) (Or.inr ?_) _) <;> first | assumption | exact Nat.le_refl _))) ((go_at_call 105; refine (writeNode_any E ab wb _ y n2 _ HTW.out.ar.drew hn2ok rfl hyE).mono ?_; rintro e w8 ⟨rfl, hA8, hF8⟩; have F8 := (Fr.after (fr_below (drew_ext wq)) hF8 (fun y hy => Or.inl hy) : Fr [wb] wq w8); clear hF8)); have HX := hide (And.intro (HC5.out.ofw F8 (HTW.out.of F8 htw1 hA8)) (Fr.after HF5.out F8 (fun y hy => Or.inl (by simp at hy ⊢; exact Or.inr (Or.inr hy))) : Fr [rb, ab, wb] w w8)); clear KS F8 hA8; go_wp2; go_end0; exact ⟨rfl, _, hkE, HX.out.1, HX.out.2⟩
    · have hc0' : (0 : Int) < c := (by omega)
      rw [if_neg hc0] at hE hn2
      have e2 : withKids n1 H.top = n2 := HE1.out.trans hn2.symm
      have HMK := hide (fun (w : World) (h : TabAt w tb ab wb H) => mustTake_any H tb ab wb (2 * (c : Int)) (2 * c) w h hsH hfH (by push_cast; rfl) (by omega) (by omega) (by omega))
      have hn2c : n2.children = H.top := (by rw [← e2]; rfl)
      have HI2 := hide (fun (j : Nat) (hj : j < c) (w' : World) (kk : Nat) (hkk : kk ≤ k + 1 + r + sumTo j cost) (hC : Cp w' tb ab wb rb ab0 wb0 O (Bk j) kk) => HIH.out j hj w' kk hkk hC)
      rw [← hn2c] at HI2
      clear hc0 hn2 hn2c
      go_wp2_with fail
      rw [← HWZ.out]
      refine (HMK.out _ HCZ.out.tab).mono ?_
      rintro e w6 ⟨rfl, hT6, hF6⟩
      have hns : nb ∉ [ab, wb] := (by simp; omega)
      have hb2s : b2 ∉ [ab, wb] := (by have := lt_of_block bb2; simp; omega)
      have bn6 := hF6.at bnz hns
      have bb6 := hF6.at bb2 hb2s
      have hC6 := HCZ.out.of hF6 hT6
      have hF6' := (Fr.after HFZ.out hF6 (fun y hy => Or.inl (by simp at hy ⊢; exact Or.inr hy)) : Fr [rb, ab, wb] w w6)
      obtain ⟨g0, g1, g2, g3, g4, g5, g6, g7⟩ := cells4 bn6
      have bn7 := block_kids (p := H.top) bn6
      rw [e2] at bn7
      have bb7 := (Below.heap_setCell w6 ⟨nb, 3, none⟩ (.int .i64 (H.top : Int)) b2 hb2n).trans bb6
      have hC7 := hC6.other (off := 3) (v := .int .i64 (H.top : Int)) hnbt hnba hnbw hnbr hnba0 hnbw0
      rw [← hB0] at hC7
      have hF7 := hF6'.setCell (off := 3) (Or.inr hwnb) (.int .i64 (H.top : Int))
      have hl6 := lt_of_block bn6
      obtain ⟨wy, hwy⟩ : ∃ wy, wy = w6.setCell ⟨nb, 3, none⟩ (.int .i64 (H.top : Int)) := ⟨_, rfl⟩
      rw [← hwy] at bn7 bb7 hC7 hF7
      have HWY := hide hwy
      have HX7 := hide (And.intro hC7 (And.intro bn7 (And.intro bb7 hF7)))
      clear hwy bn6 bb6 hC6 hT6 hF6 hF6' q0 q1 q2 q3 bnz bb2 hC7 bn7 bb7 hF7 bn5
      go_wp2_with fail
      rw [← HWY.out, ← HB2.out]
      clear g0 g1 g2 g3 g4 g5 g6 g7
      go_loopw [11] (fun iv wr => ∃ (j kk : Nat), iv = .int .i64 (2 * (j : Int)) ∧ j ≤ c ∧ kk ≤ k + 1 + r + sumTo j cost ∧ Cp wr tb ab wb rb ab0 wb0 O (Bk j) kk ∧ wr.heap[nb]? = some (.cells #[.int .u16 n2.routes, .int .u16 n2.ways, .int .i64 n2.hops, .int .i64 n2.children] 116 (0, 0)) ∧ wr.heap[b2]? = some (.cells #[.int .i64 (nn.children : Int), .int .i64 (2 * (c : Int))] 146 (0, 0)) ∧ Fr [rb, ab, wb] w wr) (fun iv _ => 2 * c - (intOf iv).toNat)
      case atStart => exact ⟨0, kq, rfl, by omega, by rw [sumTo]; omega, HX7.out⟩
      case round =>
        obtain ⟨j, kk, rfl, hj, hkk, hC, bn, bb, hF⟩ := hrel
        obtain ⟨k0, k1, k2, k3⟩ := cells2 bb
        obtain ⟨g0, g1, g2, g3⟩ := cells4n bn
        have hln := lt_of_block bn
        have hlb := lt_of_block bb
        have HC := hide hC
        have HF := hide hF
        have HBN := hide bn
        have HBB := hide bb
        clear hC hF bn bb
        by_cases hjc : j < c
        · have hjc' : (2 : Int) * j < 2 * c := (by omega)
          have hch := hok.2.2.2
          have hn2h := hn2ok.2.2.2
          go_wp2_with fail
          refine (HI2.out j hjc _ kk hkk HC.out).mono ?_
          rintro e w9 ⟨rfl, kk', hkk', hC9, hF9⟩
          have hns3 : nb ∉ [rb, ab, wb] := (by simp; omega)
          have hb23 : b2 ∉ [rb, ab, wb] := (by simp; omega)
          have HX := hide (And.intro hC9 (And.intro (hF9.at HBN.out hns3) (And.intro (hF9.at HBB.out hb23) (Fr.after HF.out hF9 (fun y hy => Or.inl hy) : Fr [rb, ab, wb] w w9))))
          clear hC9 hF9 k0 k1 k2 k3 g0 g1 g2 g3
          go_wp2
          go_roundw
          case rel => exact ⟨j + 1, kk', congrArg (Value.int .i64) (by omega), by omega, by rw [sumTo]; omega, HX.out⟩
          case measure => simp [intOf]; omega
        · have hjc' : j = c := (by omega)
          subst hjc'
          rw [← hE] at HC
          have hkE := hkk
          clear hkk hE hj
          go_wp2_with fail
          obtain ⟨wq, hwq⟩ : ∃ wq, wq = wr := ⟨_, rfl⟩
          subst hwq
          have bn5 := HBN.out
          have HC5 := HC
          have HF5 := HF
          clear k0 k1 k2 k3 g0 g1 g2 g3
          have hnw1 : nb ∉ [wb] := (by simpa using hnbw.symm); have htw1 : tb ∉ [wb] := (by simpa using hnw); have HTW := hide HC5.out.tab; have hltq := HTW.out.lt; have hlnq := lt_of_block bn5; have KS : ∀ w', Fr [wb] wq w' → (fun w' : World => Fr [wb] wq w' ∧ w'.cell? ⟨tb, 0, none⟩ = some (.pointer (some ⟨ab, 0, none⟩)) ∧ w'.cell? ⟨nb, 0, none⟩ = some (.int .u16 n2.routes) ∧ w'.cell? ⟨nb, 1, none⟩ = some (.int .u16 n2.ways) ∧ w'.cell? ⟨nb, 2, none⟩ = some (.int .i64 n2.hops) ∧ w'.cell? ⟨nb, 3, none⟩ = some (.int .i64 n2.children)) w' := fun w' hf => ⟨hf, HTW.out.frw hf htw1, cells4n (hf.at bn5 hnw1)⟩; simp only [] at KS; go_wp2_with fail; go_region_held3 (fun w' : World => Fr [wb] wq w' ∧ w'.cell? ⟨tb, 0, none⟩ = some (.pointer (some ⟨ab, 0, none⟩)) ∧ w'.cell? ⟨nb, 0, none⟩ = some (.int .u16 n2.routes) ∧ w'.cell? ⟨nb, 1, none⟩ = some (.int .u16 n2.ways) ∧ w'.cell? ⟨nb, 2, none⟩ = some (.int .i64 n2.hops) ∧ w'.cell? ⟨nb, 3, none⟩ = some (.int .i64 n2.children)) (with_reducible (first | assumption | exact KS _ (fr_below (drew_ext wq)) | exact KS _ (by assumption) | exact KS _ (fr_below (by assumption)) | exact KS _ (fr_below (ext_trans (by assumption) (ext_alloc _ _))) | exact KS _ (fr_below (Below.drew (ext_alloc _ _))) | exact KS _ (Fr.alloc (by assumption) _) | (refine KS _ (Fr.setCell (Fr.setCell (by assumption) (Or.inr ?_) _) (Or.inr ?_) _) <;> first | assumption | exact Nat.le_refl _))) ((go_at_call 105; refine (writeNode_any E ab wb _ y n2 _ HTW.out.ar.drew hn2ok rfl hyE).mono ?_; rintro e w8 ⟨rfl, hA8, hF8⟩; have F8 := (Fr.after (fr_below (drew_ext wq)) hF8 (fun y hy => Or.inl hy) : Fr [wb] wq w8); clear hF8)); have HX := hide (And.intro (HC5.out.ofw F8 (HTW.out.of F8 htw1 hA8)) (Fr.after HF5.out F8 (fun y hy => Or.inl (by simp at hy ⊢; exact Or.inr (Or.inr hy))) : Fr [rb, ab, wb] w w8)); clear KS F8 hA8; go_wp2; go_end0; exact ⟨rfl, _, hkE, HX.out.1, HX.out.2⟩
end Go.Proofs.YtnapboelfimaaaaDoor
/- An arena that is filled in a row: what stays so. -/
namespace Go.Proofs.YtnapboelfimaaaaDoor
structure Pk (A : Ar) : Prop where
  fresh : A.fresh
  free : A.free = (A.size : Int) - A.top
  top : A.top ≤ A.size
  size : A.size ≤ 65536
  wok : WOk A.word
theorem pk_new {n : Nat} (h1 : 1024 ≤ n) (h2 : n ≤ 65536) : Pk (newAr n) := ⟨fun _ _ _ => rfl, rfl, h1, h2, fun a => by show (0 : Nat) < _; decide⟩
theorem Pk.bump {A : Ar} {n : Nat} (h : Pk A) (ht : A.top + n ≤ A.size) : Pk (A.bump n) := ⟨h.fresh, by show A.free - n = _; rw [h.free]; show _ = (A.size : Int) - ((A.top + n : Nat) : Int); omega, ht, h.size, h.wok⟩
theorem Pk.hops {A : Ar} {W : Nat → Nat} {x : Nat} (h : Pk A) (hW : WOk W) (ht : A.top + ones 16 (nodeAt W x).routes ≤ A.size) : Pk (copyHops W A x) := by
  have f := hops_facts W A x
  refine ⟨fun s h1 h2 => by rw [f.2.2.1]; exact h.fresh s h1 h2, ?_, by rw [f.1, f.2.2.2.1]; exact ht, by rw [f.2.2.2.1]; exact h.size, copyHops_wok h.wok hW⟩
  rw [f.2.1, f.1, f.2.2.2.1, h.free]
  omega
theorem Pk.copied {W : Nat → Nat} {M : Tab} {A B : Ar} {d len u x y : Nat} (h : Pk A) (c : Copied W M A B d len u x y) (hw : WOk B.word) (ht : A.top + costW W d x ≤ A.size) : Pk B := by
  refine ⟨fun s h1 h2 => by rw [c.given]; exact h.fresh s h1 h2, ?_, by rw [c.top, c.size]; exact ht, by rw [c.size]; exact h.size, hw⟩
  rw [c.free, c.top, c.size, h.free]
  omega
theorem Pk.put {A : Ar} {y : Nat} {n : NodeD} (h : Pk A) (hn : n.ok) : Pk (A.putN y n) := ⟨h.fresh, h.free, h.top, h.size, wok_put h.wok hn⟩
theorem Pk.setw {A : Ar} {W : Nat → Nat} (h : Pk A) (hW : WOk W) : Pk ({ A with word := W } : Ar) := ⟨h.fresh, h.free, h.top, h.size, hW⟩
/-- the arenas between the children's copies -/
def kidB (W : Nat → Nat) (d : Nat) (H : Ar) (x j : Nat) : Ar := (List.range j).foldl (fun B k => copyN W d B ((nodeAt W x).children + 2 * k) (H.top + 2 * k)) (H.bump (2 * ones 16 (nodeAt W x).ways))
theorem kidB_succ (W : Nat → Nat) (d : Nat) (H : Ar) (x j : Nat) : kidB W d H x (j + 1) = copyN W d (kidB W d H x j) ((nodeAt W x).children + 2 * j) (H.top + 2 * j) := by
  unfold kidB
  rw [List.range_succ, List.foldl_append]
  rfl
theorem cost_kids (W : Nat → Nat) (d x : Nat) : costW W (d + 1) x = ones 16 (nodeAt W x).routes + 2 * ones 16 (nodeAt W x).ways + sumTo (ones 16 (nodeAt W x).ways) (fun k => costW W d ((nodeAt W x).children + 2 * k)) := by
  rw [← sum_select (nodeAt W x).ways (fun k => costW W d ((nodeAt W x).children + 2 * k)) 16]
  rfl
theorem kidB_facts {W : Nat → Nat} {M : Tab} {d len u x : Nat} {A : Ar} (hr : Rep W M (d + 1) len u x) (hW : WOk W) (hA : Pk A) (ht : A.top + costW W (d + 1) x ≤ A.size) :
    ∀ j, j ≤ ones 16 (nodeAt W x).ways → Pk (kidB W d (copyHops W A x) x j) ∧ (kidB W d (copyHops W A x) x j).top = A.top + ones 16 (nodeAt W x).routes + 2 * ones 16 (nodeAt W x).ways + sumTo j (fun k => costW W d ((nodeAt W x).children + 2 * k)) ∧ (kidB W d (copyHops W A x) x j).size = A.size
  | 0, _ => by
    have f := hops_facts W A x
    rw [cost_kids] at ht
    refine ⟨(hA.hops hW (by omega)).bump (by rw [f.1, f.2.2.2.1]; omega), ?_, f.2.2.2.1⟩
    show (copyHops W A x).top + 2 * ones 16 (nodeAt W x).ways = _
    rw [f.1, sumTo]
    omega
  | j + 1, hj => by
    obtain ⟨h1, h2, h3⟩ := kidB_facts hr hW hA ht j (by omega)
    obtain ⟨f, hf, hb, hfj⟩ := select (w := (nodeAt W x).ways) (k := j) (n := 16) (by omega)
    have hk := hr.2 f hf hb
    have hkid : (nodeAt W x).kid f = (nodeAt W x).children + 2 * j := by unfold NodeD.kid; rw [hfj]
    rw [hkid] at hk
    have fH := hops_facts W A x
    have hsz := hA.size
    have hbelow := sum_below (fun k => costW W d ((nodeAt W x).children + 2 * k)) (q := j) (k := ones 16 (nodeAt W x).ways) (by omega)
    have hc := cost_kids W d x
    have hy : (copyHops W A x).top + 2 * j + 2 ≤ (kidB W d (copyHops W A x) x j).top := by rw [fH.1, h2]; omega
    have htt : (kidB W d (copyHops W A x) x j).top + costW W d ((nodeAt W x).children + 2 * j) ≤ A.size := by rw [h2]; omega
    have c := copy_ok d (len + 4) (16 * u + f) ((nodeAt W x).children + 2 * j) ((copyHops W A x).top + 2 * j) (kidB W d (copyHops W A x) x j) hk hy (by omega)
    have cw := copyN_wok hW d (len + 4) (16 * u + f) ((nodeAt W x).children + 2 * j) ((copyHops W A x).top + 2 * j) (kidB W d (copyHops W A x) x j) hk hy (by omega) h1.wok
    rw [kidB_succ]
    refine ⟨h1.copied c cw (by rw [h3]; omega), ?_, by rw [c.size]; exact h3⟩
    rw [c.top, h2, sumTo]
    omega
end Go.Proofs.YtnapboelfimaaaaDoor
