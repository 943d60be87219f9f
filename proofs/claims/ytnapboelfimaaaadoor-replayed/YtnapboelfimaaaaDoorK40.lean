/- KeeD, KeeE, OpeK: parts of the proof, one behind the other. -/
import Derived.Test.YtnapboelfimaaaaDoorK39
import Derived.Test.YtnapboelfimaaaaDoorCards
import Derived.Test.YtnapboelfimaaaaDoorTie
import Derived.ProofKit
import Derived.OpenShut
import Derived.SizedLaws
import Derived.Deep.Slices
import Derived.Deep.DeepHandedRow
import Derived.Lib.LaidTab
/- Of the laws' own functions: known. -/
namespace Go.Proofs.YtnapboelfimaaaaDoor
open Go.RowKit Go.Deep
def kCells : Array Value := #[.int .i64 1, .int .i64 4, .string ⟨#[10, 0, 0, 0]⟩, .int .i64 8, .int .i64 1, .int .i64 1, .int .i64 4, .string ⟨#[10, 1, 2, 0]⟩, .int .i64 24, .int .i64 2, .int .i64 3, .int .i64 4, .string ⟨#[10, 1, 2, 3]⟩, .int .i64 0, .int .i64 0, .int .i64 2, .int .i64 4, .string ⟨#[10, 1, 2, 0]⟩, .int .i64 24, .int .i64 0, .int .i64 3, .int .i64 4, .string ⟨#[10, 1, 2, 3]⟩, .int .i64 0, .int .i64 0, .int .i64 2, .int .i64 4, .string ⟨#[10, 1, 2, 0]⟩, .int .i64 24, .int .i64 0]
theorem k_ops : OpsIn kCells 0 kOps := by
  refine ⟨fun j o hj => ?_, fun o ho => ?_⟩
  · match j, hj with
    | 0, hj => cases hj; exact ⟨rfl, rfl, rfl, rfl, rfl⟩
    | 1, hj => cases hj; exact ⟨rfl, rfl, rfl, rfl, rfl⟩
    | 2, hj => cases hj; exact ⟨rfl, rfl, rfl, rfl, rfl⟩
    | 3, hj => cases hj; exact ⟨rfl, rfl, rfl, rfl, rfl⟩
    | 4, hj => cases hj; exact ⟨rfl, rfl, rfl, rfl, rfl⟩
    | 5, hj => cases hj; exact ⟨rfl, rfl, rfl, rfl, rfl⟩
    | j + 6, hj => simp [kOps] at hj
  · simp only [kOps, List.mem_cons, List.not_mem_nil, or_false] at ho
    rcases ho with rfl | rfl | rfl | rfl | rfl | rfl <;> constructor <;> simp [kO1, kO2, kO3, kO4, ByteArray.size]
theorem k_rd : rdOf (famBytes 4) (8, 10, 1) = ⟨⟨#[10, 0, 0, 0]⟩, 8, 1⟩ := by
  unfold rdOf
  rw [show keyS (famBytes 4) (addr (8, 10, 1)) = ⟨#[10, 0, 0, 0]⟩ by decide +kernel]
  rfl
theorem six_of {α β : Type} {g : α → β} {xs : List α} {p0 p1 p2 p3 p4 p5 : β} (h : xs.map g = [p0, p1, p2, p3, p4, p5]) : ∃ a0 a1 a2 a3 a4 a5, xs = [a0, a1, a2, a3, a4, a5] ∧ g a0 = p0 ∧ g a1 = p1 ∧ g a2 = p2 ∧ g a3 = p3 ∧ g a4 = p4 ∧ g a5 = p5 := by
  match xs, h with
  | [a0, a1, a2, a3, a4, a5], h =>
    simp only [List.map_cons, List.map_nil, List.cons.injEq, and_true] at h
    exact ⟨a0, a1, a2, a3, a4, a5, rfl, h⟩
set_option maxHeartbeats 2000000 in
set_option maxRecDepth 10000 in
theorem known_any (w : World) (hZ : TzTab w) : Calls Tryd.prog 9 #[] w fun e w' => e = .returned (.bool true) ∧ Below w.heap.size w w' := by
  have HZ := hide hZ
  clear hZ
  go_enter Tryd.func9, Tryd.ntmps9
  go_wp2_with fail
  refine (fib_any 2048 w (by omega) (by omega)).mono ?_
  rintro e w1 ⟨rfl, hb1, hl1⟩
  obtain ⟨b, hb⟩ : ∃ b : FB, b = ⟨w.heap.size + 3, w.heap.size + 2, w.heap.size + 1, w.heap.size⟩ := ⟨_, rfl⟩
  have hge : b.ge w.heap.size := by rw [hb]; exact ⟨by simp, by simp, by simp, by simp⟩
  have hfb : b.fb = w.heap.size + 3 := by rw [hb]
  rw [← hb] at hl1
  rw [← hfb]
  have HFB := hide hfb
  have HL1 := hide hl1
  have HB1 := hide hb1
  have HGE := hide hge
  have hlt := hl1.lt
  clear hb hfb hl1 hb1 hge
  go_wp2_with fail
  obtain ⟨wx, hwx⟩ : ∃ wx, wx = w1.alloc (.cells kCells 37) := ⟨_, rfl⟩
  have hwx' := hwx
  unfold kCells at hwx'
  rw [← hwx']
  have hbx : Below w1.heap.size w1 wx := by rw [hwx]; exact ext_alloc _ _
  have hob : wx.heap[w1.heap.size]? = some (.cells kCells 37 (0, 0)) := by rw [hwx]; exact heap_alloc_new _ _
  have hS : (St.new 2048).ok := new_ok (by omega) (by omega)
  obtain ⟨k1, k2, k3⟩ := k_all hS rfl (Nat.le_refl _)
  have hS2 := (run_ok hS kOps).1
  have hrun := run_any (St.new 2048) kOps b.fb b.tb b.ab b.wb w1.heap.size 0 6 kCells 37 wx (HL1.out.ext hbx) hS hob k_ops (by omega) (by omega) (by omega) (by decide)
  obtain ⟨a0, a1, a2, a3, a4, a5, hx, p0, p1, p2, p3, p4, p5⟩ := six_of k2
  rw [hx] at hrun
  obtain ⟨R, hR⟩ : ∃ R, R = ((St.new 2048).run kOps).1 := ⟨_, rfl⟩
  rw [← hR] at hrun k1 k3 hS2
  have HRUN := hide hrun
  have HK := hide (And.intro k3 hS2)
  have HBX := hide hbx
  simp only [Prod.mk.injEq] at p0 p1 p2 p3 p4 p5
  obtain ⟨x0, _⟩ := p0
  obtain ⟨x1, _⟩ := p1
  obtain ⟨x2, y2⟩ := p2
  obtain ⟨x3, _⟩ := p3
  obtain ⟨x4, y4⟩ := p4
  obtain ⟨x5, _⟩ := p5
  have HE := hide (And.intro x0 (And.intro x1 (And.intro x2 (And.intro y2 (And.intro x3 (And.intro x4 (And.intro y4 x5)))))))
  clear hwx hwx' hbx hob hS k1 k2 k3 hS2 hrun hx hR x0 x1 x2 x3 x4 x5 y2 y4
  refine HRUN.out.mono ?_
  rintro e w3 ⟨rfl, hM, X, hX, hA⟩
  obtain ⟨b3, hb3⟩ := FB.move (HL1.out.ext HBX.out) hM
  have hB3 : Below w.heap.size w w3 := (ext_trans HB1.out HBX.out).trans (hb3.below HGE.out (ext_trans HB1.out HBX.out).size)
  obtain ⟨e0, e1, e2, f2, e3, e4, f4, e5⟩ := HE.out
  obtain ⟨t0, _, _⟩ := hA.get 0 a0 rfl
  obtain ⟨t1, _, _⟩ := hA.get 1 a1 rfl
  obtain ⟨t2, u2, _⟩ := hA.get 2 a2 rfl
  obtain ⟨t3, _, _⟩ := hA.get 3 a3 rfl
  obtain ⟨t4, u4, _⟩ := hA.get 4 a4 rfl
  obtain ⟨t5, _, _⟩ := hA.get 5 a5 rfl
  rw [← cell_at hX] at t0 t1 t2 u2 t3 t4 u4 t5
  rw [e0] at t0
  rw [e1] at t1
  rw [e2] at t2
  rw [f2] at u2
  rw [e3] at t3
  rw [e4] at t4
  rw [f4] at u4
  rw [e5] at t5
  simp only [Nat.zero_mul, Nat.one_mul, Nat.reduceMul, Nat.reduceAdd] at t0 t1 t2 u2 t3 t4 u4 t5
  have hlX := lt_of_block hX
  obtain ⟨xb, hxb⟩ : ∃ xb, xb = wx.heap.size := ⟨_, rfl⟩
  rw [← hxb] at t0 t1 t2 u2 t3 t4 u4 t5 hlX hX ⊢
  have hlen : kOps.length = 6 := rfl
  rw [hlen]
  have hfb3 := hb3.fb
  have HW3 := hide (And.intro hb3 (And.intro hB3 hX))
  clear hlen hxb hM hA hb3 hB3 hX e0 e1 e2 f2 e3 e4 f4 e5
  have hD := dump_any R HK.out.2 b3 w3 HW3.out.1.lies (HZ.out.ext HW3.out.2.1) 4 4 rfl (by decide)
  rw [hfb3] at hD
  have hT : tellL R 4 = [⟨⟨#[10, 0, 0, 0]⟩, 8, 1⟩] := by
    unfold tellL
    rw [show fam 4 = false by decide, HK.out.1, List.map_singleton, k_rd]
  rw [hT] at hD
  have HDD := hide hD
  clear hD hT hfb3
  go_wp2_with fail
  refine HDD.out.mono ?_
  rintro e w5 ⟨v5, rfl, own5, hb5⟩
  obtain ⟨g, cp, rfl⟩ := owns_form own5
  obtain ⟨g', hg', hlg, c0, c1, c2⟩ := route_cells (k := 0) own5 (by decide)
  cases hg'
  simp only [Nat.zero_mul, Nat.zero_add] at c0 c1 c2
  have c0' : w5.cell? ⟨g, 0, none⟩ = some (.string ⟨#[10, 0, 0, 0]⟩) := c0
  have c1' : w5.cell? ⟨g, 1, none⟩ = some (.int .i64 8) := c1
  have c2' : w5.cell? ⟨g, 2, none⟩ = some (.int .i64 1) := c2
  have HB5 := hide (ext_trans HW3.out.2.1 hb5)
  replace t0 := cell_ext t0 hb5
  replace t1 := cell_ext t1 hb5
  replace t2 := cell_ext t2 hb5
  replace u2 := cell_ext u2 hb5
  replace t3 := cell_ext t3 hb5
  replace t4 := cell_ext t4 hb5
  replace u4 := cell_ext u4 hb5
  replace t5 := cell_ext t5 hb5
  have hl5 := Nat.lt_of_lt_of_le hlX hb5.size
  clear c0 c1 c2 own5 hb5
  go_wp2
  go_ret
  exact ⟨rfl, HB5.out⟩
end Go.Proofs.YtnapboelfimaaaaDoor
/- Operations as arguments; Run of them all; what stays behind an operation. -/
namespace Go.Proofs.YtnapboelfimaaaaDoor
open Go.RowKit Go.Deep
/-- a row of operations, as it lies -/
structure OpsOn (w : World) (ao : Option Addr) (ops : List OpD) : Prop where
  ok : ∀ o, o ∈ ops → o.ok
  row : ops ≠ [] → ∃ (b off : Nat) (C : Array Value) (ty : TypeId) (fz : Nat × Nat), ao = some ⟨b, off, none⟩ ∧ w.heap[b]? = some (.cells C ty fz) ∧ OpsIn C off ops
theorem OpsOn.below {w w' : World} {ao : Option Addr} {ops : List OpD} (h : OpsOn w ao ops) (hb : Below w.heap.size w w') : OpsOn w' ao ops := by
  refine ⟨h.ok, fun h0 => ?_⟩
  obtain ⟨b, off, C, ty, fz, e, hc, hi⟩ := h.row h0
  exact ⟨b, off, C, ty, fz, e, block_ext hc hb, hi⟩
/-- one operation of a row -/
theorem OpsOn.at {w w' : World} {ao : Option Addr} {ops : List OpD} (h : OpsOn w ao ops) (hb : Below w.heap.size w w') {i : Nat} (hi : i < ops.length) : ∃ (b off : Nat) (o : OpD), ao = some ⟨b, off, none⟩ ∧ ops[i]? = some o ∧ o.ok ∧ b < w.heap.size ∧ b < w'.heap.size ∧ w'.cell? ⟨b, off + i * 5, none⟩ = some (.int .i64 o.code) ∧ w'.cell? ⟨b, off + i * 5 + 1, none⟩ = some (.int .i64 o.family) ∧ w'.cell? ⟨b, off + i * 5 + 2, none⟩ = some (.string o.bits) ∧ w'.cell? ⟨b, off + i * 5 + 3, none⟩ = some (.int .i64 o.len) ∧ w'.cell? ⟨b, off + i * 5 + 4, none⟩ = some (.int .i64 o.hop) := by
  obtain ⟨b, off, C, ty, fz, e, hc, hin⟩ := h.row (by rintro rfl; simp at hi)
  have ho : ops[i]? = some ops[i] := List.getElem?_eq_getElem hi
  have hc' := block_ext hc hb
  obtain ⟨c0, c1, c2, c3, c4⟩ := hin.get i _ ho
  rw [← cell_at hc'] at c0 c1 c2 c3 c4
  exact ⟨b, off, _, e, ho, h.ok _ (List.getElem_mem hi), lt_of_block hc, lt_of_block hc', c0, c1, c2, c3, c4⟩
theorem run_get (S : St) : ∀ (os : List OpD) (i : Nat) (o : OpD), os[i]? = some o → (S.run os).2[i]? = some ((S.run (os.take i)).1.step o).2 := by
  intro os
  induction os generalizing S with
  | nil => intro i o h; simp at h
  | cons p os ih =>
    intro i o h
    cases i with
    | zero => cases h; rfl
    | succ i =>
      show (((S.step p).1.run os).2)[i]? = _
      exact ih (S.step p).1 i o h
theorem run_next {S : St} {os : List OpD} {i : Nat} {o : OpD} (h : os[i]? = some o) : (S.run (os.take (i + 1))).1 = ((S.run (os.take i)).1.step o).1 := by rw [run_take h]
/-- other blocks than a Fib's own stay, whatever is done -/
theorem FB.moved.keep {b b' : FB} {w w' : World} {A B : Ar} {k : Nat} {c : Array Value} {t : TypeId} {fz : Nat × Nat} (h : b.moved b' w w' B) (hl : b.lies w A) (hk : w.heap[k]? = some (.cells c t fz)) (h1 : t ≠ 67) (h2 : t ≠ 104) (h3 : t ≠ 110) : w'.heap[k]? = some (.cells c t fz) := by
  refine h.fr.at hk ?_
  have n1 := ty_ne hk hl.tab.tab h1
  have n2 := ty_ne hk hl.tab.ar.arena h2
  have n3 := ty_ne hk hl.tab.ar.words h3
  simp
  exact ⟨n1, n2, n3⟩
/-- all operations of an argument at once -/
theorem run_ops (S : St) (ops : List OpD) (b : FB) (ao : Option Addr) (cap K : Nat) (w0 w : World) (hO : OpsOn w0 ao ops) (hK : w0.heap.size = K) (h0 : Below w0.heap.size w0 w) (h : b.lies w S.A) (hge : b.ge K) (hS : S.ok) (hn : ops.length ≤ 2932031007402) :
    Calls Tryd.prog 12 #[.pointer (some ⟨b.fb, 0, none⟩), .slice ao ops.length cap] w fun e w' => e = .returned (.slice (some ⟨w.heap.size, 0, none⟩) ops.length ops.length) ∧ (∃ b', b.moved b' w w' (S.run ops).1.A) ∧ (ops ≠ [] → ∃ X, w'.heap[w.heap.size]? = some (.cells X 33 (0, 0)) ∧ AnsIn X ops.length (S.run ops).2) := by
  by_cases he : ops = []
  · subst he
    refine (run_none S b.fb b.tb b.ab b.wb cap ao w h).mono ?_
    rintro e w' ⟨rfl, hM, hB⟩
    exact ⟨rfl, FB.move h hM, fun h => absurd rfl h⟩
  · obtain ⟨ob, off, C, ty, fz, rfl, hc, hin⟩ := hO.row he
    have hlo := lt_of_block hc
    obtain ⟨g0, g1, g2, g3⟩ := hge
    refine (run_any S ops b.fb b.tb b.ab b.wb ob off cap C ty w h hS (block_ext hc h0) hin (by omega) (by omega) (by omega) hn).mono ?_
    rintro e w' ⟨rfl, hM, hX⟩
    exact ⟨rfl, FB.move h hM, fun _ => hX⟩
/-- Free -/
theorem free_x (b : FB) (A : Ar) (w : World) (h : b.lies w A) : Calls Tryd.prog 17 #[.pointer (some ⟨b.fb, 0, none⟩)] w fun e w' => e = .returned (.int .i64 A.free) ∧ w' = w :=
  free_any b.fb b.tb b.ab A.free w (by rw [cell_at h.fib]; rfl) h.tab.cell h.tab.ar.free
/-- the Fib that fib() has made -/
def newB (w : World) : FB := ⟨w.heap.size + 3, w.heap.size + 2, w.heap.size + 1, w.heap.size⟩
theorem newB_ge (w : World) : (newB w).ge w.heap.size := ⟨by simp [newB], by simp [newB], by simp [newB], by simp [newB]⟩
theorem FB.ge.mono {b : FB} {K L : Nat} (h : b.ge K) (hl : L ≤ K) : b.ge L := ⟨Nat.le_trans hl h.1, Nat.le_trans hl h.2.1, Nat.le_trans hl h.2.2.1, Nat.le_trans hl h.2.2.2⟩
theorem fib_x (x : Int) (n : Nat) (w : World) (hx : x = n) (h : 2048 ≤ n) (h2 : n ≤ 65536) :
    Calls Tryd.prog 10 #[.int .i64 x] w fun e w' => e = .returned (.pointer (some ⟨(newB w).fb, 0, none⟩)) ∧ Below w.heap.size w w' ∧ (newB w).lies w' (St.new n).A := by
  subst hx
  exact fib_any n w h h2
end Go.Proofs.YtnapboelfimaaaaDoor
/- An argument that is a row of operations, opened; the library's table. -/
namespace Go.Proofs.YtnapboelfimaaaaDoor
open Go.ChangeShapes Go.WideShapes Go.RowKit Go.Deep
def OpD.cells (o : OpD) : List Value := [.int .i64 o.code, .int .i64 o.family, .string o.bits, .int .i64 o.len, .int .i64 o.hop]
theorem cellsInt : Tryd.prog.cellsOf 3 = 1 := by kernel_rfl
theorem cellsString : Tryd.prog.cellsOf 9 = 1 := by kernel_rfl
theorem cellsOp : Tryd.prog.cellsOf 37 = 5 := by kernel_rfl
theorem cellsOps : Tryd.prog.cellsOf 22 = 1 := by kernel_rfl
theorem bytesOp : Tryd.prog.bytesOf 37 = 48 := by kernel_rfl
def tzL : List Int := [0, 1, 56, 2, 57, 49, 28, 3, 61, 58, 42, 50, 38, 29, 17, 4, 62, 47, 59, 36, 45, 43, 51, 22, 53, 39, 33, 30, 24, 18, 12, 5, 63, 55, 48, 27, 60, 41, 37, 16, 46, 35, 44, 21, 52, 32, 23, 11, 54, 26, 40, 15, 34, 20, 31, 10, 25, 14, 19, 9, 13, 8, 7, 6]
theorem tzL_get : ∀ j, j < 64 → tzL.getD j 0 = ((Go.Lib.deBruijn64tab.getD j 0 : Nat) : Int) := by decide
section
variable {H : Type} {enc : TypeId × Value → H} {w : World} {base : Nat} {spare : Nat → Bool} {held : Bool}
theorem trod_struct5 {P : Program} {t : TypeId} {f0 f1 f2 f3 f4 : Field} {fuel : Nat} {cs : List Value} {x : DataW H × List MemPlace} (ht : P.underlying t = some (.struct #[f0, f1, f2, f3, f4])) (h : DataW.trod enc P w base spare held fuel t cs = some x) :
    ∃ y0 y1 y2 y3 y4 n, x = (.agg [y0.1, y1.1, y2.1, y3.1, y4.1], y0.2 ++ (y1.2 ++ (y2.2 ++ (y3.2 ++ y4.2)))) ∧ cs.length = P.cellsOf t ∧ DataW.trod enc P w base spare held n f0.type ((cs.drop f0.offset).take (P.cellsOf f0.type)) = some y0 ∧
      DataW.trod enc P w base spare held n f1.type ((cs.drop f1.offset).take (P.cellsOf f1.type)) = some y1 ∧ DataW.trod enc P w base spare held n f2.type ((cs.drop f2.offset).take (P.cellsOf f2.type)) = some y2 ∧
      DataW.trod enc P w base spare held n f3.type ((cs.drop f3.offset).take (P.cellsOf f3.type)) = some y3 ∧ DataW.trod enc P w base spare held n f4.type ((cs.drop f4.offset).take (P.cellsOf f4.type)) = some y4 := by
  obtain ⟨xs, n, _, rfl, hl, hlen, hf⟩ := DataW.trod_struct ht h
  match xs, hlen with
  | [y0, y1, y2, y3, y4], _ => exact ⟨y0, y1, y2, y3, y4, n, by simp, hl, by simpa using hf 0 f0 rfl, by simpa using hf 1 f1 rfl, by simpa using hf 2 f2 rfl, by simpa using hf 3 f3 rfl, by simpa using hf 4 f4 rfl⟩
theorem list5 {α : Type} {l : List α} (h : l.length = 5) : ∃ a b c d e, l = [a, b, c, d, e] := by
  match l, h with
  | [a, b, c, d, e], _ => exact ⟨a, b, c, d, e, rfl⟩
theorem op_ext {a b : OpD} (h : a.cells = b.cells) : a = b := by
  cases a
  cases b
  simp only [OpD.cells, List.cons.injEq, Value.int.injEq, Value.string.injEq, true_and, and_true] at h
  obtain ⟨rfl, rfl, rfl, rfl, rfl⟩ := h
  rfl
theorem cell_block {w : World} {b k : Nat} {v : Value} (h : w.cell? ⟨b, k, none⟩ = some v) : ∃ C ty fz, w.heap[b]? = some (.cells C ty fz) := by
  unfold World.cell? at h
  split at h
  · rename_i c t fz hb
    exact ⟨c, t, fz, hb⟩
  · cases h
theorem ops_row {ops : List OpD} {w : World} {b off : Nat} (hl : 0 < ops.length) (hc : ∀ i, i < ops.length → ∀ j, j < 5 → w.cell? ⟨b, off + (i * 5 + j), none⟩ = ((ops.getD i ⟨0, 0, .empty, 0, 0⟩).cells)[j]?) (hok : ∀ o ∈ ops, o.ok) :
    ∃ (b' off' : Nat) (C : Array Value) (ty : TypeId) (fz : Nat × Nat), (some ⟨b, off, none⟩ : Option Addr) = some ⟨b', off', none⟩ ∧ w.heap[b']? = some (.cells C ty fz) ∧ OpsIn C off' ops := by
  obtain ⟨C, ty, fz, hb⟩ := cell_block (hc 0 hl 0 (by omega))
  refine ⟨b, off, C, ty, fz, rfl, hb, ?_, hok⟩
  intro i o ho
  have hi := (List.getElem?_eq_some_iff.1 ho).1
  have he : ops.getD i ⟨0, 0, .empty, 0, 0⟩ = o := by rw [List.getD_eq_getElem?_getD, ho]; rfl
  have h := fun j (hj : j < 5) => hc i hi j hj
  rw [he] at h
  simp only [cell_at hb] at h
  exact ⟨h 0 (by omega), h 1 (by omega), h 2 (by omega), h 3 (by omega), h 4 (by omega)⟩
/-- AN OPERATION. -/
theorem open_op {fuel : Nat} {cs : List Value} {x : DataW H × List MemPlace} (h : DataW.trod enc Tryd.prog w base spare held fuel 37 cs = some x) : ∃ o : OpD, o.ok ∧ cs = o.cells := by
  obtain ⟨y0, y1, y2, y3, y4, n, rfl, hl, h0, h1, h2, h3, h4⟩ := trod_struct5 Tryd.underlying37 h
  rw [cellsOp] at hl
  obtain ⟨a, b, c, d, e, rfl⟩ := list5 hl
  simp only [cellsInt, cellsString] at h0 h1 h2 h3 h4
  obtain ⟨i0, e0, _, b0⟩ := DataW.trod_int Tryd.underlying3 h0
  obtain ⟨i1, e1, _, b1⟩ := DataW.trod_int Tryd.underlying3 h1
  obtain ⟨s2, e2, _, b2⟩ := DataW.trod_string Tryd.underlying9 h2
  obtain ⟨i3, e3, _, b3⟩ := DataW.trod_int Tryd.underlying3 h3
  obtain ⟨i4, e4, _, b4⟩ := DataW.trod_int Tryd.underlying3 h4
  simp at e0 e1 e2 e3 e4
  subst e0 e1 e2 e3 e4
  obtain ⟨p0, q0⟩ := bounds_i64 b0
  obtain ⟨p1, q1⟩ := bounds_i64 b1
  obtain ⟨p3, q3⟩ := bounds_i64 b3
  obtain ⟨p4, q4⟩ := bounds_i64 b4
  exact ⟨⟨i0, i1, s2, i3, i4⟩, ⟨p0, q0, p1, q1, p3, q3, p4, q4, by simpa [maxLen] using b2⟩, rfl⟩
theorem spot_none {a : Addr} {v : Value} (h : w.cell? a = some v) : a = ⟨a.block, a.off, none⟩ := by
  rcases a with ⟨b, o, s⟩
  cases s with
  | none => rfl
  | some s =>
    unfold World.cell? at h
    split at h
    · simp at h
    · simp at h
theorem add_none (b off k : Nat) : (⟨b, off, none⟩ : Addr).add k = ⟨b, off + k, none⟩ := by unfold Addr.add; split <;> simp_all
/-- rows of elements of five cells each -/
theorem rows5 {α : Type} (d : α) {a : Addr} {len : Nat} (cells : α → List Value) (hlen5 : ∀ x, (cells x).length = 5) (hlen : 0 < len) (h : ∀ i, i < len → ∃ x : α, w.cells? base (a.add (i * 5)) 5 = some (cells x)) :
    ∃ xs : List α, xs.length = len ∧ ∃ b off, a = ⟨b, off, none⟩ ∧ b < w.heap.size ∧ ∀ i, i < len → ∀ j, j < 5 → w.cell? ⟨b, off + (i * 5 + j), none⟩ = (cells (xs.getD i d))[j]? := by
  have : Inhabited α := ⟨d⟩
  obtain ⟨f, hf⟩ := choose_lt h
  have hsp : a = ⟨a.block, a.off, none⟩ := by
    have h0 := (World.cells?_some (hf 0 hlen)).2.2 0 (by omega)
    simp only [Nat.zero_mul] at h0
    have e : (a.add 0).add 0 = a := by simp [Addr.add]
    rw [e] at h0
    have h5 := hlen5 (f 0)
    rw [List.getElem?_eq_getElem (by omega)] at h0
    exact spot_none h0
  refine ⟨(List.range len).map f, by simp, a.block, a.off, hsp, World.cells?_block (by simpa [Addr.add] using hf 0 hlen) (by omega), ?_⟩
  intro i hi j hj
  have hij := (World.cells?_some (hf i hi)).2.2 j (by omega)
  rw [hsp, add_none, add_none] at hij
  rw [show a.off + (i * 5 + j) = a.off + i * 5 + j by omega, hij]
  simp [List.getD, hi]
/-- A ROW OF OPERATIONS. -/
theorem open_ops {fuel : Nat} {cs : List Value} {x : DataW H × List MemPlace} (h : DataW.trod enc Tryd.prog w base spare held fuel 22 cs = some x) :
    ∃ (ops : List OpD) (ao : Option Addr) (cap : Nat), cs = [.slice ao ops.length cap] ∧ OpsOn w ao ops ∧ ((∀ n ∈ x.1.weights Tryd.prog 22, n ≤ reachBytes) → ops.length * 48 ≤ 140737488351232) := by
  rcases open_slice Tryd.underlying22 h with ⟨rfl, rfl⟩ | ⟨a, len, cap, m, n, D, Pl, rfl, hb, hl, hm, hmm, rfl, hx⟩
  · exact ⟨[], none, 0, rfl, ⟨by simp, by simp⟩, fun _ => by simp⟩
  · have hlm : len ≤ m := by subst hmm; split <;> omega
    rw [cellsOp] at hx
    by_cases h0 : len = 0
    · subst h0
      exact ⟨[], some a, cap, rfl, ⟨by simp, by simp⟩, fun _ => by simp⟩
    · have hx' : ∀ i, i < len → ∃ o : OpD, w.cells? base (a.add (i * 5)) 5 = some o.cells := by
        intro i hi
        obtain ⟨cs', h1, h2⟩ := hx i (by omega)
        obtain ⟨o, _, rfl⟩ := open_op h2
        exact ⟨o, h1⟩
      obtain ⟨ops, hlen, b, off, rfl, hblt, hc⟩ := rows5 ⟨0, 0, .empty, 0, 0⟩ OpD.cells (fun _ => rfl) (by omega) hx'
      subst hlen
      have hoks : ∀ o ∈ ops, o.ok := by
        intro o ho
        obtain ⟨i, hi, rfl⟩ := List.getElem_of_mem ho
        obtain ⟨cs', h1, h2⟩ := hx i (by omega)
        obtain ⟨o', ok', rfl⟩ := open_op h2
        have e : ops[i].cells = o'.cells := by
          apply List.ext_getElem?
          intro j
          by_cases hj : j < 5
          · have g1 := (World.cells?_some h1).2.2 j hj
            have g2 := hc i hi j hj
            rw [add_none, add_none, show off + i * 5 + j = off + (i * 5 + j) by omega, g2] at g1
            rw [← g1]
            simp [List.getD, hi]
          · rw [List.getElem?_eq_none (by simp [OpD.cells]; omega), List.getElem?_eq_none (by simp [OpD.cells]; omega)]
        rw [op_ext e]
        exact ok'
      refine ⟨ops, some ⟨b, off, none⟩, cap, rfl, ⟨hoks, fun _ => ops_row (by omega) hc hoks⟩, ?_⟩
      · intro hw
        have := hw ((ops.length + ((List.range (m - ops.length)).map fun j => D (ops.length + j)).length) * Tryd.prog.bytesOf 37) (by simp [DataW.weights, Tryd.underlying22])
        rw [bytesOp] at this
        simp only [reachBytes] at this
        omega
end
/-- the library's table, from what the row lists -/
theorem tz_of_laid {W : World} (h : laidMet Tryd.prog [("math/bits.deBruijn32tab", Rows.laid_math_bits_deBruijn32tab), ("math/bits.deBruijn64tab", Rows.laid_math_bits_deBruijn64tab)] W) : TzTab W := by
  obtain ⟨ps, ⟨_, _, _, _, _, q, _, _, _, _, hrest, _⟩, _⟩ := h
  obtain ⟨g, t, cs, fuel, p, q', hg, ht, hvar, hd, _, _⟩ := hrest
  obtain rfl : 1 = g := Option.some.inj ((show Tryd.prog.globalNamed "math/bits.deBruijn64tab" = some 1 by kernel_rfl).symm.trans hg)
  obtain rfl : 120 = t := Option.some.inj ((show (Tryd.prog.globals[1]?).map (·.type) = some 120 by kernel_rfl).symm.trans ht)
  have hcs := Go.Lib.cells_of_tab (k := .u8) (zs := tzL) (n := 64) (e := 5) (by kernel_rfl) (by kernel_rfl) (by kernel_rfl) (by kernel_rfl) hd
  have htab : Go.Lib.TabIs Tryd.prog W "math/bits.deBruijn64tab" .u8 tzL := by
    unfold Go.Lib.TabIs
    rw [hvar, ← hcs]
  intro j hj
  have hc := htab.cell (show Tryd.prog.globalNamed "math/bits.deBruijn64tab" = some 1 by kernel_rfl) j (by simpa [tzL] using hj)
  rw [hc, tzL_get j hj]
end Go.Proofs.YtnapboelfimaaaaDoor
