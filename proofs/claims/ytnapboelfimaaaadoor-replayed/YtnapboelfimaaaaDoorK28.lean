/- CoA, CoF, Cpt: parts of the proof, one behind the other. -/
import Derived.Test.YtnapboelfimaaaaDoorK27
/- copyNode does what copyN says. -/
namespace Go.Proofs.YtnapboelfimaaaaDoor
open Go.RowKit Go.Deep
theorem Pk.sane {A : Ar} (h : Pk A) : Sane A := ⟨h.size, h.top, fun s h1 h2 => Or.inl (h.fresh s h1 h2), h.wok, by have := h.free; have := h.top; omega, by have := h.free; have := h.size; omega⟩
theorem sum_one (n : Nat) (g : Nat → Nat) : sumTo n (fun k => 1 + g k) = n + sumTo n g := by
  rw [sumTo_add, sumTo_const]
theorem copyNode_any {M : Tab} {tb ab wb rb ab0 wb0 : Nat} (O : Ar) (hsO : Sane O) : ∀ (d len u x y k : Nat) (A : Ar) (w : World), On O M d len u x → Cp w tb ab wb rb ab0 wb0 O A k → Pk A → y + 2 ≤ A.top → A.top + costW O.word d x ≤ A.size → k + 1 + costW O.word d x ≤ 900000000 →
    Calls Tryd.prog 101 #[.pointer (some ⟨tb, 0, none⟩), .pointer (some ⟨rb, 0, none⟩), .int .i64 (x : Nat), .int .i64 (y : Nat)] w fun e w' => e = .returned (.tuple #[]) ∧ ∃ k', k' ≤ k + 1 + costW O.word d x ∧ Cp w' tb ab wb rb ab0 wb0 O (copyN O.word d A x y) k' ∧ Fr [rb, ab, wb] w w' := by
  intro d
  have hWO : WOk O.word := hsO.word
  have step0 : ∀ (d len u x y k : Nat) (A : Ar) (w : World), On O M d len u x → (nodeAt O.word x).ways = 0 → Cp w tb ab wb rb ab0 wb0 O A k → Pk A → y + 2 ≤ A.top → A.top + costW O.word d x ≤ A.size → k + 1 + costW O.word d x ≤ 900000000 →
      Calls Tryd.prog 101 #[.pointer (some ⟨tb, 0, none⟩), .pointer (some ⟨rb, 0, none⟩), .int .i64 (x : Nat), .int .i64 (y : Nat)] w fun e w' => e = .returned (.tuple #[]) ∧ ∃ k', k' ≤ k + 1 + ones 16 (nodeAt O.word x).routes ∧ Cp w' tb ab wb rb ab0 wb0 O ((copyHops O.word A x).putN y (copiedNode O.word A x)) k' ∧ Fr [rb, ab, wb] w w' := by
    intro d len u x y k A w hO hw0 hC hA hy ht hk
    have hown := own_cost O.word d x
    have hc : ones 16 (nodeAt O.word x).ways = 0 := by rw [hw0]; decide
    have hr16 := ones_le 16 (nodeAt O.word x).routes
    have fH := hops_facts O.word A x
    have hH := hA.hops (x := x) hWO (by omega)
    have hlt := hO.lt
    have key := copyNode_step O A (copyHops O.word A x) (fun _ => (copyHops O.word A x).bump 0) (fun _ => 0) tb ab wb rb ab0 wb0 x y (ones 16 (nodeAt O.word x).routes) 0 k (nodeAt O.word x) w hC hsO hlt.2 rfl hO.ok rfl hc.symm hA.sane hA.fresh (by omega) (by omega) hO.hops.1 (by omega) (copyHops O.word A x) (by rw [if_pos rfl]) (copiedNode O.word A x) (by
      unfold copiedNode
      simp only [hc, if_true]) rfl hH.sane hH.fresh (by rw [fH.1]; omega) rfl (fun j _ => fH.2.2.2.1) (fun j hj => by omega)
    refine key.mono ?_
    rintro e w' ⟨he, k', hk', hC', hF'⟩
    exact ⟨he, k', by rw [sumTo] at hk'; omega, hC', hF'⟩
  induction d with
  | zero =>
    intro len u x y k A w hO hC hA hy ht hk
    refine (step0 0 len u x y k A w hO hO.rep.2 hC hA hy ht hk).mono ?_
    rintro e w' ⟨he, k', hk', hC', hF'⟩
    have hown := own_cost O.word 0 x
    exact ⟨he, k', by omega, hC', hF'⟩
  | succ d ih =>
    intro len u x y k A w hO hC hA hy ht hk
    have hown := own_cost O.word (d + 1) x
    by_cases hc : ones 16 (nodeAt O.word x).ways = 0
    · have hw0 : (nodeAt O.word x).ways = 0 := by
        have hz := ones_zero_iff hc
        exact nat_bits16 hO.ok.2.1 (by decide) (fun i hi => by rw [hz i hi]; simp)
      refine (step0 (d + 1) len u x y k A w hO hw0 hC hA hy ht hk).mono ?_
      rintro e w' ⟨he, k', hk', hC', hF'⟩
      refine ⟨he, k', by omega, ?_, hF'⟩
      rw [copyN, if_pos hc]
      exact hC'
    · have fH := hops_facts O.word A x
      have hH := hA.hops (x := x) hWO (by omega)
      have hlt := hO.lt
      have hr16 := ones_le 16 (nodeAt O.word x).routes
      have hc16 := ones_le 16 (nodeAt O.word x).ways
      have hck := cost_kids O.word d x
      have hzA := hA.size
      have kf := kidB_facts hO.rep hWO hA ht
      have key := copyNode_step O A (copyHops O.word A x) (kidB O.word d (copyHops O.word A x) x) (fun j => 1 + costW O.word d ((nodeAt O.word x).children + 2 * j)) tb ab wb rb ab0 wb0 x y (ones 16 (nodeAt O.word x).routes) (ones 16 (nodeAt O.word x).ways) k (nodeAt O.word x) w hC hsO hlt.2 rfl hO.ok rfl rfl hA.sane hA.fresh (by omega) (by omega) hO.hops.1 (by omega) (kidB O.word d (copyHops O.word A x) x (ones 16 (nodeAt O.word x).ways)) (by rw [if_neg hc]) (copiedNode O.word A x) rfl rfl hH.sane hH.fresh (by rw [fH.1]; omega) rfl (fun j hj => (kf j hj).2.2) (by
        intro j hj w' kk hkk hCk
        obtain ⟨h1, h2, h3⟩ := kf j (by omega)
        obtain ⟨f, hf, hb, hfj⟩ := select (w := (nodeAt O.word x).ways) (k := j) (n := 16) hj
        have hOk := hO.kid hf hb
        have hkid : (nodeAt O.word x).kid f = (nodeAt O.word x).children + 2 * j := by unfold NodeD.kid; rw [hfj]
        rw [hkid] at hOk
        have hbelow := sum_below (fun k => costW O.word d ((nodeAt O.word x).children + 2 * k)) (q := j) (k := ones 16 (nodeAt O.word x).ways) hj
        have hsj := sum_one j (fun k => costW O.word d ((nodeAt O.word x).children + 2 * k))
        have := ih (len + 4) (16 * u + f) ((nodeAt O.word x).children + 2 * j) ((copyHops O.word A x).top + 2 * j) kk _ w' hOk hCk h1 (by rw [fH.1, h2]; omega) (by rw [h2, h3]; omega) (by omega)
        rw [show ((nodeAt O.word x).children : Int) + 2 * (j : Int) = (((nodeAt O.word x).children + 2 * j : Nat) : Int) by omega, show ((copyHops O.word A x).top : Int) + 2 * (j : Int) = (((copyHops O.word A x).top + 2 * j : Nat) : Int) by omega]
        refine this.mono ?_
        rintro e w'' ⟨he, k', hk', hC', hF'⟩
        exact ⟨he, k', by omega, by rw [kidB_succ]; exact hC', hF'⟩)
      refine key.mono ?_
      rintro e w' ⟨he, k', hk', hC', hF'⟩
      have hs1 := sum_one (ones 16 (nodeAt O.word x).ways) (fun k => costW O.word d ((nodeAt O.word x).children + 2 * k))
      refine ⟨he, k', by omega, ?_, hF'⟩
      rw [copyN, if_neg hc]
      exact hC'
end Go.Proofs.YtnapboelfimaaaaDoor
/- Compacting: the first bytes, and all. -/
namespace Go.Proofs.YtnapboelfimaaaaDoor
open Go.RowKit Go.Deep
theorem pk_firsts {W : Nat → Nat} {M : Tab} {q : Bool} {A : Ar} (R : Root W M (rt q) (dp q)) (hW : WOk W) (hA : Pk A) (h1 : 1024 ≤ A.top) (ht : A.top + costR W (rt q) (dp q) ≤ A.size) (b : Nat) (hb : b ≤ 256) : Pk (copyFirsts W q A b) ∧ (copyFirsts W q A b).top = A.top + sumTo b (cost1 W (rt q) (dp q)) ∧ (copyFirsts W q A b).size = A.size := by
  have hz := hA.size
  have f := firsts_ok R A h1 (by omega) b hb
  have hm := sum_mono (cost1 W (rt q) (dp q)) hb
  have hc : costR W (rt q) (dp q) = sumTo 256 (cost1 W (rt q) (dp q)) := rfl
  refine ⟨⟨fun s h1 h2 => by rw [f.given]; exact hA.fresh s h1 h2, ?_, by rw [f.top, f.size]; omega, by rw [f.size]; exact hz, copyFirsts_wok hW R A h1 (by omega) hA.wok b hb⟩, f.top, f.size⟩
  rw [f.free, f.top, f.size, hA.free]
  omega
theorem readFirst_cp (O A : Ar) (tb ab wb rb ab0 wb0 : Nat) (x : Int) (p k nd sh : Nat) (w : World) (h : Cp w tb ab wb rb ab0 wb0 O A k) (hs : Sane O) (hx : x = p) (hp : p < O.size) (hk : k ≤ 10000000000) (hnd : nd = O.word p % 65536) (hsh : sh = O.word p / 65536) (hsl : sh < 256) :
    Calls Tryd.prog 40 #[.pointer (some ⟨rb, 0, none⟩), .int .i64 x] w fun e w' => e = .returned (.agg #[.int .i64 (nd : Int), .int .u8 (sh : Int)]) ∧ Cp w' tb ab wb rb ab0 wb0 O A (k + 1) ∧ Fr [rb] w w' := by
  subst hnd hsh
  refine (readFirst_any O ab0 wb0 rb x p k w h.old hs hx hp hsl h.rd (by omega) (by omega)).mono ?_
  rintro e w' ⟨rfl, hA, hr, hF⟩
  exact ⟨rfl, h.read hF hA (by rw [show ((k + 1 : Nat) : Int) = (k : Int) + 1 by omega]; exact hr), hF⟩
set_option maxHeartbeats 4000000 in
set_option maxRecDepth 10000 in
theorem copyFirsts_any (O A : Ar) (M : Tab) (q : Bool) (tb ab wb rb ab0 wb0 k : Nat) (x : Int) (w : World) (h : Cp w tb ab wb rb ab0 wb0 O A k) (hsO : Sane O) (hOs : 1024 ≤ O.size) (R : Root O.word M (rt q) (dp q)) (hOn : ∀ b, b < 256 → O.word (rt q + b) % 65536 ≠ 0 → On O M (dp q) 8 b (O.word (rt q + b) % 65536)) (hA : Pk A) (h1 : 1024 ≤ A.top) (ht : A.top + costR O.word (rt q) (dp q) ≤ A.size) (hx : x = rt q) (hk : k + 1000000 ≤ 800000000) :
    Calls Tryd.prog 85 #[.pointer (some ⟨tb, 0, none⟩), .pointer (some ⟨rb, 0, none⟩), .int .i64 x] w fun e w' => e = .returned (.tuple #[]) ∧ ∃ k', k' ≤ k + 256 + costR O.word (rt q) (dp q) ∧ Cp w' tb ab wb rb ab0 wb0 O (copyFirsts O.word q A 256) k' ∧ Fr [rb, ab, wb] w w' := by
  have hrt := rt_le q
  have hzA := hA.size
  have pk := pk_firsts R hsO.word hA h1 ht
  have hc : costR O.word (rt q) (dp q) = sumTo 256 (cost1 O.word (rt q) (dp q)) := rfl
  obtain ⟨st, hst⟩ : ∃ st, st = rt q := ⟨_, rfl⟩
  rw [← hst] at hx hrt
  subst hx
  have hst' : (st : Int) ≤ 512 := by omega
  have hra := h.ra
  have hrw := h.rw'
  have hrt2 := h.rt
  have hra0 := h.ra0
  have hrw0 := h.rw0
  have ne1 := h.n1
  have ne2 := h.n2
  have ne3 := h.n3
  have ne4 := h.n4
  have hla := h.tab.ar.la
  have hlw := h.tab.ar.lw
  have hlt := h.tab.lt
  have hl0 := h.old.la
  have hlw0 := h.old.lw
  have hlr := h.lr
  have hna := h.tab.na
  have hnw := h.tab.nw
  have htw1 : tb ∉ [wb] := by simpa using hnw
  have HC0 := hide h
  have HST := hide hst
  clear h hst
  go_enter Tryd.func85, Tryd.ntmps85
  go_wp2_with fail
  go_loopw [6] (fun iv wr => ∃ (b kk : Nat), iv = .int .i64 ((st : Int) + (b : Int)) ∧ b ≤ 256 ∧ kk ≤ k + b + sumTo b (cost1 O.word (rt q) (dp q)) ∧ Cp wr tb ab wb rb ab0 wb0 O (copyFirsts O.word q A b) kk ∧ Fr [rb, ab, wb] w wr) (fun iv _ => 256 - (intOf iv - (st : Int)).toNat)
  case atStart => exact ⟨0, k, congrArg (Value.int .i64) (by omega), by omega, by rw [sumTo]; omega, HC0.out, Fr.refl _ _⟩
  case round =>
    obtain ⟨b, kk, rfl, hb, hkk, hC, hF⟩ := hrel
    obtain ⟨hPk, hTop, hSz⟩ := pk b hb
    have HC := hide hC
    have HF := hide hF
    have hwr := hF.size
    clear hC hF
    by_cases hb2 : b < 256
    · have hb3 : (b : Int) < 256 := by omega
      have hmono := sum_mono (cost1 O.word (rt q) (dp q)) (show b + 1 ≤ 256 by omega)
      have hsucc := copyFirsts_succ O.word q A b
      have hmb := sum_mono (cost1 O.word (rt q) (dp q)) (show b ≤ 256 by omega)
      have hs1 : sumTo (b + 1) (cost1 O.word (rt q) (dp q)) = sumTo b (cost1 O.word (rt q) (dp q)) + cost1 O.word (rt q) (dp q) b := rfl
      obtain ⟨pl, hpl⟩ : ∃ pl, pl = rt q + b := ⟨_, rfl⟩
      obtain ⟨nd, hnd⟩ : ∃ nd, nd = O.word pl % 65536 := ⟨_, rfl⟩
      obtain ⟨sh, hsh⟩ : ∃ sh, sh = O.word pl / 65536 := ⟨_, rfl⟩
      have hshl : sh < 256 := by rw [hsh, hpl]; exact R.lt b hb2
      have hndl : nd < 65536 := by rw [hnd]; exact Nat.mod_lt _ (by decide)
      have hstb : st + b = pl := by rw [HST.out, hpl]
      obtain ⟨Af, hAf⟩ : ∃ Af, Af = copyFirsts O.word q A b := ⟨_, rfl⟩
      rw [← hAf] at HC hPk hTop hSz hsucc
      have HRF := hide (fun (w : World) (h : Cp w tb ab wb rb ab0 wb0 O Af kk) => readFirst_cp O Af tb ab wb rb ab0 wb0 ((st : Int) + (b : Int)) pl kk nd sh w h hsO (by omega) (by omega) (by omega) hnd hsh hshl)
      have hplA : pl < A.size := by omega
      go_wp2_with fail
      refine (HRF.out _ HC.out).mono ?_
      rintro e w1 ⟨rfl, hC1, hF1⟩
      have HF1 := hide (Fr.after HF.out hF1 (fun y hy => Or.inl (by simp at hy ⊢; exact Or.inl hy)) : Fr [rb, ab, wb] w w1)
      have HC1 := hide hC1
      have hw1 := HF1.out.size
      have hw1b := hC1.lr
      clear hC1 hF1
      by_cases hnd0 : nd = 0
      · have hnd1 : (nd : Int) ≤ 0 := by omega
        obtain ⟨p, hp⟩ : ∃ p, p = nd := ⟨_, rfl⟩
        obtain ⟨wq, hwq⟩ : ∃ wq, wq = w1.alloc (.cells #[.int .i64 (nd : Int), .int .u8 (sh : Int)] 90) := ⟨_, rfl⟩
        obtain ⟨fb, hfb⟩ : ∃ fb, fb = w1.heap.size := ⟨_, rfl⟩
        have bf : wq.heap[fb]? = some (.cells #[.int .i64 (p : Int), .int .u8 (sh : Int)] 90 (0, 0)) := by rw [hwq, hfb, hp]; exact heap_alloc_new _ _
        have hBq : Below w1.heap.size w1 wq := by rw [hwq]; exact ext_alloc _ _
        have HCQ := hide (HC1.out.ext hBq)
        have HFQ := hide (Fr.after HF1.out (fr_below (S := []) hBq) (fun y hy => by cases hy) : Fr [rb, ab, wb] w wq)
        have HTW := hide HCQ.out.tab
        have hltq := HTW.out.lt
        have hlfq := lt_of_block bf
        have hfw : fb ∉ [wb] := by simp; omega
        have HWQ := hide hwq
        have HFB := hide hfb
        have KS : ∀ w', Fr [wb] wq w' → (fun w' : World => Fr [wb] wq w' ∧ w'.cell? ⟨tb, 0, none⟩ = some (.pointer (some ⟨ab, 0, none⟩)) ∧ w'.cell? ⟨fb, 0, none⟩ = some (.int .i64 (p : Int)) ∧ w'.cell? ⟨fb, 1, none⟩ = some (.int .u8 (sh : Int))) w' := fun w' hf => ⟨hf, HTW.out.frw hf htw1, (cells2 (hf.at bf hfw)).1, (cells2 (hf.at bf hfw)).2.1⟩
        simp only [] at KS
        have HE := hide (show ({ Af with word := setW Af.word pl (p + 65536 * sh) } : Ar) = copyFirsts O.word q A (b + 1) by
          rw [hsucc, hp, hnd0, Nat.zero_add]
          unfold copyFirst1
          rw [← hpl, ← hnd, if_pos hnd0, ← hsh])
        have hkk2 : kk + 1 ≤ k + (b + 1) + sumTo (b + 1) (cost1 O.word (rt q) (dp q)) := by rw [sumTo]; omega
        have hpl65 : p < 65536 := by omega
        clear hwq hfb hBq hp hnd hsh hAf hsucc hnd0 hpl hTop
        go_wp2_with fail
        rw [← HWQ.out, ← HFB.out]
        go_region_held3 (fun w' : World => Fr [wb] wq w' ∧ w'.cell? ⟨tb, 0, none⟩ = some (.pointer (some ⟨ab, 0, none⟩)) ∧ w'.cell? ⟨fb, 0, none⟩ = some (.int .i64 (p : Int)) ∧ w'.cell? ⟨fb, 1, none⟩ = some (.int .u8 (sh : Int))) (with_reducible (first | assumption | exact KS _ (fr_below (drew_ext wq)) | exact KS _ (by assumption) | exact KS _ (fr_below (by assumption)) | exact KS _ (fr_below (ext_trans (by assumption) (ext_alloc _ _))) | exact KS _ (fr_below (Below.drew (ext_alloc _ _))) | exact KS _ (Fr.alloc (by assumption) _) | (refine KS _ (Fr.setCell (Fr.setCell (by assumption) (Or.inr ?_) _) (Or.inr ?_) _) <;> first | assumption | exact Nat.le_refl _))) ((go_at_call 102; refine (writeFirst_any Af ab wb ((st : Int) + (b : Int)) pl p sh _ HTW.out.ar.drew (by omega) hshl (by omega) (by omega)).mono ?_; rintro e w7 ⟨rfl, hA7, hF7⟩; have F7 := (Fr.after (fr_below (drew_ext wq)) hF7 (fun y hy => Or.inl hy) : Fr [wb] wq w7); clear hF7))
        have hT7 := HTW.out.of F7 htw1 hA7
        rw [HE.out] at hT7
        have HX := hide (And.intro (HCQ.out.ofw F7 hT7) (Fr.after HFQ.out F7 (fun y hy => Or.inl (by simp at hy ⊢; exact Or.inr (Or.inr hy))) : Fr [rb, ab, wb] w w7))
        clear KS F7 hA7 hT7
        go_wp2
        go_roundw
        case rel => exact ⟨b + 1, kk + 1, congrArg (Value.int .i64) (by omega), by omega, hkk2, HX.out⟩
        case measure => simp [intOf]; omega
      · have hnd1 : (0 : Int) < (nd : Int) := by omega
        have hcost : cost1 O.word (rt q) (dp q) b = 2 + costW O.word (dp q) nd := by
          unfold cost1
          rw [← hpl, ← hnd, if_neg hnd0]
        have hOnb := hOn b hb2 (by rw [← hpl, ← hnd]; exact hnd0)
        rw [← hpl, ← hnd] at hOnb
        have HMT := hide (fun (w : World) (h : TabAt w tb ab wb Af) => mustTake_any Af tb ab wb 2 2 w h hPk.sane hPk.fresh rfl (by omega) (by omega) (by omega))
        have hPk2 := hPk.bump (n := 2) (by omega)
        have HCN := hide (fun (w : World) (h : Cp w tb ab wb rb ab0 wb0 O (Af.bump 2) (kk + 1)) => copyNode_any (M := M) O hsO (dp q) 8 b nd Af.top (kk + 1) (Af.bump 2) w hOnb h hPk2 (Nat.le_refl _) (by show Af.top + 2 + costW O.word (dp q) nd ≤ Af.size; omega) (by omega))
        obtain ⟨p, hp⟩ : ∃ p, p = Af.top := ⟨_, rfl⟩
        rw [← hp] at HMT HCN
        have HE := hide (show ({ copyN O.word (dp q) (Af.bump 2) nd p with word := setW (copyN O.word (dp q) (Af.bump 2) nd p).word pl (p + 65536 * sh) } : Ar) = copyFirsts O.word q A (b + 1) by
          rw [hsucc, hp]
          unfold copyFirst1
          rw [← hpl, ← hnd, if_neg hnd0, ← hsh])
        have hCs : (copyN O.word (dp q) (Af.bump 2) nd p).size = A.size := by
          have := (copy_ok (W := O.word) (M := M) (dp q) 8 b nd p (Af.bump 2) hOnb.rep (by rw [hp]; exact Nat.le_refl _) (by show Af.top + 2 + costW O.word (dp q) nd ≤ 65536; omega)).size
          rw [this]
          exact hSz
        obtain ⟨C, hC⟩ : ∃ C, C = copyN O.word (dp q) (Af.bump 2) nd p := ⟨_, rfl⟩
        rw [← hC] at HCN HE hCs
        have hpA : p < 65536 := by omega
        have hkk2 : ∀ k', k' ≤ kk + 1 + 1 + costW O.word (dp q) nd → k' ≤ k + (b + 1) + sumTo (b + 1) (cost1 O.word (rt q) (dp q)) := fun k' hk' => by omega
        have hplC : pl < C.size := by omega
        obtain ⟨w2, hw2⟩ : ∃ w2, w2 = w1.alloc (.cells #[.int .i64 (nd : Int), .int .u8 (sh : Int)] 90) := ⟨_, rfl⟩
        obtain ⟨fb, hfb⟩ : ∃ fb, fb = w1.heap.size := ⟨_, rfl⟩
        have bf : w2.heap[fb]? = some (.cells #[.int .i64 (nd : Int), .int .u8 (sh : Int)] 90 (0, 0)) := by rw [hw2, hfb]; exact heap_alloc_new _ _
        have hB2 : Below w1.heap.size w1 w2 := by rw [hw2]; exact ext_alloc _ _
        have HC2 := hide (HC1.out.ext hB2)
        have HF2 := hide (Fr.after HF1.out (fr_below (S := []) hB2) (fun y hy => by cases hy) : Fr [rb, ab, wb] w w2)
        have HW2 := hide hw2
        have HFB := hide hfb
        have hlf2 := lt_of_block bf
        have hfs : fb ∉ [ab, wb] := by simp; omega
        have hf3 : fb ∉ [rb, ab, wb] := by simp; omega
        have hfw : fb ∉ [wb] := by simp; omega
        have hft : tb ≠ fb := by omega
        have hfa : ab ≠ fb := by omega
        have hfw0 : wb ≠ fb := by omega
        have hfr : rb ≠ fb := by omega
        have hfa0 : ab0 ≠ fb := by omega
        have hfw00 : wb0 ≠ fb := by omega
        have hwfb : w.heap.size ≤ fb := by omega
        clear hw2 hfb hB2 hnd hsh hAf hsucc hnd0 hpl hTop hC hp hcost hCs hPk2 hOnb
        go_wp2_with fail
        rw [← HW2.out, ← HFB.out]
        refine (HMT.out _ HC2.out.tab).mono ?_
        rintro e w3 ⟨rfl, hT3, hF3⟩
        have bf3 := hF3.at bf hfs
        have bb3 := heap_alloc_new w3 (.cells #[.int .i64 (p : Int), .int .i64 2] 146)
        have hB4 := ext_alloc w3 (.cells #[.int .i64 (p : Int), .int .i64 2] 146)
        have HC3 := hide ((HC2.out.of hF3 hT3).ext hB4)
        have HF3 := hide ((Fr.after HF2.out hF3 (fun y hy => Or.inl (by simp at hy ⊢; exact Or.inr hy)) : Fr [rb, ab, wb] w w3).alloc (.cells #[.int .i64 (p : Int), .int .i64 2] 146))
        have bf4 := block_ext bf3 hB4
        have HBF4 := hide bf4
        have HBB3 := hide bb3
        have hlf3 := lt_of_block bf3
        obtain ⟨k0, k1, k2, k3⟩ := cells2 bf3
        have hsz3 : w.heap.size ≤ w3.heap.size := by omega
        clear hT3 hF3 bf4 hB4 bb3 bf bf3
        go_wp2_with fail
        refine (HCN.out _ HC3.out).mono ?_
        rintro e w5 ⟨rfl, k', hk', hC5, hF5⟩
        have hb3 : w3.heap.size ∉ [rb, ab, wb] := by simp; omega
        have bf5 := hF5.at HBF4.out hf3
        have bb5 := hF5.at HBB3.out hb3
        obtain ⟨g0, g1, g2, g3⟩ := cells2 bb5
        obtain ⟨m0, m1, m2, m3⟩ := cells2 bf5
        have hF5' := (Fr.after HF3.out hF5 (fun y hy => Or.inl hy) : Fr [rb, ab, wb] w w5)
        have hl5 := lt_of_block bf5
        have hlb5 := lt_of_block bb5
        have bfq := heap_setCell_at (off := 0) (.int .i64 (p : Int)) bf5
        have hCq := hC5.other (off := 0) (v := .int .i64 (p : Int)) hft hfa hfw0 hfr hfa0 hfw00
        have hFq := hF5'.setCell (off := 0) (Or.inr hwfb) (.int .i64 (p : Int))
        obtain ⟨wq, hwq⟩ : ∃ wq, wq = w5.setCell ⟨fb, 0, none⟩ (.int .i64 (p : Int)) := ⟨_, rfl⟩
        rw [← hwq] at bfq hCq hFq
        have bf : wq.heap[fb]? = some (.cells #[.int .i64 (p : Int), .int .u8 (sh : Int)] 90 (0, 0)) := bfq
        have HWQ := hide hwq
        have HCQ := hide hCq
        have HFQ := hide hFq
        have HTW := hide hCq.tab
        have hltq := HTW.out.lt
        have hlfq := lt_of_block bf
        have KS : ∀ w', Fr [wb] wq w' → (fun w' : World => Fr [wb] wq w' ∧ w'.cell? ⟨tb, 0, none⟩ = some (.pointer (some ⟨ab, 0, none⟩)) ∧ w'.cell? ⟨fb, 0, none⟩ = some (.int .i64 (p : Int)) ∧ w'.cell? ⟨fb, 1, none⟩ = some (.int .u8 (sh : Int))) w' := fun w' hf => ⟨hf, HTW.out.frw hf htw1, (cells2 (hf.at bf hfw)).1, (cells2 (hf.at bf hfw)).2.1⟩
        simp only [] at KS
        clear hwq hC5 hF5 hF5' bf5 bb5 bfq hCq hFq k0 k1 k2 k3
        go_wp2_with fail
        rw [← HWQ.out]
        clear g0 g1 g2 g3 m0 m1 m2 m3
        go_region_held3 (fun w' : World => Fr [wb] wq w' ∧ w'.cell? ⟨tb, 0, none⟩ = some (.pointer (some ⟨ab, 0, none⟩)) ∧ w'.cell? ⟨fb, 0, none⟩ = some (.int .i64 (p : Int)) ∧ w'.cell? ⟨fb, 1, none⟩ = some (.int .u8 (sh : Int))) (with_reducible (first | assumption | exact KS _ (fr_below (drew_ext wq)) | exact KS _ (by assumption) | exact KS _ (fr_below (by assumption)) | exact KS _ (fr_below (ext_trans (by assumption) (ext_alloc _ _))) | exact KS _ (fr_below (Below.drew (ext_alloc _ _))) | exact KS _ (Fr.alloc (by assumption) _) | (refine KS _ (Fr.setCell (Fr.setCell (by assumption) (Or.inr ?_) _) (Or.inr ?_) _) <;> first | assumption | exact Nat.le_refl _))) ((go_at_call 102; refine (writeFirst_any C ab wb ((st : Int) + (b : Int)) pl p sh _ HTW.out.ar.drew hpA hshl (by omega) hplC).mono ?_; rintro e w7 ⟨rfl, hA7, hF7⟩; have F7 := (Fr.after (fr_below (drew_ext wq)) hF7 (fun y hy => Or.inl hy) : Fr [wb] wq w7); clear hF7))
        have hT7 := HTW.out.of F7 htw1 hA7
        rw [HE.out] at hT7
        have HX := hide (And.intro (HCQ.out.ofw F7 hT7) (Fr.after HFQ.out F7 (fun y hy => Or.inl (by simp at hy ⊢; exact Or.inr (Or.inr hy))) : Fr [rb, ab, wb] w w7))
        have hk2 := hkk2 k' hk'
        clear KS F7 hA7 hT7
        go_wp2
        go_roundw
        case rel => exact ⟨b + 1, k', congrArg (Value.int .i64) (by omega), by omega, hk2, HX.out⟩
        case measure => simp [intOf]; omega
    · have hb4 : b = 256 := by omega
      subst hb4
      go_wp2
      go_end0
      exact ⟨rfl, kk, by omega, HC.out, HF.out⟩
end Go.Proofs.YtnapboelfimaaaaDoor
/- Compact. -/
namespace Go.Proofs.YtnapboelfimaaaaDoor
open Go.RowKit Go.Deep
theorem made_words (n : Nat) : madeCells #[Value.int .u32 0] n = (wordCells (newAr n)).toArray := by
  unfold madeCells wordCells
  apply Array.ext'
  simp [newAr]
  intro a _
  rw [Nat.mod_one]
  rfl
theorem arena_new (n bw : Nat) : arenaCells n bw = (arCells bw (newAr n)).toArray := by
  unfold arenaCells arCells
  rfl
/-- the arena ahead of the first, of the second round, and behind them -/
def stage (W : Nat → Nat) (n : Nat) : Nat → Ar
  | 0 => newAr n
  | 1 => copyShorts W false (copyFirsts W false (newAr n) 256)
  | _ => compactN W n
def midst (W : Nat → Nat) (n : Nat) : Nat → Ar
  | 0 => copyFirsts W false (newAr n) 256
  | _ => copyFirsts W true (copyShorts W false (copyFirsts W false (newAr n) 256)) 256
theorem src_stage {O : Ar} {M : Bool → Tab} (h : Src O M) : Pk (newAr O.size) ∧ Pk (stage O.word O.size 1) ∧ (stage O.word O.size 1).size = O.size ∧ 1024 ≤ (stage O.word O.size 1).top ∧ (stage O.word O.size 1).top + costR O.word (rt true) (dp true) ≤ O.size := by
  have h0 : Pk (newAr O.size) := pk_new (by have := h.size; omega) h.size2
  have hf := h.fits
  have f := pk_firsts (h.root false) h.wok h0 (Nat.le_refl _) (by show 1024 + _ ≤ O.size; omega) 256 (Nat.le_refl _)
  have hc : costR O.word (rt false) (dp false) = sumTo 256 (cost1 O.word (rt false) (dp false)) := rfl
  refine ⟨h0, f.1.setw (wok_fill f.1.wok h.wok), f.2.2, ?_, ?_⟩
  · show 1024 ≤ (copyFirsts O.word false (newAr O.size) 256).top
    rw [f.2.1]
    exact Nat.le_add_right _ _
  · show (copyFirsts O.word false (newAr O.size) 256).top + _ ≤ _
    rw [f.2.1]
    show 1024 + _ + _ ≤ _
    omega
theorem stage_mid (W : Nat → Nat) (n j : Nat) (hj : j < 2) : ({ midst W n j with word := fillW (midst W n j).word W (512 * j + 256) (512 * j + 256) 256 } : Ar) = stage W n (j + 1) := by
  match j, hj with
  | 0, _ => rfl
  | 1, _ => rfl
set_option maxHeartbeats 2000000 in
set_option maxRecDepth 10000 in
theorem compact_any (O : Ar) (M : Bool → Tab) (tb ab0 wb0 : Nat) (w : World) (h : TabAt w tb ab0 wb0 O) (hS : Src O M) (hsO : Sane O) :
    Calls Tryd.prog 76 #[.pointer (some ⟨tb, 0, none⟩)] w fun e w' => e = .returned (.tuple #[]) ∧ (∃ ab wb, w.heap.size ≤ ab ∧ w.heap.size ≤ wb ∧ TabAt w' tb ab wb (compactN O.word O.size)) ∧ Fr [tb] w w' := by
  obtain ⟨pk0, pk1, sz1, tp1, ft1⟩ := src_stage hS
  have hsz := hS.size
  have hsz2 := hS.size2
  have hfit := hS.fits
  have HCF := hide (fun (tb ab wb rb : Nat) (j k : Nat) (hj : j < 2) (w : World) (h : Cp w tb ab wb rb ab0 wb0 O (stage O.word O.size j) k) (hk : k ≤ 200000 * j) => (show Calls Tryd.prog 85 #[.pointer (some ⟨tb, 0, none⟩), .pointer (some ⟨rb, 0, none⟩), .int .i64 (512 * (j : Int))] w (fun e w' => e = .returned (.tuple #[]) ∧ ∃ k', k' ≤ 200000 * j + 100000 ∧ Cp w' tb ab wb rb ab0 wb0 O (midst O.word O.size j) k' ∧ Fr [rb, ab, wb] w w') by
    match j, hj with
    | 0, _ =>
      refine (copyFirsts_any O (newAr O.size) (M false) false tb ab wb rb ab0 wb0 k _ w h hsO (by omega) (hS.root false) (fun b hb h0 => hS.on false hb h0) pk0 (Nat.le_refl _) (by show 1024 + _ ≤ O.size; omega) (by rfl) (by omega)).mono ?_
      rintro e w' ⟨he, k', hk', hC, hF⟩
      exact ⟨he, k', by omega, hC, hF⟩
    | 1, _ =>
      refine (copyFirsts_any O (stage O.word O.size 1) (M true) true tb ab wb rb ab0 wb0 k _ w h hsO (by omega) (hS.root true) (fun b hb h0 => hS.on true hb h0) pk1 tp1 (by rw [sz1]; exact ft1) (by rfl) (by omega)).mono ?_
      rintro e w' ⟨he, k', hk', hC, hF⟩
      exact ⟨he, k', by omega, hC, hF⟩))
  have hms : ∀ j, j < 2 → (midst O.word O.size j).size = O.size := by
    intro j hj
    have := stage_mid O.word O.size j hj
    match j, hj with
    | 0, _ => exact (pk_firsts (hS.root false) hS.wok pk0 (Nat.le_refl _) (by show 1024 + _ ≤ O.size; omega) 256 (Nat.le_refl _)).2.2
    | 1, _ => exact ((pk_firsts (hS.root true) hS.wok pk1 tp1 (by rw [sz1]; exact ft1) 256 (Nat.le_refl _)).2.2).trans sz1
  have HCW := hide (fun (tb ab wb rb : Nat) (j k : Nat) (hj : j < 2) (w : World) (h : Cp w tb ab wb rb ab0 wb0 O (midst O.word O.size j) k) (hk : k ≤ 200000 * j + 100000) => (show Calls Tryd.prog 86 #[.pointer (some ⟨tb, 0, none⟩), .pointer (some ⟨rb, 0, none⟩), .int .i64 (512 * (j : Int) + 256), .agg #[.int .i64 (512 * (j : Int) + 256), .int .i64 256]] w (fun e w' => e = .returned (.tuple #[]) ∧ ∃ k', k' ≤ 200000 * (j + 1) ∧ Cp w' tb ab wb rb ab0 wb0 O (stage O.word O.size (j + 1)) k' ∧ Fr [rb, ab, wb] w w') by
    have hm := hms j hj
    refine (copyWords_any O (midst O.word O.size j) tb ab wb rb ab0 wb0 (512 * j + 256) (512 * j + 256) 256 k _ _ _ w h (by push_cast; rfl) (by push_cast; rfl) rfl (by omega) (by omega) hsz2 (by omega) (by omega)).mono ?_
    rintro e w' ⟨he, hC, hF⟩
    rw [stage_mid O.word O.size j hj] at hC
    exact ⟨he, k + 256, by omega, hC, hF.mono (fun y hy _ => by simp at hy ⊢; omega)⟩))
  have hla := h.ar.la
  have hlw := h.ar.lw
  have hlt := h.lt
  have hna := h.na
  have hnw := h.nw
  have c0 := h.cell
  have ft := free_at h.tab 0
  have HT := hide h
  have HSZ := hide (fun (w : World) (h : ArAt w ab0 wb0 O) => asize_any O ab0 wb0 w h)
  have HNW := hide (fun (w : World) => arenaNew_any O.size w hsz hsz2)
  have hszI : (O.size : Int) ≤ 65536 := by omega
  clear h
  go_enter Tryd.func76, Tryd.ntmps76
  go_wp2_with fail
  refine (reader_any ab0 _).mono ?_
  rintro e w1 ⟨rfl, hb1⟩
  have c1 := (HT.out.ext hb1).cell
  have f1 := free_at (block_ext HT.out.tab hb1) 0
  have hl1 := hb1.size
  have hlt1 : tb < w1.heap.size := by omega
  have HB1 := hide (ext_trans hb1 (ext_alloc w1 (.cells #[.pointer (some ⟨ab0, 0, none⟩), .int .i64 0] 65)))
  have HT1 := hide (HT.out.ext HB1.out)
  have HR1 := hide (heap_alloc_new w1 (.cells #[.pointer (some ⟨ab0, 0, none⟩), .int .i64 0] 65))
  clear hb1
  go_wp2_with fail
  refine (HSZ.out _ HT1.out.ar).mono ?_
  rintro e w2 ⟨rfl, rfl⟩
  go_wp2_with fail
  refine (HNW.out _).mono ?_
  rintro e w3 ⟨rfl, rfl⟩
  obtain ⟨wr, hwr⟩ : ∃ wr, wr = w1.alloc (.cells #[.pointer (some ⟨ab0, 0, none⟩), .int .i64 0] 65) := ⟨_, rfl⟩
  obtain ⟨rb, hrb⟩ : ∃ rb, rb = w1.heap.size := ⟨_, rfl⟩
  rw [← hwr] at HB1 HT1 HR1 ⊢
  rw [← hrb] at HR1
  have hlr := lt_of_block HR1.out
  obtain ⟨wy, hwy⟩ : ∃ wy, wy = (wr.alloc (.cells (madeCells #[.int .u32 0] O.size) 110)).alloc (.cells (arenaCells O.size wr.heap.size) 104) := ⟨_, rfl⟩
  have hwor : wy.heap[wr.heap.size]? = some (.cells (wordCells (newAr O.size)).toArray 110 (0, 0)) := by rw [hwy, ← made_words]; exact block_ext (heap_alloc_new _ _) (ext_alloc _ _)
  have harn : wy.heap[wr.heap.size + 1]? = some (.cells (arCells wr.heap.size (newAr O.size)).toArray 104 (0, 0)) := by
    rw [hwy, ← arena_new, ← World.size_alloc wr (.cells (madeCells #[.int .u32 0] O.size) 110)]
    exact heap_alloc_new _ _
  have hBy : Below wr.heap.size wr wy := by rw [hwy]; exact ext_trans (ext_alloc _ _) (ext_alloc _ _)
  have hTy := HT1.out.ext hBy
  have hRy := block_ext HR1.out hBy
  have hsy := hBy.size
  have hlta := lt_of_block harn
  rw [← hwy, ← hrb]
  obtain ⟨wb, hwb⟩ : ∃ wb, wb = wr.heap.size := ⟨_, rfl⟩
  obtain ⟨ab, hab⟩ : ∃ ab, ab = wr.heap.size + 1 := ⟨_, rfl⟩
  rw [← hab, ← hwb] at harn
  rw [← hwb] at hwor
  rw [← hab]
  have hltr : w.heap.size ≤ rb := by omega
  have hsr : rb < wr.heap.size := hlr
  have cy := hTy.cell
  have fy := free_at hTy.tab 0
  have hty := hTy.lt
  have hR2 := (Below.heap_setCell wy ⟨tb, 0, none⟩ (.pointer (some ⟨ab, 0, none⟩)) rb (by show rb ≠ tb; omega)).trans hRy
  have hO2 := hTy.ar.other (b := tb) (off := 0) (v := .pointer (some ⟨ab, 0, none⟩)) (by omega) (by omega)
  have hw2 := (Below.heap_setCell wy ⟨tb, 0, none⟩ (.pointer (some ⟨ab, 0, none⟩)) wb (by show wb ≠ tb; omega)).trans hwor
  have ha2 := (Below.heap_setCell wy ⟨tb, 0, none⟩ (.pointer (some ⟨ab, 0, none⟩)) ab (by show ab ≠ tb; omega)).trans harn
  have ht2 := heap_setCell_at (off := 0) (.pointer (some ⟨ab, 0, none⟩)) hTy.tab
  have hF2 : Fr [tb] w (wy.setCell ⟨tb, 0, none⟩ (.pointer (some ⟨ab, 0, none⟩))) := (fr_below (ext_trans HB1.out hBy) : Fr [tb] w wy).setCell (Or.inl (by simp)) _
  obtain ⟨wz, hwz⟩ : ∃ wz, wz = wy.setCell ⟨tb, 0, none⟩ (.pointer (some ⟨ab, 0, none⟩)) := ⟨_, rfl⟩
  rw [← hwz] at hR2 hO2 hw2 ha2 ht2 hF2
  have hC2 : Cp wz tb ab wb rb ab0 wb0 O (stage O.word O.size 0) 0 := ⟨⟨ht2, ⟨ha2, hw2⟩⟩, hO2, hR2, by omega, by omega, by omega, by omega⟩
  have HC2 := hide hC2
  have HF2 := hide hF2
  have HWZ := hide hwz
  have hwwb : w.heap.size ≤ wb := by omega
  have hwab : w.heap.size ≤ ab := by omega
  clear hwr hrb hwy hwor harn hBy hTy hRy hwb hab hR2 hO2 hw2 ha2 ht2 hF2 hC2 hwz
  go_wp2_with fail
  rw [← HWZ.out]
  clear cy fy
  go_loopw [3] (fun iv wr => ∃ (j k : Nat), iv = .int .i64 (512 * (j : Int)) ∧ j ≤ 2 ∧ k ≤ 200000 * j ∧ Cp wr tb ab wb rb ab0 wb0 O (stage O.word O.size j) k ∧ Fr [tb] w wr) (fun iv _ => 1024 - (intOf iv).toNat)
  case atStart => exact ⟨0, 0, rfl, by omega, by omega, HC2.out, HF2.out⟩
  case round =>
    obtain ⟨j, k, rfl, hj, hk, hC, hF⟩ := hrel
    have HC := hide hC
    have HF := hide hF
    have hww := hF.size
    clear hC hF
    have hself : ∀ (w1 w2 : World), Fr [tb] w w1 → Fr [rb, ab, wb] w1 w2 → Fr [tb] w w2 := fun w1 w2 h1 h2 => Fr.after h1 h2 (fun y hy => by
      simp at hy
      rcases hy with rfl | rfl | rfl
      · exact Or.inr hltr
      · exact Or.inr hwab
      · exact Or.inr hwwb)
    have HSELF := hide hself
    clear hself
    by_cases hj2 : j < 2
    · have hj3 : (j : Int) < 2 := by omega
      go_wp2_with fail
      refine (HCF.out tb ab wb rb j k hj2 _ HC.out hk).mono ?_
      rintro e w4 ⟨rfl, k4, hk4, hC4, hF4⟩
      have HC4 := hide hC4
      have HF4 := hide (HSELF.out _ _ HF.out hF4)
      clear hC4 hF4
      go_wp2_with fail
      refine (HCW.out tb ab wb rb j k4 hj2 _ HC4.out hk4).mono ?_
      rintro e w5 ⟨rfl, k5, hk5, hC5, hF5⟩
      have HC5 := hide hC5
      have HF5 := hide (HSELF.out _ _ HF4.out hF5)
      clear hC5 hF5
      go_wp2
      go_roundw
      case rel => exact ⟨j + 1, k5, congrArg (Value.int .i64) (by omega), by omega, hk5, HC5.out, HF5.out⟩
      case measure => simp [intOf]; omega
    · have hj3 : j = 2 := by omega
      subst hj3
      go_wp2
      go_end0
      exact ⟨rfl, ⟨ab, wb, hwab, hwwb, HC.out.tab⟩, HF.out⟩
end Go.Proofs.YtnapboelfimaaaaDoor
