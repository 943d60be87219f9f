/- Proved: many operations at once answer what they answer one by one (statement Batch), for every number and every list of operations. This text: LBa, BatchP: parts of the proof, one behind the other. -/
import Derived.Test.YtnapboelfimaaaaDoorK40
/- The law Batch, walked. -/
namespace Go.Proofs.YtnapboelfimaaaaDoor
open Go.RowKit Go.Deep
set_option maxHeartbeats 4000000 in
set_option maxRecDepth 10000 in
theorem batch_walk (n : Int) (h1 : -9223372036854775808 ≤ n) (h2 : n ≤ 9223372036854775807) (ao : Option Addr) (cap : Nat) (ops : List OpD) (w : World) (hO : OpsOn w ao ops) (hlen : ops.length ≤ 2932031007402) (hZ : TzTab w) :
    Calls Tryd.prog 5 #[.int .i64 n, .slice ao ops.length cap] w fun e w' => e = .returned (.bool true) ∧ Below w.heap.size w w' := by
  obtain ⟨N, hN⟩ : ∃ N, N = wordsN n := ⟨_, rfl⟩
  have hNi := wordsN_in n
  have HWO := hide (fun w => words_any n w h1 h2)
  rw [← hN] at hNi HWO
  clear hN
  have hS : (St.new N).ok := new_ok hNi.1 hNi.2
  obtain ⟨S, hSd⟩ : ∃ S, S = St.new N := ⟨_, rfl⟩
  have HSD := hide hSd
  rw [← hSd] at hS
  clear hSd
  have HO := hide hO
  have HZ := hide hZ
  have HS := hide hS
  obtain ⟨m, hm⟩ : ∃ m, m = ops.length := ⟨_, rfl⟩
  have HM := hide hm
  rw [← hm] at hlen ⊢
  clear hO hZ hS hm
  go_enter Tryd.func5, Tryd.ntmps5
  go_wp2_with fail
  refine (known_any w HZ.out).mono ?_
  rintro e w1 ⟨rfl, hb1⟩
  have B1 := hide hb1
  clear hb1
  go_wp2_with fail
  refine (HWO.out _).mono ?_
  rintro e w1' ⟨rfl, rfl⟩
  go_wp2_with fail
  refine (fib_x _ N _ rfl hNi.1 hNi.2).mono ?_
  rintro e w2 ⟨rfl, hb2, hl2⟩
  have L2 := hide hl2
  have B2 := hide (ext_trans B1.out hb2)
  have G2 := hide ((newB_ge w1').mono B1.out.size)
  obtain ⟨b, hb⟩ : ∃ b, b = newB w1' := ⟨_, rfl⟩
  rw [← hb] at L2 G2 ⊢
  rw [← HSD.out] at L2
  clear hb2 hl2 hb
  go_wp2_with fail
  refine (HWO.out _).mono ?_
  rintro e w2' ⟨rfl, rfl⟩
  go_wp2_with fail
  refine (fib_x _ N _ rfl hNi.1 hNi.2).mono ?_
  rintro e w3 ⟨rfl, hb3, hl3⟩
  have L3 := hide hl3
  have B3 := hide (ext_trans B2.out hb3)
  have G3 := hide ((newB_ge w2').mono B2.out.size)
  have A3 := hide (FB.apart_new L2.out (newB_ge w2'))
  have L2' := hide (L2.out.ext hb3)
  obtain ⟨c, hc⟩ : ∃ c, c = newB w2' := ⟨_, rfl⟩
  rw [← hc] at L3 G3 A3 ⊢
  rw [← HSD.out] at L3
  clear hb3 hl3 hc
  go_wp2_with fail
  have hrun := run_ops S ops b ao cap w.heap.size w w3 HO.out rfl B3.out L2'.out G2.out HS.out (by rw [← HM.out]; exact hlen)
  rw [← HM.out] at hrun
  refine hrun.mono ?_
  clear hrun
  rintro e w4 ⟨rfl, ⟨b4, hb4⟩, hX⟩
  have L4 := hide hb4.lies
  have C4 := hide (hb4.other L3.out A3.out)
  have A4 := hide (hb4.apart c _ L3.out A3.out)
  have B4 := hide (B3.out.trans (hb4.below G2.out B3.out.size))
  have hf4 := hb4.fb
  have HX := hide hX
  obtain ⟨xb, hxb⟩ : ∃ xb, xb = w3.heap.size := ⟨_, rfl⟩
  rw [← hxb] at HX ⊢
  clear hb4 hX hxb
  go_wp2_with fail
  go_loopw [9] (fun v wr => ∃ (i : Nat) (c' : FB), v = .int .i64 (i : Int) ∧ i ≤ m ∧ c'.fb = c.fb ∧ c'.lies wr (S.run (ops.take i)).1.A ∧ b4.lies wr (S.run ops).1.A ∧ b4.apart c' ∧ c'.ge w.heap.size ∧ Below w.heap.size w wr ∧ (ops ≠ [] → ∃ X, wr.heap[xb]? = some (.cells X 33 (0, 0)) ∧ AnsIn X m (S.run ops).2)) (fun v _ => m - (intOf v).toNat)
  case atStart => exact ⟨0, c, rfl, Nat.zero_le _, rfl, by rw [List.take_zero]; exact C4.out, L4.out, A4.out, G3.out, B4.out, HX.out⟩
  case round =>
    obtain ⟨i, c', rfl, hi, hcf, hlc, hlb, hap, hge, hbw, hX⟩ := hrel
    by_cases hin : i < m
    · have hil : i < ops.length := by rw [← HM.out]; exact hin
      obtain ⟨ob, off, o, rfl, ho, hok, hl0, hl1, d0, d1, d2, d3, d4⟩ := HO.out.at hbw hil
      obtain ⟨X, hXb, hXa⟩ := hX (by rintro rfl; simp at hil)
      have hSi := (run_ok HS.out (ops.take i)).1
      have HON := hide (one_any (S.run (ops.take i)).1 o c' wr hlc hSi hok)
      rw [← run_next ho] at HON
      obtain ⟨x0, x1, x2⟩ := hXa.get i _ (run_get S ops i o ho)
      obtain ⟨a, ha⟩ : ∃ a, a = ((S.run (ops.take i)).1.step o).2 := ⟨_, rfl⟩
      rw [← ha] at HON x0 x1 x2
      rw [hcf] at HON
      have HI := hide (And.intro hlc (And.intro hlb (And.intro hap (And.intro hge (And.intro hbw (And.intro hXb hXa))))))
      have HXC := hide (And.intro x0 (And.intro x1 x2))
      clear ha hX hXb hXa hlc hlb hap hge hbw hSi ho x0 x1 x2
      simp only [OpD.arr, Ans.val] at HON
      go_wp2_with fail
      refine HON.out.mono ?_
      rintro e w5 ⟨rfl, c5, hm5⟩
      have hXb := hm5.keep HI.out.1 HI.out.2.2.2.2.2.1 (by decide) (by decide) (by decide)
      obtain ⟨w6, hw6⟩ : ∃ w6, w6 = w5.alloc (.cells #[.int .i64 a.err, .int .i64 a.hop, .int .i64 a.reads] 33) := ⟨_, rfl⟩
      have hb6 : Below w5.heap.size w5 w6 := by rw [hw6]; exact ext_alloc _ _
      have bz : w6.heap[w5.heap.size]? = some (.cells #[.int .i64 a.err, .int .i64 a.hop, .int .i64 a.reads] 33 (0, 0)) := by rw [hw6]; exact heap_alloc_new _ _
      obtain ⟨z0, z1, z2⟩ := cells3 bz
      have hX6 := block_ext hXb hb6
      have hlX := lt_of_block hX6
      have hlz := lt_of_block bz
      obtain ⟨x0, x1, x2⟩ := HXC.out
      rw [← cell_at hX6] at x0 x1 x2
      have HE := hide (show c5.fb = c.fb ∧ c5.lies w6 (S.run (ops.take (i + 1))).1.A ∧ b4.lies w6 (S.run ops).1.A ∧ b4.apart c5 ∧ c5.ge w.heap.size ∧ Below w.heap.size w w6 ∧ ∃ X, w6.heap[xb]? = some (.cells X 33 (0, 0)) ∧ AnsIn X m (S.run ops).2 from by
        obtain ⟨i1, i2, i3, i4, i5, i6, i7⟩ := HI.out
        exact ⟨hm5.fb.trans hcf, hm5.lies.ext hb6, (hm5.other i2 i3.symm).ext hb6, (hm5.apart b4 _ i2 i3.symm).symm, hm5.ge _ i4 i5.size, ext_trans (i5.trans (hm5.below i4 i5.size)) hb6, _, hX6, i7⟩)
      have HW6 := hide hw6
      clear hm5 hXb hw6 hb6 bz hX6 hcf
      go_wp2_with fail
      rw [← HW6.out]
      go_quiet (fail)
      go_wp2
      have hq := drewN_ext w6 nq
      obtain ⟨e1, e2, e3, e4, e5, e6, X6, e7, e8⟩ := HE.out
      exact ⟨⟨i + 1, c5, by simp, by omega, e1, e2.ext hq, e3.ext hq, e4, e5, ext_trans e6 hq, fun _ => ⟨_, block_ext e7 hq, e8⟩⟩, by simp [intOf]; omega⟩
    · obtain rfl : i = m := by omega
      have hle : ops.take i = ops := List.take_of_length_le (by rw [← HM.out]; exact Nat.le_refl _)
      rw [hle] at hlc
      have hSe := (run_ok HS.out ops).1
      have HF1 := hide (free_x b4 _ wr hlb)
      have HF2 := hide (free_x c' _ wr hlc)
      have HD := hide (dumps_any (S.run ops).1 (S.run ops).1 hSe hSe b4 c' wr hlb hlc rfl (HZ.out.ext hbw))
      rw [hf4] at HF1 HD
      rw [hcf] at HF2 HD
      have HB := hide hbw
      clear hle hlc hlb hap hge hbw hX hSe
      go_wp2_with fail
      refine HF1.out.mono ?_
      rintro e w5 ⟨rfl, rfl⟩
      go_wp2_with fail
      refine HF2.out.mono ?_
      rintro e w5' ⟨rfl, rfl⟩
      go_wp2_with fail
      refine HD.out.mono ?_
      rintro e w6 ⟨rfl, hb6⟩
      have HB6 := hide (ext_trans HB.out hb6)
      clear hb6
      go_wp2
      go_ret
      exact ⟨rfl, HB6.out⟩
end Go.Proofs.YtnapboelfimaaaaDoor
namespace Go.Proofs.YtnapboelfimaaaaDoor.batch
open Go.ChangeShapes Go.WideShapes Go.ChangeAt Go.RowKit Go.Deep
theorem laidOut : laidOutB Tryd.prog = true := by kernel_rfl
theorem own : ownKnob Tryd.prog.godebug = none := by kernel_rfl
set_option maxRecDepth 10000 in
theorem contract (H : Type) (enc : TypeId × Value → H) (W : World) (base : Nat) (args : Array Value) (ds gs : List (DataW H)) (before : List MemPlace)
    (hval : ∀ (j : Nat) t v, Tryd.f5.params[j]? = some t → args[j]? = some v → Value.okWide Tryd.prog W .any base t v)
    (hW : DataW.Whole enc Tryd.prog Tryd.f5.params.toList Rows.batchSpec.vars false W args.toList ds gs before)
    (hsz : (DataW.weightsEach Tryd.prog (Tryd.f5.params.toList ++ Rows.batchSpec.plain.varTypes Tryd.prog) (ds ++ gs)).all (· ≤ reachBytes) = true)
    (hlaid : laidMet Tryd.prog Rows.batchRow.laid W) :
    Calls Tryd.prog 5 args W fun e W' => ∃ v, e = .returned v ∧ Rows.batchSpec.post enc Tryd.prog Tryd.f5 false true false false W args v W' := by
  have hW' := hW
  obtain ⟨p, q, hA0, hV, rfl, hfz, hnd⟩ := hW
  have hA : DataW.TrodAll enc Tryd.prog W 0 (fun _ => true) true Tryd.f5.params.toList args.toList ds p := hA0
  rw [Tryd.params5] at hA hval hsz
  obtain ⟨v0, vs0, d0, ds0, p0, q0, hargs, rfl, rfl, h0, r0⟩ := trodAll_cons hA
  obtain ⟨v1, vs1, d1, ds1, p1, q1, hargs1, rfl, rfl, h1, r1⟩ := trodAll_cons r0
  obtain ⟨rfl, rfl, rfl⟩ := trodAll_nil r1
  obtain rfl : args = #[v0, v1] := by cases args; simp_all
  obtain ⟨rfl, rfl⟩ := trodVars_none hV
  obtain ⟨n, rfl⟩ := okWide_int Tryd.underlying3 (hval 0 3 v0 rfl rfl)
  obtain ⟨a0, len, cap, rfl⟩ := okWide_slice Tryd.underlying22 (hval 1 22 v1 rfl rfl)
  have h0k := h0
  have h1k := h1
  obtain ⟨fuel0, hf0⟩ := h0
  obtain ⟨n', en, _, bn⟩ := DataW.trod_int Tryd.underlying3 hf0
  simp [Value.cells] at en
  subst en
  obtain ⟨bn1, bn2⟩ := bounds_i64 bn
  obtain ⟨fuel1, hf1⟩ := h1
  obtain ⟨ops, ao, cap', e, hs, hn⟩ := open_ops hf1
  have hn' := hn (fun n hn => by
    have := List.all_eq_true.1 hsz n (DataW.weights_mem_each (j := 1) (t := 22) rfl rfl n hn)
    simpa using this)
  simp [Value.cells] at e
  obtain ⟨rfl, rfl, rfl⟩ := e
  clear hA0 hsz hn
  simp only [List.append_nil] at hW'
  refine (batch_walk n bn1 bn2 a0 cap ops W hs (by omega) (tz_of_laid hlaid)).mono fun e W' ⟨he, hg⟩ => ?_
  subst he
  have hlt : ∀ x ∈ p0 ++ p1, x.block < W.heap.size := fun x hx => by simpa using hW'.lt x (by simpa using hx)
  have hArg0 := Below.trod laidOut (by kernel_rfl) (of_decide_eq_true (by kernel_rfl)) h0k hg (fun x hx => hlt x (List.mem_append_left _ hx))
  have hArg1 := Below.trod laidOut (by kernel_rfl) (of_decide_eq_true (by kernel_rfl)) h1k hg (fun x hx => hlt x (List.mem_append_right _ hx))
  exact ⟨_, rfl, [d0, d1], [], p0 ++ p1, [], p0 ++ p1, [], hW', trodAll_cons_mk (shut_bool Tryd.underlying4 true) trodAll_mk0, (by have h1 := trodAll_cons_mk hArg0 (trodAll_cons_mk hArg1 trodAll_mk0); rw [List.append_nil] at h1; exact h1), rfl, hg.frame _, fun h => by cases h⟩

/-- a block that holds these bytes -/
def lay (xs : List Int) : Obj → Obj
  | .cells _ t frozen => .cells (xs.map (Value.int .u8)).toArray t frozen
  | o => o
def tab32 : List Int := [0, 1, 28, 2, 29, 14, 24, 3, 30, 22, 20, 15, 25, 17, 4, 8, 31, 27, 13, 23, 21, 19, 16, 7, 26, 12, 18, 6, 11, 5, 10, 9]
def tab64 : List Int := tzL
theorem laid_met (os : Os) : laidMet Tryd.prog Rows.batchRow.laid (({ World.holding Tryd.prog os ⟨#[], #[], []⟩ with heap := ((World.holding Tryd.prog os ⟨#[], #[], []⟩).heap.modify 0 (lay tab32)).modify 1 (lay tab64) } : World).forCall (fun _ _ => 0) ⟨#[], #[.int .i64 0, .slice none 0 0], []⟩).memory :=
  laidMet_of_run' 8 (by kernel_rfl) (by kernel_rfl)
theorem reads (os : Os) {H : Type} (enc : TypeId × Value → H) : ∃ places, DataW.whole enc Tryd.prog (({ World.holding Tryd.prog os ⟨#[], #[], []⟩ with heap := ((World.holding Tryd.prog os ⟨#[], #[], []⟩).heap.modify 0 (lay tab32)).modify 1 (lay tab64) } : World).forCall (fun _ _ => 0) ⟨#[], #[.int .i64 0, .slice none 0 0], []⟩).memory Tryd.f5.params.toList Rows.batchSpec.vars false #[.int .i64 0, Value.slice none 0 0].toList 8 = some ([.lit (.int .i64 0), .nil], [], places) :=
  ⟨[], by kernel_rfl⟩
set_option maxRecDepth 100000 in
theorem lifted (os : Os) (started : os.Started) (H : Type) (enc : TypeId × Value → H) (F : Stop.Interp) :
    ReturnsInHanded {} Tryd.checked os 5 .any ((OpenSpec.ofChange Rows.batchSpec).preRow enc Tryd.prog Tryd.f5 Rows.batchRow.domain false Rows.batchRow.laid) (((OpenSpec.ofChange Rows.batchSpec).at F).post enc Tryd.prog Tryd.f5 false true false false) := by
  obtain ⟨places, hx⟩ := reads os enc
  refine returnsInHanded_of_row (C := Tryd.checked) (s := OpenSpec.ofChange Rows.batchSpec) own started (by kernel_rfl) Tryd.func5
    (witness_row_at (enc := enc) (C := Tryd.checked) false ({ World.holding Tryd.prog os ⟨#[], #[], []⟩ with heap := ((World.holding Tryd.prog os ⟨#[], #[], []⟩).heap.modify 0 (lay tab32)).modify 1 (lay tab64) } : World) #[.int .i64 0, .slice none 0 0] rfl (by kernel_rfl) (by kernel_rfl) (by kernel_rfl)
      (OpenSpec.preRow_of_cond 8 hx (by kernel_rfl) (fun k hk => by cases hk) (by kernel_rfl) (laid_met os))) ?_
  intro W base args ds gs before hval hW _ _ hsz hlaid _ _
  exact contract H enc W base args ds gs before hval hW hsz hlaid
theorem said : Rows.BatchSaid :=
  OpenClaim.holds_of_cond 5 Tryd.f5 rfl rfl rfl rfl rfl rfl rfl ⟨rfl, rfl, rfl, rfl, rfl⟩ rfl rfl rfl rfl rfl (by kernel_rfl) Tryd.func5 (by kernel_rfl)
    (of_decide_eq_true (by kernel_rfl)) (by unfold Func.isWrapper; first | (rw [if_pos (by decide +kernel)]; kernel_rfl) | (rw [if_neg (by decide +kernel)]; exact ⟨rfl, rfl⟩))
    (fun os started H enc _ F => by rw [OpenClaim.pre_eq_preRow]; exact lifted os started H enc F)
theorem plain (f : FuncId) (fn : Func) (hf : Tryd.pinned.checked.prog.funcNamed Rows.batchRow.func = some f) (hfn : Tryd.pinned.checked.prog.funcs[f]? = some fn) :
    true = Tryd.pinned.checked.prog.looks [] ∧ ∀ (j : Nat) t, fn.params[j]? = some t → Tryd.pinned.checked.prog.wantsStandIn t = false := by
  obtain rfl : f = 5 := Option.some.inj ((show Tryd.prog.funcNamed Rows.batchRow.func = some 5 by kernel_rfl).symm.trans hf) |>.symm
  obtain rfl : fn = Tryd.f5 := (Option.some.inj (Tryd.func5.symm.trans hfn)).symm
  refine ⟨by kernel_rfl, fun j t ht => ?_⟩
  rw [Tryd.params5] at ht
  have ht' := Array.mem_of_getElem? ht
  simp only [List.mem_toArray, List.mem_cons, List.not_mem_nil, or_false] at ht'
  rcases ht' with rfl | rfl
  · exact (show Tryd.prog.wantsStandIn 3 = false by kernel_rfl)
  · exact (show Tryd.prog.wantsStandIn 22 = false by kernel_rfl)
end Go.Proofs.YtnapboelfimaaaaDoor.batch

namespace Go.Proofs.YtnapboelfimaaaaDoor
/-- THE CARD -/
theorem batch_card : Rows.BatchCardSaid :=
  Claim7.holds_tied_plain_at .later [] _ _ _ _ batch.said (fun _ h => by cases h) (by kernel_rfl) (fun _ h => by cases h) batch_row_tie rfl ⟨rfl, rfl⟩ (by kernel_rfl) rfl batch.plain (by kernel_rfl)
end Go.Proofs.YtnapboelfimaaaaDoor
