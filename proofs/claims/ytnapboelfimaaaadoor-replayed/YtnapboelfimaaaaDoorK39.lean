/- DuT, KeeC, KnoM: parts of the proof, one behind the other. -/
import Derived.Test.YtnapboelfimaaaaDoorK18
import Derived.Test.YtnapboelfimaaaaDoorK32
import Derived.Test.YtnapboelfimaaaaDoorK33
import Derived.Test.YtnapboelfimaaaaDoorK38
import Derived.BigQuiet
import Derived.Deep.QuietTactic
/- Dump: all routes of a family. -/
namespace Go.Proofs.YtnapboelfimaaaaDoor
open Go.RowKit Go.Deep
set_option maxHeartbeats 2000000 in
set_option maxRecDepth 10000 in
theorem tdump_any (A : Ar) (M : Tab) (q : Bool) (tb ab wb : Nat) (f : Int) (n : Nat) (w : World) (hT : TabAt w tb ab wb A) (hZ : TzTab w) (hI : DumpIn A M q f n) (hlen : (dumpR M (dp q)).length ≤ 4194304) :
    Calls Tryd.prog 25 #[.pointer (some ⟨tb, 0, none⟩), .int .i64 f] w fun e w' => ∃ v, e = .returned v ∧ w'.ownsRow w.heap.size 47 3 v (dumpR M (dp q)).length (rowsOf n (dumpR M (dp q))) ∧ Below w.heap.size w w' := by
  have hlt := hT.lt
  have hla := hT.ar.la
  have hlw := hT.ar.lw
  have h1w : 1 < w.heap.size := World.block_lt_of_cell? w _ (hZ 0 (by decide))
  have c0 := hT.cell
  have HT := hide hT
  have HZ := hide hZ
  have HI := hide hI
  have HLEN := hide hlen
  clear hT hZ hI hlen
  go_enter Tryd.func25, Tryd.ntmps25
  go_wp2_with fail
  refine (reader_any ab _).mono ?_
  rintro e w1 ⟨rfl, hb1⟩
  have hz1 := hb1.size
  go_wp2_with fail
  obtain ⟨rb, hrb⟩ : ∃ rb, rb = w1.heap.size := ⟨_, rfl⟩
  obtain ⟨w0, hw0⟩ : ∃ w0, w0 = w1.alloc (.cells #[.pointer (some ⟨ab, 0, none⟩), .int .i64 0, .int .i64 f, .slice none 0 0] 70) := ⟨_, rfl⟩
  rw [← hw0, ← hrb]
  have hb0 : Below w1.heap.size w1 w0 := by rw [hw0]; exact ext_alloc _ _
  have hbw : Below w.heap.size w w0 := ext_trans hb1 hb0
  have hr0 : w0.heap[rb]? = some (.cells #[.pointer (some ⟨ab, 0, none⟩), .int .i64 0, .int .i64 f, .slice none 0 0] 70 (0, 0)) := by rw [hw0, hrb]; exact heap_alloc_new _ _
  have hrl := lt_of_block hr0
  have hD : DumpOk A ab wb rb w0 := ⟨HT.out.ar.ext hbw, fun j hj => cell_ext (HZ.out j hj) hbw, by omega, by omega, by omega⟩
  have hI := HI.out
  have hA0 : DumpAt ab rb f n w0 [] w0 := ⟨⟨0, _, hr0, World.ownsRow_nil _ _ _ _⟩, Fr.refl _ _⟩
  have hll : ([] ++ (List.range (2 ^ 8)).flatMap (outN (gbN M 0 0) (geR M (dp q)) 8)).length ≤ 4194304 := by
    rw [List.nil_append]
    have := HLEN.out
    rw [dumpR_out] at this
    exact this
  refine (inOrder_any (fun L' w' => DumpAt ab rb f n w0 L' w') (gbN M 0 0) (geR M (dp q)) 8 32 33 #[.pointer (some ⟨rb, 0, none⟩)] #[] #[.pointer (some ⟨rb, 0, none⟩)] #[] [] 4194304 w0 (by decide) hll hA0 (fun L' w' hp => hD.tzAt hp.fr) (fun _ _ => by kernel_rfl) (fun _ _ => by kernel_rfl) ?_ ?_).mono ?_
  · intro l v L' w' hl hv hp hlen
    have hc := dshort_any A M q ab wb rb f n w0 hD hI hrl l v hl hv L' hlen w' hp
    simp only [List.append_toArray, List.cons_append, List.nil_append, List.append_nil]
    refine hc.mono ?_
    rintro e w'' ⟨rfl, h1, h2⟩
    exact ⟨rfl, h1⟩
  · intro v L' w' hv hp hlen
    have hc := dfirst_any A M q ab wb rb f n w0 hD hI hrl v hv L' w' hp (by
      intro w'' h0 hany hd
      have hge : geR M (dp q) v = dumpN M (dp q) 8 v := by unfold geR; rw [if_pos hany]
      rw [hge] at hlen
      exact dnode_any A M ab wb rb f n w0 hD hI.sane hrl hI.bytes (dp q) 0 v _ L' w'' (by have := dp_le q; omega) (hI.on v hv h0) hlen hd)
    simp only [List.push_toArray, List.append_toArray, List.cons_append, List.nil_append, List.append_nil]
    refine hc.mono ?_
    rintro e w'' ⟨rfl, h1, h2⟩
    exact ⟨rfl, h1⟩
  rintro e w4 ⟨rfl, h4⟩
  rw [List.nil_append] at h4
  have hge : geR M (dp q) = fun b => if anyBelow M 8 b then dumpN M (dp q) 8 b else [] := rfl
  rw [hge, ← dumpR_out] at h4
  obtain ⟨k4, rs, hr4, hown⟩ := h4.blk
  have c4 : w4.cell? ⟨rb, 3, none⟩ = some rs := by rw [cell_at hr4]; rfl
  have hB4 : Below w.heap.size w w4 := fr_nil (Fr.after (S := []) (fr_below hbw) h4.fr (fun y hy => by simp at hy; right; omega))
  have hl4 := lt_of_block hr4
  have HE := hide (And.intro (owns_base hown hbw.size) hB4)
  clear h4 hr4 hown hB4 hrb hw0 hr0
  go_wp2
  go_ret
  exact ⟨_, rfl, HE.out.1, HE.out.2⟩
theorem St.ok.sane {S : St} (h : S.ok) : Sane S.A := by
  obtain ⟨F, hI⟩ := h.inv
  exact (hI.good h.wok).sane (by omega)
theorem St.ok.dumpIn {S : St} (h : S.ok) (f : Int) : DumpIn S.A (S.M (fam f)) (fam f) f (famBytes f) := by
  obtain ⟨F, hI⟩ := h.inv
  exact ⟨hI.root _, fun b hb h0 => On.root hI _ hb h0, h.sane, hI.size, rfl, rfl⟩
theorem St.ok.len {S : St} (h : S.ok) (q : Bool) : (dumpR (S.M q) (dp q)).length ≤ 67584 := by
  obtain ⟨F, hI⟩ := h.inv
  exact hI.dump_le h.sane.size q
set_option maxHeartbeats 1000000 in
theorem fdump_any (S : St) (hS : S.ok) (b : FB) (w : World) (h : b.lies w S.A) (hZ : TzTab w) (f : Int) (hf : famBytes f ≠ 0) :
    Calls Tryd.prog 15 #[.pointer (some ⟨b.fb, 0, none⟩), .int .i64 f] w fun e w' => ∃ v, e = .returned v ∧ w'.ownsRow w.heap.size 47 3 v (dumpR (S.M (fam f)) (dp (fam f))).length (rowsOf (famBytes f) (dumpR (S.M (fam f)) (dp (fam f)))) ∧ Below w.heap.size w w' := by
  have HC := hide (tdump_any S.A (S.M (fam f)) (fam f) b.tb b.ab b.wb f (famBytes f) w h.tab hZ (hS.dumpIn f) (by have := hS.len (fam f); omega))
  have c0 : w.cell? ⟨b.fb, 0, none⟩ = some (.pointer (some ⟨b.tb, 0, none⟩)) := by rw [cell_at h.fib]; rfl
  have hl := lt_of_block h.fib
  have e0 : ((famBytes f : Int) == 0) = false := by simp; omega
  clear h hZ
  go_enter Tryd.func15, Tryd.ntmps15
  go_wp2_with fail
  refine (addressBytes_any f _).mono ?_
  rintro e w' ⟨rfl, rfl⟩
  go_wp2_with fail
  refine HC.out.mono ?_
  rintro e w4 ⟨v, rfl, h1, h2⟩
  have HE := hide (And.intro h1 h2)
  clear h1 h2 HC
  go_wp2
  go_ret
  exact ⟨_, rfl, HE.out.1, HE.out.2⟩
end Go.Proofs.YtnapboelfimaaaaDoor
/- Of the laws' own functions: sameRoutes, dumps. -/
namespace Go.Proofs.YtnapboelfimaaaaDoor
open Go.RowKit Go.Deep
theorem owns_slice {w : World} {base : Nat} {e : TypeId} {size : Nat} {v : Value} {n : Nat} {xs : List Value} (h : w.ownsRow base e size v n xs) : ∃ ao cap, v = .slice ao n cap := by
  rcases h.2 with ⟨e, h0⟩ | ⟨g, cap, cur, e, _⟩
  · exact ⟨none, 0, by rw [e, h0]⟩
  · exact ⟨_, cap, e⟩
set_option maxHeartbeats 2000000 in
set_option maxRecDepth 10000 in
theorem same_any (l : List RouteD) (b1 b2 : Nat) (v1 v2 : Value) (w : World) (h1 : w.ownsRow b1 47 3 v1 l.length (flatR l)) (h2 : w.ownsRow b2 47 3 v2 l.length (flatR l)) (hl : l.length ≤ 4194304) :
    Calls Tryd.prog 16 #[v1, v2] w fun e w' => e = .returned (.bool true) ∧ Below w.heap.size w w' := by
  obtain ⟨ao1, c1, rfl⟩ := owns_slice h1
  obtain ⟨ao2, c2, rfl⟩ := owns_slice h2
  have HO1 := hide h1
  have HO2 := hide h2
  clear h1 h2
  obtain ⟨n, hn⟩ : ∃ n, n = l.length := ⟨_, rfl⟩
  have HN := hide hn
  rw [← hn] at hl ⊢
  clear hn
  go_enter Tryd.func16, Tryd.ntmps16
  go_wp2
  go_loopw [5] (fun i wr => ∃ k : Nat, k ≤ n ∧ i = .int .i64 (k : Int) ∧ Below w.heap.size w wr) (fun i _ => n - (intOf i).toNat)
  case atStart => exact ⟨0, Nat.zero_le _, rfl, Below.refl _ _⟩
  case round =>
    obtain ⟨k, hk, rfl, hbr⟩ := hrel
    have HBR := hide hbr
    by_cases hkl : k < n
    · have hkl' : k < l.length := by rw [← HN.out]; exact hkl
      obtain ⟨g1, rfl, hg1, c10, c11, c12⟩ := route_cells (owns_ext HO1.out hbr) hkl'
      obtain ⟨g2, rfl, hg2, c20, c21, c22⟩ := route_cells (owns_ext HO2.out hbr) hkl'
      generalize l.getD k RouteD.zero = o at c10 c11 c12 c20 c21 c22
      clear hbr
      go_wp2
      go_quiet (fail)
      go_wp2
      exact ⟨⟨k + 1, by omega, by simp, ext_trans HBR.out (drewN_ext _ _)⟩, by simp [intOf]; omega⟩
    · obtain rfl : k = n := by omega
      clear hbr
      go_wp2
      go_ret
      exact ⟨rfl, HBR.out⟩
theorem TzTab.ext {w w' : World} (h : TzTab w) (hb : Below w.heap.size w w') : TzTab w' := fun j hj => cell_ext (h j hj) hb
/-- the routes of a dump as they are told -/
def tellL (S : St) (f : Int) : List RouteD := (dumpR (S.M (fam f)) (dp (fam f))).map (rdOf (famBytes f))
theorem dump_any (S : St) (hS : S.ok) (b : FB) (w : World) (h : b.lies w S.A) (hZ : TzTab w) (x : Int) (f : Int) (hx : x = f) (hf : famBytes f ≠ 0) :
    Calls Tryd.prog 15 #[.pointer (some ⟨b.fb, 0, none⟩), .int .i64 x] w fun e w' => ∃ v, e = .returned v ∧ w'.ownsRow w.heap.size 47 3 v (tellL S f).length (flatR (tellL S f)) ∧ Below w.heap.size w w' := by
  subst hx
  have := fdump_any S hS b w h hZ x hf
  unfold tellL
  rw [List.length_map]
  exact this
theorem tell_le {S : St} (hS : S.ok) (f : Int) : (tellL S f).length ≤ 67584 := by
  unfold tellL
  rw [List.length_map]
  exact hS.len _
theorem tell_same {S T : St} (h : S.M = T.M) (f : Int) : tellL S f = tellL T f := by unfold tellL; rw [h]
set_option maxHeartbeats 2000000 in
set_option maxRecDepth 10000 in
theorem dumps_any (S T : St) (hS : S.ok) (hT : T.ok) (b c : FB) (w : World) (hb : b.lies w S.A) (hc : c.lies w T.A) (hM : S.M = T.M) (hZ : TzTab w) :
    Calls Tryd.prog 18 #[.pointer (some ⟨b.fb, 0, none⟩), .pointer (some ⟨c.fb, 0, none⟩)] w fun e w' => e = .returned (.bool true) ∧ Below w.heap.size w w' := by
  have HM := hide hM
  clear hM
  go_enter Tryd.func18, Tryd.ntmps18
  go_wp2_with fail
  refine (dump_any S hS b w hb hZ _ 4 rfl (by decide)).mono ?_
  rintro e w1 ⟨v1, rfl, o1, e1⟩
  have B1 := hide e1
  have O1 := hide o1
  clear o1 e1
  go_wp2_with fail
  refine (dump_any T hT c w1 (hc.ext B1.out) (hZ.ext B1.out) _ 4 rfl (by decide)).mono ?_
  rintro e w2 ⟨v2, rfl, o2, e2⟩
  have B2 := hide (ext_trans B1.out e2)
  have O2 := hide (And.intro (owns_ext O1.out e2) o2)
  clear o2 e2
  go_wp2_with fail
  refine (dump_any S hS b w2 (hb.ext B2.out) (hZ.ext B2.out) _ 6 rfl (by decide)).mono ?_
  rintro e w3 ⟨v3, rfl, o3, e3⟩
  have B3 := hide (ext_trans B2.out e3)
  have O3 := hide (And.intro (owns_ext O2.out.1 e3) (And.intro (owns_ext O2.out.2 e3) o3))
  clear o3 e3
  go_wp2_with fail
  refine (dump_any T hT c w3 (hc.ext B3.out) (hZ.ext B3.out) _ 6 rfl (by decide)).mono ?_
  rintro e w4 ⟨v4, rfl, o4, e4⟩
  have B4 := hide (ext_trans B3.out e4)
  have O4 := hide (And.intro (owns_ext O3.out.1 e4) (And.intro (owns_ext O3.out.2.1 e4) (And.intro (owns_ext O3.out.2.2 e4) o4)))
  clear o4 e4
  go_wp2_with fail
  refine (same_any (tellL S 4) _ _ v1 v2 w4 O4.out.1 (by rw [tell_same HM.out]; exact O4.out.2.1) (by have := tell_le hS 4; omega)).mono ?_
  rintro e w5 ⟨rfl, e5⟩
  have B5 := hide (ext_trans B4.out e5)
  have O5 := hide (And.intro (owns_ext O4.out.2.2.1 e5) (owns_ext O4.out.2.2.2 e5))
  clear e5
  go_wp2_with fail
  refine (same_any (tellL S 6) _ _ v3 v4 w5 O5.out.1 (by rw [tell_same HM.out]; exact O5.out.2) (by have := tell_le hS 6; omega)).mono ?_
  rintro e w6 ⟨rfl, e6⟩
  have B6 := hide (ext_trans B5.out e6)
  clear e6
  go_wp2
  go_ret
  exact ⟨rfl, B6.out⟩
end Go.Proofs.YtnapboelfimaaaaDoor
/- What known() does, by the tables alone. -/
namespace Go.Proofs.YtnapboelfimaaaaDoor
/-- operations that find room, by the tables alone: the errors and the hops -/
def mRun (M : Bool → Tab) : List OpD → (Bool → Tab) × List (Int × Int)
  | [] => (M, [])
  | o :: os => ((mRun (mNext M o) os).1, (mErr M o, mHop M o) :: (mRun (mNext M o) os).2)
theorem St.ok.tab {S : St} (h : S.ok) (q : Bool) : TabOk (8 + 4 * dp q) (S.M q) := by
  obtain ⟨F, hI⟩ := h.inv
  exact hI.tab q
theorem run_m : ∀ (os : List OpD) (S : St), S.ok → 64 * (count2 S.M + os.length) + 1280 ≤ S.A.size → (S.run os).1.M = (mRun S.M os).1 ∧ (S.run os).2.map (fun a => (a.err, a.hop)) = (mRun S.M os).2
  | [], S, _, _ => ⟨rfl, rfl⟩
  | o :: os, S, h, hc => by
    simp only [List.length_cons] at hc
    have he : (S.step o).2.err ≠ 8 := by
      intro e
      have := (step_full h e).2.2
      omega
    obtain ⟨m1, m2, m3⟩ := step_m h he
    obtain ⟨k1, k2⟩ := step_ok h o
    have hn := count_next (fun q => h.tab q) o
    rw [← m1] at hn
    obtain ⟨r1, r2⟩ := run_m os (S.step o).1 k1 (by rw [k2]; omega)
    rw [m1] at r1 r2
    refine ⟨r1, ?_⟩
    show ((S.step o).2.err, (S.step o).2.hop) :: ((S.step o).1.run os).2.map (fun a => (a.err, a.hop)) = _
    rw [r2, m2, m3]
    rfl
theorem dump_none (q : Bool) : dumpR (noTab q) (dp q) = [] := by
  rw [List.eq_nil_iff_forall_not_mem]
  intro x hx
  have hT := (inv_new (n := 2048) (by omega) (by omega)).tab q
  have := (mem_dumpR hT (dp_le q) x).1 hx
  cases this
theorem count_zero {M : Bool → Tab} (h : ∀ q, dumpR (M q) (dp q) = []) : count2 M = 0 := by unfold count2; rw [h, h]; rfl
theorem count_none : count2 noTab = 0 := count_zero dump_none
theorem m_ins {M : Bool → Tab} {o : OpD} (h0 : opFault o = 0) (hc : o.code = 1) : (mErr M o, mHop M o) = (0, 0) := by
  unfold mErr mHop
  simp [h0, hc]
theorem m_look {M : Bool → Tab} {o : OpD} {x : Nat} (h0 : opFault o = 0) (hc : o.code = 3) (hh : hopN M (fam o.family) o.key = some x) : (mErr M o, mHop M o) = (0, (x : Int)) := by
  unfold mErr mHop
  simp [h0, hc, hh]
theorem m_del {M : Bool → Tab} {o : OpD} (h0 : opFault o = 0) (hc : o.code = 2) : (mErr M o, mHop M o) = (if (M (fam o.family) o.l o.v).isSome then 0 else 7, 0) := by
  unfold mErr mHop
  simp [h0, hc]
def kO1 : OpD := ⟨1, 4, ⟨#[10, 0, 0, 0]⟩, 8, 1⟩
def kO2 : OpD := ⟨1, 4, ⟨#[10, 1, 2, 0]⟩, 24, 2⟩
def kO3 : OpD := ⟨3, 4, ⟨#[10, 1, 2, 3]⟩, 0, 0⟩
def kO4 : OpD := ⟨2, 4, ⟨#[10, 1, 2, 0]⟩, 24, 0⟩
def kOps : List OpD := [kO1, kO2, kO3, kO4, kO3, kO4]
def kM1 : Bool → Tab := updM noTab false 8 10 (some 1)
def kM2 : Bool → Tab := updM kM1 false 24 655618 (some 2)
def kM3 : Bool → Tab := updM kM2 false 24 655618 none
theorem kM1_at (q : Bool) (l v : Nat) : kM1 q l v = if q = false ∧ l = 8 ∧ v = 10 then some 1 else none := by
  unfold kM1 updM updT noTab
  cases q <;> simp
theorem kM2_at (q : Bool) (l v : Nat) : kM2 q l v = if q = false ∧ l = 24 ∧ v = 655618 then some 2 else if q = false ∧ l = 8 ∧ v = 10 then some 1 else none := by
  unfold kM2 updM updT
  cases q <;> simp [kM1_at]
theorem kM3_at (q : Bool) (l v : Nat) : kM3 q l v = if q = false ∧ l = 8 ∧ v = 10 then some 1 else none := by
  unfold kM3 updM updT
  cases q
  · simp only [if_true, kM2_at, true_and]
    by_cases h : l = 24 ∧ v = 655618
    · rw [if_pos h, if_neg (by omega)]
    · rw [if_neg h, if_neg h]
  · simp [kM2_at]
theorem best_at {M : Tab} {K l h : Nat} (hl : l < 129) (h1 : M l (fitK K l) = some h) (h2 : ∀ l', l < l' → l' < 129 → M l' (fitK K l') = none) : bestL M K 129 = some h := by
  rcases bestL_spec (M := M) (K := K) 129 with ⟨_, e⟩ | ⟨l0, h0, e1, e2, e3, e4⟩
  · rw [e l hl] at h1; cases h1
  · rcases Nat.lt_trichotomy l l0 with q | q | q
    · rw [h2 l0 q e1] at e3; cases e3
    · subst q; rw [h1] at e3; rw [e2, e3]
    · rw [e4 l q hl] at h1; cases h1
theorem k_f1 : opFault kO1 = 0 := by decide +kernel
theorem k_f2 : opFault kO2 = 0 := by decide +kernel
theorem k_f3 : opFault kO3 = 0 := by decide +kernel
theorem k_f4 : opFault kO4 = 0 := by decide +kernel
theorem k_key : kO3.key = 167838211 * 2 ^ 104 := by decide +kernel
theorem k_fit8 : fitK kO3.key 8 = 10 := by decide +kernel
theorem k_fit24 : fitK kO3.key 24 = 655618 := by decide +kernel
theorem k_n1 : mNext noTab kO1 = kM1 := by
  unfold mNext
  rw [if_pos k_f1, if_pos (by decide), show kO1.v = 10 by decide +kernel, show fam kO1.family = false by decide +kernel]
  rfl
theorem k_n2 : mNext kM1 kO2 = kM2 := by
  unfold mNext
  rw [if_pos k_f2, if_pos (by decide), show kO2.v = 655618 by decide +kernel, show fam kO2.family = false by decide +kernel]
  rfl
theorem k_n3 (M : Bool → Tab) : mNext M kO3 = M := by
  unfold mNext
  rw [if_pos k_f3, if_neg (by decide), if_neg (by decide)]
theorem k_n4 : mNext kM2 kO4 = kM3 := by
  unfold mNext
  rw [if_pos k_f4, if_neg (by decide), if_pos (by decide), show kO4.v = 655618 by decide +kernel, show fam kO4.family = false by decide +kernel]
  rfl
theorem k_n5 : mNext kM3 kO4 = kM3 := by
  unfold mNext
  rw [if_pos k_f4, if_neg (by decide), if_pos (by decide), show kO4.v = 655618 by decide +kernel, show fam kO4.family = false by decide +kernel, show kO4.l = 24 by decide]
  exact updM_id (by rw [kM3_at, if_neg (by decide)])
theorem k_h2 : hopN kM2 (fam kO3.family) kO3.key = some 2 := by
  rw [show fam kO3.family = false by decide +kernel]
  refine best_at (l := 24) (by decide) (by rw [k_fit24, kM2_at, if_pos ⟨rfl, rfl, rfl⟩]) ?_
  intro l' h1 _
  rw [kM2_at, if_neg (by omega), if_neg (by omega)]
theorem k_h3 : hopN kM3 (fam kO3.family) kO3.key = some 1 := by
  rw [show fam kO3.family = false by decide +kernel]
  refine best_at (l := 8) (by decide) (by rw [k_fit8, kM3_at, if_pos ⟨rfl, rfl, rfl⟩]) ?_
  intro l' h1 _
  rw [kM3_at, if_neg (by omega)]
theorem k_run : mRun noTab kOps = (kM3, [(0, 0), (0, 0), (0, 2), (0, 0), (0, 1), (7, 0)]) := by
  unfold kOps
  simp only [mRun, k_n1, k_n2, k_n3, k_n4, k_n5]
  have e1 : (mErr noTab kO1, mHop noTab kO1) = (0, 0) := m_ins k_f1 rfl
  have e2 : (mErr kM1 kO2, mHop kM1 kO2) = (0, 0) := m_ins k_f2 rfl
  have e3 : (mErr kM2 kO3, mHop kM2 kO3) = (0, 2) := m_look k_f3 rfl k_h2
  have e4 : (mErr kM2 kO4, mHop kM2 kO4) = (0, 0) := by
    rw [m_del k_f4 rfl, show kO4.v = 655618 by decide +kernel, show fam kO4.family = false by decide +kernel, show kO4.l = 24 by decide, kM2_at]
    rfl
  have e5 : (mErr kM3 kO3, mHop kM3 kO3) = (0, 1) := m_look k_f3 rfl k_h3
  have e6 : (mErr kM3 kO4, mHop kM3 kO4) = (7, 0) := by
    rw [m_del k_f4 rfl, show kO4.v = 655618 by decide +kernel, show fam kO4.family = false by decide +kernel, show kO4.l = 24 by decide, kM3_at]
    rfl
  rw [e1, e2, e3, e4, e5, e6]
theorem k_dump {T : TabOk (8 + 4 * dp false) (kM3 false)} : dumpR (kM3 false) (dp false) = [(8, 10, 1)] := by
  apply sorted_unique (dumpR_sorted _ _ (by have := dp_le false; omega)) (List.pairwise_singleton _ _)
  intro x
  rw [mem_dumpR T (dp_le false) x, kM3_at]
  obtain ⟨a, b, c⟩ := x
  simp only [true_and, List.mem_singleton, Prod.mk.injEq]
  by_cases h : a = 8 ∧ b = 10
  · rw [if_pos h]
    simp only [Option.some.injEq]
    omega
  · rw [if_neg h]
    simp only [reduceCtorEq, false_iff]
    omega
/-- what known() finds -/
theorem k_all {S : St} (h : S.ok) (hM : S.M = noTab) (hs : 2048 ≤ S.A.size) : (S.run kOps).1.M = kM3 ∧ (S.run kOps).2.map (fun a => (a.err, a.hop)) = [(0, 0), (0, 0), (0, 2), (0, 0), (0, 1), (7, 0)] ∧ dumpR ((S.run kOps).1.M false) (dp false) = [(8, 10, 1)] := by
  obtain ⟨r1, r2⟩ := run_m kOps S h (by rw [hM, count_none]; show 64 * (0 + 6) + 1280 ≤ _; omega)
  rw [hM, k_run] at r1 r2
  have hT := (run_ok h kOps).1.tab false
  rw [r1] at hT
  exact ⟨r1, r2, by rw [r1]; exact k_dump (T := hT)⟩
end Go.Proofs.YtnapboelfimaaaaDoor
