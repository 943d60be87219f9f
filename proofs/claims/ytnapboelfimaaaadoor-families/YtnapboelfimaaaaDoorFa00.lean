/- Proved: the two families, and two Fibs, know nothing of one another (statement Families), for every list of operations and every two strings. This text: KeeF, FamM, LFa, FamiliesP: parts of the proof, one behind the other. -/
import Derived.Test.YtnapboelfimaaaaDoorK40
/- More of what stays; what an operation that is refused changes: nothing. -/
namespace Go.Proofs.YtnapboelfimaaaaDoor
open Go.RowKit Go.Deep
/-- rows of routes stay, whatever is done -/
theorem FB.moved.owns {b b' : FB} {w w' : World} {A B : Ar} {base size n : Nat} {v : Value} {xs : List Value} (h : b.moved b' w w' B) (hl : b.lies w A) (ho : w.ownsRow base 47 size v n xs) : w'.ownsRow base 47 size v n xs := by
  refine ⟨ho.1, ?_⟩
  rcases ho.2 with h0 | ⟨g, cap, cur, rfl, hbg, hgg, rest⟩
  · exact .inl h0
  · exact .inr ⟨g, cap, cur, rfl, hbg, h.keep hl hgg (by decide) (by decide) (by decide), rest⟩
theorem next_same {M : Bool → Tab} {o : OpD} (h : mErr M o ≠ 0 ∨ o.code = 3 ∨ o.code = 4) : mNext M o = M := by
  unfold mNext
  by_cases hf : opFault o = 0
  · rw [if_pos hf]
    unfold mErr at h
    rw [if_pos hf] at h
    rcases fault_code hf with hc | hc | hc | hc
    · rw [if_neg (by omega), if_neg (by omega)] at h
      omega
    · rw [if_neg (by omega), if_pos hc]
      rw [if_pos hc] at h
      cases hm : M (fam o.family) o.l o.v with
      | none => exact updM_id hm
      | some x =>
        rw [hm] at h
        simp at h
        omega
    · rw [if_neg (by omega), if_neg (by omega)]
    · rw [if_neg (by omega), if_neg (by omega)]
  · rw [if_neg hf]
/-- what is refused, a lookup, a Compact: the tables stay -/
theorem step_same {S : St} (h : S.ok) {o : OpD} (hc : (S.step o).2.err ≠ 0 ∨ o.code = 3 ∨ o.code = 4) : (S.step o).1.M = S.M := by
  by_cases h8 : (S.step o).2.err = 8
  · rw [(step_full h h8).2.1]
  · obtain ⟨m1, m2, _⟩ := step_m h h8
    rw [m1]
    rw [m2] at hc
    exact next_same hc
theorem tell_count (S : St) : (tellL S 4).length + (tellL S 6).length = count2 S.M := by
  unfold tellL count2
  rw [List.length_map, List.length_map, show fam 4 = false by decide, show fam 6 = true by decide]
theorem same_x (l : List RouteD) (n b1 b2 : Nat) (v1 v2 : Value) (w : World) (hn : n = l.length) (h1 : w.ownsRow b1 47 3 v1 n (flatR l)) (h2 : w.ownsRow b2 47 3 v2 n (flatR l)) (hl : n ≤ 4194304) :
    Calls Tryd.prog 16 #[v1, v2] w fun e w' => e = .returned (.bool true) ∧ Below w.heap.size w w' := by
  subst hn
  exact same_any l b1 b2 v1 v2 w h1 h2 hl
/-- two Fibs side by side, and what they hold -/
structure Duo (w0 : World) (b c : FB) (R G : St) (w : World) : Prop where
  lb : b.lies w R.A
  lc : c.lies w G.A
  ap : b.apart c
  gb : b.ge w0.heap.size
  gc : c.ge w0.heap.size
  bw : Below w0.heap.size w0 w
  okR : R.ok
  okG : G.ok
theorem Duo.ext {w0 : World} {b c : FB} {R G : St} {w w' : World} (h : Duo w0 b c R G w) (hb : Below w.heap.size w w') : Duo w0 b c R G w' := ⟨h.lb.ext hb, h.lc.ext hb, h.ap, h.gb, h.gc, ext_trans h.bw hb, h.okR, h.okG⟩
theorem Duo.left {w0 : World} {b b' c : FB} {R G T : St} {w w' : World} (h : Duo w0 b c R G w) (hm : b.moved b' w w' T.A) (hT : T.ok) : Duo w0 b' c T G w' :=
  ⟨hm.lies, hm.other h.lc h.ap, hm.apart c _ h.lc h.ap, hm.ge _ h.gb h.bw.size, h.gc, h.bw.trans (hm.below h.gb h.bw.size), hT, h.okG⟩
theorem Duo.right {w0 : World} {b c c' : FB} {R G T : St} {w w' : World} (h : Duo w0 b c R G w) (hm : c.moved c' w w' T.A) (hT : T.ok) : Duo w0 b c' R T w' :=
  ⟨hm.other h.lb h.ap.symm, hm.lies, (hm.apart b _ h.lb h.ap.symm).symm, h.gb, hm.ge _ h.gc h.bw.size, h.bw.trans (hm.below h.gc h.bw.size), h.okR, hT⟩
/-- one operation of the argument, in whatever world -/
theorem OpsOn.cell {w w' : World} {b off : Nat} {ops : List OpD} {i : Nat} {o : OpD} (h : OpsOn w (some ⟨b, off, none⟩) ops) (hb : Below w.heap.size w w') (ho : ops[i]? = some o) : b < w'.heap.size ∧ w'.cell? ⟨b, off + i * 5, none⟩ = some (.int .i64 o.code) ∧ w'.cell? ⟨b, off + i * 5 + 1, none⟩ = some (.int .i64 o.family) ∧ w'.cell? ⟨b, off + i * 5 + 2, none⟩ = some (.string o.bits) ∧ w'.cell? ⟨b, off + i * 5 + 3, none⟩ = some (.int .i64 o.len) ∧ w'.cell? ⟨b, off + i * 5 + 4, none⟩ = some (.int .i64 o.hop) := by
  obtain ⟨b', off', o', e1, e2, _, _, hl, r⟩ := h.at hb (List.getElem?_eq_some_iff.1 ho).1
  simp only [Option.some.injEq, Addr.mk.injEq, and_true] at e1
  obtain ⟨rfl, rfl⟩ := e1
  rw [ho] at e2
  cases e2
  exact ⟨hl, r⟩
/-- one, where the Fib is known by its first block alone -/
theorem one_x (S T : St) (o : OpD) (a : Ans) (b : FB) (fb : Nat) (w : World) (h : b.lies w S.A) (hS : S.ok) (hok : o.ok) (hfb : b.fb = fb) (hT : T = (S.step o).1) (ha : a = (S.step o).2) :
    Calls Tryd.prog 14 #[.pointer (some ⟨fb, 0, none⟩), .agg #[.int .i64 o.code, .int .i64 o.family, .string o.bits, .int .i64 o.len, .int .i64 o.hop]] w fun e w' => e = .returned (.tuple #[.agg #[.int .i64 a.err, .int .i64 a.hop, .int .i64 a.reads], .bool true]) ∧ ∃ b', b'.fb = fb ∧ b.moved b' w w' T.A ∧ T.ok := by
  subst hfb hT ha
  refine (one_any S o b w h hS hok).mono ?_
  rintro e w' ⟨rfl, b', hm⟩
  exact ⟨rfl, b', hm.fb, hm, (step_ok hS o).1⟩
theorem dumps_x (S T : St) (hS : S.ok) (hT : T.ok) (b c : FB) (fb gb : Nat) (w : World) (hb : b.lies w S.A) (hc : c.lies w T.A) (hM : S.M = T.M) (hZ : TzTab w) (h1 : b.fb = fb) (h2 : c.fb = gb) :
    Calls Tryd.prog 18 #[.pointer (some ⟨fb, 0, none⟩), .pointer (some ⟨gb, 0, none⟩)] w fun e w' => e = .returned (.bool true) ∧ Below w.heap.size w w' := by
  subst h1 h2
  exact dumps_any S T hS hT b c w hb hc hM hZ
end Go.Proofs.YtnapboelfimaaaaDoor
/- Three Fibs: one takes all, one the fours, one the rest. -/
namespace Go.Proofs.YtnapboelfimaaaaDoor
open Go.RowKit Go.Deep
def nextT (t : Tab) (o : OpD) : Tab := if opFault o = 0 then (if o.code = 1 then updT t o.l o.v (some o.hop.toNat) else if o.code = 2 then updT t o.l o.v none else t) else t
theorem next_at (M : Bool → Tab) (o : OpD) (q : Bool) : mNext M o q = if q = fam o.family then nextT (M q) o else M q := by
  unfold mNext nextT
  by_cases hf : opFault o = 0
  · rw [if_pos hf, if_pos hf]
    by_cases h1 : o.code = 1
    · rw [if_pos h1, if_pos h1]
      unfold updM
      by_cases hq : q = fam o.family
      · subst hq; simp
      · simp [hq]
    · rw [if_neg h1, if_neg h1]
      by_cases h2 : o.code = 2
      · rw [if_pos h2, if_pos h2]
        unfold updM
        by_cases hq : q = fam o.family
        · subst hq; simp
        · simp [hq]
      · rw [if_neg h2, if_neg h2]
        split <;> rfl
  · rw [if_neg hf, if_neg hf]
    split <;> rfl
theorem next_none {M : Bool → Tab} {o : OpD} (h : famBytes o.family = 0) : mNext M o = M := by
  unfold mNext
  by_cases hf : opFault o = 0
  · rw [if_pos hf]
    have h1 : o.code ≠ 1 := by
      intro hc
      unfold opFault prefFault at hf
      rw [if_pos hc, if_pos h] at hf
      simp at hf
    have h2 : o.code ≠ 2 := by
      intro hc
      unfold opFault prefFault at hf
      rw [if_neg (by omega), if_pos hc, if_pos h] at hf
      simp at hf
    rw [if_neg h1, if_neg h2]
  · rw [if_neg hf]
theorem step_count {S : St} (h : S.ok) (o : OpD) : count2 (S.step o).1.M ≤ count2 S.M + 1 := by
  by_cases h8 : (S.step o).2.err = 8
  · rw [(step_full h h8).2.1]; omega
  · rw [(step_m h h8).1]
    exact count_next (fun q => h.tab q) o
/-- what the three hold, behind so many operations -/
structure FamS (F G H : St) (k : Nat) : Prop where
  fg : F.M false = G.M false
  ge : G.M true = noTab true
  fh : F.M true = H.M true
  he : H.M false = noTab false
  cF : count2 F.M ≤ k
  cG : count2 G.M ≤ k
  cH : count2 H.M ≤ k
  sF : F.A.size = 65536
  sG : G.A.size = 65536
  sH : H.A.size = 65536
theorem fam_four {F G H : St} {k : Nat} (h : FamS F G H k) (hF : F.ok) (hG : G.ok) {o : OpD} (ho : o.family = 4) (e1 : (F.step o).2.err ≠ 8) (e2 : (G.step o).2.err ≠ 8) : FamS (F.step o).1 (G.step o).1 H (k + 1) := by
  have m1 := (step_m hF e1).1
  have m2 := (step_m hG e2).1
  have c1 := step_count hF o
  have c2 := step_count hG o
  have hf : fam o.family = false := by rw [ho]; decide
  obtain ⟨g1, g2, g3, g4, g5, g6, g7, g8, g9, g10⟩ := h
  refine ⟨?_, ?_, ?_, g4, by omega, by omega, by omega, (step_ok hF o).2.trans g8, (step_ok hG o).2.trans g9, g10⟩
  · rw [m1, m2, next_at, next_at, if_pos hf.symm, if_pos hf.symm, g1]
  · rw [m2, next_at, if_neg (by rw [hf]; decide)]; exact g2
  · rw [m1, next_at, if_neg (by rw [hf]; decide)]; exact g3
theorem fam_rest {F G H : St} {k : Nat} (h : FamS F G H k) (hF : F.ok) (hH : H.ok) {o : OpD} (ho : o.family ≠ 4) (e1 : (F.step o).2.err ≠ 8) (e2 : (H.step o).2.err ≠ 8) : FamS (F.step o).1 G (H.step o).1 (k + 1) := by
  have m1 := (step_m hF e1).1
  have m2 := (step_m hH e2).1
  have c1 := step_count hF o
  have c2 := step_count hH o
  obtain ⟨g1, g2, g3, g4, g5, g6, g7, g8, g9, g10⟩ := h
  by_cases h6 : o.family = 6
  · have hf : fam o.family = true := by rw [h6]; decide
    refine ⟨?_, g2, ?_, ?_, by omega, by omega, by omega, (step_ok hF o).2.trans g8, g9, (step_ok hH o).2.trans g10⟩
    · rw [m1, next_at, if_neg (by rw [hf]; decide)]; exact g1
    · rw [m1, m2, next_at, next_at, if_pos hf.symm, if_pos hf.symm, g3]
    · rw [m2, next_at, if_neg (by rw [hf]; decide)]; exact g4
  · have hz : famBytes o.family = 0 := by unfold famBytes; rw [if_neg ho, if_neg h6]
    rw [next_none hz] at m1 m2
    refine ⟨?_, g2, ?_, ?_, by omega, by omega, by omega, (step_ok hF o).2.trans g8, g9, (step_ok hH o).2.trans g10⟩
    · rw [m1]; exact g1
    · rw [m1, m2]; exact g3
    · rw [m2]; exact g4
/-- no room: more than a thousand operations -/
theorem fam_full {S : St} (h : S.ok) (hs : S.A.size = 65536) {k : Nat} (hc : count2 S.M ≤ k) {o : OpD} (e : (S.step o).2.err = 8) : o.code = 1 ∧ 1000 ≤ k := by
  obtain ⟨h1, _, h3⟩ := step_full h e
  rw [hs] at h3
  exact ⟨h1, by omega⟩
theorem look_same {S T : St} (hS : S.ok) (hT : T.ok) {o : OpD} (hc : o.code = 3) (h : S.M (fam o.family) = T.M (fam o.family)) : (S.step o).2.err = (T.step o).2.err ∧ (S.step o).2.hop = (T.step o).2.hop := by
  have e1 : (S.step o).2.err ≠ 8 := fun e => by have := (step_full hS e).1; omega
  have e2 : (T.step o).2.err ≠ 8 := fun e => by have := (step_full hT e).1; omega
  obtain ⟨_, a2, a3⟩ := step_m hS e1
  obtain ⟨_, b2, b3⟩ := step_m hT e2
  rw [a2, a3, b2, b3]
  unfold mErr mHop hopN
  rw [h, if_neg (show ¬ o.code = 2 by omega)]
  exact ⟨rfl, rfl⟩
theorem tell_at {S T : St} {f : Int} (h : S.M (fam f) = T.M (fam f)) : tellL S f = tellL T f := by unfold tellL; rw [h]
theorem tell_none {S : St} {f : Int} (h : S.M (fam f) = noTab (fam f)) : tellL S f = [] := by
  unfold tellL
  rw [h, dump_none]
  rfl
theorem fam_new {S : St} (h : S.M = noTab) (hs : S.A.size = 65536) : FamS S S S 0 :=
  ⟨rfl, by rw [h], rfl, by rw [h], by rw [h, count_none]; exact Nat.le_refl _, by rw [h, count_none]; exact Nat.le_refl _, by rw [h, count_none]; exact Nat.le_refl _, hs, hs, hs⟩
/-- three Fibs side by side -/
structure Trio (w0 : World) (b c d : FB) (F G H : St) (w : World) : Prop where
  lb : b.lies w F.A
  lc : c.lies w G.A
  ld : d.lies w H.A
  bc : b.apart c
  bd : b.apart d
  cd : c.apart d
  gb : b.ge w0.heap.size
  gc : c.ge w0.heap.size
  gd : d.ge w0.heap.size
  bw : Below w0.heap.size w0 w
  okF : F.ok
  okG : G.ok
  okH : H.ok
theorem Trio.ext {w0 : World} {b c d : FB} {F G H : St} {w w' : World} (h : Trio w0 b c d F G H w) (hb : Below w.heap.size w w') : Trio w0 b c d F G H w' := ⟨h.lb.ext hb, h.lc.ext hb, h.ld.ext hb, h.bc, h.bd, h.cd, h.gb, h.gc, h.gd, ext_trans h.bw hb, h.okF, h.okG, h.okH⟩
theorem Trio.one {w0 : World} {b b' c d : FB} {F G H T : St} {w w' : World} (h : Trio w0 b c d F G H w) (hm : b.moved b' w w' T.A) (hT : T.ok) : Trio w0 b' c d T G H w' :=
  ⟨hm.lies, hm.other h.lc h.bc, hm.other h.ld h.bd, hm.apart c _ h.lc h.bc, hm.apart d _ h.ld h.bd, h.cd, hm.ge _ h.gb h.bw.size, h.gc, h.gd, h.bw.trans (hm.below h.gb h.bw.size), hT, h.okG, h.okH⟩
theorem Trio.two {w0 : World} {b c c' d : FB} {F G H T : St} {w w' : World} (h : Trio w0 b c d F G H w) (hm : c.moved c' w w' T.A) (hT : T.ok) : Trio w0 b c' d F T H w' :=
  ⟨hm.other h.lb h.bc.symm, hm.lies, hm.other h.ld h.cd, (hm.apart b _ h.lb h.bc.symm).symm, h.bd, hm.apart d _ h.ld h.cd, h.gb, hm.ge _ h.gc h.bw.size, h.gd, h.bw.trans (hm.below h.gc h.bw.size), h.okF, hT, h.okH⟩
theorem Trio.three {w0 : World} {b c d d' : FB} {F G H T : St} {w w' : World} (h : Trio w0 b c d F G H w) (hm : d.moved d' w w' T.A) (hT : T.ok) : Trio w0 b c d' F G T w' :=
  ⟨hm.other h.lb h.bd.symm, hm.other h.lc h.cd.symm, hm.lies, h.bc, (hm.apart b _ h.lb h.bd.symm).symm, (hm.apart c _ h.lc h.cd.symm).symm, h.gb, h.gc, hm.ge _ h.gd h.bw.size, h.bw.trans (hm.below h.gd h.bw.size), h.okF, h.okG, hT⟩
end Go.Proofs.YtnapboelfimaaaaDoor
/- The law Families, walked. -/
namespace Go.Proofs.YtnapboelfimaaaaDoor
open Go.RowKit Go.Deep
theorem ret_dec {p : Prop} [Decidable p] (h : p) : Ending.returned (.bool (decide p)) = .returned (.bool true) := by rw [decide_eq_true h]
theorem look_ok (f : Int) (s : ByteArray) (hf : f = 4 ∨ f = 6) (h : s.size ≤ 9223372036854775807) : (⟨3, f, s, 0, 0⟩ : OpD).ok := by
  rcases hf with rfl | rfl <;> constructor <;> first | exact h | simp
set_option maxHeartbeats 4000000 in
set_option maxRecDepth 10000 in
theorem families_walk (ao : Option Addr) (cap : Nat) (ops : List OpD) (four six : ByteArray) (h4 : four.size ≤ 9223372036854775807) (h6 : six.size ≤ 9223372036854775807) (w : World) (hO : OpsOn w ao ops) (hlen : ops.length ≤ 2932031007402) (hZ : TzTab w) :
    Calls Tryd.prog 4 #[.slice ao ops.length cap, .string four, .string six] w fun e w' => e = .returned (.bool true) ∧ Below w.heap.size w w' := by
  have hS : (St.new 65536).ok := new_ok (by omega) (by omega)
  obtain ⟨S, hSd⟩ : ∃ S, S = St.new 65536 := ⟨_, rfl⟩
  have HSD := hide hSd
  have HFN := hide (show FamS S S S 0 from fam_new (by rw [hSd]; rfl) (by rw [hSd]; rfl))
  rw [← hSd] at hS
  clear hSd
  have HO := hide hO
  have HZ := hide hZ
  have HS := hide hS
  have H46 := hide (And.intro h4 h6)
  obtain ⟨m, hm⟩ : ∃ m, m = ops.length := ⟨_, rfl⟩
  have HM := hide hm
  rw [← hm] at hlen ⊢
  clear hO hZ hS hm h4 h6
  go_enter Tryd.func4, Tryd.ntmps4
  go_wp2_with fail
  refine (known_any w HZ.out).mono ?_
  rintro e w1 ⟨rfl, hb1⟩
  have B1 := hide hb1
  clear hb1
  go_wp2_with fail
  refine (fib_x _ 65536 _ rfl (by omega) (by omega)).mono ?_
  rintro e w2 ⟨rfl, hb2, hl2⟩
  have L2 := hide hl2
  have B2 := hide (ext_trans B1.out hb2)
  have G2 := hide ((newB_ge w1).mono B1.out.size)
  obtain ⟨b, hb⟩ : ∃ b, b = newB w1 := ⟨_, rfl⟩
  rw [← hb] at L2 G2 ⊢
  rw [← HSD.out] at L2
  clear hb2 hl2 hb
  go_wp2_with fail
  refine (fib_x _ 65536 _ rfl (by omega) (by omega)).mono ?_
  rintro e w3 ⟨rfl, hb3, hl3⟩
  have L3 := hide hl3
  have B3 := hide (ext_trans B2.out hb3)
  have G3 := hide ((newB_ge w2).mono B2.out.size)
  have A3 := hide (FB.apart_new L2.out (newB_ge w2))
  have L2' := hide (L2.out.ext hb3)
  obtain ⟨c, hc⟩ : ∃ c, c = newB w2 := ⟨_, rfl⟩
  rw [← hc] at L3 G3 A3 ⊢
  rw [← HSD.out] at L3
  clear hb3 hl3 hc
  go_wp2_with fail
  refine (fib_x _ 65536 _ rfl (by omega) (by omega)).mono ?_
  rintro e w4 ⟨rfl, hb4, hl4⟩
  obtain ⟨d, hd⟩ : ∃ d, d = newB w3 := ⟨_, rfl⟩
  have DT := hide (show Trio w b c d S S S w4 from by
    rw [HSD.out] at *
    exact ⟨L2'.out.ext hb4, L3.out.ext hb4, by rw [hd]; exact hl4, A3.out, by rw [hd]; exact FB.apart_new L2'.out (newB_ge w3), by rw [hd]; exact FB.apart_new L3.out (newB_ge w3), G2.out, G3.out, by rw [hd]; exact (newB_ge w3).mono B3.out.size, ext_trans B3.out hb4, HS.out, HS.out, HS.out⟩)
  rw [← hd]
  clear hb4 hl4 hd
  go_wp2_with fail
  go_loopw [11] (fun v wr => ∃ (i : Nat) (b' c' d' : FB) (F G H : St), v = .int .i64 (i : Int) ∧ i ≤ m ∧ b'.fb = b.fb ∧ c'.fb = c.fb ∧ d'.fb = d.fb ∧ Trio w b' c' d' F G H wr ∧ FamS F G H i) (fun v _ => m - (intOf v).toNat)
  case atStart => exact ⟨0, b, c, d, S, S, S, rfl, Nat.zero_le _, rfl, rfl, rfl, DT.out, HFN.out⟩
  case round =>
    obtain ⟨i, b', c', d', F, G, H, rfl, hi, hbf, hcf, hdf, hD, hF⟩ := hrel
    have HBF := hide (And.intro hbf (And.intro hcf hdf))
    have HD := hide hD
    have HF := hide hF
    by_cases hin : i < m
    · have hil : i < ops.length := by rw [← HM.out]; exact hin
      obtain ⟨ob, off, o, rfl, ho, hok, hl0, _⟩ := HO.out.at hD.bw hil
      have HOI := hide (fun (w' : World) (hb : Below w.heap.size w w') => HO.out.cell hb ho)
      obtain ⟨T, hT⟩ : ∃ T, T = (F.step o).1 := ⟨_, rfl⟩
      obtain ⟨a, ha⟩ : ∃ a, a = (F.step o).2 := ⟨_, rfl⟩
      have HON1 := hide (one_x F T o a b' b.fb wr hD.lb hD.okF hok hbf hT ha)
      have HFX := hide (show a.err = 8 → o.code = 1 ∧ 1000 ≤ i from fun e => fam_full hD.okF hF.sF hF.cF (by rw [← ha]; exact e))
      have HTA := hide (And.intro hT ha)
      obtain ⟨_, d0, d1, d2, d3, d4⟩ := HOI.out wr hD.bw
      clear hD hF hbf hcf hdf hT ha ho
      go_wp2_with fail
      refine HON1.out.mono ?_
      rintro e wa ⟨rfl, b1, hb1, hm1, hk1⟩
      have hDa := HD.out.one hm1 hk1
      obtain ⟨wb, hwb⟩ : ∃ wb, wb = wa.alloc (.cells #[.int .i64 a.err, .int .i64 a.hop, .int .i64 a.reads] 33) := ⟨_, rfl⟩
      have hbb : Below wa.heap.size wa wb := by rw [hwb]; exact ext_alloc _ _
      have Z1 := hide (show wb.heap[wa.heap.size]? = some (.cells #[.int .i64 a.err, .int .i64 a.hop, .int .i64 a.reads] 33 (0, 0)) by rw [hwb]; exact heap_alloc_new _ _)
      have DB := hide (hDa.ext hbb)
      have HWB := hide hwb
      clear d0 d1 d2 d3 d4
      obtain ⟨hlo, d0, d1, d2, d3, d4⟩ := HOI.out wa hDa.bw
      obtain ⟨z1, hz1⟩ : ∃ z1, z1 = wa.heap.size := ⟨_, rfl⟩
      rw [← hz1] at Z1
      have HZ1 := hide hz1
      have HB1 := hide hb1
      clear hm1 hDa hwb hbb hb1 hz1
      by_cases hf4 : o.family = 4
      · have ef4 : (o.family == 4) = true := by simpa using hf4
        obtain ⟨V, hV⟩ : ∃ V, V = (G.step o).1 := ⟨_, rfl⟩
        obtain ⟨y, hy⟩ : ∃ y, y = (G.step o).2 := ⟨_, rfl⟩
        have HON2 := hide (one_x G V o y c' c.fb wb DB.out.lc DB.out.okG hok HBF.out.2.1 hV hy)
        have HFY := hide (show y.err = 8 → o.code = 1 ∧ 1000 ≤ i from fun e => fam_full HD.out.okG HF.out.sG HF.out.cG (by rw [← hy]; exact e))
        have HNF := hide (show a.err ≠ 8 → y.err ≠ 8 → FamS T V H (i + 1) from fun e1 e2 => by
          rw [HTA.out.2] at e1
          rw [hy] at e2
          rw [HTA.out.1, hV]
          exact fam_four HF.out HD.out.okF HD.out.okG hf4 e1 e2)
        clear hV hy hf4
        go_wp2_with fail
        rw [← HWB.out, ← HZ1.out]
        refine HON2.out.mono ?_
        rintro e wc ⟨rfl, c2, hc2, hm2, hk2⟩
        have hDc := DB.out.two hm2 hk2
        have hZ1 := hm2.keep DB.out.lc Z1.out (by decide) (by decide) (by decide)
        obtain ⟨t0, _, _⟩ := cells3 hZ1
        have lt1 := lt_of_block hZ1
        have hbd : Below wc.heap.size wc (wc.alloc (.cells #[.int .i64 y.err, .int .i64 y.hop, .int .i64 y.reads] 33)) := ext_alloc _ _
        have DE := hide (hDc.ext hbd)
        have BE := hide (hDc.ext hbd).bw
        have HFB := hide (And.intro HB1.out (And.intro hc2 HBF.out.2.2))
        clear d0 d1 d2 d3 d4 hlo
        obtain ⟨hlo, d0, _⟩ := HOI.out wc hDc.bw
        clear hm2 hDc hZ1 hbd hc2 hk2
        (by_cases hx : a.err = 8; (focus (have ex8 : (a.err == 8) = true := (by simpa using hx); have ec1 : (o.code == 1) = true := (by simpa using (HFX.out hx).1); have hgt : (1000 : Int) < m := (by have := (HFX.out hx).2; omega); clear hx; go_wp2; go_ret; first | exact ⟨rfl, BE.out⟩ | exact ⟨ret_dec hgt, BE.out⟩)); (have ex8 : (a.err == 8) = false := (by simpa using hx); by_cases hy : y.err = 8; (focus (have ey8 : (y.err == 8) = true := (by simpa using hy); have ec1 : (o.code == 1) = true := (by simpa using (HFY.out hy).1); have hgt : (1000 : Int) < m := (by have := (HFY.out hy).2; omega); clear hx hy; go_wp2; go_ret; first | exact ⟨rfl, BE.out⟩ | exact ⟨ret_dec hgt, BE.out⟩)); (have ey8 : (y.err == 8) = false := (by simpa using hy); have HNX := hide (HNF.out hx hy); clear hx hy; go_wp2; exact ⟨⟨i + 1, _, _, _, _, _, _, by simp, by omega, HFB.out.1, HFB.out.2.1, HFB.out.2.2, DE.out, HNX.out⟩, by simp [intOf]; omega⟩)))
      · have ef4 : (o.family == 4) = false := by simpa using hf4
        obtain ⟨V, hV⟩ : ∃ V, V = (H.step o).1 := ⟨_, rfl⟩
        obtain ⟨y, hy⟩ : ∃ y, y = (H.step o).2 := ⟨_, rfl⟩
        have HON2 := hide (one_x H V o y d' d.fb wb DB.out.ld DB.out.okH hok HBF.out.2.2 hV hy)
        have HFY := hide (show y.err = 8 → o.code = 1 ∧ 1000 ≤ i from fun e => fam_full HD.out.okH HF.out.sH HF.out.cH (by rw [← hy]; exact e))
        have HNF := hide (show a.err ≠ 8 → y.err ≠ 8 → FamS T G V (i + 1) from fun e1 e2 => by
          rw [HTA.out.2] at e1
          rw [hy] at e2
          rw [HTA.out.1, hV]
          exact fam_rest HF.out HD.out.okF HD.out.okH hf4 e1 e2)
        clear hV hy hf4
        go_wp2_with fail
        rw [← HWB.out, ← HZ1.out]
        refine HON2.out.mono ?_
        rintro e wc ⟨rfl, d2', hd2, hm2, hk2⟩
        have hDc := DB.out.three hm2 hk2
        have hZ1 := hm2.keep DB.out.ld Z1.out (by decide) (by decide) (by decide)
        obtain ⟨t0, _, _⟩ := cells3 hZ1
        have lt1 := lt_of_block hZ1
        have hbd : Below wc.heap.size wc (wc.alloc (.cells #[.int .i64 y.err, .int .i64 y.hop, .int .i64 y.reads] 33)) := ext_alloc _ _
        have DE := hide (hDc.ext hbd)
        have BE := hide (hDc.ext hbd).bw
        have HFB := hide (And.intro HB1.out (And.intro HBF.out.2.1 hd2))
        clear d0 d1 d2 d3 d4 hlo
        obtain ⟨hlo, d0, _⟩ := HOI.out wc hDc.bw
        clear hm2 hDc hZ1 hbd hd2 hk2
        (by_cases hx : a.err = 8; (focus (have ex8 : (a.err == 8) = true := (by simpa using hx); have ec1 : (o.code == 1) = true := (by simpa using (HFX.out hx).1); have hgt : (1000 : Int) < m := (by have := (HFX.out hx).2; omega); clear hx; go_wp2; go_ret; first | exact ⟨rfl, BE.out⟩ | exact ⟨ret_dec hgt, BE.out⟩)); (have ex8 : (a.err == 8) = false := (by simpa using hx); by_cases hy : y.err = 8; (focus (have ey8 : (y.err == 8) = true := (by simpa using hy); have ec1 : (o.code == 1) = true := (by simpa using (HFY.out hy).1); have hgt : (1000 : Int) < m := (by have := (HFY.out hy).2; omega); clear hx hy; go_wp2; go_ret; first | exact ⟨rfl, BE.out⟩ | exact ⟨ret_dec hgt, BE.out⟩)); (have ey8 : (y.err == 8) = false := (by simpa using hy); have HNX := hide (HNF.out hx hy); clear hx hy; go_wp2; exact ⟨⟨i + 1, _, _, _, _, _, _, by simp, by omega, HFB.out.1, HFB.out.2.1, HFB.out.2.2, DE.out, HNX.out⟩, by simp [intOf]; omega⟩)))
    · obtain rfl : i = m := by omega
      have HDU := hide (fun (R : St) (hR : R.ok) (e : FB) (fb : Nat) (he : e.fb = fb) (w : World) (hl : e.lies w R.A) (hz : TzTab w) (x f : Int) (hx : x = f) (hf : famBytes f ≠ 0) => show Calls Tryd.prog 15 #[.pointer (some ⟨fb, 0, none⟩), .int .i64 x] w fun e w' => ∃ v, e = .returned v ∧ w'.ownsRow w.heap.size 47 3 v (tellL R f).length (flatR (tellL R f)) ∧ Below w.heap.size w w' from by rw [← he]; exact dump_any R hR e w hl hz x f hx hf)
      clear hD hF hbf hcf hdf hin
      go_wp2_with fail
      refine (HDU.out F HD.out.okF b' b.fb HBF.out.1 wr HD.out.lb (HZ.out.ext HD.out.bw) _ 4 rfl (by decide)).mono ?_
      rintro e w5 ⟨v5, rfl, o5, e5⟩
      have D5 := hide (HD.out.ext e5)
      have O5 := hide o5
      clear o5 e5
      go_wp2_with fail
      refine (HDU.out G D5.out.okG c' c.fb HBF.out.2.1 w5 D5.out.lc (HZ.out.ext D5.out.bw) _ 4 rfl (by decide)).mono ?_
      rintro e w6 ⟨v6, rfl, o6, e6⟩
      have D6 := hide (D5.out.ext e6)
      have O6 := hide (And.intro (owns_ext O5.out e6) o6)
      clear o6 e6
      go_wp2_with fail
      refine (HDU.out F D6.out.okF b' b.fb HBF.out.1 w6 D6.out.lb (HZ.out.ext D6.out.bw) _ 6 rfl (by decide)).mono ?_
      rintro e w7 ⟨v7, rfl, o7, e7⟩
      have D7 := hide (D6.out.ext e7)
      have O7 := hide (And.intro (owns_ext O6.out.1 e7) (And.intro (owns_ext O6.out.2 e7) o7))
      clear o7 e7
      go_wp2_with fail
      refine (HDU.out H D7.out.okH d' d.fb HBF.out.2.2 w7 D7.out.ld (HZ.out.ext D7.out.bw) _ 6 rfl (by decide)).mono ?_
      rintro e w8 ⟨v8, rfl, o8, e8⟩
      have D8 := hide (D7.out.ext e8)
      have O8 := hide (And.intro (owns_ext O7.out.1 e8) (And.intro (owns_ext O7.out.2.1 e8) (And.intro (owns_ext O7.out.2.2 e8) o8)))
      clear o8 e8
      go_wp2_with fail
      refine (same_any (tellL F 4) _ _ v5 v6 w8 O8.out.1 (by rw [tell_at (S := F) (T := G) (f := 4) HF.out.fg]; exact O8.out.2.1) (by have := tell_le D8.out.okF 4; omega)).mono ?_
      rintro e w9 ⟨rfl, e9⟩
      have D9 := hide (D8.out.ext e9)
      have O9 := hide (And.intro (owns_ext O8.out.2.2.1 e9) (owns_ext O8.out.2.2.2 e9))
      clear e9
      go_wp2_with fail
      refine (same_any (tellL F 6) _ _ v7 v8 w9 O9.out.1 (by rw [tell_at (S := F) (T := H) (f := 6) HF.out.fh]; exact O9.out.2) (by have := tell_le D9.out.okF 6; omega)).mono ?_
      rintro e wa ⟨rfl, ea⟩
      have Da := hide (D9.out.ext ea)
      clear ea
      go_wp2_with fail
      refine (HDU.out G Da.out.okG c' c.fb HBF.out.2.1 wa Da.out.lc (HZ.out.ext Da.out.bw) _ 6 rfl (by decide)).mono ?_
      rintro e wb ⟨vb, rfl, ob, eb⟩
      rw [tell_none (f := 6) HF.out.ge] at ob
      obtain ⟨ab, cb, rfl⟩ := owns_slice ob
      have Db := hide (Da.out.ext eb)
      clear ob eb
      go_wp2_with fail
      refine (HDU.out H Db.out.okH d' d.fb HBF.out.2.2 wb Db.out.ld (HZ.out.ext Db.out.bw) _ 4 rfl (by decide)).mono ?_
      rintro e wc ⟨vc, rfl, oc, ec⟩
      rw [tell_none (f := 4) HF.out.he] at oc
      obtain ⟨ac, cc, rfl⟩ := owns_slice oc
      have Dc := hide (Db.out.ext ec)
      clear oc ec
      obtain ⟨P1, hP1⟩ : ∃ P1, P1 = (F.step ⟨3, 4, four, 0, 0⟩).1 := ⟨_, rfl⟩
      obtain ⟨p, hp⟩ : ∃ p, p = (F.step ⟨3, 4, four, 0, 0⟩).2 := ⟨_, rfl⟩
      obtain ⟨Q1, hQ1⟩ : ∃ Q1, Q1 = (G.step ⟨3, 4, four, 0, 0⟩).1 := ⟨_, rfl⟩
      obtain ⟨q, hq⟩ : ∃ q, q = (G.step ⟨3, 4, four, 0, 0⟩).2 := ⟨_, rfl⟩
      have hpq := look_same Dc.out.okF Dc.out.okG (o := ⟨3, 4, four, 0, 0⟩) rfl HF.out.fg
      rw [← hp, ← hq] at hpq
      have hMP : P1.M = F.M := by rw [hP1]; exact step_same Dc.out.okF (Or.inr (Or.inl rfl))
      have k1 := look_ok 4 four (Or.inl rfl) H46.out.1
      have k2 := look_ok 6 six (Or.inr rfl) H46.out.2
      have HN1 := hide (one_x F P1 ⟨3, 4, four, 0, 0⟩ p b' b.fb wc Dc.out.lb Dc.out.okF k1 HBF.out.1 hP1 hp)
      have HN2 := hide (fun (w : World) (hl : c'.lies w G.A) => one_x G Q1 ⟨3, 4, four, 0, 0⟩ q c' c.fb w hl Dc.out.okG k1 HBF.out.2.1 hQ1 hq)
      obtain ⟨P2, hP2⟩ : ∃ P2, P2 = (P1.step ⟨3, 6, six, 0, 0⟩).1 := ⟨_, rfl⟩
      obtain ⟨r, hr⟩ : ∃ r, r = (P1.step ⟨3, 6, six, 0, 0⟩).2 := ⟨_, rfl⟩
      obtain ⟨H2, hH2⟩ : ∃ H2, H2 = (H.step ⟨3, 6, six, 0, 0⟩).1 := ⟨_, rfl⟩
      obtain ⟨s, hs⟩ : ∃ s, s = (H.step ⟨3, 6, six, 0, 0⟩).2 := ⟨_, rfl⟩
      have hrs := fun (h1 : P1.ok) => look_same h1 Dc.out.okH (o := ⟨3, 6, six, 0, 0⟩) rfl (by rw [hMP]; exact HF.out.fh)
      rw [← hr, ← hs] at hrs
      have HRS := hide hrs
      have HN3 := hide (fun (x : FB) (hx : x.fb = b.fb) (w : World) (hl : x.lies w P1.A) (hk : P1.ok) => one_x P1 P2 ⟨3, 6, six, 0, 0⟩ r x b.fb w hl hk k2 hx hP2 hr)
      have HN4 := hide (fun (w : World) (hl : d'.lies w H.A) => one_x H H2 ⟨3, 6, six, 0, 0⟩ s d' d.fb w hl Dc.out.okH k2 HBF.out.2.2 hH2 hs)
      have HPQ := hide hpq
      clear hP1 hp hQ1 hq hpq hMP hP2 hr hH2 hs hrs k1 k2
      go_wp2_with fail
      refine HN1.out.mono ?_
      rintro e wd ⟨rfl, b2, hb2, hm2, hk2⟩
      have hDd := Dc.out.one hm2 hk2
      obtain ⟨we, hwe⟩ : ∃ we, we = wd.alloc (.cells #[.int .i64 p.err, .int .i64 p.hop, .int .i64 p.reads] 33) := ⟨_, rfl⟩
      have hbe : Below wd.heap.size wd we := by rw [hwe]; exact ext_alloc _ _
      have Z1 := hide (show we.heap[wd.heap.size]? = some (.cells #[.int .i64 p.err, .int .i64 p.hop, .int .i64 p.reads] 33 (0, 0)) by rw [hwe]; exact heap_alloc_new _ _)
      have De := hide (hDd.ext hbe)
      have HWE := hide hwe
      have HB2 := hide hb2
      have HK2 := hide hk2
      obtain ⟨z1, hz1⟩ : ∃ z1, z1 = wd.heap.size := ⟨_, rfl⟩
      rw [← hz1] at Z1
      have HZ1 := hide hz1
      clear hm2 hDd hwe hbe hb2 hk2 hz1
      go_wp2_with fail
      rw [← HWE.out, ← HZ1.out]
      refine (HN2.out we De.out.lc).mono ?_
      rintro e wf ⟨rfl, c2, hc2, hm3, hk3⟩
      have hDf := De.out.two hm3 hk3
      have hZ1 := hm3.keep De.out.lc Z1.out (by decide) (by decide) (by decide)
      obtain ⟨wg, hwg⟩ : ∃ wg, wg = wf.alloc (.cells #[.int .i64 q.err, .int .i64 q.hop, .int .i64 q.reads] 33) := ⟨_, rfl⟩
      have hbg : Below wf.heap.size wf wg := by rw [hwg]; exact ext_alloc _ _
      have Z2 := hide (And.intro (block_ext hZ1 hbg) (show wg.heap[wf.heap.size]? = some (.cells #[.int .i64 q.err, .int .i64 q.hop, .int .i64 q.reads] 33 (0, 0)) by rw [hwg]; exact heap_alloc_new _ _))
      have Dg := hide (hDf.ext hbg)
      have HWG := hide hwg
      obtain ⟨z2, hz2⟩ : ∃ z2, z2 = wf.heap.size := ⟨_, rfl⟩
      rw [← hz2] at Z2
      have HZ2 := hide hz2
      clear hm3 hDf hZ1 hwg hbg hc2 hk3 hz2
      go_wp2_with fail
      rw [← HWG.out, ← HZ2.out]
      refine (HN3.out b2 HB2.out wg Dg.out.lb HK2.out).mono ?_
      rintro e wh ⟨rfl, b3, hb3, hm4, hk4⟩
      have hDh := Dg.out.one hm4 hk4
      have hZ1 := hm4.keep Dg.out.lb Z2.out.1 (by decide) (by decide) (by decide)
      have hZ2 := hm4.keep Dg.out.lb Z2.out.2 (by decide) (by decide) (by decide)
      obtain ⟨wi, hwi⟩ : ∃ wi, wi = wh.alloc (.cells #[.int .i64 r.err, .int .i64 r.hop, .int .i64 r.reads] 33) := ⟨_, rfl⟩
      have hbi : Below wh.heap.size wh wi := by rw [hwi]; exact ext_alloc _ _
      have Z3 := hide (And.intro (block_ext hZ1 hbi) (And.intro (block_ext hZ2 hbi) (show wi.heap[wh.heap.size]? = some (.cells #[.int .i64 r.err, .int .i64 r.hop, .int .i64 r.reads] 33 (0, 0)) by rw [hwi]; exact heap_alloc_new _ _)))
      have Di := hide (hDh.ext hbi)
      have HWI := hide hwi
      obtain ⟨z3, hz3⟩ : ∃ z3, z3 = wh.heap.size := ⟨_, rfl⟩
      rw [← hz3] at Z3
      have HZ3 := hide hz3
      clear hm4 hDh hZ1 hZ2 hwi hbi hb3 hk4 hz3
      go_wp2_with fail
      rw [← HWI.out, ← HZ3.out]
      refine (HN4.out wi Di.out.ld).mono ?_
      rintro e wj ⟨rfl, d3, hd3, hm5, hk5⟩
      have hDj := Di.out.three hm5 hk5
      obtain ⟨x0, x1, _⟩ := cells3 (hm5.keep Di.out.ld Z3.out.1 (by decide) (by decide) (by decide))
      obtain ⟨y0, y1, _⟩ := cells3 (hm5.keep Di.out.ld Z3.out.2.1 (by decide) (by decide) (by decide))
      obtain ⟨t0, t1, _⟩ := cells3 (hm5.keep Di.out.ld Z3.out.2.2 (by decide) (by decide) (by decide))
      have l1 := lt_of_block (hm5.keep Di.out.ld Z3.out.1 (by decide) (by decide) (by decide))
      have l2 := lt_of_block (hm5.keep Di.out.ld Z3.out.2.1 (by decide) (by decide) (by decide))
      have l3 := lt_of_block (hm5.keep Di.out.ld Z3.out.2.2 (by decide) (by decide) (by decide))
      have hE := (hDj.ext (ext_alloc wj (.cells #[.int .i64 s.err, .int .i64 s.hop, .int .i64 s.reads] 33))).bw
      have BE := hide hE
      have e1 : (p.err == q.err) = true := by simpa using HPQ.out.1
      have e2 : (p.hop == q.hop) = true := by simpa using HPQ.out.2
      have e3 : (r.err == s.err) = true := by simpa using (HRS.out HK2.out).1
      have e4 : (r.hop == s.hop) = true := by simpa using (HRS.out HK2.out).2
      clear hm5 hDj hd3 hk5 hE
      go_wp2
      go_ret
      exact ⟨rfl, BE.out⟩
end Go.Proofs.YtnapboelfimaaaaDoor
namespace Go.Proofs.YtnapboelfimaaaaDoor.families
open Go.ChangeShapes Go.WideShapes Go.ChangeAt Go.RowKit Go.Deep
theorem laidOut : laidOutB Tryd.prog = true := by kernel_rfl
theorem own : ownKnob Tryd.prog.godebug = none := by kernel_rfl
set_option maxRecDepth 10000 in
theorem contract (H : Type) (enc : TypeId × Value → H) (W : World) (base : Nat) (args : Array Value) (ds gs : List (DataW H)) (before : List MemPlace)
    (hval : ∀ (j : Nat) t v, Tryd.f4.params[j]? = some t → args[j]? = some v → Value.okWide Tryd.prog W .any base t v)
    (hW : DataW.Whole enc Tryd.prog Tryd.f4.params.toList Rows.familiesSpec.vars false W args.toList ds gs before)
    (hsz : (DataW.weightsEach Tryd.prog (Tryd.f4.params.toList ++ Rows.familiesSpec.plain.varTypes Tryd.prog) (ds ++ gs)).all (· ≤ reachBytes) = true)
    (hlaid : laidMet Tryd.prog Rows.familiesRow.laid W) :
    Calls Tryd.prog 4 args W fun e W' => ∃ v, e = .returned v ∧ Rows.familiesSpec.post enc Tryd.prog Tryd.f4 false true false false W args v W' := by
  have hW' := hW
  obtain ⟨p, q, hA0, hV, rfl, hfz, hnd⟩ := hW
  have hA : DataW.TrodAll enc Tryd.prog W 0 (fun _ => true) true Tryd.f4.params.toList args.toList ds p := hA0
  rw [Tryd.params4] at hA hval hsz
  obtain ⟨v0, vs0, d0, ds0, p0, q0, hargs, rfl, rfl, h0, r0⟩ := trodAll_cons hA
  obtain ⟨v1, vs1, d1, ds1, p1, q1, hargs1, rfl, rfl, h1, r1⟩ := trodAll_cons r0
  obtain ⟨v2, vs2, d2, ds2, p2, q2, hargs2, rfl, rfl, h2, r2⟩ := trodAll_cons r1
  obtain ⟨rfl, rfl, rfl⟩ := trodAll_nil r2
  obtain rfl : args = #[v0, v1, v2] := by cases args; simp_all
  obtain ⟨rfl, rfl⟩ := trodVars_none hV
  obtain ⟨a0, len, cap, rfl⟩ := okWide_slice Tryd.underlying22 (hval 0 22 v0 rfl rfl)
  obtain ⟨s1, rfl⟩ := okWide_string Tryd.underlying9 (hval 1 9 v1 rfl rfl)
  obtain ⟨s2, rfl⟩ := okWide_string Tryd.underlying9 (hval 2 9 v2 rfl rfl)
  have h0k := h0
  have h1k := h1
  have h2k := h2
  obtain ⟨fuel1, hf1⟩ := h1
  obtain ⟨s1', en1, _, bs1⟩ := DataW.trod_string Tryd.underlying9 hf1
  simp [Value.cells] at en1
  subst en1
  obtain ⟨fuel2, hf2⟩ := h2
  obtain ⟨s2', en2, _, bs2⟩ := DataW.trod_string Tryd.underlying9 hf2
  simp [Value.cells] at en2
  subst en2
  obtain ⟨fuel0, hf0⟩ := h0
  obtain ⟨ops, ao, cap', e, hs, hn⟩ := open_ops hf0
  have hn' := hn (fun n hn => by
    have := List.all_eq_true.1 hsz n (DataW.weights_mem_each (j := 0) (t := 22) rfl rfl n hn)
    simpa using this)
  simp [Value.cells] at e
  obtain ⟨rfl, rfl, rfl⟩ := e
  clear hA0 hsz hn
  simp only [List.append_nil] at hW'
  refine (families_walk a0 cap ops s1 s2 (by simpa [maxLen] using bs1) (by simpa [maxLen] using bs2) W hs (by omega) (tz_of_laid hlaid)).mono fun e W' ⟨he, hg⟩ => ?_
  subst he
  have hlt : ∀ x ∈ p0 ++ (p1 ++ p2), x.block < W.heap.size := fun x hx => by simpa using hW'.lt x (by simpa using hx)
  have hArg0 := Below.trod laidOut (by kernel_rfl) (of_decide_eq_true (by kernel_rfl)) h0k hg (fun x hx => hlt x (List.mem_append_left _ hx))
  have hArg1 := Below.trod laidOut (by kernel_rfl) (of_decide_eq_true (by kernel_rfl)) h1k hg (fun x hx => hlt x (List.mem_append_right _ (List.mem_append_left _ hx)))
  have hArg2 := Below.trod laidOut (by kernel_rfl) (of_decide_eq_true (by kernel_rfl)) h2k hg (fun x hx => hlt x (List.mem_append_right _ (List.mem_append_right _ hx)))
  exact ⟨_, rfl, [d0, d1, d2], [], p0 ++ (p1 ++ p2), [], p0 ++ (p1 ++ p2), [], hW', trodAll_cons_mk (shut_bool Tryd.underlying4 true) trodAll_mk0, (by have h1 := trodAll_cons_mk hArg0 (trodAll_cons_mk hArg1 (trodAll_cons_mk hArg2 trodAll_mk0)); rw [List.append_nil] at h1; exact h1), rfl, hg.frame _, fun h => by cases h⟩

/-- a block that holds these bytes -/
def lay (xs : List Int) : Obj → Obj
  | .cells _ t frozen => .cells (xs.map (Value.int .u8)).toArray t frozen
  | o => o
def tab32 : List Int := [0, 1, 28, 2, 29, 14, 24, 3, 30, 22, 20, 15, 25, 17, 4, 8, 31, 27, 13, 23, 21, 19, 16, 7, 26, 12, 18, 6, 11, 5, 10, 9]
def tab64 : List Int := tzL
theorem laid_met (os : Os) : laidMet Tryd.prog Rows.familiesRow.laid (({ World.holding Tryd.prog os ⟨#[], #[], []⟩ with heap := ((World.holding Tryd.prog os ⟨#[], #[], []⟩).heap.modify 0 (lay tab32)).modify 1 (lay tab64) } : World).forCall (fun _ _ => 0) ⟨#[], #[.slice none 0 0, .string .empty, .string .empty], []⟩).memory :=
  laidMet_of_run' 8 (by kernel_rfl) (by kernel_rfl)
theorem reads (os : Os) {H : Type} (enc : TypeId × Value → H) : ∃ places, DataW.whole enc Tryd.prog (({ World.holding Tryd.prog os ⟨#[], #[], []⟩ with heap := ((World.holding Tryd.prog os ⟨#[], #[], []⟩).heap.modify 0 (lay tab32)).modify 1 (lay tab64) } : World).forCall (fun _ _ => 0) ⟨#[], #[.slice none 0 0, .string .empty, .string .empty], []⟩).memory Tryd.f4.params.toList Rows.familiesSpec.vars false #[Value.slice none 0 0, .string .empty, .string .empty].toList 8 = some ([.nil, .lit (.string []), .lit (.string [])], [], places) :=
  ⟨[], by kernel_rfl⟩
set_option maxRecDepth 100000 in
theorem lifted (os : Os) (started : os.Started) (H : Type) (enc : TypeId × Value → H) (F : Stop.Interp) :
    ReturnsInHanded {} Tryd.checked os 4 .any ((OpenSpec.ofChange Rows.familiesSpec).preRow enc Tryd.prog Tryd.f4 Rows.familiesRow.domain false Rows.familiesRow.laid) (((OpenSpec.ofChange Rows.familiesSpec).at F).post enc Tryd.prog Tryd.f4 false true false false) := by
  obtain ⟨places, hx⟩ := reads os enc
  refine returnsInHanded_of_row (C := Tryd.checked) (s := OpenSpec.ofChange Rows.familiesSpec) own started (by kernel_rfl) Tryd.func4
    (witness_row_at (enc := enc) (C := Tryd.checked) false ({ World.holding Tryd.prog os ⟨#[], #[], []⟩ with heap := ((World.holding Tryd.prog os ⟨#[], #[], []⟩).heap.modify 0 (lay tab32)).modify 1 (lay tab64) } : World) #[.slice none 0 0, .string .empty, .string .empty] rfl (by kernel_rfl) (by kernel_rfl) (by kernel_rfl)
      (OpenSpec.preRow_of_cond 8 hx (by kernel_rfl) (fun k hk => by cases hk) (by kernel_rfl) (laid_met os))) ?_
  intro W base args ds gs before hval hW _ _ hsz hlaid _ _
  exact contract H enc W base args ds gs before hval hW hsz hlaid
theorem said : Rows.FamiliesSaid :=
  OpenClaim.holds_of_cond 4 Tryd.f4 rfl rfl rfl rfl rfl rfl rfl ⟨rfl, rfl, rfl, rfl, rfl⟩ rfl rfl rfl rfl rfl (by kernel_rfl) Tryd.func4 (by kernel_rfl)
    (of_decide_eq_true (by kernel_rfl)) (by unfold Func.isWrapper; first | (rw [if_pos (by decide +kernel)]; kernel_rfl) | (rw [if_neg (by decide +kernel)]; exact ⟨rfl, rfl⟩))
    (fun os started H enc _ F => by rw [OpenClaim.pre_eq_preRow]; exact lifted os started H enc F)
theorem plain (f : FuncId) (fn : Func) (hf : Tryd.pinned.checked.prog.funcNamed Rows.familiesRow.func = some f) (hfn : Tryd.pinned.checked.prog.funcs[f]? = some fn) :
    true = Tryd.pinned.checked.prog.looks [] ∧ ∀ (j : Nat) t, fn.params[j]? = some t → Tryd.pinned.checked.prog.wantsStandIn t = false := by
  obtain rfl : f = 4 := Option.some.inj ((show Tryd.prog.funcNamed Rows.familiesRow.func = some 4 by kernel_rfl).symm.trans hf) |>.symm
  obtain rfl : fn = Tryd.f4 := (Option.some.inj (Tryd.func4.symm.trans hfn)).symm
  refine ⟨by kernel_rfl, fun j t ht => ?_⟩
  rw [Tryd.params4] at ht
  have ht' := Array.mem_of_getElem? ht
  simp only [List.mem_toArray, List.mem_cons, List.not_mem_nil, or_false] at ht'
  rcases ht' with rfl | rfl | rfl
  · exact (show Tryd.prog.wantsStandIn 22 = false by kernel_rfl)
  · exact (show Tryd.prog.wantsStandIn 9 = false by kernel_rfl)
  · exact (show Tryd.prog.wantsStandIn 9 = false by kernel_rfl)
end Go.Proofs.YtnapboelfimaaaaDoor.families

namespace Go.Proofs.YtnapboelfimaaaaDoor
/-- THE CARD -/
theorem families_card : Rows.FamiliesCardSaid :=
  Claim7.holds_tied_plain_at .later [] _ _ _ _ families.said (fun _ h => by cases h) (by kernel_rfl) (fun _ h => by cases h) families_row_tie rfl ⟨rfl, rfl⟩ (by kernel_rfl) rfl families.plain (by kernel_rfl)
end Go.Proofs.YtnapboelfimaaaaDoor
