/- The document's pvForm. -/
import Derived.Test.YthcppiempcgnkaaPvQ
namespace Go.Proofs.Ythcppiempcgnkaa.Pv
open Go.ChangeShapes Go.WideShapes Go.ChangeAt Go.RowKit Go.Joins Go.Proofs.Ythcppiempcgnkaa.PM Go.Proofs.Ythcppiempcgnkaa.Ask Go.Proofs.Ythcppiempcgnkaa.Ge
set_option linter.unusedVariables false

def rformN (pa pn kind dom id hold code : Int) (n1 n2 : Nat) : Bool := decide (pa = 0 ∧ pn = 0 ∧ (kind = 1 ∨ (dom = 0 ∧ id = 0 ∧ hold = 0)) ∧ (kind = 2 ∨ (n1 = 0 ∧ n2 = 0)) ∧ (kind = 4 ∨ code = 0))
def rform (m : Ms) : Bool := rformN m.rt.pa m.rt.pn m.kind m.dom m.id m.hold m.code m.lost.length m.hv.length && (decide (0 < m.hv.length) || nothing m.rt)
theorem bare_nothing (r : Rt) : bare r = (decide (r.pa = 0 ∧ r.pn = 0) && nothing r) := by
  unfold bare nothing
  rw [Bool.eq_iff_iff]
  simp only [Bool.and_eq_true, decide_eq_true_eq]
  omega
theorem rform_eq {m : Ms} (hk : 1 ≤ m.kind ∧ m.kind ≤ 4) : rform m = form m := by
  unfold rform form rformN
  rw [bare_nothing]
  generalize nothing m.rt = nt
  generalize m.lost.length = n1
  generalize m.hv.length = n2
  generalize m.rt.pa = pa
  generalize m.rt.pn = pn
  generalize m.dom = dom
  generalize m.id = id
  generalize m.hold = hold
  generalize m.code = code
  obtain ⟨kind, hkk⟩ : ∃ k, m.kind = k := ⟨_, rfl⟩
  rw [hkk] at hk ⊢
  obtain ⟨h1, h2⟩ := hk
  have h5 : kind = 1 ∨ kind = 2 ∨ kind = 3 ∨ kind = 4 := by omega
  clear hkk
  rw [Bool.eq_iff_iff]
  by_cases h0 : 0 < n2
  · rcases h5 with k | k | k | k <;> subst k <;> cases nt <;> simp [h0] <;> omega
  · obtain rfl : n2 = 0 := by omega
    rcases h5 with k | k | k | k <;> subst k <;> cases nt <;> simp <;> omega
set_option maxRecDepth 100000 in
set_option maxHeartbeats 8000000 in
theorem rform_any (m : Ms) (s : Sl) (t : Bool) (ht : rform m = t) (w : World) :
    Calls Try.prog 19 #[msV m s] w fun e w' => e = .returned (.bool t) ∧ Below w.heap.size w w' := by
  obtain ⟨nt, hnt⟩ : ∃ b, nothing m.rt = b := ⟨_, rfl⟩
  have HNT : Hid (nothing m.rt = nt) := hnt
  obtain ⟨n1, hn1⟩ : ∃ n, m.lost.length = n := ⟨_, rfl⟩
  have HN1 : Hid (m.lost.length = n1) := hn1
  obtain ⟨n2, hn2⟩ : ∃ n, m.hv.length = n := ⟨_, rfl⟩
  have HN2 : Hid (m.hv.length = n2) := hn2
  obtain ⟨q1, hq1⟩ : ∃ n, m.rt.path.length = n := ⟨_, rfl⟩
  have HQ1 : Hid (m.rt.path.length = q1) := hq1
  obtain ⟨q2, hq2⟩ : ∃ n, m.rt.marks.length = n := ⟨_, rfl⟩
  have HQ2 : Hid (m.rt.marks.length = q2) := hq2
  obtain ⟨q3, hq3⟩ : ∃ n, m.rt.clus.length = n := ⟨_, rfl⟩
  have HQ3 : Hid (m.rt.clus.length = q3) := hq3
  have HV : Hid (msV m s = .agg #[.int .i64 m.kind, .int .i64 m.dom, .int .i64 m.id, .int .i64 m.hold, .int .i64 m.code, .slice s.l n1 s.lc, .slice s.h n2 s.hc, .int .u32 m.rt.pa, .int .i64 m.rt.pn, .slice s.p q1 s.pc, .int .i64 m.rt.org, .int .i64 m.rt.pref, .int .i64 m.rt.med, .int .u32 m.rt.next, .slice s.m q2 s.mc, .slice s.c q3 s.cc, .int .i64 m.rt.auth]) := by unfold msV; rw [hn1, hn2, hq1, hq2, hq3]; rfl
  unfold rform at ht
  rw [hnt, hn1, hn2] at ht
  have HT : Hid ((rformN m.rt.pa m.rt.pn m.kind m.dom m.id m.hold m.code n1 n2 && (decide (0 < n2) || nt)) = t) := ht
  have HNC : Hid (∀ W, Calls Try.prog 51 #[.agg #[.int .u32 m.rt.pa, .int .i64 m.rt.pn, .slice s.p q1 s.pc, .int .i64 m.rt.org, .int .i64 m.rt.pref, .int .i64 m.rt.med, .int .u32 m.rt.next, .slice s.m q2 s.mc, .slice s.c q3 s.cc, .int .i64 m.rt.auth]] W fun e w' => e = .returned (.bool nt) ∧ Below W.heap.size W w') := fun W => by
    have := rnothing_any m.rt s nt HNT.out W
    unfold rtV at this
    rw [hq1, hq2, hq3] at this
    exact this
  rw [HV.out]
  clear hn1 hn2 hq1 hq2 hq3 ht hnt
  go_enter Try.func19, Try.ntmps19
  go_upto_region 1 with fail
  obtain ⟨w0, hw0⟩ : ∃ w0, w.alloc (Obj.cells #[.int .i64 m.kind, .int .i64 m.dom, .int .i64 m.id, .int .i64 m.hold, .int .i64 m.code, .slice s.l n1 s.lc, .slice s.h n2 s.hc, .int .u32 m.rt.pa, .int .i64 m.rt.pn, .slice s.p q1 s.pc, .int .i64 m.rt.org, .int .i64 m.rt.pref, .int .i64 m.rt.med, .int .u32 m.rt.next, .slice s.m q2 s.mc, .slice s.c q3 s.cc, .int .i64 m.rt.auth] 30) = w0 := ⟨_, rfl⟩
  obtain ⟨hbx, hb0, hs0⟩ := mbox_new (m := m) (s := s) (w := w) (W := w0) (by rw [HN1.out, HN2.out, HQ1.out, HQ2.out, HQ3.out]; exact hw0)
  obtain ⟨b, hb⟩ : ∃ b, w.heap.size = b := ⟨_, rfl⟩
  rw [hw0]
  rw [hb] at hbx ⊢
  have HBZ : Hid (w.heap.size = b) := hb
  have HX0 : Hid (MBox b m s w0) := hbx
  have HB0 : Hid (Below w.heap.size w w0) := hb0
  have hbs : b < w0.heap.size := by omega
  clear hw0 hbx hb0 hb hs0
  obtain ⟨c0, c1, c2, c3, c4, c5, c6, c7, c8, c9, c10, c11, c12, c13, c14, c15, c16⟩ := HX0.out
  rw [HN1.out] at c5
  rw [HN2.out] at c6
  rw [HQ1.out] at c9
  rw [HQ2.out] at c14
  rw [HQ3.out] at c15
  obtain ⟨kind, dom, id, hold, code, lost, hv, r⟩ := m
  obtain ⟨pa, pn, path, org, pref, med, next, marks, clus, auth⟩ := r
  dsimp only at *
  by_cases hz : pa = 0 ∧ pn = 0
  · obtain ⟨rfl, rfl⟩ := hz
    by_cases h2 : n2 = 0
    · subst h2
      go_wp2_with fail
      refine (HNC.out _).mono ?_
      rintro e w1 ⟨rfl, hb1⟩
      have HB1 : Hid (Below w.heap.size w w1) := HB0.out.trans (hb1.mono HB0.out.size)
      have HX1 : Hid (MBox b _ s w1) := HX0.out.blk (hb1.block b hbs)
      clear hb1 c0 c1 c2 c3 c4 c5 c6 c7 c8 c9 c10 c11 c12 c13 c14 c15 c16
      obtain ⟨c0, c1, c2, c3, c4, c5, c6, c7, c8, c9, c10, c11, c12, c13, c14, c15, c16⟩ := HX1.out
      dsimp only at *
      rw [HN1.out] at c5
      rw [HN2.out] at c6
      rw [HQ1.out] at c9
      rw [HQ2.out] at c14
      rw [HQ3.out] at c15
      cases nt with
      | false =>
        go_wp2_with fail
        go_ret
        exact ⟨ret_bool (by rw [← HT.out]; simp), HB1.out⟩
      | true =>
        go_wp2_with fail
        all_goals
          go_ret
          refine ⟨ret_bool ?_, HB1.out⟩
          try simp only [bne_iff_ne, ne_eq, bne_eq_false_iff_eq] at *
          rw [← HT.out]
          unfold rformN
          simp only [Nat.lt_irrefl, decide_false, Bool.false_or, Bool.and_true]
          try simp only [true_and, and_true]
          first
            | (symm; rw [decide_eq_false_iff_not]; omega)
            | (symm; rw [decide_eq_true_iff]; omega)
            | (rw [Bool.eq_iff_iff, beq_iff_eq, decide_eq_true_iff]; omega)
            | (rw [Bool.eq_iff_iff, Bool.or_eq_true, beq_iff_eq, beq_iff_eq, decide_eq_true_iff]; omega)
    · have h2b : ((n2 : Int) == 0) = false := by simp; omega
      have h2c : 0 < n2 := by omega
      have h2d : (0 : Int) < n2 := by omega
      go_wp2_with fail
      all_goals
        go_ret
        refine ⟨ret_bool ?_, HB0.out⟩
        try simp only [bne_iff_ne, ne_eq, bne_eq_false_iff_eq] at *
        rw [← HT.out]
        unfold rformN
        simp only [h2c, decide_true, Bool.true_or, Bool.and_true]
        try simp only [true_and]
        first
          | (symm; rw [decide_eq_false_iff_not]; omega)
          | (symm; rw [decide_eq_true_iff]; omega)
          | (rw [Bool.eq_iff_iff, beq_iff_eq, decide_eq_true_iff]; omega)
          | (rw [Bool.eq_iff_iff, Bool.or_eq_true, beq_iff_eq, beq_iff_eq, decide_eq_true_iff]; omega)
  · have HF : Hid (false = t) := by
      show false = t
      rw [← HT.out]
      unfold rformN
      rw [decide_eq_false (by omega)]
      simp
    go_wp2_with fail
    all_goals
      go_ret
      exact ⟨ret_bool HF.out, HB0.out⟩
end Go.Proofs.Ythcppiempcgnkaa.Pv
