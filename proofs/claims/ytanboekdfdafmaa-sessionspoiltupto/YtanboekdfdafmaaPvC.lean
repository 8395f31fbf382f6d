/- Small questions about messages: what each answers. -/
import Derived.Test.YtanboekdfdafmaaPvB
import Derived.Lib.QuietBelow
import Derived.BigQuiet
namespace Go.Proofs.Ytanboekdfdafmaa.Pv
open Go.ChangeShapes Go.WideShapes Go.ChangeAt Go.RowKit Go.Joins Go.Proofs.Ytanboekdfdafmaa.PM Go.Proofs.Ytanboekdfdafmaa.Ask Go.Proofs.Ytanboekdfdafmaa.Ge
set_option linter.unusedVariables false

/-- where a message's lists lie -/
structure Sl where
  l : Option Addr
  lc : Nat
  h : Option Addr
  hc : Nat
  p : Option Addr
  pc : Nat
  m : Option Addr
  mc : Nat
  c : Option Addr
  cc : Nat
def rtL (r : Rt) (s : Sl) : List Value := [.int .u32 r.pa, .int .i64 r.pn, .slice s.p r.path.length s.pc, .int .i64 r.org, .int .i64 r.pref, .int .i64 r.med, .int .u32 r.next, .slice s.m r.marks.length s.mc, .slice s.c r.clus.length s.cc, .int .i64 r.auth]
def rtV (r : Rt) (s : Sl) : Value := .agg #[.int .u32 r.pa, .int .i64 r.pn, .slice s.p r.path.length s.pc, .int .i64 r.org, .int .i64 r.pref, .int .i64 r.med, .int .u32 r.next, .slice s.m r.marks.length s.mc, .slice s.c r.clus.length s.cc, .int .i64 r.auth]
def msV (m : Ms) (s : Sl) : Value := .agg #[.int .i64 m.kind, .int .i64 m.dom, .int .i64 m.id, .int .i64 m.hold, .int .i64 m.code, .slice s.l m.lost.length s.lc, .slice s.h m.hv.length s.hc, .int .u32 m.rt.pa, .int .i64 m.rt.pn, .slice s.p m.rt.path.length s.pc, .int .i64 m.rt.org, .int .i64 m.rt.pref, .int .i64 m.rt.med, .int .u32 m.rt.next, .slice s.m m.rt.marks.length s.mc, .slice s.c m.rt.clus.length s.cc, .int .i64 m.rt.auth]
theorem within_any (n lo hi : Int) (r : Bool) (hr : wi n lo hi = r) (w : World) :
    Calls Try.prog 60 #[.int .i64 n, .int .i64 lo, .int .i64 hi] w fun e w' => e = .returned (.bool r) ∧ w' = w := by
  have HR : Hid (wi n lo hi = r) := hr
  clear hr
  go_enter Try.func60, Try.ntmps60
  go_wp2_with fail
  all_goals
    go_ret
    refine ⟨ret_bool ?_, rfl⟩
    rw [← HR.out]
    unfold wi
    first
      | (symm; rw [decide_eq_false_iff_not]; omega)
      | (rw [Bool.eq_iff_iff, decide_eq_true_iff, decide_eq_true_iff]; omega)
theorem kind_any (n : Int) (r : Bool) (hr : isK n = r) (w : World) :
    Calls Try.prog 41 #[.int .i64 n] w fun e w' => e = .returned (.bool r) ∧ w' = w := by
  go_enter Try.func41, Try.ntmps41
  go_wp2_with fail
  refine (within_any n 1 4 r hr _).mono ?_
  rintro e w1 ⟨rfl, hw1⟩
  rw [hw1]
  clear hw1 w1
  go_wp2_with fail
  go_ret
  exact ⟨rfl, rfl⟩
theorem name_any (n : Int) (r : Bool) (hr : isNm n = r) (w : World) :
    Calls Try.prog 63 #[.int .i64 n] w fun e w' => e = .returned (.bool r) ∧ w' = w := by
  go_enter Try.func63, Try.ntmps63
  go_wp2_with fail
  refine (within_any n 1 4294967295 r hr _).mono ?_
  rintro e w1 ⟨rfl, hw1⟩
  rw [hw1]
  clear hw1 w1
  go_wp2_with fail
  go_ret
  exact ⟨rfl, rfl⟩
theorem number_any (n : Int) (r : Bool) (hr : isNo n = r) (w : World) :
    Calls Try.prog 75 #[.int .i64 n] w fun e w' => e = .returned (.bool r) ∧ w' = w := by
  go_enter Try.func75, Try.ntmps75
  go_wp2_with fail
  refine (within_any n 0 4294967295 r hr _).mono ?_
  rintro e w1 ⟨rfl, hw1⟩
  rw [hw1]
  clear hw1 w1
  go_wp2_with fail
  go_ret
  exact ⟨rfl, rfl⟩
set_option maxHeartbeats 4000000 in
theorem bare_any (r : Rt) (s : Sl) (b : Bool) (hb : bare r = b) (w : World) :
    Calls Try.prog 61 #[rtV r s] w fun e w' => e = .returned (.bool b) ∧ Below w.heap.size w w' := by
  obtain ⟨pa, pn, path, org, pref, med, next, marks, clus, auth⟩ := r
  unfold bare at hb
  dsimp only at hb
  obtain ⟨n1, hn1⟩ : ∃ n, path.length = n := ⟨_, rfl⟩
  obtain ⟨n2, hn2⟩ : ∃ n, marks.length = n := ⟨_, rfl⟩
  obtain ⟨n3, hn3⟩ : ∃ n, clus.length = n := ⟨_, rfl⟩
  unfold rtV
  dsimp only
  rw [hn1, hn2, hn3] at hb ⊢
  have HB : Hid (decide (pa = 0 ∧ pn = 0 ∧ org = 0 ∧ next = 0 ∧ med = 0 ∧ pref = 0 ∧ auth = 0 ∧ n1 = 0 ∧ n2 = 0 ∧ n3 = 0) = b) := hb
  clear hb hn1 hn2 hn3
  go_enter Try.func61, Try.ntmps61
  go_wp2_with fail
  all_goals
    go_ret
    refine ⟨ret_bool ?_, (Below.refl _ _).alloc (Nat.le_refl _) _⟩
    rw [← HB.out]
    first
      | (symm; rw [decide_eq_false_iff_not]; omega)
      | (rw [Bool.eq_iff_iff, beq_iff_eq, decide_eq_true_iff]; omega)
def rt0 (a n : Int) : Rt := ⟨a, n, [], 0, 0, 0, 0, [], [], 0⟩
def sl0 : Sl := ⟨none, 0, none, 0, none, 0, none, 0, none, 0⟩
set_option maxHeartbeats 4000000 in
theorem form_any (m : Ms) (s : Sl) (b : Bool) (hb : form m = b) (w : World) :
    Calls Try.prog 42 #[msV m s] w fun e w' => e = .returned (.bool b) ∧ Below w.heap.size w w' := by
  obtain ⟨kind, dom, id, hold, code, lost, hv, r⟩ := m
  obtain ⟨n1, hn1⟩ : ∃ n, lost.length = n := ⟨_, rfl⟩
  obtain ⟨n2, hn2⟩ : ∃ n, hv.length = n := ⟨_, rfl⟩
  obtain ⟨bb, hbb⟩ : ∃ b, bare r = b := ⟨_, rfl⟩
  have HBA : Hid (∀ W, Calls Try.prog 61 #[rtV r s] W fun e w' => e = .returned (.bool bb) ∧ Below W.heap.size W w') := fun W => bare_any r s bb hbb W
  have HBZ : Hid (∀ W, Calls Try.prog 61 #[rtV (rt0 r.pa r.pn) sl0] W fun e w' => e = .returned (.bool (decide (r.pa = 0 ∧ r.pn = 0))) ∧ Below W.heap.size W w') := fun W => bare_any (rt0 r.pa r.pn) sl0 _ (by simp [bare, rt0]) W
  unfold form at hb
  dsimp only at hb
  rw [hn1, hn2, hbb] at hb
  unfold rtV rt0 sl0 at HBZ
  unfold rtV at HBA
  dsimp only [List.length_nil] at HBZ
  obtain ⟨pa, pn, path, org, pref, med, next, marks, clus, auth⟩ := r
  dsimp only at hb HBA HBZ
  obtain ⟨q1, hq1⟩ : ∃ n, path.length = n := ⟨_, rfl⟩
  obtain ⟨q2, hq2⟩ : ∃ n, marks.length = n := ⟨_, rfl⟩
  obtain ⟨q3, hq3⟩ : ∃ n, clus.length = n := ⟨_, rfl⟩
  unfold msV
  dsimp only
  rw [hq1, hq2, hq3] at HBA
  rw [hq1, hq2, hq3, hn1, hn2]
  clear hn1 hn2 hbb hq1 hq2 hq3
  by_cases k1 : kind = 1
  · subst k1
    rw [if_pos rfl] at hb
    have HB : Hid ((decide (code = 0 ∧ n1 = 0 ∧ n2 = 0) && bb) = b) := hb
    clear hb
    go_enter Try.func42, Try.ntmps42
    go_wp2_with fail
    all_goals first
      | (go_ret
         refine ⟨ret_bool ?_, (Below.refl _ _).alloc (Nat.le_refl _) _⟩
         rw [← HB.out]
         symm
         rw [Bool.and_eq_false_iff, decide_eq_false_iff_not]
         left
         omega)
      | (refine (HBA.out _).mono ?_
         rintro e w1 ⟨rfl, hb1⟩
         have HB1 : Hid (Below w.heap.size w w1) := ((Below.refl _ w).alloc (Nat.le_refl _) _).trans (hb1.mono (by simp))
         clear hb1
         go_wp2_with fail
         go_ret
         refine ⟨ret_bool ?_, HB1.out⟩
         rw [← HB.out, decide_eq_true (by omega)]
         simp)
  · by_cases k2 : kind = 2
    · subst k2
      rw [if_neg (by decide), if_pos rfl] at hb
      by_cases h2 : 0 < n2
      · rw [if_pos h2] at hb
        obtain ⟨bz, hbz⟩ : ∃ b, decide (pa = 0 ∧ pn = 0) = b := ⟨_, rfl⟩
        rw [hbz] at hb HBZ
        have HB : Hid ((decide (dom = 0 ∧ id = 0 ∧ hold = 0 ∧ code = 0) && bz) = b) := hb
        clear hb hbz
        go_enter Try.func42, Try.ntmps42
        go_wp2_with fail
        all_goals first
          | (go_ret
             refine ⟨ret_bool ?_, (Below.refl _ _).alloc (Nat.le_refl _) _⟩
             rw [← HB.out]
             symm
             rw [Bool.and_eq_false_iff, decide_eq_false_iff_not]
             left
             omega)
          | (refine (HBZ.out _).mono ?_
             rintro e w1 ⟨rfl, hb1⟩
             have HB1 : Hid (Below w.heap.size w w1) := ((Below.refl _ w).alloc (Nat.le_refl _) _).trans (hb1.mono (by simp))
             clear hb1
             go_wp2_with fail
             go_ret
             refine ⟨ret_bool ?_, HB1.out⟩
             rw [← HB.out, decide_eq_true (by omega)]
             simp)
      · rw [if_neg h2] at hb
        have HB : Hid ((decide (dom = 0 ∧ id = 0 ∧ hold = 0 ∧ code = 0) && bb) = b) := hb
        clear hb
        go_enter Try.func42, Try.ntmps42
        go_wp2_with fail
        all_goals first
          | (go_ret
             refine ⟨ret_bool ?_, (Below.refl _ _).alloc (Nat.le_refl _) _⟩
             rw [← HB.out]
             symm
             rw [Bool.and_eq_false_iff, decide_eq_false_iff_not]
             left
             omega)
          | (refine (HBA.out _).mono ?_
             rintro e w1 ⟨rfl, hb1⟩
             have HB1 : Hid (Below w.heap.size w w1) := ((Below.refl _ w).alloc (Nat.le_refl _) _).trans (hb1.mono (by simp))
             clear hb1
             go_wp2_with fail
             go_ret
             refine ⟨ret_bool ?_, HB1.out⟩
             rw [← HB.out, decide_eq_true (by omega)]
             simp)
    · by_cases k4 : kind = 4
      · subst k4
        rw [if_neg (by decide), if_neg (by decide), if_pos rfl] at hb
        have HB : Hid ((decide (dom = 0 ∧ id = 0 ∧ hold = 0 ∧ n1 = 0 ∧ n2 = 0) && bb) = b) := hb
        clear hb
        go_enter Try.func42, Try.ntmps42
        go_wp2_with fail
        all_goals first
          | (go_ret
             refine ⟨ret_bool ?_, (Below.refl _ _).alloc (Nat.le_refl _) _⟩
             rw [← HB.out]
             symm
             rw [Bool.and_eq_false_iff, decide_eq_false_iff_not]
             left
             omega)
          | (refine (HBA.out _).mono ?_
             rintro e w1 ⟨rfl, hb1⟩
             have HB1 : Hid (Below w.heap.size w w1) := ((Below.refl _ w).alloc (Nat.le_refl _) _).trans (hb1.mono (by simp))
             clear hb1
             go_wp2_with fail
             go_ret
             refine ⟨ret_bool ?_, HB1.out⟩
             rw [← HB.out, decide_eq_true (by omega)]
             simp)
      · rw [if_neg k1, if_neg k2, if_neg k4] at hb
        have HB : Hid ((decide (dom = 0 ∧ id = 0 ∧ hold = 0 ∧ code = 0 ∧ n1 = 0 ∧ n2 = 0) && bb) = b) := hb
        have k1b : (kind == 1) = false := by simpa using k1
        have k2b : (kind == 2) = false := by simpa using k2
        have k4b : (kind == 4) = false := by simpa using k4
        clear hb
        go_enter Try.func42, Try.ntmps42
        go_wp2_with fail
        all_goals first
          | (go_ret
             refine ⟨ret_bool ?_, (Below.refl _ _).alloc (Nat.le_refl _) _⟩
             rw [← HB.out]
             symm
             rw [Bool.and_eq_false_iff, decide_eq_false_iff_not]
             left
             omega)
          | (refine (HBA.out _).mono ?_
             rintro e w1 ⟨rfl, hb1⟩
             have HB1 : Hid (Below w.heap.size w w1) := ((Below.refl _ w).alloc (Nat.le_refl _) _).trans (hb1.mono (by simp))
             clear hb1
             go_wp2_with fail
             go_ret
             refine ⟨ret_bool ?_, HB1.out⟩
             rw [← HB.out, decide_eq_true (by omega)]
             simp)
end Go.Proofs.Ytanboekdfdafmaa.Pv
