/- The document's small questions about messages. The document's pvForm. -/
import Derived.Test.YtghlgkpfcpcopaaPvN
namespace Go.Proofs.Ytghlgkpfcpcopaa.Pv
open Go.ChangeShapes Go.WideShapes Go.ChangeAt Go.RowKit Go.Joins Go.Proofs.Ytghlgkpfcpcopaa.PM Go.Proofs.Ytghlgkpfcpcopaa.Ask Go.Proofs.Ytghlgkpfcpcopaa.Ge
set_option linter.unusedVariables false

theorem rbetween_any (n lo hi : Int) (r : Bool) (hr : wi n lo hi = r) (w : World) :
    Calls Try.prog 78 #[.int .i64 n, .int .i64 lo, .int .i64 hi] w fun e w' => e = .returned (.bool r) ∧ w' = w := by
  have HR : Hid (wi n lo hi = r) := hr
  clear hr
  go_enter Try.func78, Try.ntmps78
  go_wp2_with fail
  all_goals
    go_ret
    refine ⟨ret_bool ?_, rfl⟩
    rw [← HR.out]
    unfold wi
    first
      | (symm; rw [decide_eq_false_iff_not]; omega)
      | (rw [Bool.eq_iff_iff, decide_eq_true_iff, decide_eq_true_iff]; omega)
set_option maxRecDepth 100000 in
set_option maxHeartbeats 4000000 in
theorem rbetweens_any (low : Int) (va : Option Addr) (cap : Nat) (ps : List Int) (n : Nat) (hn : ps.length = n) (w : World) (hl : Lst EI w va ps) (r : Bool) (hr : ps.all (fun x => wi x low 4294967295) = r) :
    Calls Try.prog 79 #[.slice va n cap, .int .i64 low] w fun e w' => e = .returned (.bool r) ∧ w' = w := by
  have HL : Hid (Lst EI w va ps) := hl
  have HN : Hid (ps.length = n) := hn
  have HR : Hid (ps.all (fun x => wi x low 4294967295) = r) := hr
  have HF : Hid (∀ x t (W : World), wi x low 4294967295 = t → Calls Try.prog 78 #[.int .i64 x, .int .i64 low, .int .i64 4294967295] W fun e w' => e = .returned (.bool t) ∧ w' = W) := fun x t W e => rbetween_any x low 4294967295 t e W
  have h63 := hl.small
  rw [hn] at h63
  clear hl hn hr
  go_enter Try.func79, Try.ntmps79
  go_wp2_with fail
  go_loopw [9] (fun iv wr => ∃ i : Nat, i ≤ n ∧ iv = .int .i64 (i : Int) ∧ (∀ j (hj : j < ps.length), j < i → wi ps[j] low 4294967295 = true) ∧ wr = w) (fun i _ => n - (intOf i).toNat)
  case atStart => exact ⟨0, by omega, rfl, fun j _ h => by omega, rfl⟩
  case round =>
    obtain ⟨i, hi, rfl, hlow, hwr⟩ := hrel
    subst hwr
    have HLOW : Hid (∀ j (hj : j < ps.length), j < i → wi ps[j] low 4294967295 = true) := hlow
    clear hlow
    by_cases hlt : i < n
    · have hil : i < ps.length := by rw [HN.out]; exact hlt
      obtain ⟨b, o, rfl, hbl, c0⟩ := lstI HL.out i hil
      obtain ⟨hb0, hhb⟩ : ∃ t, wi ps[i] low 4294967295 = t := ⟨_, rfl⟩
      have HH : Hid (wi ps[i] low 4294967295 = hb0) := hhb
      obtain ⟨x, hpp⟩ : ∃ p, ps[i] = p := ⟨_, rfl⟩
      rw [hpp] at c0 hhb
      have HC : Hid (∀ W, Calls Try.prog 78 #[.int .i64 x, .int .i64 low, .int .i64 4294967295] W fun e w' => e = .returned (.bool hb0) ∧ w' = W) := fun W => HF.out x hb0 W hhb
      have hii : (i : Int) < n := by omega
      have ii0 : (0 : Int) ≤ i := by omega
      clear hhb hpp
      cases hb0 with
      | true =>
        have HNX : Hid (∀ j (hj : j < ps.length), j < i + 1 → wi ps[j] low 4294967295 = true) := fun j hj h1 => by
          by_cases e : j = i
          · subst e; exact HH.out
          · exact HLOW.out j hj (by omega)
        go_wp2_with fail
        refine (HC.out _).mono ?_
        rintro e w2 ⟨rfl, hw2⟩
        rw [hw2]
        clear hw2 w2
        go_wp2_with fail
        exact ⟨⟨i + 1, by omega, by simp, HNX.out, by first | trivial | rfl⟩, by simp [intOf]; omega⟩
      | false =>
        have HE : Hid (false = r) := by
          show false = r
          rw [← HR.out]
          exact (all_no (f := fun x => wi x low 4294967295) i hil HH.out).symm
        go_wp2_with fail
        refine (HC.out _).mono ?_
        rintro e w2 ⟨rfl, hw2⟩
        rw [hw2]
        clear hw2 w2
        go_wp2_with fail
        go_ret
        exact ⟨ret_bool HE.out, rfl⟩
    · obtain rfl : i = n := by omega
      have HE : Hid (true = r) := by
        show true = r
        rw [← HR.out]
        exact (all_iff.2 (fun j hj => HLOW.out j hj (by rw [← HN.out]; exact hj))).symm
      go_wp2_with fail
      go_ret
      exact ⟨ret_bool HE.out, rfl⟩
set_option maxHeartbeats 4000000 in
theorem rabove_any (a n b m : Int) (r : Bool) (hr : lt2 (a, n) (b, m) = r) (w : World) :
    Calls Try.prog 77 #[.agg #[.int .u32 a, .int .i64 n], .agg #[.int .u32 b, .int .i64 m]] w fun e w' => e = .returned (.bool r) ∧ Below w.heap.size w w' := by
  have HR : Hid (lt2 (a, n) (b, m) = r) := hr
  clear hr
  go_enter Try.func77, Try.ntmps77
  go_wp2_with fail
  all_goals
    go_ret
    refine ⟨ret_bool ?_, bel2 _ _ _⟩
    rw [← HR.out]
    unfold lt2
    dsimp only
    first
      | (symm; rw [decide_eq_false_iff_not]; omega)
      | (symm; rw [decide_eq_true_iff]; omega)
      | (rw [Bool.eq_iff_iff, decide_eq_true_iff, decide_eq_true_iff]; omega)
set_option maxRecDepth 100000 in
set_option maxHeartbeats 4000000 in
theorem rrise_any (va : Option Addr) (cap : Nat) (ps : List (Int × Int)) (n : Nat) (hn : ps.length = n) (w : World) (hl : Lst E2 w va ps) (hp : ∀ p ∈ ps, InA p) (r : Bool) (hr : rise ps = r) :
    Calls Try.prog 49 #[.slice va n cap] w fun e w' => e = .returned (.bool r) ∧ Below w.heap.size w w' := by
  have HL : Hid (Lst E2 w va ps) := hl
  have HP : Hid (∀ p ∈ ps, InA p) := hp
  have HN : Hid (ps.length = n) := hn
  have HR : Hid (rise ps = r) := hr
  have h63 := hl.small
  rw [hn] at h63
  clear hl hp hn hr
  go_enter Try.func49, Try.ntmps49
  go_wp2_with fail
  go_loopw [3] (fun iv wr => ∃ i : Nat, 1 ≤ i ∧ i ≤ n + 1 ∧ iv = .int .i64 (i : Int) ∧ (∀ j (hj : j + 1 < ps.length), j + 1 < i → lt2 ps[j] ps[j + 1] = true) ∧ Below w.heap.size w wr) (fun i _ => n + 1 - (intOf i).toNat)
  case atStart => exact ⟨1, by omega, by omega, rfl, fun j _ h => by omega, Below.refl _ _⟩
  case round =>
    obtain ⟨i, hi1, hi, rfl, hlow, hb⟩ := hrel
    have HLOW : Hid (∀ j (hj : j + 1 < ps.length), j + 1 < i → lt2 ps[j] ps[j + 1] = true) := hlow
    have HB : Hid (Below w.heap.size w wr) := hb
    clear hlow hb
    by_cases hlt : i < n
    · obtain ⟨k, hk⟩ : ∃ k, k + 1 = i := ⟨i - 1, by omega⟩
      have hil : i < ps.length := by rw [HN.out]; exact hlt
      have hkl : k < ps.length := by omega
      obtain ⟨b, o, rfl, hbl, c0, c1⟩ := lst2 (HL.out.bel HB.out) k hkl
      obtain ⟨b', o', e, -, d0, d1⟩ := lst2 (HL.out.bel HB.out) i hil
      cases e
      have hin := HP.out _ (List.getElem_mem hkl)
      have hin2 := HP.out _ (List.getElem_mem hil)
      obtain ⟨hb0, hhb⟩ : ∃ t, lt2 ps[k] ps[i] = t := ⟨_, rfl⟩
      have HH : Hid (lt2 ps[k] ps[i] = hb0) := hhb
      obtain ⟨⟨pa, pn⟩, hpp⟩ : ∃ p, ps[k] = p := ⟨_, rfl⟩
      obtain ⟨⟨qa, qn⟩, hqq⟩ : ∃ p, ps[i] = p := ⟨_, rfl⟩
      rw [hpp] at c0 c1 hin hhb
      rw [hqq] at d0 d1 hin2 hhb
      dsimp only at c0 c1 d0 d1
      obtain ⟨p0, p1⟩ := hin
      obtain ⟨q0, q1⟩ := hin2
      dsimp only at p0 p1 q0 q1
      have HC : Hid (∀ W, Calls Try.prog 77 #[.agg #[.int .u32 pa, .int .i64 pn], .agg #[.int .u32 qa, .int .i64 qn]] W fun e w' => e = .returned (.bool hb0) ∧ Below W.heap.size W w') := fun W => rabove_any pa pn qa qn hb0 hhb W
      have hii : (i : Int) < n := by omega
      have ii0 : (0 : Int) ≤ (i : Int) := by omega
      have hk1 : IntKind.i64.wrap ((i : Int) - 1) = (k : Int) := by rw [IntWalk.i64_in _ (by omega)]; omega
      have hkn : (k : Int) < n := by omega
      have kk0 : (0 : Int) ≤ (k : Int) := by omega
      have HBD : Hid (∀ q, Below w.heap.size w (wr.drewN q)) := fun q => below_drewN HB.out q
      have HK : Hid (k + 1 = i) := hk
      clear hpp hqq hk
      cases hb0 with
      | true =>
        have HNX : Hid (∀ j (hj : j + 1 < ps.length), j + 1 < i + 1 → lt2 ps[j] ps[j + 1] = true) := fun j hj h1 => by
          by_cases e : j = k
          · subst e
            have := HH.out
            have e2 := HK.out
            subst e2
            exact this
          · exact HLOW.out j hj (by have := HK.out; omega)
        clear hhb
        go_wp2_with fail
        go_still_tail 9, (by kernel_rfl)
        go_wp2_with fail
        refine (HC.out _).mono ?_
        rintro e w2 ⟨rfl, hb2⟩
        have HB2 : Hid (Below w.heap.size w w2) := (HBD.out 1).trans (hb2.mono (HBD.out 1).size)
        clear hb2
        go_wp2_with fail
        exact ⟨⟨i + 1, by omega, by omega, by simp, HNX.out, HB2.out⟩, by simp [intOf]; omega⟩
      | false =>
        have HE : Hid (false = r) := by
          show false = r
          rw [← HR.out]
          have e2 := HK.out
          subst e2
          exact (chain_no k hil HH.out).symm
        clear hhb
        go_wp2_with fail
        go_still_tail 9, (by kernel_rfl)
        go_wp2_with fail
        refine (HC.out _).mono ?_
        rintro e w2 ⟨rfl, hb2⟩
        have HB2 : Hid (Below w.heap.size w w2) := (HBD.out 1).trans (hb2.mono (HBD.out 1).size)
        clear hb2
        go_wp2_with fail
        go_ret
        exact ⟨ret_bool HE.out, HB2.out⟩
    · have HE : Hid (true = r) := by
        show true = r
        rw [← HR.out]
        exact (chain_iff.2 (fun j hj => HLOW.out j hj (by have := HN.out; omega))).symm
      have hii : ¬ (i : Int) < n := by omega
      go_wp2_with fail
      go_ret
      exact ⟨ret_bool HE.out, HB.out⟩
def nothing (r : Rt) : Bool := decide (r.path.length = 0 ∧ r.marks.length = 0 ∧ r.clus.length = 0 ∧ r.org = 0 ∧ r.pref = 0 ∧ r.med = 0 ∧ r.next = 0 ∧ r.auth = 0)
set_option maxHeartbeats 4000000 in
theorem rnothing_any (r : Rt) (s : Sl) (b : Bool) (hb : nothing r = b) (w : World) :
    Calls Try.prog 75 #[rtV r s] w fun e w' => e = .returned (.bool b) ∧ Below w.heap.size w w' := by
  obtain ⟨pa, pn, path, org, pref, med, next, marks, clus, auth⟩ := r
  unfold nothing at hb
  dsimp only at hb
  obtain ⟨n1, hn1⟩ : ∃ n, path.length = n := ⟨_, rfl⟩
  obtain ⟨n2, hn2⟩ : ∃ n, marks.length = n := ⟨_, rfl⟩
  obtain ⟨n3, hn3⟩ : ∃ n, clus.length = n := ⟨_, rfl⟩
  unfold rtV
  dsimp only
  rw [hn1, hn2, hn3] at hb ⊢
  have HB : Hid (decide (n1 = 0 ∧ n2 = 0 ∧ n3 = 0 ∧ org = 0 ∧ pref = 0 ∧ med = 0 ∧ next = 0 ∧ auth = 0) = b) := hb
  clear hb hn1 hn2 hn3
  go_enter Try.func75, Try.ntmps75
  go_wp2_with fail
  all_goals
    go_ret
    refine ⟨ret_bool ?_, (Below.refl _ _).alloc (Nat.le_refl _) _⟩
    rw [← HB.out]
    first
      | (symm; rw [decide_eq_false_iff_not]; omega)
      | (symm; rw [decide_eq_true_iff]; omega)
      | (rw [Bool.eq_iff_iff, beq_iff_eq, decide_eq_true_iff]; omega)
end Go.Proofs.Ytghlgkpfcpcopaa.Pv
namespace Go.Proofs.Ytghlgkpfcpcopaa.Pv
open Go.ChangeShapes Go.WideShapes Go.ChangeAt Go.RowKit Go.Joins Go.Proofs.Ytghlgkpfcpcopaa.PM Go.Proofs.Ytghlgkpfcpcopaa.Ask Go.Proofs.Ytghlgkpfcpcopaa.Ge
set_option linter.unusedVariables false

def rformN (pa pn kind dom id hold code : Int) (n1 n2 : Nat) : Bool := decide (pa = 0 ∧ pn = 0 ∧ (kind = 1 ∨ (dom = 0 ∧ id = 0 ∧ hold = 0)) ∧ (kind = 2 ∨ (n1 = 0 ∧ n2 = 0)) ∧ (kind = 4 ∨ code = 0))
def rform (m : Ms) : Bool := rformN m.rt.pa m.rt.pn m.kind m.dom m.id m.hold m.code m.lost.length m.hv.length && (decide (0 < m.hv.length) || nothing m.rt)
theorem bare_nothing (r : Rt) : bare r = (decide (r.pa = 0 ∧ r.pn = 0) && nothing r) := by
  unfold bare nothing
  rw [Bool.eq_iff_iff]
  simp only [Bool.and_eq_true, decide_eq_true_eq]
  omega
theorem rform_eq {m : Ms} (hk : 1 ≤ m.kind ∧ m.kind ≤ 4) : rform m = form m := by
  unfold rform form rformN
  rw [bare_nothing]
  generalize nothing m.rt = nt
  generalize m.lost.length = n1
  generalize m.hv.length = n2
  generalize m.rt.pa = pa
  generalize m.rt.pn = pn
  generalize m.dom = dom
  generalize m.id = id
  generalize m.hold = hold
  generalize m.code = code
  obtain ⟨kind, hkk⟩ : ∃ k, m.kind = k := ⟨_, rfl⟩
  rw [hkk] at hk ⊢
  obtain ⟨h1, h2⟩ := hk
  have h5 : kind = 1 ∨ kind = 2 ∨ kind = 3 ∨ kind = 4 := by omega
  clear hkk
  rw [Bool.eq_iff_iff]
  by_cases h0 : 0 < n2
  · rcases h5 with k | k | k | k <;> subst k <;> cases nt <;> simp [h0] <;> omega
  · obtain rfl : n2 = 0 := by omega
    rcases h5 with k | k | k | k <;> subst k <;> cases nt <;> simp <;> omega
set_option maxRecDepth 100000 in
set_option maxHeartbeats 8000000 in
theorem rform_any (m : Ms) (s : Sl) (t : Bool) (ht : rform m = t) (w : World) :
    Calls Try.prog 47 #[msV m s] w fun e w' => e = .returned (.bool t) ∧ Below w.heap.size w w' := by
  obtain ⟨nt, hnt⟩ : ∃ b, nothing m.rt = b := ⟨_, rfl⟩
  have HNT : Hid (nothing m.rt = nt) := hnt
  obtain ⟨n1, hn1⟩ : ∃ n, m.lost.length = n := ⟨_, rfl⟩
  have HN1 : Hid (m.lost.length = n1) := hn1
  obtain ⟨n2, hn2⟩ : ∃ n, m.hv.length = n := ⟨_, rfl⟩
  have HN2 : Hid (m.hv.length = n2) := hn2
  obtain ⟨q1, hq1⟩ : ∃ n, m.rt.path.length = n := ⟨_, rfl⟩
  have HQ1 : Hid (m.rt.path.length = q1) := hq1
  obtain ⟨q2, hq2⟩ : ∃ n, m.rt.marks.length = n := ⟨_, rfl⟩
  have HQ2 : Hid (m.rt.marks.length = q2) := hq2
  obtain ⟨q3, hq3⟩ : ∃ n, m.rt.clus.length = n := ⟨_, rfl⟩
  have HQ3 : Hid (m.rt.clus.length = q3) := hq3
  have HV : Hid (msV m s = .agg #[.int .i64 m.kind, .int .i64 m.dom, .int .i64 m.id, .int .i64 m.hold, .int .i64 m.code, .slice s.l n1 s.lc, .slice s.h n2 s.hc, .int .u32 m.rt.pa, .int .i64 m.rt.pn, .slice s.p q1 s.pc, .int .i64 m.rt.org, .int .i64 m.rt.pref, .int .i64 m.rt.med, .int .u32 m.rt.next, .slice s.m q2 s.mc, .slice s.c q3 s.cc, .int .i64 m.rt.auth]) := by unfold msV; rw [hn1, hn2, hq1, hq2, hq3]; rfl
  unfold rform at ht
  rw [hnt, hn1, hn2] at ht
  have HT : Hid ((rformN m.rt.pa m.rt.pn m.kind m.dom m.id m.hold m.code n1 n2 && (decide (0 < n2) || nt)) = t) := ht
  have HNC : Hid (∀ W, Calls Try.prog 75 #[.agg #[.int .u32 m.rt.pa, .int .i64 m.rt.pn, .slice s.p q1 s.pc, .int .i64 m.rt.org, .int .i64 m.rt.pref, .int .i64 m.rt.med, .int .u32 m.rt.next, .slice s.m q2 s.mc, .slice s.c q3 s.cc, .int .i64 m.rt.auth]] W fun e w' => e = .returned (.bool nt) ∧ Below W.heap.size W w') := fun W => by
    have := rnothing_any m.rt s nt HNT.out W
    unfold rtV at this
    rw [hq1, hq2, hq3] at this
    exact this
  rw [HV.out]
  clear hn1 hn2 hq1 hq2 hq3 ht hnt
  go_enter Try.func47, Try.ntmps47
  go_upto_region 1 with fail
  obtain ⟨w0, hw0⟩ : ∃ w0, w.alloc (Obj.cells #[.int .i64 m.kind, .int .i64 m.dom, .int .i64 m.id, .int .i64 m.hold, .int .i64 m.code, .slice s.l n1 s.lc, .slice s.h n2 s.hc, .int .u32 m.rt.pa, .int .i64 m.rt.pn, .slice s.p q1 s.pc, .int .i64 m.rt.org, .int .i64 m.rt.pref, .int .i64 m.rt.med, .int .u32 m.rt.next, .slice s.m q2 s.mc, .slice s.c q3 s.cc, .int .i64 m.rt.auth] 31) = w0 := ⟨_, rfl⟩
  obtain ⟨hbx, hb0, hs0⟩ := mbox_new (m := m) (s := s) (w := w) (W := w0) (by rw [HN1.out, HN2.out, HQ1.out, HQ2.out, HQ3.out]; exact hw0)
  obtain ⟨b, hb⟩ : ∃ b, w.heap.size = b := ⟨_, rfl⟩
  rw [hw0]
  rw [hb] at hbx ⊢
  have HBZ : Hid (w.heap.size = b) := hb
  have HX0 : Hid (MBox b m s w0) := hbx
  have HB0 : Hid (Below w.heap.size w w0) := hb0
  have hbs : b < w0.heap.size := by omega
  clear hw0 hbx hb0 hb hs0
  obtain ⟨c0, c1, c2, c3, c4, c5, c6, c7, c8, c9, c10, c11, c12, c13, c14, c15, c16⟩ := HX0.out
  rw [HN1.out] at c5
  rw [HN2.out] at c6
  rw [HQ1.out] at c9
  rw [HQ2.out] at c14
  rw [HQ3.out] at c15
  obtain ⟨kind, dom, id, hold, code, lost, hv, r⟩ := m
  obtain ⟨pa, pn, path, org, pref, med, next, marks, clus, auth⟩ := r
  dsimp only at *
  by_cases hz : pa = 0 ∧ pn = 0
  · obtain ⟨rfl, rfl⟩ := hz
    by_cases h2 : n2 = 0
    · subst h2
      go_wp2_with fail
      refine (HNC.out _).mono ?_
      rintro e w1 ⟨rfl, hb1⟩
      have HB1 : Hid (Below w.heap.size w w1) := HB0.out.trans (hb1.mono HB0.out.size)
      have HX1 : Hid (MBox b _ s w1) := HX0.out.blk (hb1.block b hbs)
      clear hb1 c0 c1 c2 c3 c4 c5 c6 c7 c8 c9 c10 c11 c12 c13 c14 c15 c16
      obtain ⟨c0, c1, c2, c3, c4, c5, c6, c7, c8, c9, c10, c11, c12, c13, c14, c15, c16⟩ := HX1.out
      dsimp only at *
      rw [HN1.out] at c5
      rw [HN2.out] at c6
      rw [HQ1.out] at c9
      rw [HQ2.out] at c14
      rw [HQ3.out] at c15
      cases nt with
      | false =>
        go_wp2_with fail
        go_ret
        exact ⟨ret_bool (by rw [← HT.out]; simp), HB1.out⟩
      | true =>
        go_wp2_with fail
        all_goals
          go_ret
          refine ⟨ret_bool ?_, HB1.out⟩
          try simp only [bne_iff_ne, ne_eq, bne_eq_false_iff_eq] at *
          rw [← HT.out]
          unfold rformN
          simp only [Nat.lt_irrefl, decide_false, Bool.false_or, Bool.and_true]
          try simp only [true_and, and_true]
          first
            | (symm; rw [decide_eq_false_iff_not]; omega)
            | (symm; rw [decide_eq_true_iff]; omega)
            | (rw [Bool.eq_iff_iff, beq_iff_eq, decide_eq_true_iff]; omega)
            | (rw [Bool.eq_iff_iff, Bool.or_eq_true, beq_iff_eq, beq_iff_eq, decide_eq_true_iff]; omega)
    · have h2b : ((n2 : Int) == 0) = false := by simp; omega
      have h2c : 0 < n2 := by omega
      have h2d : (0 : Int) < n2 := by omega
      go_wp2_with fail
      all_goals
        go_ret
        refine ⟨ret_bool ?_, HB0.out⟩
        try simp only [bne_iff_ne, ne_eq, bne_eq_false_iff_eq] at *
        rw [← HT.out]
        unfold rformN
        simp only [h2c, decide_true, Bool.true_or, Bool.and_true]
        try simp only [true_and]
        first
          | (symm; rw [decide_eq_false_iff_not]; omega)
          | (symm; rw [decide_eq_true_iff]; omega)
          | (rw [Bool.eq_iff_iff, beq_iff_eq, decide_eq_true_iff]; omega)
          | (rw [Bool.eq_iff_iff, Bool.or_eq_true, beq_iff_eq, beq_iff_eq, decide_eq_true_iff]; omega)
  · have HF : Hid (false = t) := by
      show false = t
      rw [← HT.out]
      unfold rformN
      rw [decide_eq_false (by omega)]
      simp
    go_wp2_with fail
    all_goals
      go_ret
      exact ⟨ret_bool HF.out, HB0.out⟩
end Go.Proofs.Ytghlgkpfcpcopaa.Pv
