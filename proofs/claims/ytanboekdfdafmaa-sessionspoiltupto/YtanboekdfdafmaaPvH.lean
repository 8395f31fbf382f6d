/- The numbers that a message's kind has: inRange. -/
import Derived.Test.YtanboekdfdafmaaPvG
namespace Go.Proofs.Ytanboekdfdafmaa.Pv
open Go.ChangeShapes Go.WideShapes Go.ChangeAt Go.RowKit Go.Joins Go.Proofs.Ytanboekdfdafmaa.PM Go.Proofs.Ytanboekdfdafmaa.Ask Go.Proofs.Ytanboekdfdafmaa.Ge
set_option linter.unusedVariables false

set_option maxRecDepth 100000 in
set_option maxHeartbeats 8000000 in
theorem range_any (m : Ms) (s : Sl) (w : World) (hok : MOk w m s) (t : Bool) (ht : inR m = t) :
    Calls Try.prog 48 #[msV m s] w fun e w' => e = .returned (.bool t) ∧ Below w.heap.size w w' := by
  have HRR : Hid (∀ W, Below w.heap.size w W → Calls Try.prog 64 #[rtV m.rt s] W fun e w' => e = .returned (.bool (routeR m.rt)) ∧ Below W.heap.size W w') := fun W hW => rrange_any m.rt s W (hok.r.bel hW) _ rfl
  clear hok
  obtain ⟨kind, dom, id, hold, code, lost, hv, r⟩ := m
  unfold inR at ht
  dsimp only at ht HRR
  obtain ⟨tr, htr⟩ : ∃ b, routeR r = b := ⟨_, rfl⟩
  rw [htr] at ht HRR
  unfold rtV at HRR
  unfold msV
  dsimp only
  obtain ⟨n1, hn1⟩ : ∃ n, lost.length = n := ⟨_, rfl⟩
  obtain ⟨n2, hn2⟩ : ∃ n, hv.length = n := ⟨_, rfl⟩
  obtain ⟨q1, hq1⟩ : ∃ n, r.path.length = n := ⟨_, rfl⟩
  obtain ⟨q2, hq2⟩ : ∃ n, r.marks.length = n := ⟨_, rfl⟩
  obtain ⟨q3, hq3⟩ : ∃ n, r.clus.length = n := ⟨_, rfl⟩
  rw [hq1, hq2, hq3] at HRR
  rw [hn1, hn2, hq1, hq2, hq3]
  have HBA : Hid (∀ o, Below w.heap.size w (w.alloc o)) := fun o => (Below.refl _ w).alloc (Nat.le_refl _) o
  clear hn1 hn2 hq1 hq2 hq3 htr
  by_cases k1 : kind = 1
  · subst k1
    rw [if_pos rfl] at ht
    obtain ⟨b1, h1⟩ : ∃ b, isNm dom = b := ⟨_, rfl⟩
    obtain ⟨b2, h2⟩ : ∃ b, isNm id = b := ⟨_, rfl⟩
    obtain ⟨b3, h3⟩ : ∃ b, wi hold 3 65535 = b := ⟨_, rfl⟩
    rw [h1, h2, h3] at ht
    have HT : Hid ((b1 && b2 && (decide (hold = 0) || b3)) = t) := ht
    have H1 : Hid (isNm dom = b1) := h1
    have H2 : Hid (isNm id = b2) := h2
    have H3 : Hid (wi hold 3 65535 = b3) := h3
    clear ht h1 h2 h3
    go_enter Try.func48, Try.ntmps48
    go_wp2_with fail
    refine (name_any dom b1 H1.out _).mono ?_
    rintro e w5 ⟨rfl, hw5⟩
    rw [hw5]
    clear hw5 w5
    cases b1 with
    | false =>
      go_wp2_with fail
      go_ret
      exact ⟨ret_bool (by rw [← HT.out]; simp), HBA.out _⟩
    | true =>
      go_wp2_with fail
      refine (name_any id b2 H2.out _).mono ?_
      rintro e w5 ⟨rfl, hw5⟩
      rw [hw5]
      clear hw5 w5
      cases b2 with
      | false =>
        go_wp2_with fail
        go_ret
        exact ⟨ret_bool (by rw [← HT.out]; simp), HBA.out _⟩
      | true =>
        by_cases h0 : hold = 0
        · subst h0
          go_wp2_with fail
          go_ret
          exact ⟨ret_bool (by rw [← HT.out]; simp), HBA.out _⟩
        · have h0b : (hold == 0) = false := by simpa using h0
          have HH : Hid (¬ hold = 0) := h0
          clear h0
          go_wp2_with fail
          refine (within_any hold 3 65535 b3 H3.out _).mono ?_
          rintro e w5 ⟨rfl, hw5⟩
          rw [hw5]
          clear hw5 w5
          go_wp2_with fail
          go_ret
          exact ⟨ret_bool (by rw [← HT.out, decide_eq_false HH.out]; simp), HBA.out _⟩
  · by_cases k2 : kind = 2
    · subst k2
      rw [if_neg k1, if_pos rfl] at ht
      have HT : Hid (tr = t) := ht
      clear ht
      go_enter Try.func48, Try.ntmps48
      go_wp2_with fail
      refine (HRR.out _ (HBA.out _)).mono ?_
      rintro e w5 ⟨rfl, hb5⟩
      have HB5 : Hid (Below w.heap.size w w5) := (HBA.out _).trans (hb5.mono (HBA.out _).size)
      clear hb5
      go_wp2_with fail
      go_ret
      exact ⟨ret_bool HT.out, HB5.out⟩
    · by_cases k4 : kind = 4
      · subst k4
        rw [if_neg k1, if_neg k2, if_pos rfl] at ht
        have HT : Hid (wi code 0 255 = t) := ht
        clear ht
        go_enter Try.func48, Try.ntmps48
        go_wp2_with fail
        refine (within_any code 0 255 t HT.out _).mono ?_
        rintro e w5 ⟨rfl, hw5⟩
        rw [hw5]
        clear hw5 w5
        go_wp2_with fail
        go_ret
        exact ⟨rfl, HBA.out _⟩
      · rw [if_neg k1, if_neg k2, if_neg k4] at ht
        have HT : Hid (true = t) := ht
        have k1b : (kind == 1) = false := by simpa using k1
        have k2b : (kind == 2) = false := by simpa using k2
        have k4b : (kind == 4) = false := by simpa using k4
        clear ht
        go_enter Try.func48, Try.ntmps48
        go_wp2_with fail
        go_ret
        exact ⟨ret_bool HT.out, HBA.out _⟩
end Go.Proofs.Ytanboekdfdafmaa.Pv
