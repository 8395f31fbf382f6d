/- What holds for the bytes of every message: checkFrame. -/
import Derived.Test.YtanboekdfdafmaaPwL
namespace Go.Proofs.Ytanboekdfdafmaa.Pv
open Go.ChangeShapes Go.WideShapes Go.ChangeAt Go.RowKit Go.Joins Go.Proofs.Ytanboekdfdafmaa.PM Go.Proofs.Ytanboekdfdafmaa.Ask Go.Proofs.Ytanboekdfdafmaa.Ge
set_option linter.unusedVariables false

theorem drewN_bel (w : World) (q : Nat) : Below w.heap.size w (w.drewN q) := ⟨rfl, rfl, rfl, Nat.le_refl _, fun _ _ => rfl⟩
/-- what stands behind the ninth byte -/
theorem lst_tail {w : World} {b o : Nat} {xs : List Nat} (h : Lst E8 w (some ⟨b, o, none⟩) xs) : Lst E8 w (some ⟨b, o + 9, none⟩) (xs.drop 9) := h.drop 9
set_option maxRecDepth 100000 in
set_option maxHeartbeats 8000000 in
theorem fcheck_any (b o cap : Nat) (xs : List Nat) (n : Nat) (hn : xs.length = n) (h9 : 9 ≤ n) (hcap : n ≤ cap) (w : World) (hl : Lst E8 w (some ⟨b, o, none⟩) xs) (hu : ∀ d ∈ xs, d < 256) (r : Int) (hr : frE xs = r) :
    Calls Try.prog 71 #[.slice (some ⟨b, o, none⟩) n cap] w fun e w' => e = .returned (.int .i64 r) ∧ Below w.heap.size w w' := by
  have HL : Hid (Lst E8 w (some ⟨b, o, none⟩) xs) := hl
  have HU : Hid (∀ d ∈ xs, d < 256) := hu
  have HN : Hid (xs.length = n) := hn
  have HR : Hid (frE xs = r) := hr
  have hsm := hl.small
  rw [hn] at hsm
  have h9i : ¬ (n : Int) < 9 := by omega
  obtain ⟨g, hg⟩ : ∃ g, bgE xs = g := ⟨_, rfl⟩
  have HG : Hid (bgE xs = g) := hg
  obtain ⟨z, hz⟩ : ∃ z, num ((xs.drop 4).take 2) = z := ⟨_, rfl⟩
  have HZ : Hid (num ((xs.drop 4).take 2) = z) := hz
  obtain ⟨sm, hsm2⟩ : ∃ z, num ((xs.drop 7).take 2) = z := ⟨_, rfl⟩
  have HSM : Hid (num ((xs.drop 7).take 2) = sm) := hsm2
  obtain ⟨b0, o0, e0, hbl, c6⟩ := lst8 hl 6 (by omega)
  cases e0
  obtain ⟨kd, hkd⟩ : ∃ d, xs[6] = d := ⟨_, rfl⟩
  have hkd8 : kd < 256 := by rw [← hkd]; exact hu _ (List.getElem_mem _)
  rw [hkd] at c6
  have hk6 : xs[6]? = some kd := by rw [List.getElem?_eq_getElem (by omega), hkd]
  have HK6 : Hid (xs[6]? = some kd) := hk6
  obtain ⟨ss, hss⟩ : ∃ s, ssum 65535 (kd :: xs.drop 9) = s := ⟨_, rfl⟩
  have HSS : Hid (ssum 65535 (kd :: xs.drop 9) = ss) := hss
  have HFR : Hid (r = if g ≠ 0 then g else if z ≠ n then 4 else if sm ≠ ss then 5 else if isK (kd : Int) = false then 13 else 0) := by
    show _ = _
    rw [← hr]
    unfold frE
    rw [hn, if_neg (by omega), hg, hz, hsm2, hk6]
    simp only [Option.getD_some]
    rw [hss]
  have h6i : (6 : Int) < (n : Int) := by omega
  have HB := begin_any (some ⟨b, o, none⟩) cap xs n hn hcap w hl hu
  rw [hg] at HB
  have HSZ := sizeOf_any (some ⟨b, o, none⟩) cap xs n hn (by omega) hcap w hl hu
  rw [hz] at HSZ
  clear hl hu hn hr hg hz hsm2 hkd hk6 hss
  go_enter Try.func71, Try.ntmps71
  go_wp2_with fail
  refine HB.mono ?_
  rintro e w5 ⟨rfl, hw5⟩
  rw [hw5]
  clear hw5 w5 HB
  by_cases hg0 : g = 0
  · subst hg0
    have HF2 : Hid (r = if z ≠ n then 4 else if sm ≠ ss then 5 else if isK (kd : Int) = false then 13 else 0) := by
      show _ = _
      rw [HFR.out, if_neg (by simp)]
    clear HFR
    go_wp2_with fail
    refine HSZ.mono ?_
    rintro e w5 ⟨rfl, hw5⟩
    rw [hw5]
    clear hw5 w5 HSZ
    by_cases hzn : z = n
    · subst hzn
      have HF3 : Hid (r = if sm ≠ ss then 5 else if isK (kd : Int) = false then 13 else 0) := by
        show _ = _
        rw [HF2.out, if_neg (by simp)]
      clear HF2
      have hc9 : (9 : Int) ≤ (cap : Int) := by omega
      have hc9n : 9 ≤ cap := by omega
      have HNU : Hid (∀ q c, Calls Try.prog 70 #[.slice (some ⟨b, o + 7, none⟩) 2 c] (w.drewN q) fun e w' => e = .returned (.int .i64 (sm : Nat)) ∧ w' = w.drewN q) := fun q c => by
        have h1 : Lst E8 w (some ⟨b, o + 7, none⟩) ((xs.drop 7).take 2) := (HL.out.drop 7).take 2
        have h2 := wnumber_any (some ⟨b, o + 7, none⟩) c ((xs.drop 7).take 2) 2 (by rw [List.length_take, List.length_drop, HN.out]; omega) (by decide) (w.drewN q) (h1.bel (drewN_bel w q)) (fun d hd => HU.out d (List.mem_of_mem_drop (List.mem_of_mem_take hd)))
        rw [HSM.out] at h2
        exact h2
      have HSU : Hid (∀ q a c, (a = some ⟨b, o + 9, none⟩ ∨ z - 9 = 0) → Calls Try.prog 55 #[.int .u8 (kd : Int), .slice a (z - 9 : Nat) c] (w.drewN q) fun e w' => e = .returned (.int .i64 (ss : Nat)) ∧ w' = w.drewN q) := fun q a c ha => by
        have hlen : (xs.drop 9).length = z - 9 := by rw [List.length_drop, HN.out]
        refine sumOf_any kd hkd8 a c (xs.drop 9) (z - 9) hlen (w.drewN q) ?_ (fun d hd => HU.out d (List.mem_of_mem_drop hd)) ss HSS.out
        rcases ha with rfl | h0
        · exact (lst_tail HL.out).bel (drewN_bel w q)
        · exact ⟨by rw [hlen]; omega, fun i hi => absurd hi (by rw [hlen]; omega)⟩
      have w9 : ((z : Int) - 9) = ((z - 9 : Nat) : Int) := by omega
      by_cases hc : cap = 9
      · subst hc
        obtain rfl : z = 9 := by omega
        have HSV : Hid (∀ q a c, Calls Try.prog 55 #[.int .u8 (kd : Int), .slice a 0 c] (w.drewN q) fun e w' => e = .returned (.int .i64 (ss : Nat)) ∧ w' = w.drewN q) := fun q a c => HSU.out q a c (.inr rfl)
        clear HSU w9
        go_wp2_with fail
        go_quiet (first | (go_at_call 70; exact Calls.quiet_of_same (HNU.out _ _)) | (go_at_call 55; exact Calls.quiet_of_same (HSV.out _ _ _)))
        obtain ⟨wq, hwq⟩ : ∃ wq, w.drewN nq = wq := ⟨_, rfl⟩
        have HBQ : Hid (Below w.heap.size w wq) := by rw [← hwq]; exact drewN_bel w nq
        have HLQ : Lst E8 wq (some ⟨b, o, none⟩) xs := by rw [← hwq]; exact HL.out.bel (drewN_bel w nq)
        rw [hwq]
        clear hwq
        by_cases hsum : sm = ss
        · subst hsum
          have HF4 : Hid (r = if isK (kd : Int) = false then 13 else 0) := by
            show _ = _
            rw [HF3.out, if_neg (by simp)]
          obtain ⟨t, ht⟩ : ∃ t, isK (kd : Int) = t := ⟨_, rfl⟩
          have HT : Hid (isK (kd : Int) = t) := ht
          have HKO := kindOf_any (some ⟨b, o, none⟩) 9 xs 9 HN.out (by omega) hsm kd HK6.out hkd8 wq HLQ
          clear HLQ HF3 ht
          go_wp2_with fail
          refine HKO.mono ?_
          rintro e w5 ⟨rfl, hw5⟩
          rw [hw5]
          clear hw5 w5 HKO
          go_wp2_with fail
          refine (kind_any (kd : Int) t HT.out _).mono ?_
          rintro e w5 ⟨rfl, hw5⟩
          rw [hw5]
          clear hw5 w5
          cases t with
          | true =>
            have HF5 : Hid (r = 0) := by show _ = _; rw [HF4.out, HT.out, if_neg (by decide)]
            go_wp2_with fail
            go_ret
            exact ⟨ret_i64 HF5.out.symm, HBQ.out⟩
          | false =>
            have HF5 : Hid (r = 13) := by show _ = _; rw [HF4.out, HT.out, if_pos rfl]
            go_wp2_with fail
            go_ret
            exact ⟨ret_i64 HF5.out.symm, HBQ.out⟩
        · have HF4 : Hid (r = 5) := by
            show _ = _
            rw [HF3.out, if_pos hsum]
          have hsb : ((sm : Int) != (ss : Int)) = true := by simp; omega
          go_wp2_with fail
          go_ret
          exact ⟨ret_i64 HF4.out.symm, HBQ.out⟩
      · have hcb : ¬ (cap : Int) = 9 := by omega
        have hcn : ¬ cap = 9 := hc
        have hzi : (9 : Int) ≤ (z : Int) := by omega
        go_wp2_with fail
        go_quiet (first | (go_at_call 70; exact Calls.quiet_of_same (HNU.out _ _)) | (go_at_call 55; exact Calls.quiet_of_same (HSU.out _ _ _ (.inl rfl))))
        obtain ⟨wq, hwq⟩ : ∃ wq, w.drewN nq = wq := ⟨_, rfl⟩
        have HBQ : Hid (Below w.heap.size w wq) := by rw [← hwq]; exact drewN_bel w nq
        have HLQ : Lst E8 wq (some ⟨b, o, none⟩) xs := by rw [← hwq]; exact HL.out.bel (drewN_bel w nq)
        rw [hwq]
        clear hwq
        by_cases hsum : sm = ss
        · subst hsum
          have HF4 : Hid (r = if isK (kd : Int) = false then 13 else 0) := by
            show _ = _
            rw [HF3.out, if_neg (by simp)]
          obtain ⟨t, ht⟩ : ∃ t, isK (kd : Int) = t := ⟨_, rfl⟩
          have HT : Hid (isK (kd : Int) = t) := ht
          have HKO := kindOf_any (some ⟨b, o, none⟩) cap xs z HN.out (by omega) hsm kd HK6.out hkd8 wq HLQ
          clear HLQ HF3 ht
          go_wp2_with fail
          refine HKO.mono ?_
          rintro e w5 ⟨rfl, hw5⟩
          rw [hw5]
          clear hw5 w5 HKO
          go_wp2_with fail
          refine (kind_any (kd : Int) t HT.out _).mono ?_
          rintro e w5 ⟨rfl, hw5⟩
          rw [hw5]
          clear hw5 w5
          cases t with
          | true =>
            have HF5 : Hid (r = 0) := by show _ = _; rw [HF4.out, HT.out, if_neg (by decide)]
            go_wp2_with fail
            go_ret
            exact ⟨ret_i64 HF5.out.symm, HBQ.out⟩
          | false =>
            have HF5 : Hid (r = 13) := by show _ = _; rw [HF4.out, HT.out, if_pos rfl]
            go_wp2_with fail
            go_ret
            exact ⟨ret_i64 HF5.out.symm, HBQ.out⟩
        · have HF4 : Hid (r = 5) := by
            show _ = _
            rw [HF3.out, if_pos hsum]
          have hsb : ((sm : Int) != (ss : Int)) = true := by simp; omega
          go_wp2_with fail
          go_ret
          exact ⟨ret_i64 HF4.out.symm, HBQ.out⟩
    · have HF3 : Hid (r = 4) := by
        show _ = _
        rw [HF2.out, if_pos hzn]
      have hzb : ((z : Int) != (n : Int)) = true := by simp; omega
      go_wp2_with fail
      go_ret
      exact ⟨ret_i64 HF3.out.symm, Below.refl _ _⟩
  · have HF2 : Hid (r = g) := by
      show _ = _
      rw [HFR.out, if_pos hg0]
    have hgb : (g != 0) = true := by simpa using hg0
    go_wp2_with fail
    go_ret
    exact ⟨ret_i64 HF2.out.symm, Below.refl _ _⟩
end Go.Proofs.Ytanboekdfdafmaa.Pv
