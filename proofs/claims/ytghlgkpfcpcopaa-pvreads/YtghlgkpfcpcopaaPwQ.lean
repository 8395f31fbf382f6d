/- What is read is written as it came, if nothing is passed over: plain. -/
import Derived.Test.YtghlgkpfcpcopaaPwO
namespace Go.Proofs.Ytghlgkpfcpcopaa.Pv
open Go.Proofs.Ytghlgkpfcpcopaa.PM
set_option linter.unusedVariables false

theorem big_succ (k n : Nat) : big (k + 1) n = big k (n / 256) ++ [n % 256] := by
  unfold big
  rw [List.range_succ, List.map_append]
  congr 1
  · apply List.map_congr_left
    intro i hi
    have hi2 : i < k := List.mem_range.1 hi
    rw [show 8 * (k + 1 - 1 - i) = 8 + 8 * (k - 1 - i) by omega, Nat.pow_add, ← Nat.div_div_eq_div_mul]
  · simp
theorem num_big : ∀ (k n : Nat), n < 256 ^ k → num (big k n) = n
  | 0, n, h => by
    have : n = 0 := by simpa using h
    subst this
    rfl
  | k + 1, n, h => by
    rw [Nat.pow_succ] at h
    rw [big_succ, num_snoc, num_big k (n / 256) (by omega)]
    omega
theorem big_num : ∀ (k : Nat) (bs : List Nat), bs.length = k → (∀ d ∈ bs, d < 256) → big k (num bs) = bs
  | 0, bs, h, _ => by rw [List.length_eq_zero_iff.1 h]; rfl
  | k + 1, bs, h, hu => by
    obtain ⟨cs, c, rfl⟩ : ∃ cs c, bs = cs ++ [c] := by
      rcases List.eq_nil_or_concat bs with e | ⟨cs, c, e⟩
      · rw [e] at h; cases h
      · exact ⟨cs, c, by simpa using e⟩
    have hc : c < 256 := hu c (by simp)
    have hl : cs.length = k := by simpa using h
    rw [num_snoc, big_succ, show (num cs * 256 + c) / 256 = num cs by omega, show (num cs * 256 + c) % 256 = c by omega, big_num k cs hl (fun d hd => hu d (by simp [hd]))]
theorem take_u8 {xs : List Nat} (hu : ∀ d ∈ xs, d < 256) (k : Nat) : ∀ d ∈ xs.take k, d < 256 := fun d hd => hu d (List.mem_of_mem_take hd)
theorem drop_u8 {xs : List Nat} (hu : ∀ d ∈ xs, d < 256) (k : Nat) : ∀ d ∈ xs.drop k, d < 256 := fun d hd => hu d (List.mem_of_mem_drop hd)
/-- a piece is what it is -/
theorem rpiece_is {r a b : List Nat} (hu : ∀ d ∈ r, d < 256) (h : rpiece r = some (a, b)) : r = piece a ++ b := by
  obtain ⟨h2, h3, h4, h5⟩ := rpiece_len h
  unfold piece
  have e : big 2 a.length = r.take 2 := by
    rw [h3]
    exact big_num 2 _ (by rw [List.length_take]; omega) (take_u8 hu 2)
  rw [e]
  exact h5
theorem readB_same {k : Nat} {xs body : List Nat} {m : Ms} (hu : ∀ d ∈ xs, d < 256) (h : readB k xs = some (m, body)) (hl : body.length = xs.length) : body = xs := by
  unfold readB at h
  split at h
  · split at h
    · cases h; rfl
    · cases h
  · split at h
    · unfold rupd at h
      split at h
      · cases h
      · rename_i lost r1 e1
        split at h
        · cases h
        · rename_i ats hv e2
          split at h
          · cases h
          · rename_i ls e3
            split at h
            · cases h
            · rename_i t kn e4
              split at h
              · cases h
              · rename_i hs e5
                cases h
                have l1 := rpiece_is hu e1
                have l2 := rpiece_is (piece_in e1 hu).2 e2
                have e : ats.take (ats.length - kn) = ats := by
                  apply List.take_of_length_le
                  rw [l1, l2] at hl
                  unfold updB piece at hl
                  simp only [List.length_append, big_len, List.length_take] at hl
                  omega
                rw [e, l1, l2]
                unfold updB
                rw [List.append_assoc]
    · split at h
      · split at h
        · cases h; rfl
        · cases h
      · cases h; rfl
theorem frame_len (k : Nat) (b : List Nat) : (frame k b).length = 9 + b.length := by
  unfold frame
  simp only [List.length_append, big_len, List.length_cons, List.length_nil]
theorem frame_of {xs : List Nat} {kd : Nat} (h9 : 9 ≤ xs.length) (hu : ∀ d ∈ xs, d < 256) (hfr : frE xs = 0) (hk : xs[6]? = some kd) : frame kd (xs.drop 9) = xs := by
  obtain ⟨h1, k, hk2, -, -, hs, hz, h255⟩ := frE_ok (by omega) hfr
  rw [hk] at hk2
  cases hk2
  have e0 : xs.take 4 = [255, 255, 255, 255] := by
    apply List.ext_getElem
    · rw [List.length_take]; simp; omega
    · intro i hi1 hi2
      rw [List.length_take] at hi1
      rw [List.getElem_take, h255 i (by omega) (by omega)]
      have : i = 0 ∨ i = 1 ∨ i = 2 ∨ i = 3 := by omega
      rcases this with rfl | rfl | rfl | rfl <;> rfl
  have e1 : big 2 (9 + (xs.drop 9).length) = (xs.drop 4).take 2 := by
    rw [List.length_drop, show 9 + (xs.length - 9) = xs.length by omega, ← hz]
    exact big_num 2 _ (by rw [List.length_take, List.length_drop]; omega) (take_u8 (drop_u8 hu 4) 2)
  have e2 : big 2 (ssum 65535 (kd :: xs.drop 9)) = (xs.drop 7).take 2 := by
    rw [hs]
    exact big_num 2 _ (by rw [List.length_take, List.length_drop]; omega) (take_u8 (drop_u8 hu 7) 2)
  have e3 : big 1 kd = (xs.drop 6).take 1 := by
    obtain ⟨hlt, e⟩ := List.getElem?_eq_some_iff.1 hk
    rw [List.drop_eq_getElem_cons hlt, e]
    have : kd < 256 := by rw [← e]; exact hu _ (List.getElem_mem hlt)
    simp [big]
    omega
  unfold frame
  rw [e1, e2, e3, ← e0]
  have s1 : ∀ (a k : Nat), xs.drop a = (xs.drop a).take k ++ xs.drop (a + k) := fun a k => by rw [← List.drop_drop, List.take_append_drop]
  have g : xs.take 4 ++ (xs.drop 4) = xs := List.take_append_drop 4 xs
  rw [s1 4 2, s1 6 1, s1 7 2] at g
  simpa [List.append_assoc] using g
theorem dec_cases (xs : List Nat) : (∃ e, dec xs = (ms0, e) ∧ e ≠ 0) ∨ ∃ m kd body, dec xs = (m, 0) ∧ 9 ≤ xs.length ∧ frE xs = 0 ∧ xs[6]? = some kd ∧ 1 ≤ kd ∧ kd ≤ 4 ∧ readB kd (xs.drop 9) = some (m, body) ∧ encE m = 0 ∧ encB m = frame kd body := by
  by_cases hf : frE xs = 0
  · by_cases h9 : xs.length < 9
    · unfold frE at hf
      rw [if_pos h9] at hf
      cases hf
    · obtain ⟨h1, kd, hk, hk1, hk4, -, -, -⟩ := frE_ok h9 hf
      cases hx : readB kd (xs.drop 9) with
      | none => exact .inl ⟨4, dec_none hf hk hx, by decide⟩
      | some q =>
        obtain ⟨m, body⟩ := q
        by_cases hc : encE m = 0 ∧ encB m = frame kd body
        · exact .inr ⟨m, kd, body, by rw [dec_some hf hk hx, if_pos hc], by omega, hf, hk, hk1, hk4, hx, hc.1, hc.2⟩
        · exact .inl ⟨4, by rw [dec_some hf hk hx, if_neg hc], by decide⟩
  · exact .inl ⟨frE xs, by unfold dec; rw [if_pos hf], hf⟩
theorem only_plain {xs : List Nat} {m : Ms} (hu : ∀ d ∈ xs, d < 256) (h : dec xs = (m, 0)) : encE m = 0 ∧ (encB m).length ≤ xs.length ∧ ((encB m).length = xs.length → encB m = xs) := by
  rcases dec_cases xs with ⟨e, he, hne⟩ | ⟨m', kd, body, he, h9, hf, hk, -, -, hx, h1, h2⟩
  · rw [he] at h
    cases h
    exact absurd rfl hne
  · rw [he] at h
    cases h
    obtain ⟨-, -, l3, -⟩ := readB_len hx
    rw [List.length_drop] at l3
    refine ⟨h1, by rw [h2, frame_len]; omega, fun hl => ?_⟩
    rw [h2, frame_len] at hl
    have hb : body = xs.drop 9 := readB_same (drop_u8 hu 9) hx (by rw [List.length_drop]; omega)
    rw [h2, hb]
    exact frame_of h9 hu hf hk
theorem dec_err {xs : List Nat} {m : Ms} {e : Int} (h : dec xs = (m, e)) (he : e ≠ 0) : m = ms0 := by
  rcases dec_cases xs with ⟨e', he', hne⟩ | ⟨m', kd, body, he', -⟩
  · rw [he'] at h; cases h; rfl
  · rw [he'] at h; cases h; exact absurd rfl he
end Go.Proofs.Ytghlgkpfcpcopaa.Pv
