/- What can be written is read as it was: plain. -/
import Derived.Test.YtghlgkpfcpcopaaPwQ
namespace Go.Proofs.Ytghlgkpfcpcopaa.Pv
open Go.Proofs.Ytghlgkpfcpcopaa.PM
set_option linter.unusedVariables false

theorem rd_big (k n : Nat) (rest : List Nat) : rd k (big k n ++ rest) = some (big k n, rest) := by
  rw [rd_yes (by rw [List.length_append, big_len]; omega), List.take_left' (big_len k n), List.drop_left' (big_len k n)]
theorem rd_all {v : List Nat} {k : Nat} (h : v.length = k) (rest : List Nat) : rd k (v ++ rest) = some (v, rest) := by
  rw [rd_yes (by rw [List.length_append]; omega), List.take_left' h, List.drop_left' h]
theorem rpiece_piece {v : List Nat} (hv : v.length < 65536) (rest : List Nat) : rpiece (piece v ++ rest) = some (v, rest) := by
  unfold rpiece piece
  rw [List.append_assoc, rd_big]
  dsimp only
  rw [num_big 2 _ (by simpa using hv), rd_all rfl]
/-- numbers of four bytes -/
theorem wordsL (size : Nat) : ∀ xs : List Int, (wordsB size xs).length = size * xs.length
  | [] => by simp [wordsB]
  | x :: xs => by
    have e : wordsB size (x :: xs) = big size x.toNat ++ wordsB size xs := rfl
    rw [e, List.length_append, big_len, wordsL size xs, List.length_cons, Nat.mul_add]
    omega
theorem wordsB_drop : ∀ (xs : List Int) (i : Nat) (h : i < xs.length), (wordsB 4 xs).drop (4 * i) = big 4 xs[i].toNat ++ wordsB 4 (xs.drop (i + 1))
  | x :: xs, 0, _ => rfl
  | x :: xs, i + 1, h => by
    have e : wordsB 4 (x :: xs) = big 4 x.toNat ++ wordsB 4 xs := rfl
    rw [e, show 4 * (i + 1) = 4 + 4 * i by omega, ← List.drop_drop, List.drop_left' (big_len 4 _), wordsB_drop xs i (by simpa using h)]
    simp
theorem p256 : (256 : Nat) ^ 4 = 4294967296 := by decide
theorem rwords_words {xs : List Int} (h : ∀ x ∈ xs, 0 ≤ x ∧ x ≤ 4294967295) : rwords (wordsB 4 xs) = some xs := by
  have e : wds (wordsB 4 xs) xs.length = xs := by
    unfold wds
    apply List.ext_getElem
    · simp
    · intro i h1 h2
      rw [List.getElem_map, List.getElem_range]
      unfold wd
      have hx := h _ (List.getElem_mem h2)
      rw [wordsB_drop xs i h2, List.take_left' (big_len 4 _), num_big 4 _ (by rw [p256]; omega)]
      omega
  unfold rwords
  rw [wordsL, if_pos (by omega), show 4 * xs.length / 4 = xs.length by omega, e]
theorem word_one (size : Nat) (x : Int) : wordsB size [x] = big size x.toNat := by simp [wordsB]
/-- prefixes -/
theorem dvd_shift {a n : Int} (h0 : 0 ≤ n) (h1 : n ≤ 32) (ha : 0 ≤ a) (h : a % psz n = 0) : a.toNat / 2 ^ (32 - 8 * bsz n.toNat) * 2 ^ (32 - 8 * bsz n.toNat) = a.toNat := by
  have h2 : (32 - 8 * bsz n.toNat) ≤ 32 - n.toNat := by unfold bsz; omega
  have h3 : 2 ^ (32 - n.toNat) ∣ a.toNat := by
    rw [psz_nat] at h
    have h4 : ((2 ^ (32 - n.toNat) : Nat) : Int) ∣ (a.toNat : Int) := by rw [Int.toNat_of_nonneg ha]; exact Int.dvd_of_emod_eq_zero h
    exact Int.natCast_dvd_natCast.1 h4
  exact Nat.div_mul_cancel (Nat.dvd_trans (Nat.pow_dvd_pow 2 h2) h3)
theorem rpfx_pfx {p : Int × Int} (hp : 0 ≤ p.1 ∧ p.1 < 4294967296) (hv : vld p.1 p.2 = true) (rest : List Nat) : rpfx (pfxB p ++ rest) = some (p, rest) := by
  obtain ⟨a, n⟩ := p
  obtain ⟨h0, h1, h2⟩ := (vld_iff a n).1 hv
  dsimp only at hp
  have hz := bsz_le (n := n.toNat) (by omega)
  have e1 : pfxB (a, n) ++ rest = big 1 n.toNat ++ (big (bsz n.toNat) (a.toNat / 2 ^ (32 - 8 * bsz n.toNat)) ++ rest) := by unfold pfxB; rw [List.append_assoc]
  rw [e1]
  have l1 := big_len 1 n.toNat
  have l2 := big_len (bsz n.toNat) (a.toNat / 2 ^ (32 - 8 * bsz n.toNat))
  have ht : num ((big 1 n.toNat ++ (big (bsz n.toNat) (a.toNat / 2 ^ (32 - 8 * bsz n.toNat)) ++ rest)).take 1) = n.toNat := by rw [List.take_left' l1, num_big 1 _ (by simp; omega)]
  have hdr : (big 1 n.toNat ++ (big (bsz n.toNat) (a.toNat / 2 ^ (32 - 8 * bsz n.toNat)) ++ rest)).drop 1 = big (bsz n.toNat) (a.toNat / 2 ^ (32 - 8 * bsz n.toNat)) ++ rest := List.drop_left' l1
  have hq : num ((big (bsz n.toNat) (a.toNat / 2 ^ (32 - 8 * bsz n.toNat)) ++ rest).take (bsz n.toNat)) = a.toNat / 2 ^ (32 - 8 * bsz n.toNat) := by
    rw [List.take_left' l2, num_big]
    have e3 : (256 : Nat) ^ bsz n.toNat * 2 ^ (32 - 8 * bsz n.toNat) = 2 ^ 32 := by
      have e4 : (256 : Nat) ^ bsz n.toNat = 2 ^ (8 * bsz n.toNat) := by rw [Nat.pow_mul]
      rw [e4, ← Nat.pow_add, show 8 * bsz n.toNat + (32 - 8 * bsz n.toNat) = 32 by omega]
    rw [Nat.div_lt_iff_lt_mul (Nat.pow_pos (by decide)), e3]
    have : (2 : Nat) ^ 32 = 4294967296 := by decide
    omega
  rw [rpfx_ok (z := bsz n.toNat) (q := a.toNat / 2 ^ (32 - 8 * bsz n.toNat)) (by rw [List.length_append, l1]; omega) ht (by omega) rfl (by rw [hdr, List.length_append, l2]; exact Nat.le_add_right _ _) (by rw [hdr]; exact hq), hdr, List.drop_left' l2]
  unfold pfV
  rw [dvd_shift h0 h1 hp.1 h2, Int.toNat_of_nonneg hp.1, Int.toNat_of_nonneg h0]
theorem pfxsR_pfxs : ∀ {ps : List (Int × Int)}, (∀ p ∈ ps, 0 ≤ p.1 ∧ p.1 < 4294967296) → (∀ p ∈ ps, vld p.1 p.2 = true) → pfxsR (pfxsB ps) = some ps
  | [], _, _ => rfl
  | p :: ps, hp, hv => by
    have e : pfxsB (p :: ps) = pfxB p ++ pfxsB ps := rfl
    have h1 : 0 < (pfxB p ++ pfxsB ps).length := by unfold pfxB; rw [List.length_append, List.length_append, big_len]; omega
    rw [e, pfxsR_cons h1, rpfx_pfx (hp p (List.mem_cons_self ..)) (hv p (List.mem_cons_self ..))]
    dsimp only
    rw [pfxsR_pfxs (fun q hq => hp q (List.mem_cons_of_mem _ hq)) (fun q hq => hv q (List.mem_cons_of_mem _ hq))]
end Go.Proofs.Ytghlgkpfcpcopaa.Pv
