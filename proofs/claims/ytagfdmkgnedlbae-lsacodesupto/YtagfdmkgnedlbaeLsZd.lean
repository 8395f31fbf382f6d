/- A burst within 32 bits changes the remainder: plain. -/
import Derived.Test.YtagfdmkgnedlbaeLsZa
namespace Go.Proofs.Ytagfdmkgnedlbae.Ls
open Go.Proofs.Ytagfdmkgnedlbae.PM
set_option linter.unusedVariables false

/-- the bits of bytes, the highest first -/
def bl (bs : List Nat) : List Nat := bs.flatMap fun c => [cbit c 0, cbit c 1, cbit c 2, cbit c 3, cbit c 4, cbit c 5, cbit c 6, cbit c 7]
def crcb (t : Nat) (l : List Nat) : Nat := l.foldl cstep t
theorem bl_cons (c : Nat) (bs : List Nat) : bl (c :: bs) = [cbit c 0, cbit c 1, cbit c 2, cbit c 3, cbit c 4, cbit c 5, cbit c 6, cbit c 7] ++ bl bs := rfl
theorem crc_bl : ∀ (bs : List Nat) (t : Nat), crc t bs = crcb t (bl bs)
  | [], t => rfl
  | c :: bs, t => by
    rw [bl_cons]
    show crc (cbyte t c) bs = _
    rw [crc_bl bs]
    rfl
theorem bl_len : ∀ (bs : List Nat), (bl bs).length = 8 * bs.length
  | [] => rfl
  | c :: bs => by rw [bl_cons, List.length_append, bl_len bs, List.length_cons]; simp; omega
theorem cbit_lt (c i : Nat) : cbit c i < 2 := Nat.mod_lt _ (by decide)
theorem bl_lt (bs : List Nat) : ∀ b ∈ bl bs, b < 2 := by
  intro b hb
  simp only [bl, List.mem_flatMap] at hb
  obtain ⟨c, -, hb⟩ := hb
  simp at hb
  rcases hb with rfl | rfl | rfl | rfl | rfl | rfl | rfl | rfl <;> exact cbit_lt _ _
theorem bl_at : ∀ (bs : List Nat) (j : Nat) (h : j / 8 < bs.length), (bl bs)[j]? = some (cbit bs[j / 8] (j % 8))
  | c :: bs, j, h => by
    rw [bl_cons]
    by_cases hj : j < 8
    · have h0 : j / 8 = 0 := by omega
      have h1 : j % 8 = j := by omega
      rw [List.getElem?_append_left (by simpa using hj)]
      simp only [h0, h1, List.getElem_cons_zero]
      match j, hj with
      | 0, _ => rfl
      | 1, _ => rfl
      | 2, _ => rfl
      | 3, _ => rfl
      | 4, _ => rfl
      | 5, _ => rfl
      | 6, _ => rfl
      | 7, _ => rfl
    · have h8 : (j - 8) / 8 < bs.length := by simp at h; omega
      rw [List.getElem?_append_right (by simp; omega)]
      have := bl_at bs (j - 8) h8
      simp only [List.length_cons, List.length_nil]
      rw [show j - (0 + 1 + 1 + 1 + 1 + 1 + 1 + 1 + 1) = j - 8 by omega, this, show (j - 8) % 8 = j % 8 by omega]
      congr 2
      have e : j / 8 = (j - 8) / 8 + 1 := by omega
      simp only [e, List.getElem_cons_succ]
theorem bl_append (a b : List Nat) : bl (a ++ b) = bl a ++ bl b := List.flatMap_append
theorem crcb_append (t : Nat) (a b : List Nat) : crcb t (a ++ b) = crcb (crcb t a) b := List.foldl_append
theorem two_lin (a b : Nat) : (a ^^^ b) * 2 % 4294967296 = (a * 2 % 4294967296) ^^^ (b * 2 % 4294967296) := by
  have h := Nat.xor_mod_two_pow (a := a * 2) (b := b * 2) (n := 32)
  have h2 : (a ^^^ b) * 2 = a * 2 ^^^ b * 2 := by
    have := Nat.shiftLeft_xor_distrib (a := a) (b := b) (i := 1)
    simpa [Nat.shiftLeft_eq] using this
  rw [h2]
  exact h
theorem top_lin (a b : Nat) : (a ^^^ b) / 2147483648 = a / 2147483648 ^^^ b / 2147483648 := Nat.xor_div_two_pow (n := 31)
theorem bit_lin (x y : Nat) (hx : x < 2) (hy : y < 2) : (x ^^^ y) * 79764919 % 4294967296 = (x * 79764919 % 4294967296) ^^^ (y * 79764919 % 4294967296) := by
  match x, hx, y, hy with
  | 0, _, 0, _ => rfl
  | 0, _, 1, _ => rfl
  | 1, _, 0, _ => rfl
  | 1, _, 1, _ => rfl
theorem xor_lt2 {x y : Nat} (hx : x < 2) (hy : y < 2) : x ^^^ y < 2 := Nat.xor_lt_two_pow (n := 1) hx hy
theorem cstep_lin {t u b c : Nat} (ht : t < 4294967296) (hu : u < 4294967296) (hb : b < 2) (hc : c < 2) : cstep (t ^^^ u) (b ^^^ c) = cstep t b ^^^ cstep u c := by
  unfold cstep
  have e : (t ^^^ u) / 2147483648 ^^^ (b ^^^ c) = (t / 2147483648 ^^^ b) ^^^ (u / 2147483648 ^^^ c) := by
    rw [top_lin]
    simp only [Nat.xor_assoc]
    congr 1
    rw [← Nat.xor_assoc, ← Nat.xor_assoc, Nat.xor_comm (u / 2147483648) b]
  rw [e, two_lin, bit_lin _ _ (xor_lt2 (by omega) hb) (xor_lt2 (by omega) hc)]
  simp only [Nat.xor_assoc]
  congr 1
  rw [← Nat.xor_assoc, ← Nat.xor_assoc, Nat.xor_comm (u * 2 % 4294967296)]
theorem crcb_lin : ∀ (l m : List Nat) (t u : Nat), l.length = m.length → t < 4294967296 → u < 4294967296 → (∀ b ∈ l, b < 2) → (∀ b ∈ m, b < 2) → crcb (t ^^^ u) (List.zipWith (· ^^^ ·) l m) = crcb t l ^^^ crcb u m
  | [], [], t, u, _, _, _, _, _ => rfl
  | a :: l, b :: m, t, u, h, ht, hu, hl, hm => by
    rw [List.zipWith_cons_cons]
    show crcb (cstep (t ^^^ u) (a ^^^ b)) _ = crcb (cstep t a) l ^^^ crcb (cstep u b) m
    rw [cstep_lin ht hu (hl a (by simp)) (hm b (by simp))]
    exact crcb_lin l m _ _ (by simpa using h) (cstep_lt _ _) (cstep_lt _ _) (fun x hx => hl x (by simp [hx])) (fun x hx => hm x (by simp [hx]))
/-- nothing comes in -/
theorem crcb_zero0 : ∀ (l : List Nat), (∀ b ∈ l, b = 0) → crcb 0 l = 0
  | [], _ => rfl
  | a :: l, h => by
    rw [h a (by simp)]
    show crcb (cstep 0 0) l = 0
    rw [show cstep 0 0 = 0 by decide]
    exact crcb_zero0 l (fun b hb => h b (by simp [hb]))
theorem xor_parity (a b : Nat) : (a ^^^ b) % 2 = (a % 2 ^^^ b % 2) := Nat.xor_mod_two_pow (n := 1)
/-- how a step's parity tells what was put in -/
theorem cstep_even {s b : Nat} (hs : s < 4294967296) (hb : b < 2) (h : cstep s b % 2 = 0) : s / 2147483648 ^^^ b = 0 ∧ cstep s b = s * 2 % 4294967296 := by
  have ht : s / 2147483648 < 2 := by omega
  have hx := xor_lt2 ht hb
  unfold cstep at h ⊢
  obtain ⟨x, hxe⟩ : ∃ x, s / 2147483648 ^^^ b = x := ⟨_, rfl⟩
  rw [hxe] at h hx ⊢
  rcases (show x = 0 ∨ x = 1 by omega) with e | e
  · rw [e]
    exact ⟨rfl, by simp⟩
  · exfalso
    rw [e, xor_parity] at h
    have e1 : s * 2 % 4294967296 % 2 = 0 := by omega
    rw [e1] at h
    exact absurd h (by decide)
theorem crcb_zero : ∀ (l : List Nat), (∀ b ∈ l, b = 0) → ∀ s, s < 4294967296 → crcb s l = 0 → s = 0
  | [], _, s, hs, h => h
  | a :: l, hz, s, hs, h => by
    have ha : a = 0 := hz a (by simp)
    subst ha
    have h1 : cstep s 0 = 0 := crcb_zero l (fun b hb => hz b (by simp [hb])) _ (cstep_lt _ _) h
    obtain ⟨h2, h3⟩ := cstep_even (b := 0) hs (by decide) (by rw [h1])
    rw [h1] at h3
    have h4 : s / 2147483648 = 0 := by
      have := h2
      simpa using this
    omega
/-- the remainder must be divisible by what is left -/
theorem crcb_div : ∀ (c z : List Nat), c.length ≤ 32 → (∀ b ∈ c, b < 2) → (∀ b ∈ z, b = 0) → ∀ s, s < 4294967296 → crcb s (c ++ z) = 0 → s % 2 ^ (32 - c.length) = 0
  | [], z, _, _, hz, s, hs, h => by
    have := crcb_zero z hz s hs h
    subst this
    simp
  | b :: c, z, hl, hc, hz, s, hs, h => by
    have ih := crcb_div c z (by simp at hl; omega) (fun x hx => hc x (by simp [hx])) hz (cstep s b) (cstep_lt _ _) h
    rw [List.length_cons] at hl ⊢
    obtain ⟨k, hk⟩ : ∃ k, 32 - (c.length + 1) = k := ⟨_, rfl⟩
    rw [show 32 - c.length = k + 1 by omega, Nat.pow_succ] at ih
    rw [hk]
    have hk32 : k ≤ 31 := by omega
    have hp : 0 < 2 ^ k := Nat.pow_pos (by decide)
    have he : cstep s b % 2 = 0 := by
      have h1 : 2 ∣ cstep s b := Nat.dvd_trans (Nat.dvd_mul_left 2 (2 ^ k)) (Nat.dvd_of_mod_eq_zero ih)
      exact Nat.mod_eq_zero_of_dvd h1
    obtain ⟨-, h3⟩ := cstep_even hs (hc b (by simp)) he
    rw [h3] at ih
    have hd : 2 ^ k * 2 ∣ s * 2 % 4294967296 := Nat.dvd_of_mod_eq_zero ih
    have hd2 : 2 ^ k * 2 ∣ 4294967296 := by
      rw [← Nat.pow_succ, show (4294967296 : Nat) = 2 ^ 32 by decide]
      exact Nat.pow_dvd_pow 2 (by omega)
    have hd3 : 2 ^ k * 2 ∣ s * 2 := (Nat.dvd_mod_iff hd2).1 hd
    exact Nat.mod_eq_zero_of_dvd (Nat.dvd_of_mul_dvd_mul_right (by decide) hd3)
/-- bits that are not all 0, within 32 next to each other: the remainder is not 0 -/
theorem burst (l : List Nat) (i : Nat) (hb : ∀ b ∈ l, b < 2) (h0 : ∀ j, j < i → l[j]? = some 0) (h1 : l[i]? = some 1) (h2 : ∀ j b, i + 32 ≤ j → l[j]? = some b → b = 0) : crcb 0 l ≠ 0 := by
  intro h
  have hi : i < l.length := (List.getElem?_eq_some_iff.1 h1).1
  have e : l = l.take i ++ (1 :: (((l.drop (i + 1)).take 31) ++ ((l.drop (i + 1)).drop 31))) := by
    rw [List.take_append_drop]
    have h3 : l[i] = 1 := (List.getElem?_eq_some_iff.1 h1).2
    have h9 : l.drop i = 1 :: l.drop (i + 1) := by rw [List.drop_eq_getElem_cons hi, h3]
    rw [← h9, List.take_append_drop]
  rw [e, crcb_append] at h
  have hz : crcb 0 (l.take i) = 0 := crcb_zero0 _ (fun b hb => by
    obtain ⟨j, hj, ej⟩ := List.getElem_of_mem hb
    rw [List.length_take] at hj
    rw [List.getElem_take] at ej
    have := h0 j (by omega)
    rw [List.getElem?_eq_getElem (by omega)] at this
    injection this with this
    omega)
  rw [hz] at h
  have h4 : crcb (cstep 0 1) (((l.drop (i + 1)).take 31) ++ ((l.drop (i + 1)).drop 31)) = 0 := h
  have hlen : ((l.drop (i + 1)).take 31).length ≤ 31 := by rw [List.length_take]; omega
  have h5 := crcb_div ((l.drop (i + 1)).take 31) ((l.drop (i + 1)).drop 31) (by omega) (fun b hm => hb b (List.mem_of_mem_drop (List.mem_of_mem_take hm))) (fun b hm => by
    rw [List.drop_drop] at hm
    obtain ⟨j, hj, ej⟩ := List.getElem_of_mem hm
    rw [List.getElem_drop] at ej
    rw [List.length_drop] at hj
    refine h2 (i + 1 + 31 + j) b (by omega) ?_
    rw [← ej, List.getElem?_eq_getElem]) (cstep 0 1) (cstep_lt _ _) h4
  have h6 : cstep 0 1 % 2 = 0 := by
    obtain ⟨k, hk⟩ : ∃ k, 32 - ((l.drop (i + 1)).take 31).length = k + 1 := ⟨31 - ((l.drop (i + 1)).take 31).length, by omega⟩
    rw [hk, Nat.pow_succ] at h5
    exact Nat.mod_eq_zero_of_dvd (Nat.dvd_trans (Nat.dvd_mul_left 2 (2 ^ k)) (Nat.dvd_of_mod_eq_zero h5))
  exact absurd h6 (by decide)
/-- a remainder that is followed by itself leaves nothing -/
theorem cstep_own (s j : Nat) (hj : j < 32) : cstep (s * 2 ^ j % 4294967296) (s / 2 ^ (31 - j) % 2) = s * 2 ^ (j + 1) % 4294967296 := by
  have hs : s * 2 ^ j % 4294967296 / 2147483648 = s / 2 ^ (31 - j) % 2 := by
    have e : (4294967296 : Nat) = 2147483648 * 2 := by decide
    rw [e, Nat.mod_mul_right_div_self]
    congr 1
    have e2 : (2147483648 : Nat) = 2 ^ (31 - j) * 2 ^ j := by rw [← Nat.pow_add, show 31 - j + j = 31 by omega]
    rw [e2, Nat.mul_div_mul_right _ _ (Nat.pow_pos (by decide))]
  unfold cstep
  rw [hs, Nat.xor_self]
  simp only [Nat.zero_mul, Nat.zero_mod, Nat.xor_zero]
  rw [Nat.pow_succ, ← Nat.mul_assoc]
  omega
theorem cstep_own' (s j j' : Nat) (hj : j < 32) (h : j' = j + 1) : cstep (s * 2 ^ j % 4294967296) (s / 2 ^ (31 - j) % 2) = s * 2 ^ j' % 4294967296 := by rw [h]; exact cstep_own s j hj
theorem cbyte_eq (t c : Nat) : cbyte t c = cstep (cstep (cstep (cstep (cstep (cstep (cstep (cstep t (cbit c 0)) (cbit c 1)) (cbit c 2)) (cbit c 3)) (cbit c 4)) (cbit c 5)) (cbit c 6)) (cbit c 7) := rfl
theorem cbit_big (s i j : Nat) (hi : i < 4) (hj : j < 8) : cbit (s / 2 ^ (8 * (3 - i)) % 256) j = s / 2 ^ (31 - (8 * i + j)) % 2 := by
  unfold cbit
  have e : (256 : Nat) = 2 ^ (7 - j) * 2 ^ (j + 1) := by rw [← Nat.pow_add, show 7 - j + (j + 1) = 8 by omega]
  rw [e, Nat.mod_mul_right_div_self, Nat.div_div_eq_div_mul, ← Nat.pow_add, show 8 * (3 - i) + (7 - j) = 31 - (8 * i + j) by omega, Nat.pow_succ, Nat.mod_mul_left_mod]
theorem crc_own (s : Nat) (hs : s < 4294967296) : crc s (big 4 s) = 0 := by
  have hb : big 4 s = [s / 2 ^ (8 * (3 - 0)) % 256, s / 2 ^ (8 * (3 - 1)) % 256, s / 2 ^ (8 * (3 - 2)) % 256, s / 2 ^ (8 * (3 - 3)) % 256] := rfl
  have step : ∀ i, i < 4 → cbyte (s * 2 ^ (8 * i) % 4294967296) (s / 2 ^ (8 * (3 - i)) % 256) = s * 2 ^ (8 * (i + 1)) % 4294967296 := by
    intro i hi
    rw [cbyte_eq, cbit_big s i 0 hi (by decide), cbit_big s i 1 hi (by decide), cbit_big s i 2 hi (by decide), cbit_big s i 3 hi (by decide), cbit_big s i 4 hi (by decide), cbit_big s i 5 hi (by decide), cbit_big s i 6 hi (by decide), cbit_big s i 7 hi (by decide)]
    rw [Nat.add_zero, cstep_own' s (8 * i) (8 * i + 1) (by omega) rfl, cstep_own' s (8 * i + 1) (8 * i + 2) (by omega) rfl, cstep_own' s (8 * i + 2) (8 * i + 3) (by omega) rfl, cstep_own' s (8 * i + 3) (8 * i + 4) (by omega) rfl, cstep_own' s (8 * i + 4) (8 * i + 5) (by omega) rfl, cstep_own' s (8 * i + 5) (8 * i + 6) (by omega) rfl, cstep_own' s (8 * i + 6) (8 * i + 7) (by omega) rfl, cstep_own' s (8 * i + 7) (8 * (i + 1)) (by omega) (by omega)]
  have hc : ∀ a b c d : Nat, crc s [a, b, c, d] = cbyte (cbyte (cbyte (cbyte s a) b) c) d := fun _ _ _ _ => rfl
  rw [hb, hc]
  have e0 : s = s * 2 ^ (8 * 0) % 4294967296 := by simp; omega
  have s0 := step 0 (by decide)
  rw [← e0] at s0
  rw [s0, step 1 (by decide), step 2 (by decide), step 3 (by decide)]
  rw [show 8 * (3 + 1) = 32 by decide, show (4294967296 : Nat) = 2 ^ 32 by decide, Nat.mul_mod_left]
/-- the bytes of a right frame leave nothing -/
theorem frame_crc {bs : List Nat} (hu : ∀ d ∈ bs, d < 256) (h : frameE bs = 0) : crcb 4294967295 (bl bs) = 0 := by
  obtain ⟨hl20, hl40⟩ := frame_len h
  unfold frameE at h
  rw [if_neg (by omega), if_neg (by omega)] at h
  split at h
  · cases h
  · split at h
    · cases h
    · rename_i hc
      have hc1 : num (bs.drop (bs.length - 4)) = crc 4294967295 (bs.take (bs.length - 4)) := by
        by_cases e : num (bs.drop (bs.length - 4)) = crc 4294967295 (bs.take (bs.length - 4))
        · exact e
        · exact absurd e hc
      have hbs : bs = bs.take (bs.length - 4) ++ big 4 (crc 4294967295 (bs.take (bs.length - 4))) := by
        rw [← hc1, big_num 4 _ (by rw [List.length_drop]; omega) (fun d hd => hu d (List.mem_of_mem_drop hd)), List.take_append_drop]
      rw [← crc_bl, hbs]
      show List.foldl cbyte _ _ = 0
      rw [List.foldl_append]
      exact crc_own _ (crc_lt _ _ (by decide))
end Go.Proofs.Ytagfdmkgnedlbae.Ls
