/- Bits that are turned in a frame, all within 32 next to each other: it is no frame. -/
import Derived.Test.YtagfdmkgnedlbaeLsZd
namespace Go.Proofs.Ytagfdmkgnedlbae.Ls
open Go.RowKit Go.Proofs.Ytagfdmkgnedlbae.PM
set_option linter.unusedVariables false

theorem least (P : Nat → Prop) [DecidablePred P] : ∀ n, P n → ∃ i, P i ∧ ∀ k, k < i → ¬ P k := by
  intro n
  induction n using Nat.strongRecOn with
  | _ n ih =>
    intro h
    by_cases hk : ∃ k, k < n ∧ P k
    · obtain ⟨k, hk, hp⟩ := hk
      exact ih k hk hp
    · exact ⟨n, h, fun k hlt hp => hk ⟨k, hlt, hp⟩⟩
theorem burst_refused {bs bs' : List Nat} (hu : ∀ d ∈ bs, d < 256) (hu' : ∀ d ∈ bs', d < 256) (hl : bs.length = bs'.length) (hf : frameE bs = 0) (f : Nat) (hw : ∀ j : Nat, (j < f ∨ f + 32 ≤ j) → (bl bs')[j]? = (bl bs)[j]?) (hne : ∃ j : Nat, ¬ (bl bs')[j]? = (bl bs)[j]?) : ¬ frameE bs' = 0 := by
  intro hf'
  have h1 := frame_crc hu hf
  have h2 := frame_crc hu' hf'
  have hbl : (bl bs).length = (bl bs').length := by rw [bl_len, bl_len, hl]
  have h3 := crcb_lin (bl bs) (bl bs') 4294967295 4294967295 hbl (by decide) (by decide) (bl_lt bs) (bl_lt bs')
  rw [h1, h2, Nat.xor_self, Nat.xor_self] at h3
  obtain ⟨n, hn⟩ := hne
  obtain ⟨i, hi, hmin⟩ := least (fun j => ¬ (bl bs')[j]? = (bl bs)[j]?) n hn
  have hfi : f ≤ i ∧ i < f + 32 := by
    by_cases h : i < f ∨ f + 32 ≤ i
    · exact absurd (hw i h) hi
    · omega
  have at_ : ∀ j (h : j < (bl bs).length), (List.zipWith (· ^^^ ·) (bl bs) (bl bs'))[j]? = some ((bl bs)[j] ^^^ (bl bs')[j]'(by omega)) := fun j h => by
    rw [List.getElem?_eq_getElem (by rw [List.length_zipWith]; omega), List.getElem_zipWith]
  have hil : i < (bl bs).length := by
    by_cases h : i < (bl bs).length
    · exact h
    · exact absurd (by rw [List.getElem?_eq_none (by omega), List.getElem?_eq_none (by omega)]) hi
  have same : ∀ j (h : j < (bl bs).length), (bl bs')[j]? = (bl bs)[j]? → (bl bs)[j] ^^^ (bl bs')[j]'(by omega) = 0 := fun j h e => by
    rw [List.getElem?_eq_getElem (by omega), List.getElem?_eq_getElem h] at e
    injection e with e
    rw [e, Nat.xor_self]
  refine burst (List.zipWith (· ^^^ ·) (bl bs) (bl bs')) i ?_ ?_ ?_ ?_ h3
  · intro b hb
    obtain ⟨j, hj, e⟩ := List.getElem_of_mem hb
    rw [List.getElem_zipWith] at e
    rw [← e]
    exact xor_lt2 (bl_lt bs _ (List.getElem_mem _)) (bl_lt bs' _ (List.getElem_mem _))
  · intro j hj
    have hjl : j < (bl bs).length := by omega
    rw [at_ j hjl, same j hjl (Decidable.not_not.1 (hmin j hj))]
  · rw [at_ i hil]
    have b1 := bl_lt bs _ (List.getElem_mem hil)
    have b2 := bl_lt bs' _ (List.getElem_mem (show i < (bl bs').length by omega))
    have hne2 : ¬ (bl bs')[i]'(by omega) = (bl bs)[i] := fun e => hi (by rw [List.getElem?_eq_getElem (by omega), List.getElem?_eq_getElem hil, e])
    obtain ⟨x, hx⟩ : ∃ x, (bl bs)[i] = x := ⟨_, rfl⟩
    obtain ⟨y, hy⟩ : ∃ y, (bl bs')[i]'(by omega) = y := ⟨_, rfl⟩
    rw [hx, hy] at hne2 ⊢
    rw [hx] at b1
    rw [hy] at b2
    rcases (show x = 0 ∧ y = 1 ∨ x = 1 ∧ y = 0 by omega) with ⟨rfl, rfl⟩ | ⟨rfl, rfl⟩ <;> rfl
  · intro j b hj e
    by_cases hjl : j < (bl bs).length
    · rw [at_ j hjl, same j hjl (hw j (by omega))] at e
      injection e with e
      exact e.symm
    · rw [List.getElem?_eq_none (by rw [List.length_zipWith]; omega)] at e
      cases e
/-- one bit is turned -/
def fl (bs : List Nat) (j : Nat) : List Nat := bs.set (j / 8) (bs.getD (j / 8) 0 ^^^ 2 ^ (7 - j % 8))
theorem fl_len (bs : List Nat) (j : Nat) : (fl bs j).length = bs.length := by simp [fl]
theorem cbit_test (c i : Nat) : cbit c i = (c.testBit (7 - i)).toNat := by
  unfold cbit
  rw [Nat.testBit_eq_decide_div_mod_eq]
  have := Nat.mod_lt (c / 2 ^ (7 - i)) (show 0 < 2 by decide)
  by_cases h : c / 2 ^ (7 - i) % 2 = 1
  · simp [h]
  · have h0 : c / 2 ^ (7 - i) % 2 = 0 := by omega
    simp [h0]
theorem pow7_lt (j : Nat) : 2 ^ (7 - j % 8) < 256 := Nat.lt_of_le_of_lt (Nat.pow_le_pow_right (n := 2) (by decide) (show 7 - j % 8 ≤ 7 by omega)) (by decide)
theorem fl_u8 {bs : List Nat} (hu : ∀ d ∈ bs, d < 256) (j : Nat) (hj : j / 8 < bs.length) : ∀ d ∈ fl bs j, d < 256 := by
  intro d hd
  unfold fl at hd
  rcases List.mem_or_eq_of_mem_set hd with h | h
  · exact hu d h
  · rw [h]
    refine Nat.xor_lt_two_pow (n := 8) ?_ (pow7_lt j)
    rw [List.getD_eq_getElem?_getD, List.getElem?_eq_getElem hj]
    exact hu _ (List.getElem_mem hj)
theorem fl_at (bs : List Nat) (j : Nat) (hj : j / 8 < bs.length) : (∀ i, ¬ i = j → (bl (fl bs j))[i]? = (bl bs)[i]?) ∧ ¬ (bl (fl bs j))[j]? = (bl bs)[j]? := by
  have hl := fl_len bs j
  have hb : ∀ k (h : k < bs.length), (fl bs j)[k]'(by omega) = if k = j / 8 then bs[k] ^^^ 2 ^ (7 - j % 8) else bs[k] := fun k h => by
    unfold fl
    rw [List.getElem_set]
    by_cases e : j / 8 = k
    · subst e
      rw [if_pos rfl, if_pos rfl, List.getD_eq_getElem?_getD, List.getElem?_eq_getElem h]
      rfl
    · rw [if_neg e, if_neg (fun e2 => e e2.symm)]
  have key : ∀ c i, i < 8 → cbit (c ^^^ 2 ^ (7 - j % 8)) i = if i = j % 8 then 1 - cbit c i else cbit c i := fun c i hi => by
    rw [cbit_test, cbit_test, Nat.testBit_xor, Nat.testBit_two_pow]
    by_cases e : i = j % 8
    · subst e
      rw [if_pos rfl]
      simp
      cases c.testBit (7 - j % 8) <;> rfl
    · rw [if_neg e]
      have : ¬ 7 - j % 8 = 7 - i := by omega
      simp [this]
  refine ⟨fun i hij => ?_, ?_⟩
  · by_cases hi : i / 8 < bs.length
    · rw [bl_at _ i (by omega), bl_at bs i hi, hb (i / 8) hi]
      by_cases e : i / 8 = j / 8
      · rw [if_pos e, key _ _ (Nat.mod_lt _ (by decide)), if_neg (by omega)]
      · rw [if_neg e]
    · rw [List.getElem?_eq_none (by rw [bl_len]; omega), List.getElem?_eq_none (by rw [bl_len]; omega)]
  · rw [bl_at _ j (by omega), bl_at bs j hj, hb (j / 8) hj, if_pos rfl, key _ _ (Nat.mod_lt _ (by decide)), if_pos rfl]
    have := cbit_lt bs[j / 8] (j % 8)
    intro e
    injection e with e
    omega
/-- bits from a place on, some of them turned -/
structure Tn (bs : List Nat) (f k : Nat) (t : Bool) (cs : List Nat) : Prop where
  len : cs.length = bs.length
  u8 : ∀ d ∈ cs, d < 256
  out : ∀ j, (j < f ∨ f + k ≤ j) → (bl cs)[j]? = (bl bs)[j]?
  yes : t = true → ∃ j, f ≤ j ∧ j < f + k ∧ ¬ (bl cs)[j]? = (bl bs)[j]?
  no : t = false → cs = bs
theorem Tn.start {bs : List Nat} (hu : ∀ d ∈ bs, d < 256) (f : Nat) : Tn bs f 0 false bs := ⟨rfl, hu, fun _ _ => rfl, (fun h => by cases h), fun _ => rfl⟩
theorem Tn.pass {bs cs : List Nat} {f k : Nat} {t : Bool} (h : Tn bs f k t cs) : Tn bs f (k + 1) t cs :=
  ⟨h.len, h.u8, fun j hj => h.out j (by omega), fun e => by obtain ⟨j, a, b, c⟩ := h.yes e; exact ⟨j, a, by omega, c⟩, h.no⟩
theorem Tn.turn {bs cs : List Nat} {f k : Nat} {t : Bool} (h : Tn bs f k t cs) (hk : f + k < 8 * bs.length) : Tn bs f (k + 1) true (fl cs (f + k)) := by
  have hl := h.len
  have hj : (f + k) / 8 < cs.length := by omega
  obtain ⟨h1, h2⟩ := fl_at cs (f + k) hj
  exact ⟨by rw [fl_len]; exact hl, fl_u8 h.u8 _ hj, fun j hj => (h1 j (by omega)).trans (h.out j (by omega)), fun _ => ⟨f + k, by omega, by omega, fun e => h2 (e.trans (h.out (f + k) (by omega)).symm)⟩, fun e => by cases e⟩
theorem Tn.refused {bs cs : List Nat} {f k : Nat} (h : Tn bs f k true cs) (hk : k ≤ 32) (hu : ∀ d ∈ bs, d < 256) (hf : frameE bs = 0) : ¬ frameE cs = 0 := by
  obtain ⟨j, -, -, hj⟩ := h.yes rfl
  exact burst_refused hu h.u8 h.len.symm hf f (fun i hi => h.out i (by omega)) ⟨j, hj⟩
theorem dec_frame {p : Pk} {bs : List Nat} (h : decP bs = (p, 0)) : frameE bs = 0 := by
  unfold decP at h
  split at h
  case isTrue hh => exact hh
  case isFalse hne =>
    injection h with h1 h2
theorem By.set {w : World} {b o i c : Nat} {bs : List Nat} (h : By w (some ⟨b, o, none⟩) bs) (hi : i < bs.length) (hc : c < 256) : By (w.setCell ⟨b, o + i, none⟩ (.int .u8 (c : Int))) (some ⟨b, o, none⟩) (bs.set i c) := by
  refine ⟨by rw [List.length_set]; exact h.small, fun k hk => ?_, fun d hd => ?_⟩
  · rw [List.length_set] at hk
    obtain ⟨b1, o1, e, hl, hcell⟩ := h.cells k hk
    cases e
    refine ⟨b, o, rfl, by simpa using hl, ?_⟩
    rw [List.getElem_set]
    by_cases e : i = k
    · subst e
      rw [if_pos rfl]
      exact World.cell?_setCell_same' _ _ _ (by rw [hcell]; rfl)
    · rw [if_neg e, World.cell?_setCell_other _ _ _ _ (by intro e2; injection e2 with _ e3 _; omega)]
      exact hcell
  · rcases List.mem_or_eq_of_mem_set hd with h1 | h1
    · exact h.u8 d h1
    · rw [h1]; exact hc
end Go.Proofs.Ytagfdmkgnedlbae.Ls
