/- The stable sort, plain: blocks that double. -/
import Derived.Test.YtkahjibdmhaglaaSsA
namespace Go.Proofs.Ytkahjibdmhaglaa.Ss
open Go.Sort
set_option linter.unusedVariables false
variable {α : Type} [Inhabited α] {lt : α → α → Bool} {pos : α → Nat}

/-! ### insertion: where positions rise, 'less' and 'less or earlier' do the same -/
omit [Inhabited α] in
theorem lt2_eq {x y : α} (h : pos y < pos x) : lt2 lt pos x y = lt x y := by
  unfold lt2
  have : decide (pos x < pos y) = false := decide_eq_false (by omega)
  rw [this]
  simp
theorem inner_eq (a : Nat) : ∀ (j : Nat) (d : Array α), j < d.size → (∀ p, a ≤ p → p < j → pos d[p]! < pos d[j]!) → insInner lt a j d = insInner (lt2 lt pos) a j d
  | 0, d, _, _ => rfl
  | j + 1, d, hj, h => by
    unfold insInner
    by_cases hja : j + 1 > a
    · rw [lt2_eq (h j (by omega) (by omega))]
      split
      · refine inner_eq a j _ (by rw [swp_size]; omega) (fun p hp hpj => ?_)
        rw [swp_get d (by omega) (by omega), swp_get d (by omega) (by omega), if_neg (by omega), if_neg (by omega), if_pos rfl]
        exact h p hp (by omega)
      · rfl
    · have e : decide (j + 1 > a) = false := decide_eq_false hja
      simp [e]
theorem outer_eq (hS : SWO lt) (a b : Nat) : ∀ (k i : Nat) (d : Array α), k = b - i → a ≤ i → b ≤ d.size → (∀ p q, a ≤ p → p < q → i ≤ q → q < b → pos d[p]! < pos d[q]!) → insOuter lt a b i d = insOuter (lt2 lt pos) a b i d := by
  intro k
  induction k with
  | zero =>
    intro i d hk ha hb h
    have e1 : ∀ l : α → α → Bool, insOuter l a b i d = d := fun l => by rw [insOuter, if_neg (by omega)]
    rw [e1, e1]
  | succ k ih =>
    intro i d hk ha hb h
    have e1 : ∀ l : α → α → Bool, insOuter l a b i d = insOuter l a b (i + 1) (insInner l a i d) := fun l => by rw [insOuter, if_pos (by omega)]
    rw [e1, e1]
    have e := inner_eq (lt := lt) (pos := pos) a i d (by omega) (fun p hp hpi => h p i hp hpi (Nat.le_refl _) (by omega))
    rw [e]
    have hP := ins_perm (lt2 lt pos) a i d (by omega) (by omega)
    refine ih (i + 1) _ (by omega) (by omega) (by rw [hP.1]; exact hb) (fun p q hp hpq hq hqb => ?_)
    rw [hP.2.1 q (by omega)]
    by_cases hpi : p < i + 1
    · exact permIn_all _ _ _ _ (fun x => pos x < pos d[q]!) (by omega) hP (fun r r1 r2 => h r q r1 (by omega) (by omega) hqb) p hp hpi
    · rw [hP.2.1 p (by omega)]
      exact h p q hp hpq (by omega) hqb
where
  ins_perm (l : α → α → Bool) (a : Nat) : ∀ (j : Nat) (d : Array α), a ≤ j → j < d.size → PermIn a (j + 1) d (insInner l a j d)
    | 0, d, _, _ => permIn_refl _ _ _
    | j + 1, d, ha, hj => by
      unfold insInner
      split
      · rename_i hc
        have hja : j + 1 > a := by
          simp only [Bool.and_eq_true, decide_eq_true_eq] at hc
          exact hc.1
        have h1 := swp_permIn d a (j + 2) (j + 1) j (by omega) (by omega) (by omega) (by omega) (by omega)
        have h2 := ins_perm l a j (swp d (j + 1) j) (by omega) (by rw [swp_size]; omega)
        exact permIn_trans _ _ _ _ _ h1 (permIn_mono _ _ _ _ _ _ (Nat.le_refl _) (by omega) (by rw [swp_size]; omega) h2)
      · exact permIn_refl _ _ _
theorem ins_ok (hS : SWO lt) {a b : Nat} {d : Array α} (hab : a ≤ b) (hb : b ≤ d.size) (h : ∀ p q, a ≤ p → p < q → q < b → pos d[p]! < pos d[q]!) : Mrg lt pos a b d (insertionSort lt d a b) := by
  have e : insertionSort lt d a b = insertionSort (lt2 lt pos) d a b := by
    unfold insertionSort
    exact outer_eq hS a b _ (a + 1) d rfl (by omega) hb (fun p q hp hpq _ hq => h p q hp hpq hq)
  rw [e]
  exact insertionSort_holds (lt2_swo hS pos) d a b hab hb

/-! ### blocks -/
def Mu (s c : Nat) : Prop := ∃ q, c = q * s
theorem Mu.zero (s : Nat) : Mu s 0 := ⟨0, by simp⟩
theorem Mu.add {s c : Nat} (h : Mu s c) : Mu s (c + s) := by
  obtain ⟨q, rfl⟩ := h
  exact ⟨q + 1, by rw [Nat.add_mul, Nat.one_mul]⟩
theorem Mu.lt_ {s c a : Nat} (hc : Mu s c) (ha : Mu s a) (h : c < a) : c + s ≤ a := by
  obtain ⟨q, rfl⟩ := hc
  obtain ⟨r, rfl⟩ := ha
  have h1 : q < r := Nat.lt_of_mul_lt_mul_right h
  have h2 : (q + 1) * s ≤ r * s := Nat.mul_le_mul_right _ h1
  rw [Nat.add_mul, Nat.one_mul] at h2
  exact h2
theorem Mu.half {s c : Nat} (h : Mu (2 * s) c) : Mu s c := by
  obtain ⟨q, rfl⟩ := h
  exact ⟨q * 2, by rw [Nat.mul_assoc]⟩
structure Blk (lt : α → α → Bool) (pos : α → Nat) (s n : Nat) (d0 d : Array α) : Prop where
  size : d.size = n
  perm : PermIn 0 n d0 d
  srt : ∀ c, Mu s c → c < n → SortedIn (lt2 lt pos) c (min (c + s) n) d
  at_ : ∀ c, Mu s c → ∀ i, c ≤ i → i < c + s → i < n → c ≤ pos d[i]! ∧ pos d[i]! < c + s
/-- sorting the first blocks -/
structure Ph1 (lt : α → α → Bool) (pos : α → Nat) (s n a : Nat) (d0 d : Array α) : Prop where
  size : d.size = n
  mu : Mu s a
  le : a ≤ n
  perm : PermIn 0 n d0 d
  srt : ∀ c, Mu s c → c + s ≤ a → SortedIn (lt2 lt pos) c (c + s) d
  at_ : ∀ c, Mu s c → ∀ i, c ≤ i → i < c + s → i < n → c ≤ pos d[i]! ∧ pos d[i]! < c + s
  rest : ∀ i, a ≤ i → i < n → pos d[i]! = i
theorem Ph1.start {s n : Nat} {d0 : Array α} (hs : d0.size = n) (hp : ∀ i, i < n → pos d0[i]! = i) : Ph1 lt pos s n 0 d0 d0 :=
  ⟨hs, Mu.zero s, Nat.zero_le _, permIn_refl _ _ _, fun c hc h p q hp hpq hq => by omega, fun c hc i h1 h2 h3 => by rw [hp i h3]; omega, fun i _ h => hp i h⟩
theorem at_mrg {s n a b : Nat} {d d' : Array α} (hb : b ≤ d.size) (hP : PermIn a b d d') (hn : d.size = n) (hmu : Mu s a) (hbs : b ≤ a + s) (h : ∀ c, Mu s c → ∀ i, c ≤ i → i < c + s → i < n → c ≤ pos d[i]! ∧ pos d[i]! < c + s) : ∀ c, Mu s c → ∀ i, c ≤ i → i < c + s → i < n → c ≤ pos d'[i]! ∧ pos d'[i]! < c + s := by
  intro c hc i h1 h2 h3
  by_cases hi : a ≤ i ∧ i < b
  · have e : c = a := by
      rcases Nat.lt_trichotomy c a with h5 | h5 | h5
      · have := Mu.lt_ hc hmu h5; omega
      · exact h5
      · have := Mu.lt_ hmu hc h5; omega
    subst e
    exact permIn_all _ _ _ _ (fun x => c ≤ pos x ∧ pos x < c + s) hb hP (fun k k1 k2 => h c hc k k1 (by omega) (by omega)) i hi.1 hi.2
  · rw [hP.2.1 i (by omega)]
    exact h c hc i h1 h2 h3
theorem Ph1.step (hS : SWO lt) {s n a : Nat} {d0 d : Array α} (h : Ph1 lt pos s n a d0 d) (hb : a + s ≤ n) : Ph1 lt pos s n (a + s) d0 (insertionSort lt d a (a + s)) := by
  have hm := ins_ok (pos := pos) hS (a := a) (b := a + s) (d := d) (by omega) (by rw [h.size]; exact hb) (fun p q hp hpq hq => by rw [h.rest p hp (by omega), h.rest q (by omega) (by omega)]; exact hpq)
  refine ⟨hm.1.1.trans h.size, h.mu.add, hb, permIn_trans _ _ _ _ _ h.perm (permIn_mono _ _ _ _ _ _ (Nat.zero_le _) hb (by rw [h.size]; exact Nat.le_refl _) hm.1), ?_, at_mrg (by rw [h.size]; exact hb) hm.1 h.size h.mu (Nat.le_refl _) h.at_, ?_⟩
  · intro c hc hca
    rcases Nat.lt_trichotomy c a with h5 | h5 | h5
    · exact sorted_out (h.srt c hc (Mu.lt_ hc h.mu h5)) hm.1 (.inl (Mu.lt_ hc h.mu h5))
    · subst h5; exact hm.2
    · omega
  · intro i h1 h2
    rw [hm.1.2.1 i (by omega)]
    exact h.rest i (by omega) h2
theorem Ph1.last (hS : SWO lt) {s n a : Nat} {d0 d : Array α} (h : Ph1 lt pos s n a d0 d) (hb : n < a + s) : Blk lt pos s n d0 (insertionSort lt d a n) := by
  have hle := h.le
  have hm := ins_ok (pos := pos) hS (a := a) (b := n) (d := d) hle (by rw [h.size]; exact Nat.le_refl _) (fun p q hp hpq hq => by rw [h.rest p hp (by omega), h.rest q (by omega) (by omega)]; exact hpq)
  refine ⟨hm.1.1.trans h.size, permIn_trans _ _ _ _ _ h.perm (permIn_mono _ _ _ _ _ _ (Nat.zero_le _) (Nat.le_refl _) (by rw [h.size]; exact Nat.le_refl _) hm.1), ?_, at_mrg (by rw [h.size]; exact Nat.le_refl _) hm.1 h.size h.mu (by omega) h.at_⟩
  intro c hc hcn
  rcases Nat.lt_trichotomy c a with h5 | h5 | h5
  · have h6 := Mu.lt_ hc h.mu h5
    rw [Nat.min_eq_left (by omega)]
    exact sorted_out (h.srt c hc h6) hm.1 (.inl h6)
  · subst h5
    rw [Nat.min_eq_right (by omega)]
    exact hm.2
  · have := Mu.lt_ h.mu hc h5; omega
/-- merging -/
structure Ph2 (lt : α → α → Bool) (pos : α → Nat) (s n a : Nat) (d0 d : Array α) : Prop where
  size : d.size = n
  mu : Mu (2 * s) a
  le : a ≤ n
  perm : PermIn 0 n d0 d
  srt2 : ∀ c, Mu (2 * s) c → c + 2 * s ≤ a → SortedIn (lt2 lt pos) c (c + 2 * s) d
  srt1 : ∀ c, Mu s c → a ≤ c → c < n → SortedIn (lt2 lt pos) c (min (c + s) n) d
  at2 : ∀ c, Mu (2 * s) c → ∀ i, c ≤ i → i < c + 2 * s → i < n → c ≤ pos d[i]! ∧ pos d[i]! < c + 2 * s
  at1 : ∀ c, Mu s c → a ≤ c → ∀ i, c ≤ i → i < c + s → i < n → c ≤ pos d[i]! ∧ pos d[i]! < c + s
theorem Ph2.start {s n : Nat} {d0 d : Array α} (h : Blk lt pos s n d0 d) : Ph2 lt pos s n 0 d0 d :=
  ⟨h.size, Mu.zero _, Nat.zero_le _, h.perm, fun c hc h5 p q hp hpq hq => by omega, fun c hc _ h5 => h.srt c hc h5, fun c hc i h1 h2 h3 => by
    by_cases h5 : i < c + s
    · have := h.at_ c hc.half i h1 h5 h3; omega
    · have := h.at_ (c + s) hc.half.add i (by omega) (by omega) h3; omega, fun c hc _ => h.at_ c hc⟩
theorem Ph2.pre {s n a b : Nat} {d0 d : Array α} (h : Ph2 lt pos s n a d0 d) (hm : a + s < n) (hb : b = min (a + 2 * s) n) : SortedIn (lt2 lt pos) a (a + s) d ∧ SortedIn (lt2 lt pos) (a + s) b d ∧ Thr pos (a + s) a (a + s) b d := by
  have h1 := h.srt1 a h.mu.half (Nat.le_refl _) (by omega)
  rw [Nat.min_eq_left (by omega)] at h1
  have h2 := h.srt1 (a + s) h.mu.half.add (by omega) hm
  have e : min (a + s + s) n = b := by rw [hb]; congr 1; omega
  rw [e] at h2
  refine ⟨h1, h2, fun i i1 i2 => (h.at1 a h.mu.half (Nat.le_refl _) i i1 i2 (by omega)).2, fun j j1 j2 => (h.at1 (a + s) h.mu.half.add (by omega) j j1 (by omega) (by omega)).1⟩
theorem Ph2.step {s n a : Nat} {d0 d d' : Array α} (h : Ph2 lt pos s n a d0 d) (hb : a + 2 * s ≤ n) (hm : Mrg lt pos a (a + 2 * s) d d') : Ph2 lt pos s n (a + 2 * s) d0 d' := by
  refine ⟨hm.1.1.trans h.size, h.mu.add, hb, permIn_trans _ _ _ _ _ h.perm (permIn_mono _ _ _ _ _ _ (Nat.zero_le _) hb (by rw [h.size]; exact Nat.le_refl _) hm.1), ?_, ?_, at_mrg (by rw [h.size]; exact hb) hm.1 h.size h.mu (Nat.le_refl _) h.at2, ?_⟩
  · intro c hc hca
    rcases Nat.lt_trichotomy c a with h5 | h5 | h5
    · exact sorted_out (h.srt2 c hc (Mu.lt_ hc h.mu h5)) hm.1 (.inl (Mu.lt_ hc h.mu h5))
    · subst h5; exact hm.2
    · omega
  · intro c hc hca hcn
    exact sorted_out (h.srt1 c hc (by omega) hcn) hm.1 (.inr hca)
  · intro c hc hca i h1 h2 h3
    rw [hm.1.2.1 i (by omega)]
    exact h.at1 c hc (by omega) i h1 h2 h3
theorem Ph2.idle {s n a : Nat} {d0 d : Array α} (h : Ph2 lt pos s n a d0 d) (hm : n ≤ a + s) : Mrg lt pos a n d d := by
  refine ⟨permIn_refl _ _ _, ?_⟩
  by_cases h5 : a < n
  · have h1 := h.srt1 a h.mu.half (Nat.le_refl _) h5
    rw [Nat.min_eq_right hm] at h1
    exact h1
  · intro p q hp hpq hq; omega
theorem Ph2.last {s n a : Nat} {d0 d d' : Array α} (h : Ph2 lt pos s n a d0 d) (hb : n < a + 2 * s) (hm : Mrg lt pos a n d d') : Blk lt pos (2 * s) n d0 d' := by
  refine ⟨hm.1.1.trans h.size, permIn_trans _ _ _ _ _ h.perm (permIn_mono _ _ _ _ _ _ (Nat.zero_le _) (Nat.le_refl _) (by rw [h.size]; exact Nat.le_refl _) hm.1), ?_, at_mrg (by rw [h.size]; exact Nat.le_refl _) hm.1 h.size h.mu (by omega) h.at2⟩
  intro c hc hcn
  rcases Nat.lt_trichotomy c a with h5 | h5 | h5
  · have h6 := Mu.lt_ hc h.mu h5
    have := h.le
    rw [Nat.min_eq_left (by omega)]
    exact sorted_out (h.srt2 c hc h6) hm.1 (.inl h6)
  · subst h5
    rw [Nat.min_eq_right (by omega)]
    exact hm.2
  · have := Mu.lt_ h.mu hc h5; omega
theorem Blk.done {s n : Nat} {d0 d : Array α} (h : Blk lt pos s n d0 d) (hs : n ≤ s) : Mrg lt pos 0 n d0 d := by
  refine ⟨h.perm, ?_⟩
  by_cases h5 : 0 < n
  · have h1 := h.srt 0 (Mu.zero _) h5
    rw [Nat.min_eq_right (by omega)] at h1
    exact h1
  · intro p q hp hpq hq; omega
end Go.Proofs.Ytkahjibdmhaglaa.Ss
