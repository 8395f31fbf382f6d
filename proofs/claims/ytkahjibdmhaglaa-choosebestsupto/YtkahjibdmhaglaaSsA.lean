/- The stable sort, plain: of two that neither is less, the earlier one stands first; blocks exchanged, merged, sorted. -/
import Derived.Test.YtkahjibdmhaglaaProg
import Derived.Sort.LotA
namespace Go.Proofs.Ytkahjibdmhaglaa.Ss
open Go.Sort
set_option linter.unusedVariables false
variable {α : Type} [Inhabited α]

section
variable (lt : α → α → Bool) (pos : α → Nat)
def lt2 (x y : α) : Bool := lt x y || (!lt y x && decide (pos x < pos y))
end
omit [Inhabited α] in
theorem lt2_no {lt : α → α → Bool} {pos : α → Nat} {x y : α} : lt2 lt pos x y = false ↔ lt x y = false ∧ (lt y x = true ∨ pos y ≤ pos x) := by
  unfold lt2
  cases lt x y <;> cases lt y x <;> simp
omit [Inhabited α] in
theorem lt2_yes {lt : α → α → Bool} {pos : α → Nat} {x y : α} : lt2 lt pos x y = true ↔ lt x y = true ∨ (lt y x = false ∧ pos x < pos y) := by
  unfold lt2
  cases lt x y <;> cases lt y x <;> simp
omit [Inhabited α] in
theorem lt2_swo {lt : α → α → Bool} (h : SWO lt) (pos : α → Nat) : SWO (lt2 lt pos) where
  irrefl x := by rw [lt2_no]; exact ⟨h.irrefl x, .inr (Nat.le_refl _)⟩
  trans x y z h1 h2 := by
    rw [lt2_yes] at *
    rcases h1 with h1 | ⟨h1, p1⟩ <;> rcases h2 with h2 | ⟨h2, p2⟩
    · exact .inl (h.trans x y z h1 h2)
    · cases hz : lt x z with
      | true => exact .inl rfl
      | false => have := h.ntrans x z y hz h2; rw [h1] at this; cases this
    · cases hz : lt x z with
      | true => exact .inl rfl
      | false => have := h.ntrans y x z h1 hz; rw [h2] at this; cases this
    · exact .inr ⟨h.ntrans z y x h2 h1, by omega⟩
  ntrans x y z h1 h2 := by
    rw [lt2_no] at *
    obtain ⟨h1, p1⟩ := h1
    obtain ⟨h2, p2⟩ := h2
    refine ⟨h.ntrans x y z h1 h2, ?_⟩
    cases hz : lt z x with
    | true => exact .inl rfl
    | false =>
      rcases p1 with p1 | p1
      · have := h.ntrans y z x h2 hz; rw [p1] at this; cases this
      · rcases p2 with p2 | p2
        · have := h.ntrans z x y hz h1; rw [p2] at this; cases this
        · exact .inr (by omega)
omit [Inhabited α] in
/-- what stands to the right and is not less -/
theorem lt2_lr {lt : α → α → Bool} {pos : α → Nat} {x y : α} (h : lt y x = false) (hp : pos x < pos y) : lt2 lt pos y x = false := lt2_no.2 ⟨h, .inr (by omega)⟩
omit [Inhabited α] in
theorem lt2_rl {lt : α → α → Bool} {pos : α → Nat} {x y : α} (hS : SWO lt) (h : lt y x = true) : lt2 lt pos x y = false := lt2_no.2 ⟨hS.asymmA h, .inl h⟩

/-! ### Exchanges -/
def swI (a b n k : Nat) : Nat := if a ≤ k ∧ k < a + n then k - a + b else if b ≤ k ∧ k < b + n then k - b + a else k
def rotI (a m b k : Nat) : Nat := if k < a then k else if k < a + (b - m) then k + (m - a) else if k < b then k - (b - m) else k
structure IsSw (a b n : Nat) (lo hi : Nat) (d d' : Array α) : Prop where
  size : d'.size = d.size
  at_ : ∀ k, d'[k]! = d[swI a b n k]!
  perm : PermIn lo hi d d'
structure IsRot (a m b : Nat) (lo hi : Nat) (d d' : Array α) : Prop where
  size : d'.size = d.size
  at_ : ∀ k, d'[k]! = d[rotI a m b k]!
  perm : PermIn lo hi d d'
theorem IsSw.zero (a b lo hi : Nat) (d : Array α) : IsSw a b 0 lo hi d d := ⟨rfl, fun k => by
  have : swI a b 0 k = k := by unfold swI; split; omega; split; omega; rfl
  rw [this], permIn_refl _ _ _⟩
theorem IsSw.next {a b i n : Nat} {d d' : Array α} (h : IsSw a b i a (b + n) d d') (hi : i < n) (hab : a + n ≤ b) (hb : b + n ≤ d.size) : IsSw a b (i + 1) a (b + n) d (swp d' (a + i) (b + i)) := by
  have hs := h.size
  refine ⟨by rw [swp_size, hs], fun k => ?_, permIn_trans _ _ _ _ _ h.perm (swp_permIn _ _ _ _ _ (by omega) (by omega) (by omega) (by omega) (by omega))⟩
  rw [swp_get d' (by omega) (by omega) k]
  have e1 : swI a b i (a + i) = a + i := by unfold swI; split; omega; split; omega; rfl
  have e2 : swI a b i (b + i) = b + i := by unfold swI; split; omega; split; omega; rfl
  split
  · rename_i hk
    subst hk
    rw [h.at_, e1]
    congr 1
    unfold swI; split; omega; split; omega; omega
  · split
    · rename_i hk
      subst hk
      rw [h.at_, e2]
      congr 1
      unfold swI; split; omega; omega
    · rw [h.at_]
      congr 1
      unfold swI
      repeat' split
      all_goals omega
theorem IsRot.same {a m b lo hi : Nat} (d : Array α) (h : m ≤ a ∨ b ≤ m) (h1 : a ≤ m) (h2 : m ≤ b) : IsRot a m b lo hi d d := ⟨rfl, fun k => by
  have : rotI a m b k = k := by unfold rotI; repeat' split
                                all_goals omega
  rw [this], permIn_refl _ _ _⟩
theorem IsRot.gt {m i j lo hi : Nat} {d d1 d2 : Array α} (hij : j < i) (him : i ≤ m) (hj : m + j ≤ d.size) (hlo : lo ≤ m - i) (hhi : m + j ≤ hi) (hsz : hi ≤ d.size) (h : IsSw (m - i) m j (m - i) (m + j) d d1) (h2 : IsRot (m - (i - j)) m (m + j) lo hi d1 d2) : IsRot (m - i) m (m + j) lo hi d d2 := by
  refine ⟨by rw [h2.size, h.size], fun k => ?_, permIn_trans _ _ _ _ _ (permIn_mono _ _ _ _ _ _ hlo hhi hsz h.perm) h2.perm⟩
  rw [h2.at_, h.at_]
  congr 1
  unfold rotI swI
  repeat' split
  all_goals omega
theorem IsRot.lt {m i j lo hi : Nat} {d d1 d2 : Array α} (hij : i < j) (him : i ≤ m) (hj : m + j ≤ d.size) (hlo : lo ≤ m - i) (hhi : m + j ≤ hi) (hsz : hi ≤ d.size) (h : IsSw (m - i) (m + j - i) i (m - i) (m + j) d d1) (h2 : IsRot (m - i) m (m + (j - i)) lo hi d1 d2) : IsRot (m - i) m (m + j) lo hi d d2 := by
  refine ⟨by rw [h2.size, h.size], fun k => ?_, permIn_trans _ _ _ _ _ (permIn_mono _ _ _ _ _ _ hlo hhi hsz h.perm) h2.perm⟩
  rw [h2.at_, h.at_]
  congr 1
  unfold rotI swI
  repeat' split
  all_goals omega
theorem IsRot.eq {m i lo hi : Nat} {d d1 : Array α} (him : i ≤ m) (hlo : lo ≤ m - i) (hhi : m + i ≤ hi) (hsz : hi ≤ d.size) (h : IsSw (m - i) m i (m - i) (m + i) d d1) : IsRot (m - i) m (m + i) lo hi d d1 := by
  refine ⟨h.size, fun k => ?_, permIn_mono _ _ _ _ _ _ hlo hhi hsz h.perm⟩
  rw [h.at_]
  congr 1
  unfold rotI swI
  repeat' split
  all_goals omega
/-- one goes up -/
theorem IsRot.up {a k lo hi : Nat} {d d' : Array α} (h : IsRot a (a + 1) (k + 1) lo hi d d') (hak : a ≤ k) (hk : k + 1 < hi) (hlo : lo ≤ a) (hsz : hi ≤ d.size) : IsRot a (a + 1) (k + 2) lo hi d (swp d' k (k + 1)) := by
  have hs := h.size
  refine ⟨by rw [swp_size, hs], fun x => ?_, permIn_trans _ _ _ _ _ h.perm (swp_permIn _ _ _ _ _ (by omega) (by omega) (by omega) (by omega) (by omega))⟩
  rw [swp_get d' (by omega) (by omega) x]
  split
  · rw [h.at_]; congr 1; unfold rotI; repeat' split
    all_goals omega
  · split
    · rw [h.at_]; congr 1; unfold rotI; repeat' split
      all_goals omega
    · rw [h.at_]; congr 1; unfold rotI; repeat' split
      all_goals omega
/-- one goes down -/
theorem IsRot.down {m k lo hi : Nat} {d d' : Array α} (h : IsRot (k + 1) m (m + 1) lo hi d d') (hk : k + 1 ≤ m) (hlo : lo ≤ k) (hhi : m + 1 ≤ hi) (hsz : hi ≤ d.size) : IsRot k m (m + 1) lo hi d (swp d' (k + 1) k) := by
  have hs := h.size
  refine ⟨by rw [swp_size, hs], fun x => ?_, permIn_trans _ _ _ _ _ h.perm (swp_permIn _ _ _ _ _ (by omega) (by omega) (by omega) (by omega) (by omega))⟩
  rw [swp_get d' (by omega) (by omega) x]
  split
  · rw [h.at_]; congr 1; unfold rotI; repeat' split
    all_goals omega
  · split
    · rw [h.at_]; congr 1; unfold rotI; repeat' split
      all_goals omega
    · rw [h.at_]; congr 1; unfold rotI; repeat' split
      all_goals omega

/-! ### Merging -/
section
variable {lt : α → α → Bool} {pos : α → Nat}
def Thr (pos : α → Nat) (t a m b : Nat) (d : Array α) : Prop := (∀ i, a ≤ i → i < m → pos d[i]! < t) ∧ (∀ j, m ≤ j → j < b → t ≤ pos d[j]!)
def Mrg (lt : α → α → Bool) (pos : α → Nat) (a b : Nat) (d d' : Array α) : Prop := PermIn a b d d' ∧ SortedIn (lt2 lt pos) a b d'
theorem nle (hS : SWO lt) {a b : Nat} {d : Array α} (h : SortedIn (lt2 lt pos) a b d) {i j : Nat} (h1 : a ≤ i) (h2 : i ≤ j) (h3 : j < b) : lt2 lt pos d[j]! d[i]! = false := by
  rcases Nat.lt_or_eq_of_le h2 with h4 | rfl
  · exact h i j h1 h4 h3
  · exact (lt2_swo hS pos).irrefl _
theorem mrg1 (hS : SWO lt) {a b i t : Nat} {d d' : Array α} (hs : SortedIn (lt2 lt pos) (a + 1) b d) (ht : Thr pos t a (a + 1) b d) (h1 : a + 1 ≤ i) (h2 : i ≤ b) (hx : i = a + 1 ∨ lt d[i - 1]! d[a]! = true) (hy : i = b ∨ lt d[i]! d[a]! = false) (hr : IsRot a (a + 1) i a b d d') : Mrg lt pos a b d d' := by
  refine ⟨hr.perm, fun p q hp hpq hq => ?_⟩
  have h2S := lt2_swo hS pos
  rw [hr.at_, hr.at_]
  by_cases c1 : q < i - 1
  · have e1 : rotI a (a + 1) i p = p + 1 := by unfold rotI; repeat' split
                                               all_goals omega
    have e2 : rotI a (a + 1) i q = q + 1 := by unfold rotI; repeat' split
                                               all_goals omega
    rw [e1, e2]
    exact hs _ _ (by omega) (by omega) (by omega)
  by_cases c2 : q = i - 1
  · have e1 : rotI a (a + 1) i p = p + 1 := by unfold rotI; repeat' split
                                               all_goals omega
    have e2 : rotI a (a + 1) i q = a := by unfold rotI; repeat' split
                                           all_goals omega
    rw [e1, e2]
    have hx' : lt d[i - 1]! d[a]! = true := by rcases hx with hx | hx; omega; exact hx
    exact h2S.ntrans _ _ _ (lt2_rl hS hx') (nle hS hs (by omega) (by omega) (by omega))
  have e2 : rotI a (a + 1) i q = q := by unfold rotI; repeat' split
                                         all_goals omega
  rw [e2]
  by_cases c3 : p < i - 1
  · have e1 : rotI a (a + 1) i p = p + 1 := by unfold rotI; repeat' split
                                               all_goals omega
    rw [e1]
    exact nle hS hs (by omega) (by omega) (by omega)
  by_cases c4 : p = i - 1
  · have e1 : rotI a (a + 1) i p = a := by unfold rotI; repeat' split
                                           all_goals omega
    rw [e1]
    have hy' : lt d[i]! d[a]! = false := by rcases hy with hy | hy; omega; exact hy
    have hp := ht.1 a (by omega) (by omega)
    have hp2 := ht.2 i (by omega) (by omega)
    exact h2S.ntrans _ _ _ (nle hS hs (by omega) (show i ≤ q by omega) (by omega)) (lt2_lr hy' (by omega))
  · have e1 : rotI a (a + 1) i p = p := by unfold rotI; repeat' split
                                           all_goals omega
    rw [e1]
    exact hs _ _ (by omega) (by omega) (by omega)
theorem mrg2 (hS : SWO lt) {a m i t : Nat} {d d' : Array α} (hs : SortedIn (lt2 lt pos) a m d) (ht : Thr pos t a m (m + 1) d) (h1 : a ≤ i) (h2 : i ≤ m) (hx : i = a ∨ lt d[m]! d[i - 1]! = false) (hy : i = m ∨ lt d[m]! d[i]! = true) (hr : IsRot i m (m + 1) a (m + 1) d d') : Mrg lt pos a (m + 1) d d' := by
  refine ⟨hr.perm, fun p q hp hpq hq => ?_⟩
  have h2S := lt2_swo hS pos
  rw [hr.at_, hr.at_]
  by_cases c1 : q < i
  · have e1 : rotI i m (m + 1) p = p := by unfold rotI; repeat' split
                                           all_goals omega
    have e2 : rotI i m (m + 1) q = q := by unfold rotI; repeat' split
                                           all_goals omega
    rw [e1, e2]
    exact hs _ _ (by omega) (by omega) (by omega)
  by_cases c2 : q = i
  · have e1 : rotI i m (m + 1) p = p := by unfold rotI; repeat' split
                                           all_goals omega
    have e2 : rotI i m (m + 1) q = m := by unfold rotI; repeat' split
                                           all_goals omega
    rw [e1, e2]
    have hx' : lt d[m]! d[i - 1]! = false := by rcases hx with hx | hx; omega; exact hx
    have hp1 := ht.1 (i - 1) (by omega) (by omega)
    have hp2 := ht.2 m (by omega) (by omega)
    exact h2S.ntrans _ _ _ (lt2_lr hx' (by omega)) (nle hS hs (by omega) (show p ≤ i - 1 by omega) (by omega))
  have e2 : rotI i m (m + 1) q = q - 1 := by unfold rotI; repeat' split
                                             all_goals omega
  rw [e2]
  by_cases c3 : p < i
  · have e1 : rotI i m (m + 1) p = p := by unfold rotI; repeat' split
                                           all_goals omega
    rw [e1]
    exact nle hS hs (by omega) (by omega) (by omega)
  by_cases c4 : p = i
  · have e1 : rotI i m (m + 1) p = m := by unfold rotI; repeat' split
                                           all_goals omega
    rw [e1]
    have hy' : lt d[m]! d[i]! = true := by rcases hy with hy | hy; omega; exact hy
    exact h2S.ntrans _ _ _ (nle hS hs (by omega) (show i ≤ q - 1 by omega) (by omega)) (lt2_rl hS hy')
  · have e1 : rotI i m (m + 1) p = p - 1 := by unfold rotI; repeat' split
                                               all_goals omega
    rw [e1]
    exact hs _ _ (by omega) (by omega) (by omega)
/-- two halves, each to be merged, each of the first ahead of each of the second -/
structure Half (lt : α → α → Bool) (pos : α → Nat) (t a s mid e b : Nat) (d : Array α) : Prop where
  s1 : SortedIn (lt2 lt pos) a s d
  s2 : SortedIn (lt2 lt pos) s mid d
  s3 : SortedIn (lt2 lt pos) mid e d
  s4 : SortedIn (lt2 lt pos) e b d
  t1 : Thr pos t a s mid d
  t2 : Thr pos t mid e b d
  cross : ∀ i j, a ≤ i → i < mid → mid ≤ j → j < b → lt2 lt pos d[j]! d[i]! = false
theorem mrg3 (hS : SWO lt) {a m b s e mid t : Nat} {d d1 : Array α} (hs1 : SortedIn (lt2 lt pos) a m d) (hs2 : SortedIn (lt2 lt pos) m b d) (ht : Thr pos t a m b d) (h1 : a ≤ s) (h2 : s ≤ m) (h3 : m ≤ e) (h4 : e ≤ b) (hmid : mid = s + (e - m))
    (hx : s = a ∨ e = b ∨ lt d[e]! d[s - 1]! = false) (hy : s = m ∨ e = m ∨ lt d[e - 1]! d[s]! = true) (hr : IsRot s m e a b d d1) : Half lt pos t a s mid e b d1 := by
  subst hmid
  have h2S := lt2_swo hS pos
  have r1 : ∀ k, k < s → rotI s m e k = k := fun k hk => by unfold rotI; repeat' split
                                                            all_goals omega
  have r2 : ∀ k, s ≤ k → k < s + (e - m) → rotI s m e k = k + (m - s) := fun k hk hk2 => by unfold rotI; repeat' split
                                                                                            all_goals omega
  have r3 : ∀ k, s + (e - m) ≤ k → k < e → rotI s m e k = k - (e - m) := fun k hk hk2 => by unfold rotI; repeat' split
                                                                                            all_goals omega
  have r4 : ∀ k, e ≤ k → rotI s m e k = k := fun k hk => by unfold rotI; repeat' split
                                                            all_goals omega
  have g1 : ∀ k, k < s → d1[k]! = d[k]! := fun k hk => by rw [hr.at_, r1 k hk]
  have g2 : ∀ k, s ≤ k → k < s + (e - m) → d1[k]! = d[k + (m - s)]! := fun k hk hk2 => by rw [hr.at_, r2 k hk hk2]
  have g3 : ∀ k, s + (e - m) ≤ k → k < e → d1[k]! = d[k - (e - m)]! := fun k hk hk2 => by rw [hr.at_, r3 k hk hk2]
  have g4 : ∀ k, e ≤ k → d1[k]! = d[k]! := fun k hk => by rw [hr.at_, r4 k hk]
  refine ⟨?_, ?_, ?_, ?_, ⟨?_, ?_⟩, ⟨?_, ?_⟩, ?_⟩
  · intro p q hp hpq hq
    rw [g1 p (by omega), g1 q hq]
    exact hs1 _ _ (by omega) (by omega) (by omega)
  · intro p q hp hpq hq
    rw [g2 p (by omega) (by omega), g2 q (by omega) (by omega)]
    exact hs2 _ _ (by omega) (by omega) (by omega)
  · intro p q hp hpq hq
    rw [g3 p (by omega) (by omega), g3 q (by omega) (by omega)]
    exact hs1 _ _ (by omega) (by omega) (by omega)
  · intro p q hp hpq hq
    rw [g4 p (by omega), g4 q (by omega)]
    exact hs2 _ _ (by omega) (by omega) (by omega)
  · intro k hk hk2
    rw [g1 k hk2]
    exact ht.1 _ (by omega) (by omega)
  · intro k hk hk2
    rw [g2 k hk hk2]
    exact ht.2 _ (by omega) (by omega)
  · intro k hk hk2
    rw [g3 k hk hk2]
    exact ht.1 _ (by omega) (by omega)
  · intro k hk hk2
    rw [g4 k hk]
    exact ht.2 _ (by omega) (by omega)
  · intro p q hp hp2 hq hq2
    by_cases cp : p < s
    · rw [g1 p cp]
      by_cases cq : q < e
      · rw [g3 q hq cq]
        exact nle hS hs1 (by omega) (by omega) (by omega)
      · rw [g4 q (by omega)]
        have hx' : lt d[e]! d[s - 1]! = false := by
          rcases hx with hx | hx | hx
          · omega
          · omega
          · exact hx
        have p1 := ht.1 (s - 1) (by omega) (by omega)
        have p2 := ht.2 e (by omega) (by omega)
        refine h2S.ntrans _ _ _ (nle hS hs2 (by omega) (show e ≤ q by omega) (by omega)) (h2S.ntrans _ _ _ (lt2_lr hx' (by omega)) (nle hS hs1 (by omega) (show p ≤ s - 1 by omega) (by omega)))
    · rw [g2 p (by omega) hp2]
      by_cases cq : q < e
      · rw [g3 q hq cq]
        have hy' : lt d[e - 1]! d[s]! = true := by
          rcases hy with hy | hy | hy
          · omega
          · omega
          · exact hy
        refine h2S.ntrans _ _ _ (nle hS hs1 (by omega) (show s ≤ q - (e - m) by omega) (by omega)) (h2S.ntrans _ _ _ (lt2_rl hS hy') (nle hS hs2 (by omega) (show p + (m - s) ≤ e - 1 by omega) (by omega)))
      · rw [g4 q (by omega)]
        exact nle hS hs2 (by omega) (by omega) (by omega)
theorem sorted_out {l : α → α → Bool} {a b x y : Nat} {d d' : Array α} (h : SortedIn l x y d) (hp : PermIn a b d d') (hxy : y ≤ a ∨ b ≤ x) : SortedIn l x y d' := fun p q h1 h2 h3 => by
  rw [hp.2.1 p (by omega), hp.2.1 q (by omega)]
  exact h p q h1 h2 h3
theorem thr_out {a b x m y t : Nat} {d d' : Array α} (h : Thr pos t x m y d) (hp : PermIn a b d d') (hxy : b ≤ x) (h1 : x ≤ m) : Thr pos t x m y d' := ⟨fun i h1 h2 => by rw [hp.2.1 i (by omega)]; exact h.1 i h1 h2, fun i h1 h2 => by rw [hp.2.1 i (by omega)]; exact h.2 i h1 h2⟩
/-- the halves are sorted -/
theorem mrg_join {t a s mid e b : Nat} {d d1 d2 d3 : Array α} (h : Half lt pos t a s mid e b d1) (hb : b ≤ d1.size) (ham : a ≤ mid) (hmb : mid ≤ b) (h0 : PermIn a b d d1) (h1 : Mrg lt pos a mid d1 d2) (h2 : Mrg lt pos mid b d2 d3) : Mrg lt pos a b d d3 := by
  have hs2 : d2.size = d1.size := h1.1.1
  have cr : ∀ i j, a ≤ i → i < mid → mid ≤ j → j < b → lt2 lt pos d2[j]! d2[i]! = false := fun i j i1 i2 j1 j2 => by
    rw [h1.1.2.1 j (by omega)]
    exact permIn_all _ _ _ _ (fun x => lt2 lt pos d1[j]! x = false) (by omega) h1.1 (fun k k1 k2 => h.cross k j k1 k2 j1 j2) i i1 i2
  have cr3 : ∀ i j, a ≤ i → i < mid → mid ≤ j → j < b → lt2 lt pos d3[j]! d3[i]! = false := fun i j i1 i2 j1 j2 => by
    rw [h2.1.2.1 i (by omega)]
    exact permIn_all _ _ _ _ (fun x => lt2 lt pos x d2[i]! = false) (by omega) h2.1 (fun k k1 k2 => cr i k i1 i2 k1 k2) j j1 j2
  refine ⟨permIn_trans _ _ _ _ _ h0 (permIn_trans _ _ _ _ _ (permIn_mono _ _ _ _ _ _ (Nat.le_refl _) hmb hb h1.1) (permIn_mono _ _ _ _ _ _ ham (Nat.le_refl _) (by omega) h2.1)), fun p q hp hpq hq => ?_⟩
  by_cases c1 : q < mid
  · exact sorted_out h1.2 h2.1 (.inl (Nat.le_refl _)) p q hp hpq c1
  · by_cases c2 : p < mid
    · exact cr3 p q hp c2 (by omega) hq
    · exact h2.2 p q (by omega) hpq hq
theorem mrg_idle1 {t a s mid e b : Nat} {d : Array α} (h : Half lt pos t a s mid e b d) (hc : ¬ (a < s ∧ s < mid)) (h1 : a ≤ s) (h2 : s ≤ mid) : Mrg lt pos a mid d d := by
  refine ⟨permIn_refl _ _ _, ?_⟩
  by_cases c : s = a
  · subst c; exact h.s2
  · have : s = mid := by omega
    subst this; exact h.s1
theorem mrg_idle2 {t a s mid e b : Nat} {d d' : Array α} (h : Half lt pos t a s mid e b d) (hp : PermIn a mid d d') (hc : ¬ (mid < e ∧ e < b)) (h1 : mid ≤ e) (h2 : e ≤ b) : Mrg lt pos mid b d' d' := by
  refine ⟨permIn_refl _ _ _, ?_⟩
  by_cases c : e = mid
  · subst c; exact sorted_out h.s4 hp (.inr (Nat.le_refl _))
  · have : e = b := by omega
    subst this; exact sorted_out h.s3 hp (.inr (Nat.le_refl _))
end
end Go.Proofs.Ytkahjibdmhaglaa.Ss
