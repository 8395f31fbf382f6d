/- Where parts of a path may end: plain. -/
import Derived.Test.YtagfdmkgnedlbagPoB
namespace Go.Proofs.Ytagfdmkgnedlbag.Po
set_option linter.unusedVariables false

/-- from i to j of a path -/
def seg (xs : List Int) (i j : Nat) : List Int := (xs.drop i).take (j - i)
theorem seg_len (xs : List Int) {i j : Nat} (h : i ≤ j) (hj : j ≤ xs.length) : (seg xs i j).length = j - i := by
  unfold seg; rw [List.length_take, List.length_drop]; omega
theorem seg_cat (xs : List Int) {i m j : Nat} (h1 : i ≤ m) (h2 : m ≤ j) : seg xs i m ++ seg xs m j = seg xs i j := by
  unfold seg
  have e1 : j - i = (m - i) + (j - m) := by omega
  rw [e1, List.take_add]
  congr 2
  rw [List.drop_drop]
  congr 1
  omega
theorem seg_split (xs : List Int) {i j : Nat} {u v : List Int} (h : i ≤ j) (hj : j ≤ xs.length) (e : seg xs i j = u ++ v) : i + u.length ≤ j ∧ u = seg xs i (i + u.length) ∧ v = seg xs (i + u.length) j := by
  have hl := congrArg List.length e
  rw [seg_len xs h hj, List.length_append] at hl
  have h1 : i + u.length ≤ j := by omega
  have e2 := (seg_cat xs (i := i) (m := i + u.length) (j := j) (by omega) h1).trans e
  have l1 : (seg xs i (i + u.length)).length = u.length := by rw [seg_len xs (by omega) (by omega)]; omega
  obtain ⟨e3, e4⟩ := List.append_inj e2 l1
  exact ⟨h1, e3.symm, e4.symm⟩
theorem seg_self (xs : List Int) (i : Nat) : seg xs i i = [] := by unfold seg; simp
theorem seg_one (xs : List Int) {i : Nat} (h : i < xs.length) : seg xs i (i + 1) = [xs[i]] := by
  unfold seg
  have e : i + 1 - i = 1 := by omega
  rw [e, List.drop_eq_getElem_cons h]
  rfl
/-- a part of L may end at j, if it begins where F says -/
def En (L : Lg) (xs : List Int) (F : List Bool) (j : Nat) : Prop := j ≤ xs.length ∧ ∃ i, i ≤ j ∧ F[i]? = some true ∧ L (seg xs i j)
noncomputable def en (L : Lg) (xs : List Int) (F : List Bool) (j : Nat) : Bool := @decide (En L xs F j) (Classical.propDecidable _)
noncomputable def ends (L : Lg) (xs : List Int) (F : List Bool) : List Bool := (List.range (xs.length + 1)).map (en L xs F)
theorem en_iff (L : Lg) (xs : List Int) (F : List Bool) (j : Nat) : en L xs F j = true ↔ En L xs F j := by unfold en; simp
theorem ends_len (L : Lg) (xs : List Int) (F : List Bool) : (ends L xs F).length = xs.length + 1 := by simp [ends]
theorem ends_get (L : Lg) (xs : List Int) (F : List Bool) {j : Nat} (h : j ≤ xs.length) : (ends L xs F)[j]? = some (en L xs F j) := by
  unfold ends
  rw [List.getElem?_map, List.getElem?_range (by omega)]
  rfl
theorem ends_true (L : Lg) (xs : List Int) (F : List Bool) (j : Nat) : (ends L xs F)[j]? = some true ↔ En L xs F j := by
  by_cases h : j ≤ xs.length
  · rw [ends_get L xs F h, ← en_iff]
    simp
  · constructor
    · intro e
      rw [List.getElem?_eq_none (by rw [ends_len]; omega)] at e
      cases e
    · intro e; exact absurd e.1 h
/-- two lists of as many bools, true at the same places -/
theorem bools_eq {A B : List Bool} (hl : A.length = B.length) (h : ∀ j : Nat, A[j]? = some true ↔ B[j]? = some true) : A = B := by
  apply List.ext_getElem? 
  intro j
  have := h j
  rcases Nat.lt_or_ge j A.length with h1 | h1
  · rw [List.getElem?_eq_getElem h1, List.getElem?_eq_getElem (by omega)] at this ⊢
    cases hA : A[j] <;> cases hB : B[j] <;> simp [hA, hB] at this ⊢
  · rw [List.getElem?_eq_none h1, List.getElem?_eq_none (by omega)]
theorem ends_congr {L L' : Lg} (h : ∀ w, L w ↔ L' w) (xs : List Int) (F : List Bool) : ends L xs F = ends L' xs F := by
  have : L = L' := funext fun w => propext (h w)
  rw [this]
theorem ends_eps (xs : List Int) (F : List Bool) (hF : F.length = xs.length + 1) : ends (fun w => w = []) xs F = F := by
  refine bools_eq (by rw [ends_len, hF]) (fun j => ?_)
  rw [ends_true]
  constructor
  · rintro ⟨hj, i, hi, hf, hs⟩
    have := congrArg List.length hs
    rw [seg_len xs hi hj] at this
    simp at this
    obtain rfl : i = j := by omega
    exact hf
  · intro hf
    have hj : j < F.length := by
      rcases Nat.lt_or_ge j F.length with h | h
      · exact h
      · rw [List.getElem?_eq_none h] at hf; cases hf
    exact ⟨by omega, j, Nat.le_refl _, hf, seg_self xs j⟩
theorem ends_cat (A B : Lg) (xs : List Int) (F : List Bool) : ends B xs (ends A xs F) = ends (cat A B) xs F := by
  refine bools_eq (by rw [ends_len, ends_len]) (fun j => ?_)
  rw [ends_true, ends_true]
  constructor
  · rintro ⟨hj, m, hm, hA, hB⟩
    obtain ⟨-, i, hi, hf, hA⟩ := (ends_true A xs F m).1 hA
    exact ⟨hj, i, by omega, hf, _, _, (seg_cat xs hi hm).symm, hA, hB⟩
  · rintro ⟨hj, i, hi, hf, u, v, e, hA, hB⟩
    obtain ⟨h1, h2, h3⟩ := seg_split xs hi hj e
    refine ⟨hj, i + u.length, h1, (ends_true A xs F _).2 ⟨by omega, i, by omega, hf, ?_⟩, ?_⟩
    · rw [← h2]; exact hA
    · rw [← h3]; exact hB
theorem en_or (A B : Lg) (xs : List Int) (F : List Bool) (j : Nat) : en (fun w => A w ∨ B w) xs F j = (en A xs F j || en B xs F j) := by
  rw [Bool.eq_iff_iff, Bool.or_eq_true, en_iff, en_iff, en_iff]
  constructor
  · rintro ⟨hj, i, hi, hf, h | h⟩
    · exact .inl ⟨hj, i, hi, hf, h⟩
    · exact .inr ⟨hj, i, hi, hf, h⟩
  · rintro (⟨hj, i, hi, hf, h⟩ | ⟨hj, i, hi, hf, h⟩)
    · exact ⟨hj, i, hi, hf, .inl h⟩
    · exact ⟨hj, i, hi, hf, .inr h⟩
theorem en_none {L : Lg} (hL : ∀ w, ¬ L w) (xs : List Int) (F : List Bool) (j : Nat) : en L xs F j = false := by
  cases e : en L xs F j with
  | false => rfl
  | true => obtain ⟨-, i, -, -, h⟩ := (en_iff _ _ _ _).1 e; exact absurd h (hL _)
theorem ends_none {L : Lg} (hL : ∀ w, ¬ L w) (xs : List Int) (F : List Bool) : ends L xs F = List.replicate (xs.length + 1) false := by
  refine bools_eq (by rw [ends_len, List.length_replicate]) (fun j => ?_)
  rw [ends_true]
  constructor
  · rintro ⟨-, i, -, -, h⟩; exact absurd h (hL _)
  · intro h
    rw [List.getElem?_replicate] at h
    split at h <;> cases h
/-- a part of one number: where it ends -/
theorem en_one {L : Lg} {c : Int → Bool} (hL : ∀ w, L w ↔ ∃ x, w = [x] ∧ c x = true) (xs : List Int) (F : List Bool) {i : Nat} (hi : i < xs.length) : en L xs F (i + 1) = ((F[i]?).getD false && c xs[i]) := by
  rw [Bool.eq_iff_iff, Bool.and_eq_true, en_iff]
  constructor
  · rintro ⟨hj, k, hk, hf, h⟩
    obtain ⟨x, e, hc⟩ := (hL _).1 h
    have := congrArg List.length e
    rw [seg_len xs hk hj] at this
    simp at this
    obtain rfl : k = i := by omega
    rw [seg_one xs hi] at e
    cases e
    exact ⟨by rw [hf]; rfl, hc⟩
  · rintro ⟨h1, h2⟩
    refine ⟨by omega, i, by omega, ?_, (hL _).2 ⟨xs[i], seg_one xs hi, h2⟩⟩
    cases e : F[i]? with
    | none => rw [e] at h1; cases h1
    | some b => rw [e] at h1; simp at h1; rw [h1]
theorem en_zero {L : Lg} {c : Int → Bool} (hL : ∀ w, L w ↔ ∃ x, w = [x] ∧ c x = true) (xs : List Int) (F : List Bool) : en L xs F 0 = false := by
  cases e : en L xs F 0 with
  | false => rfl
  | true =>
    obtain ⟨hj, k, hk, hf, h⟩ := (en_iff _ _ _ _).1 e
    obtain ⟨x, e2, -⟩ := (hL _).1 h
    have := congrArg List.length e2
    rw [seg_len xs hk hj] at this
    simp at this
/-- what a repetition has come to -/
structure Rep (A : Lg) (xs : List Int) (F R O : List Bool) : Prop where
  lr : R.length = xs.length + 1
  lo : O.length = xs.length + 1
  reach : ∀ j : Nat, R[j]? = some true ↔ F[j]? = some true ∨ O[j]? = some true
  sound : ∀ j : Nat, O[j]? = some true → En (cat A (Star A)) xs F j
theorem star_end {A : Lg} : ∀ {v : List Int}, Star A v → ∀ w, A w → Star A (v ++ w) := by
  intro v h
  induction h with
  | nil e => intro w hw; subst e; exact .cons w [] (by simp) hw (.nil rfl)
  | cons u1 u2 e h1 h2 ih => intro w hw; subst e; exact .cons u1 (u2 ++ w) (by simp) h1 (ih w hw)
/-- one part more behind what was reached -/
theorem Rep.more {A : Lg} {xs : List Int} {F R O : List Bool} (h : Rep A xs F R O) {j : Nat} (hj : En A xs R j) : En (cat A (Star A)) xs F j := by
  obtain ⟨hj, m, hm, hr, hA⟩ := hj
  rcases (h.reach m).1 hr with hf | ho
  · exact ⟨hj, m, hm, hf, _, [], (List.append_nil _).symm, hA, .nil rfl⟩
  · obtain ⟨-, i, hi, hf, u, v, e, hu, hv⟩ := h.sound m ho
    refine ⟨hj, i, by omega, hf, u, v ++ seg xs m j, ?_, hu, star_end hv _ hA⟩
    rw [← seg_cat xs hi hm, e, List.append_assoc]
theorem Rep.set {A : Lg} {xs : List Int} {F R O : List Bool} (h : Rep A xs F R O) {j : Nat} (hj : En (cat A (Star A)) xs F j) : Rep A xs F (R.set j true) (O.set j true) := by
  have hjl := hj.1
  refine ⟨by rw [List.length_set]; exact h.lr, by rw [List.length_set]; exact h.lo, fun k => ?_, fun k hk => ?_⟩
  · by_cases e : j = k
    · subst e
      rw [List.getElem?_set_self (by rw [h.lr]; omega), List.getElem?_set_self (by rw [h.lo]; omega)]
      simp
    · rw [List.getElem?_set_ne e, List.getElem?_set_ne e]
      exact h.reach k
  · by_cases e : j = k
    · subst e; exact hj
    · rw [List.getElem?_set_ne e] at hk
      exact h.sound k hk
theorem Rep.first (A : Lg) (xs : List Int) (F : List Bool) (hF : F.length = xs.length + 1) : Rep A xs F F (List.replicate (xs.length + 1) false) :=
  ⟨hF, by simp, fun j => ⟨.inl, fun h => by
    rcases h with h | h
    · exact h
    · rw [List.getElem?_replicate] at h
      split at h <;> cases h⟩, fun j h => by
    rw [List.getElem?_replicate] at h
    split at h <;> cases h⟩
theorem Rep.done {A : Lg} {xs : List Int} {F R O : List Bool} (h : Rep A xs F R O) (hc : ∀ j : Nat, En A xs R j → O[j]? = some true) : O = ends (cat A (Star A)) xs F ∧ (F.length = xs.length + 1 → R = ends (Star A) xs F) := by
  have key : ∀ {v : List Int}, Star A v → ∀ m j, m ≤ j → j ≤ xs.length → v = seg xs m j → O[m]? = some true → O[j]? = some true := by
    intro v hv
    induction hv with
    | nil e =>
      intro m j hm hj e2 ho
      rw [e] at e2
      have := congrArg List.length e2
      rw [seg_len xs hm hj] at this
      simp at this
      obtain rfl : m = j := by omega
      exact ho
    | cons u1 u2 e h1 h2 ih =>
      intro m j hm hj e2 ho
      obtain ⟨g1, g2, g3⟩ := seg_split xs hm hj (e2.symm.trans e)
      refine ih (m + u1.length) j g1 hj g3 (hc _ ⟨by omega, m, by omega, (h.reach m).2 (.inr ho), ?_⟩)
      rw [← g2]; exact h1
  have hO : ∀ j : Nat, O[j]? = some true ↔ En (cat A (Star A)) xs F j := fun j => ⟨h.sound j, fun ⟨hj, i, hi, hf, u, v, e, hu, hv⟩ => by
    obtain ⟨g1, g2, g3⟩ := seg_split xs hi hj e
    refine key hv (i + u.length) j g1 hj g3 (hc _ ⟨by omega, i, by omega, (h.reach i).2 (.inl hf), ?_⟩)
    rw [← g2]; exact hu⟩
  refine ⟨bools_eq (by rw [h.lo, ends_len]) (fun j => (hO j).trans (ends_true _ _ _ _).symm), fun hF => bools_eq (by rw [h.lr, ends_len]) (fun j => ?_)⟩
  rw [h.reach j, hO j, ends_true]
  constructor
  · rintro (hf | ⟨hj, i, hi, hf, hw⟩)
    · have hj : j < F.length := by
        rcases Nat.lt_or_ge j F.length with h | h
        · exact h
        · rw [List.getElem?_eq_none h] at hf; cases hf
      exact ⟨by omega, j, Nat.le_refl _, hf, by rw [seg_self]; exact .nil rfl⟩
    · exact ⟨hj, i, hi, hf, (star_iff _).2 (.inr hw)⟩
  · rintro ⟨hj, i, hi, hf, hw⟩
    rcases (star_iff _).1 hw with hw | hw
    · have := congrArg List.length hw
      rw [seg_len xs hi hj] at this
      simp at this
      obtain rfl : i = j := by omega
      exact .inl hf
    · exact .inr ⟨hj, i, hi, hf, hw⟩
/-- a sequence grows at its end -/
theorem lang_snoc (n : Int) (q : Pat) : ∀ (ps : List Pat) (w : List Int), Lang (.mk 3 n (ps ++ [q])) w ↔ cat (Lang (.mk 3 n ps)) (Lang q) w
  | [], w => by
    rw [List.nil_append, lang_cons]
    constructor
    · rintro ⟨u, v, e, h1, h2⟩
      rw [lang_nil] at h2
      subst h2
      exact ⟨[], u, by rw [e]; simp, (lang_nil _ _).2 rfl, h1⟩
    · rintro ⟨u, v, e, h1, h2⟩
      rw [lang_nil] at h1
      subst h1
      exact ⟨v, [], by rw [e]; simp, h2, (lang_nil _ _).2 rfl⟩
  | p :: ps, w => by
    rw [List.cons_append, lang_cons]
    constructor
    · rintro ⟨u, v, e, h1, h2⟩
      obtain ⟨v1, v2, e2, h3, h4⟩ := (lang_snoc n q ps v).1 h2
      exact ⟨u ++ v1, v2, by rw [e, e2, List.append_assoc], (lang_cons _ _ _ _).2 ⟨u, v1, rfl, h1, h3⟩, h4⟩
    · rintro ⟨u, v, e, h1, h2⟩
      obtain ⟨u1, u2, e2, h3, h4⟩ := (lang_cons _ _ _ _).1 h1
      exact ⟨u1, u2 ++ v, by rw [e, e2, List.append_assoc], h3, (lang_snoc n q ps _).2 ⟨u2, v, rfl, h4, h2⟩⟩
/-- how many are true -/
def cnt (O : List Bool) : Nat := O.count true
theorem cnt_le (O : List Bool) : cnt O ≤ O.length := List.count_le_length
theorem cnt_set {O : List Bool} {j : Nat} (hj : j < O.length) (h : O[j] = false) : cnt (O.set j true) = cnt O + 1 := by
  unfold cnt
  rw [List.count_set hj]
  simp [h]
end Go.Proofs.Ytagfdmkgnedlbag.Po
