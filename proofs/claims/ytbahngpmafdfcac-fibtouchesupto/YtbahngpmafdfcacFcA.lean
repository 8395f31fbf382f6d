/- What Touched tells (plain): few places, rising, and Find hangs on no others. -/
import Derived.Test.YtbahngpmafdfcacFbV
namespace Go.Proofs.Ytbahngpmafdfcac.Fb
open Go.ChangeShapes Go.WideShapes Go.ChangeAt Go.RowKit Go.Joins Go.Proofs.Ytbahngpmafdfcac.PM Go.Proofs.Ytbahngpmafdfcac.Ask
set_option linter.unusedVariables false

theorem dscT_few (ms : List Int) (a : Int) : ∀ (f : Nat) (link sure : Int), 0 ≤ sure → sure ≤ 33 → ((dscT ms a f link sure).length : Int) ≤ 2 * (33 - sure) + 2
  | 0, _, _, _, _ => by simp [dscT]; omega
  | f + 1, link, sure, s0, s1 => by
    have ih := dscT_few ms a f
    unfold dscT
    split; · simp; omega
    split; · simp; omega
    rename_i hh
    split
    · split
      · simp; omega
      · have := ih (wd ms link * 4 + (2 + sdI a (wd ms (wd ms link * 4) / 65536))) (wd ms (wd ms link * 4) / 65536 + 1) (by omega) (by omega)
        simp only [List.length_cons]; omega
    · have := ih (wd ms link * 4 + (2 + sdI a (wd ms (wd ms link * 4) / 65536))) (wd ms (wd ms link * 4) / 65536 + 1) (by omega) (by omega)
      simp only [List.length_cons]; omega
theorem places_few (ms : List Int) (a : Int) : (placesP ms a).length ≤ 68 := by
  have := dscT_few ms a 34 0 0 (by decide) (by decide)
  unfold placesP; omega
theorem touch_few (ms : List Int) (a : Int) : (touchP ms a).length ≤ 68 := by
  unfold touchP
  exact Nat.le_trans (compact_len _) (by rw [List.length_mergeSort]; exact places_few ms a)

/-- Find hangs on the places alone -/
theorem dsc_hang (ms os : List Int) (a : Int) : ∀ (f : Nat) (link way sure : Int), (∀ x ∈ dscT ms a f link sure, wd os x = wd ms x) → dsc os a f link way sure = dsc ms a f link way sure
  | 0, _, _, _, _ => rfl
  | f + 1, link, way, sure, h => by
    have ih := dsc_hang ms os a f
    unfold dscT at h
    unfold dsc
    by_cases h0 : wd ms link = 0
    · rw [if_pos h0] at h
      rw [h link (by simp), if_pos h0, if_pos h0]
    · rw [if_neg h0] at h
      by_cases h1 : wd ms (wd ms link * 4) / 65536 < sure ∨ wd ms (wd ms link * 4) / 65536 > 32
      · rw [if_pos h1] at h
        rw [h link (by simp), h (wd ms link * 4) (by simp), if_neg h0, if_neg h0, if_pos h1, if_pos h1]
      · rw [if_neg h1] at h
        by_cases h2 : wd ms (wd ms link * 4) / 65536 > sure
        · rw [if_pos h2] at h
          by_cases h3 : has (wd ms (wd ms link * 4 + 1)) (wd ms (wd ms link * 4) / 65536) a = false
          · rw [if_pos h3] at h
            rw [h link (by simp), h (wd ms link * 4) (by simp), h (wd ms link * 4 + 1) (by simp), if_neg h0, if_neg h0, if_neg h1, if_neg h1, if_pos ⟨h2, h3⟩, if_pos ⟨h2, h3⟩]
          · rw [if_neg h3] at h
            have h4 : ¬ (wd ms (wd ms link * 4) / 65536 > sure ∧ has (wd ms (wd ms link * 4 + 1)) (wd ms (wd ms link * 4) / 65536) a = false) := fun e => h3 e.2
            rw [h link (by simp), h (wd ms link * 4) (by simp), h (wd ms link * 4 + 1) (by simp), if_neg h0, if_neg h0, if_neg h1, if_neg h1, if_neg h4, if_neg h4]
            refine ih _ _ _ (fun x hx => h x ?_); simp [hx]
        · rw [if_neg h2] at h
          have h4 : ∀ B, ¬ (wd ms (wd ms link * 4) / 65536 > sure ∧ B) := fun B e => h2 e.1
          rw [h link (by simp), h (wd ms link * 4) (by simp), if_neg h0, if_neg h0, if_neg h1, if_neg h1, if_neg (h4 _), if_neg (h4 _)]
          refine ih _ _ _ (fun x hx => h x ?_); simp [hx]
theorem find_hang {ms os : List Int} {a : Int} (h : ∀ x ∈ placesP ms a, wd os x = wd ms x) : findP os a = findP ms a := dsc_hang ms os a 34 0 0 0 h

theorem dscT_nn (ms : List Int) (hu : ∀ d ∈ ms, In32 d) (a : Int) : ∀ (f : Nat) (link sure : Int), 0 ≤ link → ∀ x ∈ dscT ms a f link sure, 0 ≤ x
  | 0, _, _, _, x, hx => by simp [dscT] at hx
  | f + 1, link, sure, l0, x, hx => by
    have ih := dscT_nn ms hu a f
    have h1 := (wd_in hu link).1
    have h2 := sdI_01 a (wd ms (wd ms link * 4) / 65536)
    have nx : 0 ≤ wd ms link * 4 + (2 + sdI a (wd ms (wd ms link * 4) / 65536)) := by rcases h2 with e | e <;> rw [e] <;> omega
    unfold dscT at hx
    split at hx; · simp at hx; omega
    split at hx; · simp at hx; omega
    split at hx
    · split at hx
      · simp at hx; omega
      · rcases List.mem_cons.1 hx with e | hx; · omega
        rcases List.mem_cons.1 hx with e | hx; · omega
        rcases List.mem_cons.1 hx with e | hx; · omega
        exact ih _ _ nx x hx
    · rcases List.mem_cons.1 hx with e | hx; · omega
      rcases List.mem_cons.1 hx with e | hx; · omega
      exact ih _ _ nx x hx

/-- what is compacted of a rising list rises strictly, and holds the same -/
theorem upto_rise (d : Array Int) (hs : ∀ i j, i < j → j < d.size → d[i]! ≤ d[j]!) : ∀ m, m ≤ d.size → (Lib.compactUpTo d m).Pairwise (· < ·) ∧ (∀ x ∈ Lib.compactUpTo d m, ∃ i, i < m ∧ d[i]! = x) ∧ (∀ i, i < m → d[i]! ∈ Lib.compactUpTo d m)
  | 0, _ => ⟨by simp [Lib.compactUpTo], by simp [Lib.compactUpTo], fun i hi => absurd hi (by omega)⟩
  | m + 1, hm => by
    obtain ⟨h1, h2, h3⟩ := upto_rise d hs m (by omega)
    rw [Lib.compactUpTo_succ]
    by_cases hk : Lib.keeps d m = true
    · rw [if_pos hk]
      refine ⟨?_, ?_, ?_⟩
      · rw [List.pairwise_append]
        refine ⟨h1, by simp, fun x hx y hy => ?_⟩
        obtain ⟨i, hi, e⟩ := h2 x hx
        simp at hy
        subst hy e
        have hk2 : m = 0 ∨ d[m]! ≠ d[m - 1]! := by simpa [Lib.keeps] using hk
        rcases hk2 with e | e
        · omega
        · have g1 : d[m - 1]! ≤ d[m]! := hs (m - 1) m (by omega) (by omega)
          have g2 : d[i]! ≤ d[m - 1]! := by
            by_cases e : i = m - 1
            · rw [e]; exact Int.le_refl _
            · exact hs i (m - 1) (by omega) (by omega)
          omega
      · intro x hx
        rcases List.mem_append.1 hx with hx | hx
        · obtain ⟨i, hi, e⟩ := h2 x hx; exact ⟨i, by omega, e⟩
        · simp at hx; exact ⟨m, by omega, hx.symm⟩
      · intro i hi
        by_cases e : i = m
        · subst e; simp
        · exact List.mem_append_left _ (h3 i (by omega))
    · rw [if_neg hk, List.append_nil]
      refine ⟨h1, fun x hx => ?_, fun i hi => ?_⟩
      · obtain ⟨i, hi, e⟩ := h2 x hx; exact ⟨i, by omega, e⟩
      · by_cases e : i = m
        · have hk2 : ¬ (m = 0 ∨ d[m]! ≠ d[m - 1]!) := by simpa [Lib.keeps] using hk
          have g : d[m]! = d[m - 1]! := Classical.byContradiction fun g => hk2 (.inr g)
          rw [e, g]
          exact h3 (m - 1) (by have : m ≠ 0 := fun g => hk2 (.inl g); omega)
        · exact h3 i (by omega)
theorem touch_rise (ms : List Int) (a : Int) : (touchP ms a).Pairwise (· < ·) ∧ ∀ x, x ∈ touchP ms a ↔ x ∈ placesP ms a := by
  have hsort : ((placesP ms a).mergeSort fun x y => decide (x ≤ y)).Pairwise (fun x y => decide (x ≤ y) = true) := List.pairwise_mergeSort (fun a b c h1 h2 => by simp at *; omega) (fun a b => by simp; omega) _
  have hperm := List.mergeSort_perm (placesP ms a) (fun x y => decide (x ≤ y))
  unfold touchP Lib.compact
  generalize (placesP ms a).mergeSort (fun x y => decide (x ≤ y)) = l at *
  have hs : ∀ i j, i < j → j < l.toArray.size → l.toArray[i]! ≤ l.toArray[j]! := fun i j hij hj => by
    have hj' : j < l.length := by simpa using hj
    have := List.pairwise_iff_getElem.1 hsort i j (by omega) hj' hij
    simp at this
    have e1 : l.toArray[i]! = l[i] := by simp [getElem!_pos, show i < l.length by omega]
    have e2 : l.toArray[j]! = l[j] := by simp [getElem!_pos, hj']
    rw [e1, e2]; exact this
  obtain ⟨h1, h2, h3⟩ := upto_rise l.toArray hs l.length (by simp)
  refine ⟨h1, fun x => ⟨fun hx => ?_, fun hx => ?_⟩⟩
  · obtain ⟨i, hi, e⟩ := h2 x hx
    have e1 : l.toArray[i]! = l[i] := by simp [getElem!_pos, hi]
    rw [← e, e1]
    exact hperm.mem_iff.1 (List.getElem_mem hi)
  · obtain ⟨i, hi, e⟩ := List.getElem_of_mem (hperm.mem_iff.2 hx)
    have e1 : l.toArray[i]! = l[i] := by simp [getElem!_pos, hi]
    rw [← e, ← e1]
    exact h3 i hi
end Go.Proofs.Ytbahngpmafdfcac.Fb
