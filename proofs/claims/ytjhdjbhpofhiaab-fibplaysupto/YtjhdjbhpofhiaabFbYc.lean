/- What Drop's writes make of a memory that holds a tree; plain. -/
import Derived.Test.YtjhdjbhpofhiaabFbY
namespace Go.Proofs.Ytjhdjbhpofhiaab.Fb
open Go.Proofs.Ytjhdjbhpofhiaab.PM Go.Proofs.Ytjhdjbhpofhiaab
set_option linter.unusedVariables false

/-- a link leads to a part of what it led to; what it leads to no more is free -/
theorem step_relink {ms : List Int} {made : Int} {fr : List Int} {t : TrM.Tr} {lk : Nat} {s c : TrM.Tr} {C : TrM.Tr → TrM.Tr} {rest : List Int} (h : Fit ms made fr t) (hC : Hole ms 0 t (lk : Int) s C rest) {bl : Int} (hc : Rp ms bl c) (hsub : (nums ms bl c).Sublist (nums ms (wd ms lk) s)) (G : List Int) (hG : ∀ j ∈ G, j ∈ nums ms (wd ms lk) s ∧ j ∉ nums ms bl c) (hGn : G.Nodup)
    (hwf : TrM.WF (C c)) (hsl : Sl (C c)) (hGl : (nums ms bl c).length + G.length = (nums ms (wd ms lk) s).length) (hG0 : 0 < G.length) : Step ms made t (C c) [(lk, bl)] made (fr ++ G) := by
  obtain ⟨hsin, hlks, hnds⟩ := hC.apart h
  obtain ⟨k0, k1, k2⟩ := hC.lk0 h
  have hpos := h.rp.pos
  have m0 := h.m0
  obtain ⟨ms', hms'⟩ : ∃ x, putsP ms [(lk, bl)] = x := ⟨_, rfl⟩
  have wd' : ∀ x : Int, 0 ≤ x → wd ms' x = if x = lk then bl else wd ms x := fun x x0 => by rw [← hms']; exact wd_put _ _ _ _ x0
  have off : ∀ x : Int, 0 ≤ x → x ≠ lk → wd ms' x = wd ms x := fun x x0 hne => by rw [wd' x x0, if_neg hne]
  have elk : wd ms' lk = bl := by rw [wd' _ k0, if_pos rfl]
  have fc := Rp.frame (ms' := ms') hc (fun j hj i i0 i3 => off _ (by have := hpos j (hsin j (hsub.subset hj)); omega) (hlks j (hsub.subset hj) i i0 i3))
  have hnd := h.nd
  rw [List.nodup_append] at hnd
  have most : ∀ y ∈ [(lk, bl)], (y.1 : Int) ≤ 4 * made + 3 := by intro y hy; simp at hy; subst hy; show (lk : Int) ≤ _; omega
  refine Step.of h ?_ ?_ most (by simp) ⟨by omega, by omega⟩ (.inl rfl) (by rw [List.length_append]; omega)
  · refine h.put hC _ (N := []) (S' := nums ms bl c) ?_ (by rw [hms', elk]; exact fc.1) (by rw [hms', elk, fc.2]; exact .refl _) hsub hwf hsl ?_ ?_ (by omega) most (by rw [List.length_append]; simp only [List.length_nil]; omega)
    · intro x hx hne _
      rw [hms']
      refine off x ?_ hne
      rcases hx with rfl | ⟨j, hj, ja, jb⟩
      · decide
      · have := hpos j hj; omega
    · show (fr ++ G).Nodup
      exact List.nodup_append.2 ⟨hnd.2.1, hGn, fun a ha b hb e => hnd.2.2 b (hsin b (hG b hb).1) a ha e.symm⟩
    · intro j hj
      rcases List.mem_append.1 (show j ∈ fr ++ G from hj) with hj | hj
      · exact ⟨fun hm => absurd rfl (hnd.2.2 j hm j hj), h.rng j (List.mem_append_right _ hj)⟩
      · exact ⟨fun _ => hG j hj, h.rng j (List.mem_append_left _ (hsin j (hG j hj).1))⟩
  · exact ahead_of h.rp [] _ (fun y hy => by cases hy)

theorem sl_slim {t : TrM.Tr} (h : Sl t) : TrM.slim t = t := by
  cases t with
  | nil => rfl
  | node b m u hh l r => rw [TrM.slim_eq, if_pos h.1]
theorem sl_of_slim {b m u : Int} {hh : Bool} {l r : TrM.Tr} (hl : Sl l) (hr : Sl r) : Sl (TrM.slim (.node b m u hh l r)) := by
  rw [TrM.slim_eq]
  split
  · rename_i h; exact ⟨h, hl, hr⟩
  · split
    · exact hl
    · exact hr
theorem sl_del {t : TrM.Tr} {a n : Int} (h : Sl t) : Sl (TrM.del t a n).1 := by
  induction t with
  | nil => exact trivial
  | node b m u hh l r il ir =>
    obtain ⟨h1, h2, h3⟩ := h
    unfold TrM.del
    split
    · split
      · split
        · exact sl_of_slim h2 h3
        · exact ⟨h1, h2, h3⟩
      · split
        · split
          · exact sl_of_slim (il h2) h3
          · exact ⟨h1, h2, h3⟩
        · split
          · exact sl_of_slim h2 (ir h3)
          · exact ⟨h1, h2, h3⟩
    · exact ⟨h1, h2, h3⟩
end Go.Proofs.Ytjhdjbhpofhiaab.Fb
