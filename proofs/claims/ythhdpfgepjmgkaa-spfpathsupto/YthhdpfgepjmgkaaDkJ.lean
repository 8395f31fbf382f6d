/- what counts and stands, in the law's words; the last edge of a shortest path. -/
import Derived.Test.YthhdpfgepjmgkaaDkI
namespace Go.Proofs.Ythhdpfgepjmgkaa.Dj
open Go.ChangeShapes Go.WideShapes Go.ChangeAt Go.RowKit Go.Joins Go.Deep Go.Proofs.Ythhdpfgepjmgkaa.Ge
set_option linter.unusedVariables false
set_option linter.unusedSimpArgs false

theorem last_filter {P : Ed → Bool} {l : List Ed} {e : Ed} : (l.filter P).getLast? = some e ↔ ∃ i : Nat, l[i]? = some e ∧ P e = true ∧ ∀ (j : Nat) (x : Ed), i < j → l[j]? = some x → ¬ P x = true := by
  constructor
  · intro h
    obtain ⟨ys, hy⟩ := List.getLast?_eq_some_iff.1 h
    obtain ⟨l1, l2, rfl, h1, h2⟩ := List.filter_eq_append_iff.1 hy
    obtain ⟨m1, m2, rfl, h3, h4, h5⟩ := List.filter_eq_cons_iff.1 h2
    refine ⟨l1.length + m1.length, ?_, h4, fun j x hj hx hp => ?_⟩
    · rw [List.getElem?_append_right (by omega), List.getElem?_append_right (by omega), show l1.length + m1.length - l1.length - m1.length = 0 by omega]
      rfl
    · rw [List.getElem?_append_right (by omega), List.getElem?_append_right (by omega)] at hx
      obtain ⟨k, hk⟩ : ∃ k, j - l1.length - m1.length = k + 1 := ⟨j - l1.length - m1.length - 1, by omega⟩
      rw [hk, List.getElem?_cons_succ] at hx
      exact List.filter_eq_nil_iff.1 h5 x (List.mem_of_getElem? hx) hp
  · rintro ⟨i, h1, h2, h3⟩
    obtain ⟨hi, he⟩ := List.getElem?_eq_some_iff.1 h1
    have h4 : l = l.take i ++ e :: l.drop (i + 1) := by
      rw [← he, List.getElem_cons_drop, List.take_append_drop]
    have h5 : (l.drop (i + 1)).filter P = [] := by
      rw [List.filter_eq_nil_iff]
      intro x hx hp
      obtain ⟨k, hk⟩ := List.mem_iff_getElem?.1 hx
      rw [List.getElem?_drop] at hk
      exact h3 _ x (by omega) hk hp
    rw [h4, List.filter_append, List.filter_cons_of_pos h2, h5]
    simp
theorem ct_iff {es : List Ed} {e : Ed} : lastE es (e.f, e.l) = some e ↔ ∃ i, es[i]? = some e ∧ Ct es i := by
  unfold lastE
  rw [last_filter]
  refine ⟨fun ⟨i, h1, h2, h3⟩ => ⟨i, h1, e, h1, ?_, fun j x hj hx c => h3 j x hj hx ?_⟩, fun ⟨i, h1, e', h2, h3, h4⟩ => ?_⟩
  · simp at h2; exact h2
  · simp [c.1, c.2.1, c.2.2]
  · rw [h1] at h2
    cases h2
    refine ⟨i, h1, by simp [h3], fun j x hj hx c => ?_⟩
    simp only [Bool.and_eq_true, decide_eq_true_eq] at c
    exact h4 j x hj hx ⟨c.1, congrArg Prod.fst c.2, congrArg Prod.snd c.2⟩
theorem sd_iff {es vs : List Ed} {root : Int} {f : Kw} (h : Net es vs root f) {e : Ed} : St vs e ↔ ∃ i, es[i]? = some e ∧ Sd es i := by
  have hb : 0 < cnt vs (e.t, e.f) ↔ Bk es e := by
    unfold cnt
    rw [List.length_pos_iff_exists_mem]
    constructor
    · rintro ⟨x, hx⟩
      obtain ⟨h1, h2⟩ := List.mem_filter.1 hx
      obtain ⟨j, h3, h4⟩ := ct_iff.1 ((h.vm x).1 h1)
      have h5 := of_decide_eq_true h2
      exact ⟨j, x, h3, h5.1, h5.2, h4⟩
    · rintro ⟨j, x, h1, h2, h3, h4⟩
      exact ⟨x, List.mem_filter.2 ⟨(h.vm x).2 (ct_iff.2 ⟨j, h1, h4⟩), decide_eq_true ⟨h2, h3⟩⟩⟩
  constructor
  · rintro ⟨h1, h2⟩
    obtain ⟨i, h3, h4⟩ := ct_iff.1 ((h.vm e).1 h1)
    exact ⟨i, h3, e, h3, h4, hb.1 h2⟩
  · rintro ⟨i, h1, e', h2, h3, h4⟩
    rw [h1] at h2
    cases h2
    exact ⟨(h.vm e).2 (ct_iff.2 ⟨i, h1, h3⟩), hb.2 h4⟩
theorem Net.met {es vs : List Ed} {root : Int} {f : Kw} (h : Net es vs root f) {v d : Int} {ls : List Int} (hv : f v = some (d, ls)) (hr : v ≠ root) : ∃ e du lu, St vs e ∧ e.t = v ∧ f e.f = some (du, lu) ∧ du + e.c = d := by
  obtain ⟨⟨p, hp, hl⟩, hm⟩ := (h.td v d ls hv).sh
  rcases List.eq_nil_or_concat p with rfl | ⟨q, e, rfl⟩
  · exact absurd (show root = v from hp).symm hr
  · rw [List.concat_eq_append] at hp hl
    obtain ⟨h1, h2, h3⟩ := isP_split q e root v hp
    cases hf : f e.f with
    | none => exact absurd hf (h.re _ _ h1)
    | some x =>
      obtain ⟨du, lu⟩ := x
      obtain ⟨⟨p2, hp2, hl2⟩, hm2⟩ := (h.td _ _ _ hf).sh
      have h4 := hm2 q h1
      have h5 : isP vs root (p2 ++ [e]) v := isP_app p2 [e] root e.f v hp2 ⟨h2, rfl, h3⟩
      have h6 := hm _ h5
      rw [plen_app] at h6 hl
      have h7 : plen [e] = e.c := by show e.c + 0 = _; omega
      exact ⟨e, du, lu, h2, h3, hf, by omega⟩
end Go.Proofs.Ythhdpfgepjmgkaa.Dj
