/- who follows a link comes nearer: the plain part. -/
import Derived.Test.YthhdpfgepjmgkaaDkN
namespace Go.Proofs.Ythhdpfgepjmgkaa.Dj
open Go.ChangeShapes Go.WideShapes Go.ChangeAt Go.RowKit Go.Joins Go.Deep Go.Proofs.Ythhdpfgepjmgkaa.Ge
set_option linter.unusedVariables false
set_option linter.unusedSimpArgs false

theorem Net.st {es vs vs' : List Ed} {r r' : Int} {f f' : Kw} (h : Net es vs r f) (h' : Net es vs' r' f') (e : Ed) : St vs e ↔ St vs' e := (sd_iff h).trans (sd_iff h').symm
theorem isP_congr {vs vs' : List Ed} (h : ∀ e, St vs e ↔ St vs' e) : ∀ (p : List Ed) (a b : Int), isP vs a p b → isP vs' a p b
  | [], _, _, hp => hp
  | e :: p, a, b, hp => ⟨(h e).1 hp.1, hp.2.1, isP_congr h p _ _ hp.2.2⟩
/-- a link that is told: its edge stands, and from its other end the rest of the length is told -/
theorem Net.step {es vs : List Ed} {at_ to d : Int} {f : Kw} {ls : List Int} (h : Net es vs at_ f) (hf : f to = some (d, ls)) (hne : to ≠ at_) {x : Int} (hx : x ∈ ls) : (∃ i e, Ov es at_ x i e) ∧ ∀ i e, Ov es at_ x i e → 1 ≤ e.c ∧ e.c ≤ 65535 ∧ ∀ vs' f', Net es vs' e.t f' → ∃ ls', f' to = some (d - e.c, ls') := by
  have ht := h.td to d ls hf
  obtain ⟨e0, p, h1, h2, h3, h4, h5⟩ := (ht.lk hne x).1 hx
  obtain ⟨i0, h6, h7⟩ := (sd_iff h).1 h1
  refine ⟨⟨i0, e0, h6, h2, h3, h7⟩, fun i e ho => ?_⟩
  obtain ⟨o1, o2, o3, o4⟩ := ho
  have hst : St vs e := (sd_iff h).2 ⟨i, o1, o4⟩
  have he : e = e0 := by
    have a1 := (h.vm e).1 hst.1
    have a2 := (h.vm e0).1 h1.1
    rw [o2, o3] at a1
    rw [h2, h3, a1] at a2
    cases a2
    rfl
  subst he
  refine ⟨(h.ok.c1 e hst.1).1, (h.ok.c1 e hst.1).2, fun vs' f' h' => ?_⟩
  have hcg := h.st h'
  have hp' := isP_congr hcg p _ _ h4
  cases hf' : f' to with
  | none => exact absurd hf' (h'.re to p hp')
  | some y =>
    obtain ⟨d', ls'⟩ := y
    obtain ⟨⟨p2, hp2, hl2⟩, hm2⟩ := (h'.td to d' ls' hf').sh
    have h8 := hm2 p hp'
    have h9 := ht.sh.2 (e :: p2) ⟨h1, h2, isP_congr (fun e => (hcg e).symm) p2 _ _ hp2⟩
    have h10 : plen (e :: p2) = e.c + plen p2 := rfl
    exact ⟨ls', by rw [show d' = d - e.c by omega]⟩
/-- who is told elsewhere has a link -/
theorem Net.link {es vs : List Ed} {at_ to d : Int} {f : Kw} {ls : List Int} (h : Net es vs at_ f) (hf : f to = some (d, ls)) (hne : to ≠ at_) : ls ≠ [] := by
  have ht := h.td to d ls hf
  obtain ⟨⟨p, hp, hl⟩, -⟩ := ht.sh
  cases p with
  | nil => exact absurd (show at_ = to from hp).symm hne
  | cons e p =>
    have h1 : e.l ∈ ls := (ht.lk hne e.l).2 ⟨e, p, hp.1, hp.2.1, rfl, hp.2.2, hl⟩
    intro c
    rw [c] at h1
    cases h1
theorem Net.self {es vs : List Ed} {at_ : Int} {f : Kw} (h : Net es vs at_ f) : f at_ = some (0, []) := by
  cases hf : f at_ with
  | none => exact absurd hf (h.re at_ [] rfl)
  | some y =>
    obtain ⟨d, ls⟩ := y
    have ht := h.td at_ d ls hf
    rw [ht.sh.uniq (Sh.self h.ok at_), ht.rt rfl]
end Go.Proofs.Ythhdpfgepjmgkaa.Dj
