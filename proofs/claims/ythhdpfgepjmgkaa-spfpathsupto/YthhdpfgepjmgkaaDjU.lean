/- Shortest paths, plain: a turn; the beginning; the end. -/
import Derived.Test.YthhdpfgepjmgkaaDjT
namespace Go.Proofs.Ythhdpfgepjmgkaa.Dj
open Go.ChangeShapes Go.WideShapes Go.ChangeAt Go.RowKit Go.Joins Go.Deep Go.Proofs.Ythhdpfgepjmgkaa.Ge
set_option linter.unusedVariables false
set_option linter.unusedSimpArgs false

/-- whom a changed router gives a turn -/
def spS (vs : List Ed) (f : Kw) (wd nd : Int) (due : Int → Option Int) (e : Ed) : Int → Option Int := if (wd + e.c = (nowP f e.t).1 ∨ nd + e.c ≤ (nowP f e.t).1) ∧ 0 < cnt vs (e.t, e.f) then addP due e.t (min (nowP f e.t).1 (nd + e.c)) else due
def putK (f : Kw) (v d : Int) (ls : List Int) : Kw := fun m => if m = v then some (d, ls) else f m
theorem add_get (due : Int → Option Int) (n d m : Int) : addP due n d m = if m = n then some (match due n with | some d0 => min d0 d | none => d) else due m := by
  unfold addP
  split
  · cases due n with
    | none => rfl
    | some d0 =>
      dsimp only
      split
      · rw [Int.min_eq_left (by omega)]
      · rw [Int.min_eq_right (by omega)]
  · rfl
structure Jn (vs : List Ed) (r : Int) (f : Kw) (v d : Int) (k : Nat) (due : Int → Option Int) (P : List Ed) : Prop where
  b : ∀ w dw, due w = some dw → f w = none ∧ ((w = r ∧ dw = 0) ∨ ∃ u du lu e, f u = some (du, lu) ∧ St vs e ∧ e.f = u ∧ e.t = w ∧ dw = du + e.c)
  c : ∀ u du lu e, f u = some (du, lu) → St vs e → e.f = u → (u = v → e ∈ P) → f e.t ≠ none ∨ ∃ d1, due e.t = some d1 ∧ d1 ≤ du + e.c
  le : ∀ w dw, due w = some dw → d ≤ dw
  bd : ∀ w dw, due w = some dw → dw ≤ 65535 * ((k + 1 : Nat) : Int)
theorem Jn.step {vs : List Ed} {r : Int} {f : Kw} {v d : Int} {k : Nat} {due : Int → Option Int} {P : List Ed} (h : Jn vs r f v d k due P) (ok : Okv vs) (hk : 65535 * ((k + 1 : Nat) : Int) < far) {lv : List Int} (hv : f v = some (d, lv)) (hle : ∀ u du lu, f u = some (du, lu) → du ≤ d) (hdk : d ≤ 65535 * (k : Int)) {e : Ed} (he : e ∈ vs) (hf : e.f = v) : Jn vs r f v d k (spS vs f far d due e) (P ++ [e]) := by
  have hc := ok.c1 e he
  have hfd : (far : Int) = 4611686018427387903 := rfl
  by_cases hs : 0 < cnt vs (e.t, e.f)
  case neg =>
    have e1 : spS vs f far d due e = due := by unfold spS; rw [if_neg (fun c => hs c.2)]
    rw [e1]
    refine ⟨h.b, fun u du lu e' g1 g2 g3 g4 => h.c u du lu e' g1 g2 g3 (fun c => ?_), h.le, h.bd⟩
    rcases List.mem_append.1 (g4 c) with g | g
    · exact g
    · rw [List.mem_singleton] at g
      subst g
      exact absurd g2.2 hs
  cases ht : f e.t with
  | some q =>
    obtain ⟨dx, lx⟩ := q
    have h1 := hle _ _ _ ht
    have e1 : spS vs f far d due e = due := by
      unfold spS
      rw [now_some ht, if_neg]
      rintro ⟨c | c, -⟩
      · dsimp only at c; omega
      · dsimp only at c; omega
    rw [e1]
    refine ⟨h.b, fun u du lu e' g1 g2 g3 g4 => ?_, h.le, h.bd⟩
    by_cases c : e' = e
    · subst c
      exact .inl (by rw [ht]; exact fun c => by cases c)
    · refine h.c u du lu e' g1 g2 g3 (fun c2 => ?_)
      rcases List.mem_append.1 (g4 c2) with g | g
      · exact g
      · exact absurd (List.mem_singleton.1 g) c
  | none =>
    have e1 : spS vs f far d due e = addP due e.t (d + e.c) := by
      unfold spS
      rw [now_none ht, if_pos ⟨.inr (by show d + e.c ≤ far; omega), hs⟩]
      dsimp only
      rw [Int.min_eq_right (by omega)]
    rw [e1]
    refine ⟨fun w dw hw => ?_, fun u du lu e' g1 g2 g3 g4 => ?_, fun w dw hw => ?_, fun w dw hw => ?_⟩
    · rw [add_get] at hw
      by_cases c : w = e.t
      · subst c
        rw [if_pos rfl] at hw
        refine ⟨ht, ?_⟩
        cases hdu : due e.t with
        | none =>
          rw [hdu] at hw
          cases hw
          exact .inr ⟨v, d, lv, e, hv, ⟨he, hs⟩, hf, rfl, rfl⟩
        | some d0 =>
          rw [hdu] at hw
          dsimp only at hw
          have hw2 := Option.some.inj hw
          by_cases c2 : d0 ≤ d + e.c
          · rw [Int.min_eq_left c2] at hw2
            subst hw2
            exact (h.b _ _ hdu).2
          · rw [Int.min_eq_right (by omega)] at hw2
            exact .inr ⟨v, d, lv, e, hv, ⟨he, hs⟩, hf, rfl, hw2.symm⟩
      · rw [if_neg c] at hw
        exact h.b w dw hw
    · by_cases c : e'.t = e.t
      · refine .inr ⟨_, by rw [add_get, if_pos c], ?_⟩
        by_cases c2 : e' = e
        · subst c2
          have : du = d := by
            rw [← g3, hf, hv] at g1
            cases g1
            rfl
          subst this
          cases due e'.t with
          | none => exact Int.le_refl _
          | some d0 => exact Int.min_le_right _ _
        · have h5 := h.c u du lu e' g1 g2 g3 (fun c3 => by
            rcases List.mem_append.1 (g4 c3) with g | g
            · exact g
            · exact absurd (List.mem_singleton.1 g) c2)
          rcases h5 with h5 | ⟨d1, h5, h6⟩
          · rw [c] at h5; exact absurd ht h5
          · rw [c] at h5
            rw [h5]
            exact Int.le_trans (Int.min_le_left _ _) h6
      · have h5 := h.c u du lu e' g1 g2 g3 (fun c3 => by
          rcases List.mem_append.1 (g4 c3) with g | g
          · exact g
          · rw [List.mem_singleton] at g
            subst g
            exact absurd rfl c)
        rcases h5 with h5 | ⟨d1, h5, h6⟩
        · exact .inl h5
        · exact .inr ⟨d1, by rw [add_get, if_neg c]; exact h5, h6⟩
    · rw [add_get] at hw
      by_cases c : w = e.t
      · rw [if_pos c] at hw
        cases hdu : due e.t with
        | none =>
          rw [hdu] at hw
          have h7 : d + e.c = dw := Option.some.inj hw
          omega
        | some d0 =>
          rw [hdu] at hw
          have h7 : min d0 (d + e.c) = dw := Option.some.inj hw
          have h8 := h.le _ _ hdu
          omega
      · rw [if_neg c] at hw
        exact h.le w dw hw
    · rw [add_get] at hw
      by_cases c : w = e.t
      · rw [if_pos c] at hw
        cases hdu : due e.t with
        | none =>
          rw [hdu] at hw
          have h7 : d + e.c = dw := Option.some.inj hw
          omega
        | some d0 =>
          rw [hdu] at hw
          have h7 : min d0 (d + e.c) = dw := Option.some.inj hw
          have h8 := h.bd _ _ hdu
          omega
      · rw [if_neg c] at hw
        exact h.bd w dw hw
theorem Jn.all {vs : List Ed} {r : Int} {f : Kw} {v d : Int} {k : Nat} (ok : Okv vs) (hk : 65535 * ((k + 1 : Nat) : Int) < far) {lv : List Int} (hv : f v = some (d, lv)) (hle : ∀ u du lu, f u = some (du, lu) → du ≤ d) (hdk : d ≤ 65535 * (k : Int)) : ∀ (L : List Ed) (due : Int → Option Int) (P : List Ed), (∀ e ∈ L, e ∈ vs ∧ e.f = v) → Jn vs r f v d k due P → Jn vs r f v d k (L.foldl (spS vs f far d) due) (P ++ L)
  | [], due, P, _, h => by rw [List.append_nil]; exact h
  | e :: L, due, P, hL, h => by
    have h1 := h.step ok hk hv hle hdk (hL e List.mem_cons_self).1 (hL e List.mem_cons_self).2
    have h2 := Jn.all ok hk hv hle hdk L _ _ (fun x hx => hL x (List.mem_cons_of_mem _ hx)) h1
    rw [List.append_assoc] at h2
    exact h2
/-- a turn -/
theorem Dij.turn {vs : List Ed} {r : Int} {f : Kw} {due : Int → Option Int} {k : Nat} (h : Dij vs r f due k) (ok : Okv vs) (hk : 65535 * ((k + 1 : Nat) : Int) < far) {v d : Int} (hd : due v = some d) (hmin : ∀ m dm, due m = some dm → d ≤ dm) {ls : List Int} (ht : Told vs r v d ls) : Dij vs r (putK f v d ls) ((vs.filter (fun e => decide (e.f = v))).foldl (spS vs (putK f v d ls) far d) (dropP due v)) (k + 1) := by
  have hn := (h.b v d hd).1
  have hdk := h.bd.2 v d hd
  have hv : putK f v d ls v = some (d, ls) := by unfold putK; rw [if_pos rfl]
  have hsub : ∀ u du lu, f u = some (du, lu) → putK f v d ls u = some (du, lu) := fun u du lu hu => by
    unfold putK
    rw [if_neg (fun c => by rw [c, hn] at hu; cases hu)]
    exact hu
  have hle : ∀ u du lu, putK f v d ls u = some (du, lu) → du ≤ d := fun u du lu hu => by
    unfold putK at hu
    by_cases c : u = v
    · rw [if_pos c] at hu
      cases hu
      exact Int.le_refl _
    · rw [if_neg c] at hu
      exact h.le u du lu v d hu hd
  have hdrop : ∀ w dw, dropP due v w = some dw → w ≠ v ∧ due w = some dw := fun w dw hw => by
    unfold dropP at hw
    by_cases c : w = v
    · rw [if_pos c] at hw; cases hw
    · rw [if_neg c] at hw; exact ⟨c, hw⟩
  have J0 : Jn vs r (putK f v d ls) v d k (dropP due v) [] := by
    refine ⟨fun w dw hw => ?_, fun u du lu e g1 g2 g3 g4 => ?_, fun w dw hw => hmin w dw (hdrop w dw hw).2, fun w dw hw => ?_⟩
    · obtain ⟨c, hw2⟩ := hdrop w dw hw
      obtain ⟨h1, h2⟩ := h.b w dw hw2
      refine ⟨by unfold putK; rw [if_neg c]; exact h1, ?_⟩
      rcases h2 with h2 | ⟨u, du, lu, e, e1, e2⟩
      · exact .inl h2
      · exact .inr ⟨u, du, lu, e, hsub u du lu e1, e2⟩
    · by_cases c : u = v
      · exact absurd (g4 c) List.not_mem_nil
      · unfold putK at g1
        rw [if_neg c] at g1
        by_cases c2 : e.t = v
        · exact .inl (by rw [c2, hv]; exact fun c => by cases c)
        · rcases h.c u du lu e g1 g2 g3 with h5 | ⟨d1, h5, h6⟩
          · exact .inl (by unfold putK; rw [if_neg c2]; exact h5)
          · exact .inr ⟨d1, by unfold dropP; rw [if_neg c2]; exact h5, h6⟩
    · have := h.bd.2 w dw (hdrop w dw hw).2
      omega
  have J := Jn.all ok hk hv hle hdk (vs.filter (fun e => decide (e.f = v))) _ _ (fun e he => by
    rw [List.mem_filter] at he
    exact ⟨he.1, of_decide_eq_true he.2⟩) J0
  refine ⟨fun u du lu hu => ?_, J.b, fun u du lu e g1 g2 g3 => J.c u du lu e g1 g2 g3 (fun c => ?_), fun hr => ?_, fun u du lu w dw g1 g2 => ?_, fun u du lu g1 => ?_, J.bd⟩
  · unfold putK at hu
    by_cases c : u = v
    · rw [if_pos c] at hu
      cases hu
      rw [c]
      exact ht
    · rw [if_neg c] at hu
      exact h.a u du lu hu
  · rw [List.nil_append, List.mem_filter]
    exact ⟨g2.1, decide_eq_true (g3.trans c)⟩
  · exfalso
    rcases h.root ok hd hmin with ⟨c, -⟩ | ⟨-, lr, c, -⟩
    · rw [← c, hv] at hr; cases hr
    · rw [hsub r 0 lr c] at hr; cases hr
  · exact Int.le_trans (hle u du lu g1) (J.le w dw g2)
  · have := hle u du lu g1
    omega
/-- the beginning -/
theorem Dij.init (vs : List Ed) (r : Int) : Dij vs r (fun _ => none) (addP (fun _ => none) r 0) 0 := by
  have e1 : ∀ m d, addP (fun _ => none) r 0 m = some d → m = r ∧ d = 0 := fun m d h => by
    rw [add_get] at h
    by_cases c : m = r
    · rw [if_pos c] at h
      cases h
      exact ⟨c, rfl⟩
    · rw [if_neg c] at h; cases h
  refine ⟨fun v d ls h => (by cases h), fun v d h => ⟨rfl, .inl (e1 v d h)⟩, fun u du lu e h => (by cases h), fun _ => by rw [add_get, if_pos rfl], fun u du lu v dv h => (by cases h), fun u du lu h => (by cases h), fun v dv h => ?_⟩
  rw [(e1 v dv h).2]
  exact Int.le_refl _
/-- the end: what is known is told, and all that is reached is known -/
theorem Dij.done {vs : List Ed} {r : Int} {f : Kw} {due : Int → Option Int} {k : Nat} (h : Dij vs r f due k) (ok : Okv vs) (hn : ∀ m, due m = none) : (∀ v d ls, f v = some (d, ls) → Told vs r v d ls) ∧ ∀ v p, isP vs r p v → f v ≠ none := by
  refine ⟨h.a, ?_⟩
  have hr : f r ≠ none := fun c => by have := h.r0 c; rw [hn] at this; cases this
  have H : ∀ (p : List Ed) (a b : Int), f a ≠ none → isP vs a p b → f b ≠ none := by
    intro p
    induction p with
    | nil => intro a b ha hp; cases (show a = b from hp); exact ha
    | cons e p ih =>
      intro a b ha hp
      obtain ⟨h1, h2, h3⟩ := hp
      refine ih e.t b ?_ h3
      cases hf : f a with
      | none => exact absurd hf ha
      | some q =>
        obtain ⟨da, la⟩ := q
        rcases h.c a da la e hf h1 h2 with c | ⟨d1, c, -⟩
        · exact c
        · rw [hn] at c; cases c
  exact fun v p hp => H p r v hr hp
end Go.Proofs.Ythhdpfgepjmgkaa.Dj
