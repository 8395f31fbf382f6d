/- Shortest paths, plain: what is known and what is due; a router whose turn has come. -/
import Derived.Test.YthhdpfgepjmgkaaDjS
namespace Go.Proofs.Ythhdpfgepjmgkaa.Dj
open Go.ChangeShapes Go.WideShapes Go.ChangeAt Go.RowKit Go.Joins Go.Deep Go.Proofs.Ythhdpfgepjmgkaa.Ge
set_option linter.unusedVariables false
set_option linter.unusedSimpArgs false

/-- it counts, and one leads back -/
def St (vs : List Ed) (e : Ed) : Prop := e ∈ vs ∧ 0 < cnt vs (e.t, e.f)
/-- a path along standing edges -/
def isP (vs : List Ed) : Int → List Ed → Int → Prop
  | a, [], b => a = b
  | a, e :: p, b => St vs e ∧ e.f = a ∧ isP vs e.t p b
def plen : List Ed → Int
  | [] => 0
  | e :: p => e.c + plen p
structure Okv (vs : List Ed) : Prop where
  c1 : ∀ e ∈ vs, 1 ≤ e.c ∧ e.c ≤ 65535
theorem plen_nn {vs : List Ed} (ok : Okv vs) : ∀ (p : List Ed) (a b : Int), isP vs a p b → 0 ≤ plen p
  | [], _, _, _ => Int.le_refl _
  | e :: p, a, b, h => by
    have h1 := plen_nn ok p e.t b h.2.2
    have h2 := ok.c1 e h.1.1
    unfold plen
    omega
theorem isP_app {vs : List Ed} : ∀ (p q : List Ed) (a b c : Int), isP vs a p b → isP vs b q c → isP vs a (p ++ q) c
  | [], q, a, b, c, h, k => by cases (show a = b from h); exact k
  | e :: p, q, a, b, c, h, k => ⟨h.1, h.2.1, isP_app p q e.t b c h.2.2 k⟩
theorem plen_app : ∀ (p q : List Ed), plen (p ++ q) = plen p + plen q
  | [], q => by show plen q = 0 + plen q; omega
  | e :: p, q => by
    show e.c + plen (p ++ q) = e.c + plen p + plen q
    rw [plen_app p q]
    omega
theorem isP_split {vs : List Ed} : ∀ (p : List Ed) (e : Ed) (a b : Int), isP vs a (p ++ [e]) b → isP vs a p e.f ∧ St vs e ∧ e.t = b
  | [], e, a, b, h => ⟨h.2.1.symm, h.1, h.2.2⟩
  | x :: p, e, a, b, h => by
    obtain ⟨h1, h2, h3⟩ := isP_split p e x.t b h.2.2
    exact ⟨⟨h.1, h.2.1, h1⟩, h2, h3⟩
/-- the shortest length -/
def Sh (vs : List Ed) (r v d : Int) : Prop := (∃ p, isP vs r p v ∧ plen p = d) ∧ ∀ p, isP vs r p v → d ≤ plen p
theorem Sh.uniq {vs : List Ed} {r v d d' : Int} (h : Sh vs r v d) (k : Sh vs r v d') : d = d' := by
  obtain ⟨⟨p, p1, p2⟩, h2⟩ := h
  obtain ⟨⟨q, q1, q2⟩, k2⟩ := k
  have := h2 q q1
  have := k2 p p1
  omega
theorem Sh.self {vs : List Ed} (ok : Okv vs) (r : Int) : Sh vs r r 0 := ⟨⟨[], rfl, rfl⟩, fun p hp => plen_nn ok p r r hp⟩
/-- a first interface of a shortest path -/
def Lk (vs : List Ed) (r v d x : Int) : Prop := ∃ e p, St vs e ∧ e.f = r ∧ e.l = x ∧ isP vs e.t p v ∧ e.c + plen p = d
abbrev Kw := Int → Option (Int × List Int)
def far : Int := 4611686018427387903
def nowP (f : Kw) (n : Int) : Int × List Int := (f n).getD (far, [])
/-- what is told of a router -/
structure Told (vs : List Ed) (r v d : Int) (ls : List Int) : Prop where
  sh : Sh vs r v d
  so : ls.Pairwise (· < ·)
  rt : v = r → ls = []
  lk : v ≠ r → ∀ x, x ∈ ls ↔ Lk vs r v d x
/-- between two turns; k: so many are known -/
structure Dij (vs : List Ed) (r : Int) (f : Kw) (due : Int → Option Int) (k : Nat) : Prop where
  a : ∀ v d ls, f v = some (d, ls) → Told vs r v d ls
  b : ∀ v d, due v = some d → f v = none ∧ ((v = r ∧ d = 0) ∨ ∃ u du lu e, f u = some (du, lu) ∧ St vs e ∧ e.f = u ∧ e.t = v ∧ d = du + e.c)
  c : ∀ u du lu e, f u = some (du, lu) → St vs e → e.f = u → f e.t ≠ none ∨ ∃ d, due e.t = some d ∧ d ≤ du + e.c
  r0 : f r = none → due r = some 0
  le : ∀ u du lu v dv, f u = some (du, lu) → due v = some dv → du ≤ dv
  bd : (∀ u du lu, f u = some (du, lu) → du ≤ 65535 * (k : Int)) ∧ ∀ v dv, due v = some dv → dv ≤ 65535 * (k : Int)
/-- what best answers -/
structure Best (vs : List Ed) (r : Int) (f : Kw) (v d : Int) (ls : List Int) : Prop where
  so : ls.Pairwise (· < ·)
  rt : v = r → d = 0 ∧ ls = []
  ex : v ≠ r → d = far ∨ ∃ e, St vs e ∧ e.t = v ∧ (nowP f e.f).1 + e.c = d
  le : v ≠ r → d ≤ far ∧ ∀ e, St vs e → e.t = v → d ≤ (nowP f e.f).1 + e.c
  lk : v ≠ r → ∀ x, x ∈ ls ↔ ∃ e, St vs e ∧ e.t = v ∧ (nowP f e.f).1 + e.c = d ∧ (if e.f = r then x = e.l else x ∈ (nowP f e.f).2)
theorem now_some {f : Kw} {n d : Int} {ls : List Int} (h : f n = some (d, ls)) : nowP f n = (d, ls) := by unfold nowP; rw [h]; rfl
theorem now_none {f : Kw} {n : Int} (h : f n = none) : nowP f n = (far, []) := by unfold nowP; rw [h]; rfl
/-- from what is known to what is not: not below what is due first -/
theorem Dij.cut {vs : List Ed} {r : Int} {f : Kw} {due : Int → Option Int} {k : Nat} (h : Dij vs r f due k) (ok : Okv vs) {d : Int} (hmin : ∀ m dm, due m = some dm → d ≤ dm) : ∀ (p : List Ed) (a da : Int) (la : List Int) (b : Int), f a = some (da, la) → f b = none → isP vs a p b → d ≤ da + plen p
  | [], a, da, la, b, ha, hb, hp => by cases (show a = b from hp); rw [ha] at hb; cases hb
  | e :: p, a, da, la, b, ha, hb, hp => by
    obtain ⟨h1, h2, h3⟩ := hp
    have hnn := plen_nn ok p _ _ h3
    show d ≤ da + (e.c + plen p)
    cases hf : f e.t with
    | none =>
      rcases h.c a da la e ha h1 h2 with c | ⟨d1, c1, c2⟩
      · exact absurd hf c
      · have := hmin _ _ c1
        omega
    | some q =>
      obtain ⟨dq, lq⟩ := q
      have h5 := Dij.cut h ok hmin p e.t dq lq b hf hb h3
      obtain ⟨⟨pa, pa1, pa2⟩, -⟩ := (h.a _ _ _ ha).sh
      have h6 := (h.a _ _ _ hf).sh.2 (pa ++ [e]) (isP_app pa [e] r a e.t pa1 ⟨h1, h2, rfl⟩)
      rw [plen_app] at h6
      have h7 : plen [e] = e.c := by show e.c + 0 = e.c; omega
      rw [h7] at h6
      omega
theorem Dij.root {vs : List Ed} {r : Int} {f : Kw} {due : Int → Option Int} {k : Nat} (h : Dij vs r f due k) (ok : Okv vs) {v d : Int} (hd : due v = some d) (hmin : ∀ m dm, due m = some dm → d ≤ dm) : (v = r ∧ d = 0 ∧ f r = none) ∨ (v ≠ r ∧ ∃ lr, f r = some (0, lr) ∧ lr = []) := by
  have hb := h.b v d hd
  cases hf : f r with
  | none =>
    have h0 := h.r0 hf
    have h1 := hmin r 0 h0
    rcases hb.2 with ⟨e1, e2⟩ | ⟨u, du, lu, e, e1, e2, e3, e4, e5⟩
    · exact .inl ⟨e1, e2, rfl⟩
    · exfalso
      have h2 := ok.c1 e e2.1
      obtain ⟨⟨p, p1, p2⟩, -⟩ := (h.a _ _ _ e1).sh
      have h3 := plen_nn ok p _ _ p1
      omega
  | some q =>
    obtain ⟨d0, l0⟩ := q
    have h1 := h.a _ _ _ hf
    have h2 := h1.sh.uniq (Sh.self ok r)
    subst h2
    refine .inr ⟨fun e => ?_, l0, rfl, h1.rt rfl⟩
    rw [e, hf] at hb
    cases hb.1
/-- its turn has come: its distance is the shortest -/
theorem Dij.sh {vs : List Ed} {r : Int} {f : Kw} {due : Int → Option Int} {k : Nat} (h : Dij vs r f due k) (ok : Okv vs) {v d : Int} (hd : due v = some d) (hmin : ∀ m dm, due m = some dm → d ≤ dm) : Sh vs r v d := by
  rcases h.root ok hd hmin with ⟨rfl, rfl, -⟩ | ⟨hv, lr, hr, -⟩
  · exact Sh.self ok v
  · obtain ⟨hn, h1⟩ := h.b v d hd
    refine ⟨?_, fun p hp => by have := h.cut ok hmin p r 0 lr v hr hn hp; omega⟩
    rcases h1 with ⟨e1, -⟩ | ⟨u, du, lu, e, e1, e2, e3, e4, e5⟩
    · exact absurd e1 hv
    · obtain ⟨⟨p, p1, p2⟩, -⟩ := (h.a _ _ _ e1).sh
      refine ⟨p ++ [e], isP_app p [e] r u v p1 ⟨e2, e3, e4⟩, ?_⟩
      rw [plen_app]
      show plen p + (e.c + 0) = d
      omega
/-- and what is best then is what is to be told -/
theorem Dij.told {vs : List Ed} {r : Int} {f : Kw} {due : Int → Option Int} {k : Nat} (h : Dij vs r f due k) (ok : Okv vs) (hk : 65535 * (k : Int) < far) {v d : Int} (hd : due v = some d) (hmin : ∀ m dm, due m = some dm → d ≤ dm) {bd : Int} {ls : List Int} (hb : Best vs r f v bd ls) : bd = d ∧ Told vs r v d ls := by
  have hsh := h.sh ok hd hmin
  have hdf : d < far := by have := h.bd.2 v d hd; omega
  rcases h.root ok hd hmin with ⟨rfl, rfl, -⟩ | ⟨hv, lr, hr, hlr⟩
  · obtain ⟨e1, e2⟩ := hb.rt rfl
    subst e1 e2
    exact ⟨rfl, hsh, List.Pairwise.nil, fun _ => rfl, fun c => absurd rfl c⟩
  · obtain ⟨hn, h1⟩ := h.b v d hd
    have hbd : bd ≤ d := by
      rcases h1 with ⟨e1, -⟩ | ⟨u, du, lu, e, e1, e2, e3, e4, e5⟩
      · exact absurd e1 hv
      · have := (hb.le hv).2 e e2 e4
        rw [e3, now_some e1] at this
        dsimp only at this
        omega
    -- whoever leads to it at bd is known
    have hkn : ∀ e, St vs e → (nowP f e.f).1 + e.c = bd → ∃ du lu, f e.f = some (du, lu) ∧ du + e.c = bd := fun e he hx => by
      cases hf : f e.f with
      | none =>
        rw [now_none hf] at hx
        have := ok.c1 e he.1
        dsimp only at hx
        omega
      | some q =>
        obtain ⟨du, lu⟩ := q
        rw [now_some hf] at hx
        exact ⟨du, lu, rfl, hx⟩
    have hext : ∀ e du lu, St vs e → e.t = v → f e.f = some (du, lu) → d ≤ du + e.c := fun e du lu he ht hf => by
      obtain ⟨⟨p, p1, p2⟩, -⟩ := (h.a _ _ _ hf).sh
      have := hsh.2 (p ++ [e]) (isP_app p [e] r e.f v p1 ⟨he, rfl, ht⟩)
      rw [plen_app] at this
      have h7 : plen [e] = e.c := by show e.c + 0 = e.c; omega
      omega
    have hbe : bd = d := by
      rcases hb.ex hv with c | ⟨e, e1, e2, e3⟩
      · omega
      · obtain ⟨du, lu, f1, f2⟩ := hkn e e1 e3
        have := hext e du lu e1 e2 f1
        omega
    subst hbe
    refine ⟨rfl, hsh, hb.so, fun c => absurd c hv, fun _ x => ?_⟩
    rw [hb.lk hv x]
    constructor
    · rintro ⟨e, e1, e2, e3, e4⟩
      obtain ⟨du, lu, f1, f2⟩ := hkn e e1 e3
      by_cases hr2 : e.f = r
      · rw [if_pos hr2] at e4
        have : du = 0 := by
          rw [hr2, hr] at f1
          cases f1
          rfl
        refine ⟨e, [], e1, hr2, e4.symm, e2, ?_⟩
        show e.c + 0 = bd
        omega
      · rw [if_neg hr2, now_some f1] at e4
        obtain ⟨e0, p, g1, g2, g3, g4, g5⟩ := ((h.a _ _ _ f1).lk hr2 x).1 e4
        refine ⟨e0, p ++ [e], g1, g2, g3, isP_app p [e] _ _ _ g4 ⟨e1, rfl, e2⟩, ?_⟩
        rw [plen_app]
        show e0.c + (plen p + (e.c + 0)) = bd
        omega
    · rintro ⟨e0, p, g1, g2, g3, g4, g5⟩
      rcases List.eq_nil_or_concat p with rfl | ⟨p', e', rfl⟩
      · have hc0 : e0.c + 0 = bd := g5
        refine ⟨e0, g1, g4, ?_, ?_⟩
        · rw [g2, now_some hr]
          show 0 + e0.c = bd
          omega
        · rw [if_pos g2]
          exact g3.symm
      · rw [List.concat_eq_append] at g4 g5
        obtain ⟨g6, g7, g8⟩ := isP_split p' e' _ _ g4
        rw [plen_app] at g5
        have h7 : plen [e'] = e'.c := by show e'.c + 0 = e'.c; omega
        rw [h7] at g5
        have hc' := ok.c1 e' g7.1
        have hpath : isP vs r (e0 :: p') e'.f := ⟨g1, g2, g6⟩
        have hpl : plen (e0 :: p') = e0.c + plen p' := rfl
        cases hf : f e'.f with
        | none =>
          exfalso
          have := h.cut ok hmin (e0 :: p') r 0 lr e'.f hr hf hpath
          omega
        | some q =>
          obtain ⟨du, lu⟩ := q
          have t := h.a _ _ _ hf
          have s1 := t.sh.2 _ hpath
          have s2 := hext e' du lu g7 g8 hf
          have hdu : du = e0.c + plen p' := by omega
          have hur : e'.f ≠ r := fun c => by
            rw [c, hr] at hf
            cases hf
            have := ok.c1 e0 g1.1
            have := plen_nn ok p' _ _ g6
            omega
          refine ⟨e', g7, g8, ?_, ?_⟩
          · rw [now_some hf]
            show du + e'.c = bd
            omega
          · rw [if_neg hur, now_some hf]
            exact (t.lk hur x).2 ⟨e0, p', g1, g2, g3, g6, hdu.symm⟩
end Go.Proofs.Ythhdpfgepjmgkaa.Dj
