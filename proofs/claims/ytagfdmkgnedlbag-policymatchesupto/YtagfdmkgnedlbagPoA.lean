/- Patterns of numbers, and machines that read them: plain. -/
import Derived.Test.YtagfdmkgnedlbagProg
namespace Go.Proofs.Ytagfdmkgnedlbag.Po
set_option linter.unusedVariables false

inductive Pat where
  | mk (kind n : Int) (sub : List Pat)
def Pat.kind : Pat → Int | .mk k _ _ => k
def Pat.num : Pat → Int | .mk _ n _ => n
def Pat.sub : Pat → List Pat | .mk _ _ s => s
/-- how many parts -/
def sz : Pat → Nat
  | .mk _ _ sub => 1 + (sub.map sz).sum
theorem sz_mk (k n : Int) (sub : List Pat) : sz (.mk k n sub) = 1 + (sub.map sz).sum := by rw [sz]
theorem sz_pos (p : Pat) : 1 ≤ sz p := by cases p; rw [sz_mk]; omega
theorem sum_mem {l : List Nat} {x : Nat} (h : x ∈ l) : x ≤ l.sum := by
  induction l with
  | nil => cases h
  | cons a l ih =>
    rw [List.sum_cons]
    rcases List.mem_cons.1 h with rfl | h
    · omega
    · have := ih h; omega
theorem sz_sub {p : Pat} {q : Pat} (h : q ∈ p.sub) : sz q < sz p := by
  cases p with
  | mk k n sub =>
    rw [sz_mk]
    have h1 : sz q ≤ (sub.map sz).sum := sum_mem (List.mem_map_of_mem (f := sz) h)
    omega

/-- what a pattern takes -/
inductive Lang : Pat → List Int → Prop
  | num {k n sub w} : k = 1 → w = [n] → Lang (.mk k n sub) w
  | any {k n sub w} (x : Int) : k = 2 → w = [x] → Lang (.mk k n sub) w
  | seqN {k n sub w} : k = 3 → sub = [] → w = [] → Lang (.mk k n sub) w
  | seqC {k n sub w} (p : Pat) (ps : List Pat) (u v : List Int) : k = 3 → sub = p :: ps → w = u ++ v → Lang p u → Lang (.mk k n ps) v → Lang (.mk k n sub) w
  | alt {k n sub w} (p : Pat) : k = 4 → p ∈ sub → Lang p w → Lang (.mk k n sub) w
  | repN {k n sub w} (p : Pat) : k = 5 ∨ k = 7 → sub = [p] → w = [] → Lang (.mk k n sub) w
  | repC {k n sub w} (p : Pat) (u v : List Int) : k = 5 ∨ k = 6 → sub = [p] → w = u ++ v → Lang p u → Lang (.mk 5 n sub) v → Lang (.mk k n sub) w
  | one {k n sub w} (p : Pat) : k = 7 → sub = [p] → Lang p w → Lang (.mk k n sub) w

abbrev Lg := List Int → Prop
def cat (A B : Lg) : Lg := fun w => ∃ u v, w = u ++ v ∧ A u ∧ B v
inductive Star (A : Lg) : Lg
  | nil {w} : w = [] → Star A w
  | cons {w} (u v : List Int) : w = u ++ v → A u → Star A v → Star A w

theorem lang_num (n : Int) (sub : List Pat) (w : List Int) : Lang (.mk 1 n sub) w ↔ w = [n] := by
  constructor
  · intro h
    cases h <;> first | assumption | omega
  · intro h; exact .num rfl h
theorem lang_any (n : Int) (sub : List Pat) (w : List Int) : Lang (.mk 2 n sub) w ↔ ∃ x, w = [x] := by
  constructor
  · intro h
    cases h <;> first | exact ⟨_, by assumption⟩ | omega
  · rintro ⟨x, h⟩; exact .any x rfl h
theorem lang_nil (n : Int) (w : List Int) : Lang (.mk 3 n []) w ↔ w = [] := by
  constructor
  · intro h
    cases h <;> first | assumption | omega | (exfalso; simp_all)
  · intro h; exact .seqN rfl rfl h
theorem lang_cons (n : Int) (p : Pat) (ps : List Pat) (w : List Int) : Lang (.mk 3 n (p :: ps)) w ↔ cat (Lang p) (Lang (.mk 3 n ps)) w := by
  constructor
  · intro h
    cases h with
    | seqC q qs u v h1 h2 h3 h4 h5 => cases h2; exact ⟨u, v, h3, h4, h5⟩
    | seqN h1 h2 => cases h2
    | _ => omega
  · rintro ⟨u, v, h1, h2, h3⟩; exact .seqC p ps u v rfl rfl h1 h2 h3
theorem lang_alt (n : Int) (ps : List Pat) (w : List Int) : Lang (.mk 4 n ps) w ↔ ∃ p ∈ ps, Lang p w := by
  constructor
  · intro h
    cases h with
    | alt q h1 h2 h3 => exact ⟨q, h2, h3⟩
    | _ => omega
  · rintro ⟨p, h1, h2⟩; exact .alt p rfl h1 h2
theorem lang_maybe (n : Int) (p : Pat) (w : List Int) : Lang (.mk 7 n [p]) w ↔ w = [] ∨ Lang p w := by
  constructor
  · intro h
    cases h with
    | repN q h1 h2 h3 => exact .inl h3
    | one q h1 h2 h3 => cases h2; exact .inr h3
    | _ => omega
  · rintro (h | h)
    · exact .repN p (.inr rfl) rfl h
    · exact .one p rfl rfl h
theorem star_of {n : Int} {p : Pat} : ∀ {q : Pat} {w : List Int}, Lang q w → q = .mk 5 n [p] → Star (Lang p) w := by
  intro q w h
  induction h with
  | repN r h1 h2 h3 => intro e; exact .nil h3
  | repC r u v h1 h2 h3 h4 h5 i1 i2 =>
    intro e
    cases e
    cases h2
    exact .cons u v h3 h4 (i2 rfl)
  | num h1 => intro e; cases e; omega
  | any x h1 => intro e; cases e; omega
  | seqN h1 => intro e; cases e; omega
  | seqC a b c d h1 => intro e; cases e; omega
  | alt a h1 => intro e; cases e; omega
  | one a h1 => intro e; cases e; omega
theorem lang_star (n : Int) (p : Pat) (w : List Int) : Lang (.mk 5 n [p]) w ↔ Star (Lang p) w := by
  constructor
  · intro h; exact star_of h rfl
  · intro h
    induction h with
    | nil h => exact .repN p (.inl rfl) rfl h
    | cons u v h1 h2 h3 ih => exact .repC p u v (.inl rfl) rfl h1 h2 ih
theorem lang_plus (n : Int) (p : Pat) (w : List Int) : Lang (.mk 6 n [p]) w ↔ cat (Lang p) (Star (Lang p)) w := by
  constructor
  · intro h
    cases h with
    | repC q u v h1 h2 h3 h4 h5 => cases h2; exact ⟨u, v, h3, h4, (lang_star n p v).1 h5⟩
    | repN q h1 => omega
    | _ => omega
  · rintro ⟨u, v, h1, h2, h3⟩; exact .repC p u v (.inr rfl) rfl h1 h2 ((lang_star n p v).2 h3)
/-- a pattern that takes nothing -/
theorem lang_none {k n : Int} {sub : List Pat} (h : ¬ (1 ≤ k ∧ k ≤ 7) ∨ (5 ≤ k ∧ k ≤ 7 ∧ sub.length ≠ 1)) (w : List Int) : ¬ Lang (.mk k n sub) w := by
  intro hl
  cases hl with
  | num h1 => omega
  | any x h1 => omega
  | seqN h1 => omega
  | seqC a b c d h1 => omega
  | alt a h1 => omega
  | repN a h1 h2 => subst h2; simp at h; omega
  | repC a u v h1 h2 => subst h2; simp at h; omega
  | one a h1 h2 => subst h2; simp at h; omega
theorem star_nil {A : Lg} : Star A [] := .nil rfl
theorem star_iff {A : Lg} (w : List Int) : Star A w ↔ w = [] ∨ cat A (Star A) w := by
  constructor
  · intro h
    cases h with
    | nil h => exact .inl h
    | cons u v h1 h2 h3 => exact .inr ⟨u, v, h1, h2, h3⟩
  · rintro (h | ⟨u, v, h1, h2, h3⟩)
    · exact .nil h
    · exact .cons u v h1 h2 h3

/-- a state: what it does, its number, where it leads on -/
structure St where
  (k n t o : Int)
inductive Run (T : List St) : Nat → Nat → List Int → Nat → Prop
  | refl (s : Nat) : Run T 0 s [] s
  | fork {m s : Nat} {u : List Int} {t : Nat} (q : St) (a : Nat) : T[s]? = some q → q.k = 4 → (a : Int) = q.t ∨ (a : Int) = q.o → Run T m a u t → Run T (m + 1) s u t
  | num {m s : Nat} {u : List Int} {t : Nat} (q : St) (a : Nat) (x : Int) : T[s]? = some q → q.k = 3 ∨ (q.k = 2 ∧ q.n = x) → (a : Int) = q.t → Run T m a u t → Run T (m + 1) s (x :: u) t
/-- from b a machine takes what is of L and goes on at e -/
def Sem (T : List St) (L : Lg) (b e : Nat) : Prop :=
  (∀ m w, Run T m b w 0 → ∃ m' u v, m' ≤ m ∧ w = u ++ v ∧ L u ∧ Run T m' e v 0) ∧ (∀ m' u v, L u → Run T m' e v 0 → ∃ m, Run T m b (u ++ v) 0)
theorem Sem.congr {T : List St} {L L' : Lg} {b e : Nat} (h : Sem T L b e) (he : ∀ w, L w ↔ L' w) : Sem T L' b e :=
  ⟨fun m w hr => by obtain ⟨m', u, v, h1, h2, h3, h4⟩ := h.1 m w hr; exact ⟨m', u, v, h1, h2, (he u).1 h3, h4⟩, fun m' u v hl hr => h.2 m' u v ((he u).2 hl) hr⟩
theorem sem_eps (T : List St) (b : Nat) : Sem T (fun w => w = []) b b :=
  ⟨fun m w h => ⟨m, [], w, Nat.le_refl _, rfl, rfl, h⟩, fun m' u v hu h => ⟨m', by subst hu; exact h⟩⟩
theorem sem_cat {T : List St} {A B : Lg} {b c e : Nat} (h1 : Sem T A b c) (h2 : Sem T B c e) : Sem T (cat A B) b e := by
  refine ⟨fun m w h => ?_, fun m' u v hl h => ?_⟩
  · obtain ⟨m1, u1, v1, a1, rfl, a3, a4⟩ := h1.1 m w h
    obtain ⟨m2, u2, v2, b1, rfl, b3, b4⟩ := h2.1 m1 v1 a4
    exact ⟨m2, u1 ++ u2, v2, by omega, by rw [List.append_assoc], ⟨u1, u2, rfl, a3, b3⟩, b4⟩
  · obtain ⟨u1, u2, rfl, a1, a2⟩ := hl
    obtain ⟨m2, hr2⟩ := h2.2 m' u2 v a2 h
    obtain ⟨m1, hr1⟩ := h1.2 m2 u1 _ a1 hr2
    exact ⟨m1, by rw [List.append_assoc]; exact hr1⟩
/-- who is no fork and no number leads nowhere -/
theorem run_dead {T : List St} {s : Nat} {q : St} (hq : T[s]? = some q) (hk : q.k = 1) (hs : s ≠ 0) {m : Nat} {w : List Int} (h : Run T m s w 0) : False := by
  cases h with
  | refl => exact hs rfl
  | fork q' a h1 h2 => rw [hq] at h1; cases h1; omega
  | num q' a x h1 h2 => rw [hq] at h1; cases h1; omega
theorem sem_dead {T : List St} {s e : Nat} {q : St} (hq : T[s]? = some q) (hk : q.k = 1) (hs : s ≠ 0) {L : Lg} (hL : ∀ w, ¬ L w) : Sem T L s e :=
  ⟨fun m w h => (run_dead hq hk hs h).elim, fun m' u v hl => (hL u hl).elim⟩
theorem fork_inv {T : List St} {s : Nat} {q : St} {a o : Nat} (hq : T[s]? = some q) (hk : q.k = 4) (ha : q.t = a) (ho : q.o = o) (hs : s ≠ 0) {m : Nat} {w : List Int} (h : Run T m s w 0) : ∃ m', m = m' + 1 ∧ (Run T m' a w 0 ∨ Run T m' o w 0) := by
  cases h with
  | refl => exact (hs rfl).elim
  | num q' a' x h1 h2 => rw [hq] at h1; cases h1; omega
  | fork q' a' h1 h2 h3 h4 =>
    rw [hq] at h1
    cases h1
    rcases h3 with h3 | h3
    · obtain rfl : a' = a := by omega
      exact ⟨_, rfl, .inl h4⟩
    · obtain rfl : a' = o := by omega
      exact ⟨_, rfl, .inr h4⟩
theorem sem_fork {T : List St} {s e : Nat} {q : St} {a o : Nat} (hq : T[s]? = some q) (hk : q.k = 4) (ha : q.t = a) (ho : q.o = o) (hs : s ≠ 0) {A B : Lg} (h1 : Sem T A a e) (h2 : Sem T B o e) : Sem T (fun w => A w ∨ B w) s e := by
  refine ⟨fun m w h => ?_, fun m' u v hl h => ?_⟩
  · obtain ⟨m1, rfl, h3 | h3⟩ := fork_inv hq hk ha ho hs h
    · obtain ⟨m', u, v, b1, b2, b3, b4⟩ := h1.1 _ _ h3
      exact ⟨m', u, v, by omega, b2, .inl b3, b4⟩
    · obtain ⟨m', u, v, b1, b2, b3, b4⟩ := h2.1 _ _ h3
      exact ⟨m', u, v, by omega, b2, .inr b3, b4⟩
  · rcases hl with hl | hl
    · obtain ⟨m, hr⟩ := h1.2 m' u v hl h
      exact ⟨m + 1, .fork q a hq hk (.inl ha.symm) hr⟩
    · obtain ⟨m, hr⟩ := h2.2 m' u v hl h
      exact ⟨m + 1, .fork q o hq hk (.inr ho.symm) hr⟩
theorem sem_star {T : List St} {s e : Nat} {q : St} {a : Nat} (hq : T[s]? = some q) (hk : q.k = 4) (ha : q.t = a) (ho : q.o = e) (hs : s ≠ 0) {A : Lg} (h1 : Sem T A a s) : Sem T (Star A) s e := by
  refine ⟨?_, ?_⟩
  · intro m
    induction m using Nat.strongRecOn with
    | _ m ih =>
      intro w h
      obtain ⟨m1, rfl, h3 | h3⟩ := fork_inv hq hk ha ho hs h
      · obtain ⟨m2, u, v, b1, rfl, b3, b4⟩ := h1.1 _ _ h3
        obtain ⟨m3, u2, v2, c1, rfl, c3, c4⟩ := ih m2 (by omega) v b4
        exact ⟨m3, u ++ u2, v2, by omega, by rw [List.append_assoc], .cons u u2 rfl b3 c3, c4⟩
      · exact ⟨m1, [], w, by omega, rfl, .nil rfl, h3⟩
  · intro m' u v hl
    induction hl with
    | nil h => intro hr; subst h; exact ⟨m' + 1, .fork q e hq hk (.inr ho.symm) hr⟩
    | cons u1 u2 h2 h3 h4 ih =>
      intro hr
      obtain ⟨m2, hr2⟩ := ih hr
      obtain ⟨m3, hr3⟩ := h1.2 m2 u1 _ h3 hr2
      subst h2
      exact ⟨m3 + 1, .fork q a hq hk (.inl ha.symm) (by rw [List.append_assoc]; exact hr3)⟩
theorem sem_num {T : List St} {s e : Nat} {q : St} (hq : T[s]? = some q) (ha : q.t = e) (hs : s ≠ 0) {L : Lg} (hL : ∀ w, L w ↔ ∃ x, w = [x] ∧ (q.k = 3 ∨ (q.k = 2 ∧ q.n = x))) (hk : q.k ≠ 4) : Sem T L s e := by
  refine ⟨fun m w h => ?_, fun m' u v hl h => ?_⟩
  · cases h with
    | refl => exact (hs rfl).elim
    | fork q' a h1 h2 => rw [hq] at h1; cases h1; exact (hk h2).elim
    | num q' a x h1 h2 h3 h4 =>
      rw [hq] at h1
      cases h1
      obtain rfl : a = e := by omega
      exact ⟨_, [x], _, by omega, rfl, (hL _).2 ⟨x, rfl, h2⟩, h4⟩
  · obtain ⟨x, rfl, hx⟩ := (hL u).1 hl
    exact ⟨m' + 1, .num q e x hq hx ha.symm h⟩

/-- a machine's states, all of whose ways lead to some of them -/
def OkS (S : List St) (N : Nat) : Prop := ∀ q ∈ S, (0 ≤ q.t ∧ q.t < N) ∧ (0 ≤ q.o ∧ q.o < N)
/-- T has what stands in S from lo on, and a dead state -/
def Has (T S : List St) (lo : Nat) : Prop := (∀ i, lo ≤ i → i < S.length → T[i]? = S[i]?) ∧ ∃ q, T[1]? = some q ∧ q.k = 1
/-- what building a pattern leaves -/
structure Built (L : Lg) (z : Nat) (S S' : List St) (b e : Nat) : Prop where
  ext : S'.take S.length = S
  ok : OkS S' S'.length
  lt : b < S'.length
  few : S'.length ≤ S.length + z
  sem : ∀ T, Has T S' S.length → Sem T L b e
theorem Built.le {L : Lg} {z : Nat} {S S' : List St} {b e : Nat} (h : Built L z S S' b e) : S.length ≤ S'.length := by
  have := congrArg List.length h.ext
  rw [List.length_take] at this
  omega
theorem OkS.mono {S : List St} {N M : Nat} (h : OkS S N) (hm : N ≤ M) : OkS S M := fun q hq => ⟨⟨(h q hq).1.1, by have := (h q hq).1.2; omega⟩, ⟨(h q hq).2.1, by have := (h q hq).2.2; omega⟩⟩
theorem OkS.app {S : List St} {N : Nat} (h : OkS S N) {q : St} (hq : (0 ≤ q.t ∧ q.t < N) ∧ (0 ≤ q.o ∧ q.o < N)) : OkS (S ++ [q]) N := fun r hr => by
  rcases List.mem_append.1 hr with hr | hr
  · exact h r hr
  · rw [List.mem_singleton.1 hr]; exact hq
theorem Has.at {T S : List St} {lo i : Nat} (h : Has T S lo) (h1 : lo ≤ i) {q : St} (hq : S[i]? = some q) : T[i]? = some q := by
  rw [h.1 i h1 (by rcases Nat.lt_or_ge i S.length with h2 | h2; exact h2; rw [List.getElem?_eq_none h2] at hq; cases hq), hq]
/-- what stands in the longer one stands in its beginning -/
theorem Has.cut {T S S' : List St} {lo lo' : Nat} (h : Has T S' lo') (hl : lo' ≤ lo) (he : S'.take S.length = S) : Has T S lo :=
  ⟨fun i h1 h2 => by
    have hle : S.length ≤ S'.length := by have := congrArg List.length he; rw [List.length_take] at this; omega
    have e1 : S[i]? = S'[i]? := by
      rw [← he, List.getElem?_take, if_pos (by rw [← he, List.length_take] at h2; omega)]
    rw [h.1 i (by omega) (by omega), e1], h.2⟩
theorem Has.up {T S : List St} {lo lo' : Nat} (h : Has T S lo) (hl : lo ≤ lo') : Has T S lo' := ⟨fun i h1 h2 => h.1 i (by omega) h2, h.2⟩
theorem take_app {S : List St} {q : St} : (S ++ [q]).take S.length = S := by simp
theorem ext_trans {S S1 S2 : List St} (h1 : S1.take S.length = S) (h2 : S2.take S1.length = S1) : S2.take S.length = S := by
  have hle : S.length ≤ S1.length := by have := congrArg List.length h1; rw [List.length_take] at this; omega
  rw [← h2, List.take_take, Nat.min_eq_left hle] at h1
  exact h1
theorem at_app {S : List St} {q : St} : (S ++ [q])[S.length]? = some q := by simp
theorem at_ext {S S' : List St} (h : S'.take S.length = S) {i : Nat} {q : St} (hq : S[i]? = some q) : S'[i]? = some q := by
  rw [← h, List.getElem?_take] at hq
  split at hq
  · exact hq
  · cases hq
theorem built_num {S : List St} {e : Nat} {q : St} (ho : OkS S S.length) (h2 : 2 ≤ S.length) (he : e < S.length) (hk : q.k ≠ 4) (ht : q.t = e) (hoo : q.o = 0) {L : Lg} (hL : ∀ w, L w ↔ ∃ x, w = [x] ∧ (q.k = 3 ∨ (q.k = 2 ∧ q.n = x))) {z : Nat} (hz : 1 ≤ z) : Built L z S (S ++ [q]) S.length e :=
  ⟨take_app, by rw [List.length_append]; exact (ho.mono (by simp)).app ⟨⟨by omega, by simp; omega⟩, ⟨by omega, by simp; omega⟩⟩, by simp, by simp; omega,
   fun T hT => sem_num (hT.at (Nat.le_refl _) at_app) ht (by omega) hL hk⟩
theorem built_dead {S : List St} {e : Nat} (ho : OkS S S.length) (h2 : 2 ≤ S.length) {L : Lg} (hL : ∀ w, ¬ L w) {z : Nat} : Built L z S S 1 e :=
  ⟨by simp, ho, by omega, by omega, fun T hT => by obtain ⟨q, h1, h3⟩ := hT.2; exact sem_dead h1 h3 (by omega) hL⟩
theorem built_eps {S : List St} {e : Nat} (ho : OkS S S.length) (he : e < S.length) {L : Lg} (hL : ∀ w, L w ↔ w = []) {z : Nat} : Built L z S S e e :=
  ⟨by simp, ho, he, by omega, fun T hT => (sem_eps T e).congr (fun w => (hL w).symm)⟩
theorem built_cat {S S1 S2 : List St} {b c e : Nat} {A B L : Lg} {z1 z2 z : Nat} (h1 : Built B z1 S S1 c e) (h2 : Built A z2 S1 S2 b c) (hL : ∀ w, L w ↔ cat A B w) (hz : z1 + z2 ≤ z) : Built L z S S2 b e :=
  ⟨ext_trans h1.ext h2.ext, h2.ok, h2.lt, by have := h1.few; have := h2.few; omega,
   fun T hT => (sem_cat (h2.sem T (hT.up h1.le)) (h1.sem T (hT.cut (Nat.le_refl _) h2.ext))).congr (fun w => (hL w).symm)⟩
theorem Built.weak {L L' : Lg} {z z' : Nat} {S S' : List St} {b e : Nat} (h : Built L z S S' b e) (hL : ∀ w, L w ↔ L' w) (hz : z ≤ z') : Built L' z' S S' b e :=
  ⟨h.ext, h.ok, h.lt, by have := h.few; omega, fun T hT => (h.sem T hT).congr hL⟩
/-- a fork behind what was built -/
theorem built_fork {S S1 S2 : List St} {b c e : Nat} {A B L : Lg} {z1 z2 z : Nat} {q : St} (hs : 2 ≤ S.length) (h1 : Built B z1 S S1 c e) (h2 : Built A z2 S1 S2 b e) (hk : q.k = 4) (ht : q.t = b) (hoo : q.o = c) (hL : ∀ w, L w ↔ A w ∨ B w) (hz : z1 + z2 + 1 ≤ z) : Built L z S (S2 ++ [q]) S2.length e := by
  have l1 := h1.le
  have l2 := h2.le
  have f1 := h1.few
  have f2 := h2.few
  have b1 := h1.lt
  have b2 := h2.lt
  refine ⟨ext_trans h1.ext (ext_trans h2.ext take_app), by rw [List.length_append]; exact (h2.ok.mono (by simp)).app ⟨⟨by omega, by simp; omega⟩, ⟨by omega, by simp; omega⟩⟩, by simp, by simp; omega, fun T hT => ?_⟩
  refine (sem_fork (hT.at (by omega) at_app) hk ht hoo (by omega) (h2.sem T ((hT.cut (Nat.le_refl _) take_app).up (by omega))) (h1.sem T (hT.cut (Nat.le_refl _) (ext_trans h2.ext take_app)))).congr (fun w => (hL w).symm)
theorem has_set {T S : List St} {i lo : Nat} {q : St} (h : Has T (S.set i q) lo) (hi : i < lo) : Has T S lo :=
  ⟨fun j h1 h2 => by rw [h.1 j h1 (by rw [List.length_set]; exact h2), List.getElem?_set_ne (by omega)], h.2⟩
/-- a pattern again and again -/
theorem built_star {S S2 : List St} {b e : Nat} {A : Lg} {z2 z : Nat} {q q' : St} (ho : OkS S S.length) (hs : 2 ≤ S.length) (he : e < S.length) (hk : q'.k = 4) (h2 : Built A z2 (S ++ [q]) S2 b S.length) (ht : q'.t = b) (hoo : q'.o = e) (hz : z2 + 1 ≤ z) :
    Built (Star A) z S (S2.set S.length q') S.length e ∧ Built (cat A (Star A)) z S (S2.set S.length q') b e := by
  have l2 := h2.le
  have f2 := h2.few
  have b2 := h2.lt
  simp only [List.length_append, List.length_cons, List.length_nil] at l2 f2
  have hext : (S2.set S.length q').take S.length = S := by
    rw [List.take_set_of_le (Nat.le_refl _)]
    exact ext_trans take_app h2.ext
  have hok : OkS (S2.set S.length q') (S2.set S.length q').length := by
    rw [List.length_set]
    intro r hr
    rcases List.mem_or_eq_of_mem_set hr with hr | rfl
    · exact h2.ok r hr
    · exact ⟨⟨by omega, by omega⟩, ⟨by omega, by omega⟩⟩
  have hst : ∀ T, Has T (S2.set S.length q') S.length → Sem T (Star A) S.length e ∧ Sem T A b S.length := fun T hT => by
    have h3 : Sem T A b S.length := h2.sem T (by
      have h4 := has_set (lo := S.length + 1) (hT.up (by omega)) (by omega)
      simpa using h4)
    exact ⟨sem_star (hT.at (Nat.le_refl _) (by rw [List.getElem?_set_self (by omega)])) hk ht hoo (by omega) h3, h3⟩
  exact ⟨⟨hext, hok, by rw [List.length_set]; omega, by rw [List.length_set]; omega, fun T hT => (hst T hT).1⟩,
    ⟨hext, hok, by rw [List.length_set]; omega, by rw [List.length_set]; omega, fun T hT => sem_cat (hst T hT).2 (hst T hT).1⟩⟩
end Go.Proofs.Ytagfdmkgnedlbag.Po
