/- All states to which a path leads at once: plain. -/
import Derived.Test.YtagfdmkgnedlbagPoA
namespace Go.Proofs.Ytagfdmkgnedlbag.Po
set_option linter.unusedVariables false

/-- t is reached from b by w -/
def Rch (T : List St) (b : Nat) (w : List Int) (t : Nat) : Prop := ∃ m, Run T m b w t
def Leads (q : St) (x : Int) : Prop := q.k = 3 ∨ (q.k = 2 ∧ q.n = x)
theorem run_cat {T : List St} {m s a : Nat} {u : List Int} (h : Run T m s u a) : ∀ {v : List Int} {t : Nat}, Rch T a v t → Rch T s (u ++ v) t := by
  induction h with
  | refl s => intro v t h; exact h
  | fork q a h1 h2 h3 h4 ih => intro v t h; obtain ⟨m, hm⟩ := ih h; exact ⟨_, .fork q a h1 h2 h3 hm⟩
  | num q a x h1 h2 h3 h4 ih => intro v t h; obtain ⟨m, hm⟩ := ih h; exact ⟨_, .num q a x h1 h2 h3 hm⟩
theorem run_split {T : List St} {m s t : Nat} {u : List Int} (h : Run T m s u t) : ∀ (w : List Int) (x : Int), u = w ++ [x] → ∃ s1 q a, Rch T s w s1 ∧ T[s1]? = some q ∧ Leads q x ∧ ((a : Nat) : Int) = q.t ∧ Rch T a [] t := by
  induction h with
  | refl s => intro w x e; simp at e
  | fork q a h1 h2 h3 h4 ih =>
    intro w x e
    obtain ⟨s1, q1, a1, ⟨m1, r1⟩, r2, r3, r4, r5⟩ := ih w x e
    exact ⟨s1, q1, a1, ⟨_, .fork q a h1 h2 h3 r1⟩, r2, r3, r4, r5⟩
  | @num m s u t q a y h1 h2 h3 h4 ih =>
    intro w x e
    cases w with
    | nil =>
      simp at e
      obtain ⟨rfl, rfl⟩ := e
      exact ⟨s, q, a, ⟨0, .refl s⟩, h1, h2, h3, ⟨_, h4⟩⟩
    | cons z w' =>
      simp at e
      obtain ⟨rfl, e2⟩ := e
      obtain ⟨s1, q1, a1, ⟨m1, r1⟩, r2, r3, r4, r5⟩ := ih w' x e2
      exact ⟨s1, q1, a1, ⟨_, .num q a y h1 h2 h3 r1⟩, r2, r3, r4, r5⟩
theorem rch_snoc {T : List St} {b t : Nat} {w : List Int} {x : Int} : Rch T b (w ++ [x]) t ↔ ∃ s1 q a, Rch T b w s1 ∧ T[s1]? = some q ∧ Leads q x ∧ ((a : Nat) : Int) = q.t ∧ Rch T a [] t := by
  constructor
  · rintro ⟨m, h⟩; exact run_split h w x rfl
  · rintro ⟨s1, q, a, ⟨m, h1⟩, h2, h3, h4, ⟨m2, h5⟩⟩
    exact run_cat h1 ⟨_, .num q a x h2 h3 h4 h5⟩
/-- the forks of all lead back into them -/
def Closed (T : List St) (A : List Nat) : Prop := ∀ s ∈ A, ∀ q, T[s]? = some q → q.k = 4 → ∀ a : Nat, (a : Int) = q.t ∨ (a : Int) = q.o → a ∈ A
theorem closed_run {T : List St} {A : List Nat} (hc : Closed T A) {m s t : Nat} {u : List Int} (h : Run T m s u t) : u = [] → s ∈ A → t ∈ A := by
  induction h with
  | refl s => intro _ h; exact h
  | fork q a h1 h2 h3 h4 ih => intro e hs; exact ih e (hc _ hs q h1 h2 a h3)
  | num q a x h1 h2 h3 h4 ih => intro e; cases e
/-- a front: which states are there, and what is marked -/
structure Fi (N : Nat) (n : Int) (A : List Nat) (C : List Int) : Prop where
  nd : A.Nodup
  lt : ∀ s ∈ A, s < N
  len : C.length = N
  top : ∀ c ∈ C, c ≤ n
  mem : ∀ s, s < N → (C[s]? = some n ↔ s ∈ A)
theorem nodup_few : ∀ {N : Nat} {A : List Nat}, A.Nodup → (∀ s ∈ A, s < N) → A.length ≤ N
  | 0, A, hn, hl => by
    cases A with
    | nil => exact Nat.le_refl _
    | cons a A => exact absurd (hl a List.mem_cons_self) (by omega)
  | N + 1, A, hn, hl => by
    by_cases hm : N ∈ A
    · have h1 := nodup_few (N := N) (A := A.erase N) (hn.erase N) (fun s hs => by
        obtain ⟨h2, h3⟩ := (hn.mem_erase_iff).1 hs
        have := hl s h3
        omega)
      rw [List.length_erase_of_mem hm] at h1
      omega
    · have h1 := nodup_few (N := N) (A := A) hn (fun s hs => by
        have h2 := hl s hs
        have h3 : s ≠ N := fun e => hm (e ▸ hs)
        omega)
      omega
theorem Fi.few {N : Nat} {n : Int} {A : List Nat} {C : List Int} (h : Fi N n A C) : A.length ≤ N := nodup_few h.nd h.lt
theorem Fi.old {N : Nat} {n : Int} {A : List Nat} {C : List Int} (h : Fi N n A C) {i : Nat} (hi : i < N) (hc : C[i]? = some n) : i ∈ A := (h.mem i hi).1 hc
theorem Fi.new {N : Nat} {n : Int} {A : List Nat} {C : List Int} (h : Fi N n A C) {i : Nat} (hi : i < N) (hc : ¬ C[i]? = some n) : Fi N n (A ++ [i]) (C.set i n) := by
  have hni : i ∉ A := fun hm => hc ((h.mem i hi).2 hm)
  refine ⟨List.nodup_append.2 ⟨h.nd, by simp, fun a ha b hb => by rw [List.mem_singleton.1 hb]; intro e; subst e; exact hni ha⟩, fun s hs => ?_, by rw [List.length_set]; exact h.len, fun c hc' => ?_, fun s hs => ?_⟩
  · rcases List.mem_append.1 hs with hs | hs
    · exact h.lt s hs
    · rw [List.mem_singleton.1 hs]; exact hi
  · rcases List.mem_or_eq_of_mem_set hc' with h1 | rfl
    · exact h.top c h1
    · exact Int.le_refl _
  · by_cases e : i = s
    · subst e
      simp [List.getElem?_set_self (show i < C.length by rw [h.len]; exact hi)]
    · rw [List.getElem?_set_ne e, h.mem s hs, List.mem_append]
      constructor
      · exact Or.inl
      · rintro (h1 | h1)
        · exact h1
        · exact absurd (List.mem_singleton.1 h1).symm e
theorem Fi.next {N : Nat} {n : Int} {A : List Nat} {C : List Int} (h : Fi N n A C) : Fi N (n + 1) [] C :=
  ⟨List.nodup_nil, fun s hs => by (cases hs), h.len, fun c hc => by (have := h.top c hc; omega), fun s hs => ⟨fun e => by (have := h.top _ (List.mem_of_getElem? e); omega), fun e => by (cases e)⟩⟩
theorem Fi.first (N : Nat) : Fi N 1 [] (List.replicate N 0) :=
  ⟨List.nodup_nil, fun s hs => by (cases hs), by simp, fun c hc => by (rw [List.eq_of_mem_replicate hc]; decide), fun s hs => ⟨fun e => by (rw [List.getElem?_replicate, if_pos hs] at e; cases e), fun e => by (cases e)⟩⟩
/-- all to which forks lead from B -/
def Spr (T : List St) (B A : List Nat) : Prop := ∀ t, t ∈ A ↔ ∃ s ∈ B, Rch T s [] t
theorem spr_of {T : List St} {B A : List Nat} (h1 : ∀ s ∈ B, s ∈ A) (h2 : ∀ t ∈ A, ∃ s ∈ B, Rch T s [] t) (h3 : Closed T A) : Spr T B A := fun t =>
  ⟨h2 t, fun ⟨s, hs, m, hr⟩ => closed_run h3 hr rfl (h1 s hs)⟩
theorem spr_first {T : List St} {b : Nat} {A : List Nat} (h : Spr T [b] A) (t : Nat) : t ∈ A ↔ Rch T b [] t := by
  rw [h t]; simp
theorem spr_next {T : List St} {b : Nat} {w : List Int} {x : Int} {A B A' : List Nat} (hA : ∀ t, t ∈ A ↔ Rch T b w t) (hB : ∀ a, a ∈ B ↔ ∃ s ∈ A, ∃ q, T[s]? = some q ∧ Leads q x ∧ (a : Int) = q.t) (h : Spr T B A') (t : Nat) : t ∈ A' ↔ Rch T b (w ++ [x]) t := by
  rw [h t, rch_snoc]
  constructor
  · rintro ⟨a, ha, hr⟩
    obtain ⟨s, hs, q, h1, h2, h3⟩ := (hB a).1 ha
    exact ⟨s, q, a, (hA s).1 hs, h1, h2, h3, hr⟩
  · rintro ⟨s, q, a, h1, h2, h3, h4, h5⟩
    exact ⟨a, (hB a).2 ⟨s, (hA s).2 h1, q, h2, h3, h4⟩, h5⟩
theorem rch_fork {T : List St} {B : List Nat} {s : Nat} {q : St} {a : Nat} (h : ∃ r ∈ B, Rch T r [] s) (hq : T[s]? = some q) (hk : q.k = 4) (ha : (a : Int) = q.t ∨ (a : Int) = q.o) : ∃ r ∈ B, Rch T r [] a := by
  obtain ⟨r, hr, m, hm⟩ := h
  exact ⟨r, hr, run_cat hm ⟨1, .fork q a hq hk ha (.refl a)⟩⟩
/-- what a machine takes -/
noncomputable def mt (p : Pat) (w : List Int) : Bool := @decide (Lang p w) (Classical.propDecidable _)
theorem mt_iff (p : Pat) (w : List Int) : mt p w = true ↔ Lang p w := by unfold mt; simp
theorem built_takes {p : Pat} {z b : Nat} {S S' : List St} (h : Built (Lang p) z S S' b 0) (hS : S = [⟨0, 0, 0, 0⟩, ⟨1, 0, 0, 0⟩]) (w : List Int) : Rch S' b w 0 ↔ Lang p w := by
  have hh : Has S' S' S.length := ⟨fun i _ _ => rfl, ⟨1, 0, 0, 0⟩, at_ext h.ext (by rw [hS]; rfl), rfl⟩
  obtain ⟨f1, f2⟩ := h.sem S' hh
  constructor
  · rintro ⟨m, hr⟩
    obtain ⟨m', u, v, h1, h2, h3, h4⟩ := f1 m w hr
    have hv : v = [] := by
      have q0 : S'[0]? = some ⟨0, 0, 0, 0⟩ := at_ext h.ext (by rw [hS]; rfl)
      cases h4 with
      | refl => rfl
      | fork q a e1 e2 => rw [q0] at e1; cases e1; cases e2
      | num q a x e1 e2 => rw [q0] at e1; cases e1; rcases e2 with e2 | ⟨e2, _⟩ <;> cases e2
    subst hv
    rw [h2, List.append_nil]
    exact h3
  · intro hl
    obtain ⟨m, hr⟩ := f2 0 w [] hl (.refl 0)
    rw [List.append_nil] at hr
    exact ⟨m, hr⟩
end Go.Proofs.Ytagfdmkgnedlbag.Po
