/- Comparisons, one behind the other, and of lists; plain. -/
import Derived.Test.YtagfdmkgnedlbaePMath
namespace Go.Proofs.Ytagfdmkgnedlbae.Ls
open Go.Proofs.Ytagfdmkgnedlbae.PM
set_option linter.unusedVariables false

def cmp3 (x y : Int) : Int := if x < y then -1 else if y < x then 1 else 0
/-- the first that is not 0 -/
def nz : List Int → Int
  | [] => 0
  | x :: xs => if x = 0 then nz xs else x
theorem nz_cons (x : Int) (xs : List Int) : nz (x :: xs) = if x = 0 then nz xs else x := rfl
theorem nz_app (l r : List Int) : nz (l ++ r) = if nz l = 0 then nz r else nz l := by
  induction l with
  | nil => simp [nz]
  | cons x xs ih =>
    rw [List.cons_append, nz_cons, nz_cons, ih]
    by_cases h : x = 0
    · simp [h]
    · simp [h]
theorem nz_zero {l : List Int} : nz l = 0 ↔ ∀ x ∈ l, x = 0 := by
  induction l with
  | nil => simp [nz]
  | cons x xs ih =>
    rw [nz_cons]
    by_cases h : x = 0
    · simp [h, ih]
    · simp [h]
/-- an order by -1, 0, 1 -/
structure Ord {α : Type} (c : α → α → Int) : Prop where
  rng : ∀ x y, c x y = -1 ∨ c x y = 0 ∨ c x y = 1
  anti : ∀ x y, c y x = - c x y
  trans : ∀ x y z, 0 ≤ c x y → 0 ≤ c y z → c x y ≤ c x z ∧ c y z ≤ c x z
section
variable {α β : Type} {c d : α → α → Int}
theorem Ord.refl (h : Ord c) (x : α) : c x x = 0 := by have := h.anti x x; omega
theorem Ord.zero (h : Ord c) {x y : α} (z : α) (e : c x y = 0) : c x z = c y z := by
  have h1 := h.trans x y z
  have h2 := h.trans y x z
  have h3 := h.trans z y x
  have h4 := h.trans z x y
  have a1 := h.anti x y
  have a2 := h.anti x z
  have a3 := h.anti y z
  have r1 := h.rng x z
  have r2 := h.rng y z
  omega
theorem Ord.or (h : Ord c) (k : Ord d) : Ord (fun x y => if c x y = 0 then d x y else c x y) := by
  refine ⟨fun x y => ?_, fun x y => ?_, fun x y z => ?_⟩
  · have := h.rng x y
    have := k.rng x y
    show (if c x y = 0 then d x y else c x y) = _ ∨ _
    split <;> omega
  · have := h.anti x y
    have := k.anti x y
    show (if c y x = 0 then d y x else c y x) = - (if c x y = 0 then d x y else c x y)
    split <;> split <;> omega
  · show 0 ≤ (if c x y = 0 then d x y else c x y) → 0 ≤ (if c y z = 0 then d y z else c y z) → (if c x y = 0 then d x y else c x y) ≤ (if c x z = 0 then d x z else c x z) ∧ (if c y z = 0 then d y z else c y z) ≤ (if c x z = 0 then d x z else c x z)
    have h1 := h.trans x y z
    have h2 := k.trans x y z
    have h3 := h.trans z y x
    have r1 := h.rng x y
    have r2 := h.rng y z
    have r3 := h.rng x z
    have r4 := k.rng x y
    have r5 := k.rng y z
    have r6 := k.rng x z
    have a1 := h.anti x y
    have a2 := h.anti x z
    have a3 := h.anti y z
    have z1 : c x y = 0 → c x z = c y z := fun e => h.zero z e
    split <;> split <;> split <;> intros <;> omega
theorem Ord.on (h : Ord c) (f : β → α) : Ord (fun x y => c (f x) (f y)) := ⟨fun x y => h.rng _ _, fun x y => h.anti _ _, fun x y z => h.trans _ _ _⟩
theorem ord_cmp : Ord cmp3 := by
  refine ⟨fun x y => ?_, fun x y => ?_, fun x y z => ?_⟩ <;> unfold cmp3 <;> split <;> (try split) <;> (try split) <;> (try split) <;> (try split) <;> (try split) <;> omega
theorem ord_ord : Ord (fun (p q : Int × Int) => ord p.1 p.2 q.1 q.2) := by
  refine ⟨fun x y => ?_, fun x y => ?_, fun x y z => ?_⟩ <;> simp only [ord] <;> split <;> (try split) <;> (try split) <;> (try split) <;> (try split) <;> (try split) <;> omega
/-- lists, item by item -/
def lex (c : α → α → Int) : List α → List α → Int
  | [], [] => 0
  | [], _ :: _ => -1
  | _ :: _, [] => 1
  | x :: xs, y :: ys => if c x y = 0 then lex c xs ys else c x y
theorem lex_cons (c : α → α → Int) (x y : α) (xs ys : List α) : lex c (x :: xs) (y :: ys) = if c x y = 0 then lex c xs ys else c x y := by rw [lex]
theorem ord_lex (h : Ord c) : Ord (lex c) := by
  refine ⟨fun x => ?_, fun x => ?_, fun x => ?_⟩
  · induction x with
    | nil => intro y; cases y <;> simp [lex]
    | cons a x ih =>
      intro y
      cases y with
      | nil => simp [lex]
      | cons b y =>
        rw [lex_cons]
        have := h.rng a b
        have := ih y
        split <;> omega
  · induction x with
    | nil => intro y; cases y <;> simp [lex]
    | cons a x ih =>
      intro y
      cases y with
      | nil => simp [lex]
      | cons b y =>
        rw [lex_cons, lex_cons]
        have := h.anti a b
        have := ih y
        split <;> split <;> omega
  · induction x with
    | nil => intro y z; cases y <;> cases z <;> simp [lex]
    | cons a x ih =>
      intro y z
      cases y with
      | nil => cases z <;> simp [lex]
      | cons b y =>
        cases z with
        | nil =>
          rw [lex_cons]
          simp only [lex]
          have := h.rng a b
          intro h1 _
          refine ⟨?_, Int.le_refl _⟩
          split
          · have hr : ∀ x y : List α, lex c x y ≤ 1 := by
              intro x
              induction x with
              | nil => intro y; cases y <;> simp [lex]
              | cons a x ih =>
                intro y
                cases y with
                | nil => simp [lex]
                | cons b y =>
                  rw [lex_cons]
                  have := h.rng a b
                  have := ih y
                  split <;> omega
            exact hr _ _
          · omega
        | cons e z =>
          rw [lex_cons, lex_cons, lex_cons]
          have h1 := h.trans a b e
          have h2 := ih y z
          have r1 := h.rng a b
          have r2 := h.rng b e
          have r3 := h.rng a e
          have a1 := h.anti a b
          have h3 := h.trans e b a
          have a2 := h.anti a e
          have a3 := h.anti b e
          have z1 : c a b = 0 → c a e = c b e := fun e' => h.zero e e'
          have rr : ∀ x y : List α, lex c x y ≤ 1 := by
            intro x
            induction x with
            | nil => intro y; cases y <;> simp [lex]
            | cons a x ih =>
              intro y
              cases y with
              | nil => simp [lex]
              | cons b y =>
                rw [lex_cons]
                have := h.rng a b
                have := ih y
                split <;> omega
          have q1 := rr x y
          have q2 := rr y z
          split <;> split <;> split <;> intros <;> omega
/-- the same, as a list of comparisons -/
theorem lex_nz (c : α → α → Int) (k : α → α → List Int) (hk : ∀ x y, nz (k x y) = c x y) : ∀ xs ys : List α, lex c xs ys = nz (((xs.zip ys).map fun p => k p.1 p.2).flatten ++ [cmp3 xs.length ys.length])
  | [], [] => by simp [lex, nz, cmp3]
  | [], y :: ys => by
    have : (0 : Int) < ((ys.length + 1 : Nat) : Int) := by omega
    simp [lex, nz, cmp3]
  | x :: xs, [] => by
    simp [lex, nz, cmp3]
    split <;> (try split) <;> omega
  | x :: xs, y :: ys => by
    rw [lex_cons, lex_nz c k hk xs ys, List.zip_cons_cons, List.map_cons, List.flatten_cons, List.append_assoc, nz_app (k x y), hk x y]
    have e : cmp3 (((x :: xs).length : Nat) : Int) (((y :: ys).length : Nat) : Int) = cmp3 xs.length ys.length := by
      unfold cmp3; simp
    rw [e]
end
theorem ord_zero {α : Type} : Ord (fun (_ _ : α) => (0 : Int)) := ⟨fun _ _ => .inr (.inl rfl), fun _ _ => rfl, fun _ _ _ _ _ => ⟨Int.le_refl _, Int.le_refl _⟩⟩

/-- an announcement -/
structure Lsa where
  kind : Int
  area : Int
  origin : Int
  pa : Int
  pn : Int
  seq : Int
  age : Int
  cost : Int
  tag : Int
  links : List (Int × Int × Int)
  stubs : List (Int × Int × Int)
def dead (x : Lsa) : Int := if 120 ≤ x.age then 1 else 0
def lkC (x y : Int × Int × Int) : Int := nz [cmp3 x.1 y.1, cmp3 x.2.1 y.2.1, cmp3 x.2.2 y.2.2]
def stC (x y : Int × Int × Int) : Int := nz [ord x.1 x.2.1 y.1 y.2.1, cmp3 x.2.2 y.2.2]
def newer (x y : Lsa) : Int := nz [cmp3 x.seq y.seq, cmp3 (dead x) (dead y), cmp3 x.cost y.cost, cmp3 x.tag y.tag, lex lkC x.links y.links, lex stC x.stubs y.stubs]
def order (x y : Lsa) : Int := nz [cmp3 x.area y.area, cmp3 x.kind y.kind, cmp3 x.origin y.origin, ord x.pa x.pn y.pa y.pn]
theorem ord_lk : Ord lkC := (ord_cmp.on fun x : Int × Int × Int => x.1).or ((ord_cmp.on fun x : Int × Int × Int => x.2.1).or ((ord_cmp.on fun x : Int × Int × Int => x.2.2).or ord_zero))
theorem ord_st : Ord stC := (ord_ord.on fun x : Int × Int × Int => (x.1, x.2.1)).or ((ord_cmp.on fun x : Int × Int × Int => x.2.2).or ord_zero)
theorem ord_newer : Ord newer := (ord_cmp.on Lsa.seq).or ((ord_cmp.on dead).or ((ord_cmp.on Lsa.cost).or ((ord_cmp.on Lsa.tag).or (((ord_lex ord_lk).on Lsa.links).or (((ord_lex ord_st).on Lsa.stubs).or ord_zero)))))
theorem ord_order : Ord order := (ord_cmp.on Lsa.area).or ((ord_cmp.on Lsa.kind).or ((ord_cmp.on Lsa.origin).or ((ord_ord.on fun x : Lsa => (x.pa, x.pn)).or ord_zero)))
end Go.Proofs.Ytagfdmkgnedlbae.Ls
