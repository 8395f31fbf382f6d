/- The trie's Put and Drop by what is looked up; what stays where others turn; how many there are. -/
import Derived.Test.YtibmhdfodmkahaaTuB
import Derived.Test.YtibmhdfodmkahaaTuC
namespace Go.Proofs.Ytibmhdfodmkahaa.Tu
open Go.ChangeShapes Go.WideShapes Go.ChangeAt Go.RowKit Go.Proofs.Ytibmhdfodmkahaa.PM Go.Proofs.Ytibmhdfodmkahaa.TrM Go.Proofs.Ytibmhdfodmkahaa.Ask Go.Proofs.Ytibmhdfodmkahaa.Tri
set_option linter.unusedVariables false

/-- the trie at bt holds t, and knows how many there are -/
def HoldsN (ok : Nat → Prop) (w : World) (bt : Nat) (t : Tr) : Prop := ∃ p, Holds ok w bt t p ((allT t).length : Int)
def TurnedN (ok : Nat → Prop) (bt : Nat) (t : Tr) (r : Option Int) (w : World) (e : Ending) (w' : World) : Prop :=
  e = .returned (.tuple #[.int .i64 (r.getD 0), .bool r.isSome]) ∧ But bt w w' ∧ HoldsN ok w' bt t
theorem look_bad {t : Tr} (hw : WF t) {a n : Int} (hv : vld a n = false) : TrM.look t a n = none := by
  cases hl : TrM.look t a n with
  | none => rfl
  | some v =>
    have := mem_vld hw ((mem_allT hw a n v).2 hl)
    rw [hv] at this; cases this
theorem put_n (ok : Nat → Prop) (bt : Nat) (t : Tr) (a n v : Int) (w : World) (hh : HoldsN ok w bt t) (hok : ¬ ok bt) (hnew : ∀ b, w.heap.size ≤ b → ok b) (hw : WF t) (hz : Bz t) (a0 : 0 ≤ a) (a1 : a < 4294967296) (hlen : (allT t).length ≤ 1099511627776) :
    Calls Try.prog 8 #[.pointer (some ⟨bt, 0, none⟩), .agg #[.int .u32 a, .int .i64 n], .int .i64 v] w fun e w' => TurnedN ok bt (put1 t (a, n, v)) (TrM.look t a n) w e w' := by
  obtain ⟨p, hh⟩ := hh
  cases hv : vld a n with
  | false =>
    refine (put_no ok bt t p _ a n v w hh a0 a1 hv).mono ?_
    rintro e w' ⟨rfl, hb⟩
    rw [look_bad hw hv]
    have e1 : put1 t (a, n, v) = t := by unfold put1; rw [if_neg (by simp [hv])]
    rw [e1]
    exact ⟨rfl, But.of hb, p, hh.bel hb⟩
  | true =>
    have e1 : put1 t (a, n, v) = ins t a n v := by unfold put1; rw [if_pos hv]
    rw [e1]
    refine (put_x ok bt t p _ a n v w hh hok hnew hw a0 a1 hv _ _ (wold_eq hz a n) (by omega) (by omega)).mono ?_
    rintro e w' ⟨q, rfl, hb, h2⟩
    refine ⟨rfl, hb, q, ?_⟩
    have := len_ins (v := v) hw hv a0 a1
    unfold cnt at h2
    cases hl : (TrM.look t a n).isSome with
    | true => rw [hl] at h2 this; rw [this]; simpa using h2
    | false => rw [hl] at h2 this; rw [this]; simpa using h2
theorem drop_n (ok : Nat → Prop) (bt : Nat) (t : Tr) (a n : Int) (w : World) (hh : HoldsN ok w bt t) (hok : ¬ ok bt) (hnew : ∀ b, w.heap.size ≤ b → ok b) (hw : WF t) (a0 : 0 ≤ a) (a1 : a < 4294967296) (hlen : (allT t).length ≤ 1099511627776) :
    Calls Try.prog 12 #[.pointer (some ⟨bt, 0, none⟩), .agg #[.int .u32 a, .int .i64 n]] w fun e w' => TurnedN ok bt (del t a n).1 (TrM.look t a n) w e w' := by
  obtain ⟨p, hh⟩ := hh
  refine (drop_x ok bt t p _ a n w hh hok hnew a0 a1 _ _ (dold_eq hw a n) (del_had hw a n) (by omega) (by omega)).mono ?_
  rintro e w' ⟨q, rfl, hb, h2⟩
  refine ⟨rfl, hb, q, ?_⟩
  have := len_del (a := a) (n := n) hw
  unfold cnt at h2
  cases hl : (TrM.look t a n).isSome with
  | true => rw [hl] at h2 this; simp at h2 this; rw [show ((allT (del t a n).1).length : Int) = (allT t).length + -1 by omega]; exact h2
  | false => rw [hl] at h2 this; simp at h2 this; rw [this]; exact h2

/-! what stays -/
theorem Rep.own {ok : Nat → Prop} {A B : World} {row : Option Nat} {t : Tr} {p : Option Addr} (h : Rep ok A t p) (hg : A.grownBy B row) (hr : ∀ r, row = some r → ∃ o : Obj, A.heap[r]? = some o ∧ o.isCells = false) : Rep ok B t p := by
  induction t generalizing p with
  | nil => exact h
  | node a n v hh l r il ir =>
    obtain ⟨hb, b, pl, pr, e, hlt, hok, ⟨h0, h1, h2, h3, h4, h5⟩, hl, hr'⟩ := h
    exact ⟨hb, b, pl, pr, e, Nat.lt_of_lt_of_le hlt hg.size, hok, ⟨cell_kept h0 hg hr, cell_kept h1 hg hr, cell_kept h2 hg hr, cell_kept h3 hg hr, cell_kept h4 hg hr, cell_kept h5 hg hr⟩, il hl, ir hr'⟩
theorem Rep.keep {ok ok' : Nat → Prop} {w w' : World} {t : Tr} {p : Option Addr} (h : Rep ok w t p) (hs : w.heap.size ≤ w'.heap.size) (hk : ∀ b, ok b → b < w.heap.size → ok' b ∧ w'.heap[b]? = w.heap[b]?) : Rep ok' w' t p := by
  induction t generalizing p with
  | nil => exact h
  | node a n v hh l r il ir =>
    obtain ⟨hb, b, pl, pr, e, hlt, hok, ⟨h0, h1, h2, h3, h4, h5⟩, hl, hr'⟩ := h
    obtain ⟨k1, k2⟩ := hk b hok hlt
    have c := fun o : Nat => World.cell?_of_block (a := ⟨b, o, none⟩) (w := w) k2
    exact ⟨hb, b, pl, pr, e, Nat.lt_of_lt_of_le hlt hs, k1, ⟨(c _).trans h0, (c _).trans h1, (c _).trans h2, (c _).trans h3, (c _).trans h4, (c _).trans h5⟩, il hl, ir hr'⟩
theorem Holds.own {ok : Nat → Prop} {A B : World} {row : Option Nat} {bt : Nat} {t : Tr} {p : Option Addr} {c : Int} (h : Holds ok A bt t p c) (hg : A.grownBy B row) (hr : ∀ r, row = some r → ∃ o : Obj, A.heap[r]? = some o ∧ o.isCells = false) : Holds ok B bt t p c :=
  ⟨cell_kept h.root hg hr, cell_kept h.count hg hr, (frozen_kept h.root hg hr).trans h.f0, (frozen_kept h.count hg hr).trans h.f1, Nat.lt_of_lt_of_le h.lt hg.size, Rep.own h.rep hg hr⟩
theorem Holds.keep {ok ok' : Nat → Prop} {w w' : World} {bt : Nat} {t : Tr} {p : Option Addr} {c : Int} (h : Holds ok w bt t p c) (hs : w.heap.size ≤ w'.heap.size) (hb : w'.heap[bt]? = w.heap[bt]?) (hk : ∀ b, ok b → b < w.heap.size → ok' b ∧ w'.heap[b]? = w.heap[b]?) : Holds ok' w' bt t p c :=
  ⟨(World.cell?_of_block hb).trans h.root, (World.cell?_of_block hb).trans h.count, (World.frozen?_of_block hb).trans h.f0, (World.frozen?_of_block hb).trans h.f1, Nat.lt_of_lt_of_le h.lt hs, Rep.keep h.rep hs hk⟩
theorem HoldsN.own {ok : Nat → Prop} {A B : World} {row : Option Nat} {bt : Nat} {t : Tr} (h : HoldsN ok A bt t) (hg : A.grownBy B row) (hr : ∀ r, row = some r → ∃ o : Obj, A.heap[r]? = some o ∧ o.isCells = false) : HoldsN ok B bt t := by
  obtain ⟨p, h⟩ := h; exact ⟨p, Holds.own h hg hr⟩
theorem HoldsN.keep {ok ok' : Nat → Prop} {w w' : World} {bt : Nat} {t : Tr} (h : HoldsN ok w bt t) (hs : w.heap.size ≤ w'.heap.size) (hb : w'.heap[bt]? = w.heap[bt]?) (hk : ∀ b, ok b → b < w.heap.size → ok' b ∧ w'.heap[b]? = w.heap[b]?) : HoldsN ok' w' bt t := by
  obtain ⟨p, h⟩ := h; exact ⟨p, Holds.keep h hs hb hk⟩
theorem HoldsN.bel {ok : Nat → Prop} {w w' : World} {bt : Nat} {t : Tr} (h : HoldsN ok w bt t) (hb : Below w.heap.size w w') : HoldsN ok w' bt t := by
  obtain ⟨p, h⟩ := h; exact ⟨p, h.bel hb⟩
theorem HoldsN.lt {ok : Nat → Prop} {w : World} {bt : Nat} {t : Tr} (h : HoldsN ok w bt t) : bt < w.heap.size := by
  obtain ⟨p, h⟩ := h; exact h.lt

/-! how many there are -/
/-- whatever stands in the trie has a key of these -/
def Sub (K : List (Int × Int)) (t : Tr) : Prop := ∀ y ∈ allT t, (y.1, y.2.1) ∈ K
theorem rising_len : ∀ {l : List (Int × Int × Int)} {K : List (Int × Int)}, l.Pairwise lt3 → (∀ y ∈ l, (y.1, y.2.1) ∈ K) → l.length ≤ K.length
  | [], K, _, _ => Nat.zero_le _
  | x :: xs, K, hp, hk => by
    rw [List.pairwise_cons] at hp
    have hx := hk x (by simp)
    have ih := rising_len (l := xs) (K := K.erase (x.1, x.2.1)) hp.2 (fun y hy => by
      refine (List.mem_erase_of_ne ?_).2 (hk y (by simp [hy]))
      intro e
      have hlt := hp.1 y hy
      unfold lt3 at hlt
      simp only [Prod.mk.injEq] at e
      omega)
    rw [List.length_erase_of_mem hx] at ih
    have := List.length_pos_of_mem hx
    rw [List.length_cons]
    omega
/-- all that a trie keeps to -/
structure Gd (K : List (Int × Int)) (t : Tr) : Prop where
  wf : WF t
  bz : Bz t
  sub : Sub K t
theorem Gd.len {K : List (Int × Int)} {t : Tr} (h : Gd K t) : (allT t).length ≤ K.length := rising_len (rising_allT h.wf) h.sub
theorem Gd.nil (K : List (Int × Int)) : Gd K .nil := ⟨trivial, trivial, fun y hy => by cases hy⟩
theorem Gd.more {K : List (Int × Int)} {t : Tr} (h : Gd K t) (L : List (Int × Int)) : Gd (K ++ L) t := ⟨h.wf, h.bz, fun y hy => List.mem_append.2 (.inl (h.sub y hy))⟩
theorem Gd.put1 {K : List (Int × Int)} {t : Tr} {x : Int × Int × Int} (h : Gd K t) (hx : In32 x.1) (hk : (x.1, x.2.1) ∈ K) : Gd K (TrM.put1 t x) := by
  refine ⟨wf_put1 h.wf hx, ?_, ?_⟩
  · unfold TrM.put1; split
    · exact bz_ins h.bz
    · exact h.bz
  · intro y hy
    rw [all_put1 h.wf hx] at hy
    unfold bput at hy
    split at hy
    · rcases (bp_mem y).1 hy with ⟨-, rfl⟩ | ⟨-, hy⟩
      · exact hk
      · exact h.sub y hy
    · exact h.sub y hy
theorem Gd.del {K : List (Int × Int)} {t : Tr} {a n : Int} (h : Gd K t) : Gd K (TrM.del t a n).1 := by
  refine ⟨(del_ok t a n h.wf).1, bz_del h.bz, fun y hy => ?_⟩
  rw [all_del h.wf, bp_true] at hy
  exact h.sub y (List.mem_filter.1 hy).1
theorem Gd.putAll {K : List (Int × Int)} : ∀ {ps : List (Int × Int × Int)} {t : Tr}, Gd K t → (∀ x ∈ ps, In32 x.1 ∧ (x.1, x.2.1) ∈ K) → Gd K (TrM.putAll t ps)
  | [], t, h, _ => h
  | x :: ps, t, h, hp => Gd.putAll (ps := ps) (h.put1 (hp x (by simp)).1 (hp x (by simp)).2) (fun y hy => hp y (by simp [hy]))
/-- what a stir does at one item, and at all -/
def stir1 (more : List (Int × Int × Int)) (t : Tr) (x : Int × Int × Int) : Tr := TrM.putAll (TrM.del t x.1 x.2.1).1 more
def stirs (more : List (Int × Int × Int)) (t : Tr) (xs : List (Int × Int × Int)) : Tr := xs.foldl (stir1 more) t
theorem stirs_snoc (more : List (Int × Int × Int)) (t : Tr) (xs : List (Int × Int × Int)) (x : Int × Int × Int) : stirs more t (xs ++ [x]) = stir1 more (stirs more t xs) x := by unfold stirs; rw [List.foldl_append]; rfl
theorem Gd.stirs {K : List (Int × Int)} {more : List (Int × Int × Int)} (hm : ∀ x ∈ more, In32 x.1 ∧ (x.1, x.2.1) ∈ K) : ∀ {xs : List (Int × Int × Int)} {t : Tr}, Gd K t → Gd K (Tu.stirs more t xs)
  | [], t, h => h
  | x :: xs, t, h => Gd.stirs hm (xs := xs) (t := stir1 more t x) (Gd.putAll h.del hm)
end Go.Proofs.Ytibmhdfodmkahaa.Tu
