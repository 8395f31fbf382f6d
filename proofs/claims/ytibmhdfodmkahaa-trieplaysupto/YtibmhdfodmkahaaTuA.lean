/- Tries: what Put and Drop answer, what Under and Over give, and how many there are; plain trees. -/
import Derived.Test.YtibmhdfodmkahaaTrI
import Derived.Test.YtibmhdfodmkahaaTrAA
import Derived.Test.YtibmhdfodmkahaaBkF
import Derived.Test.YtibmhdfodmkahaaFdA
namespace Go.Proofs.Ytibmhdfodmkahaa.Tu
open Go.Proofs.Ytibmhdfodmkahaa.PM Go.Proofs.Ytibmhdfodmkahaa.TrM Go.Proofs.Ytibmhdfodmkahaa.Tri
set_option linter.unusedVariables false

/-- what has no value says 0 -/
def Bz : Tr → Prop
  | .nil => True
  | .node _ _ u h l r => (h = false → u = 0) ∧ Bz l ∧ Bz r
theorem bz_ins {t : Tr} {a n v : Int} (h : Bz t) : Bz (ins t a n v) := by
  induction t with
  | nil => exact ⟨nofun, trivial, trivial⟩
  | node b m u hh l r il ir =>
    obtain ⟨h0, h1, h2⟩ := h
    unfold ins
    split
    · exact ⟨nofun, h1, h2⟩
    · split
      · split
        · exact ⟨h0, il h1, h2⟩
        · exact ⟨h0, h1, ir h2⟩
      · split
        · split
          · exact ⟨nofun, ⟨h0, h1, h2⟩, trivial⟩
          · exact ⟨nofun, trivial, h0, h1, h2⟩
        · split
          · exact ⟨fun _ => rfl, ⟨h0, h1, h2⟩, nofun, trivial, trivial⟩
          · exact ⟨fun _ => rfl, ⟨nofun, trivial, trivial⟩, h0, h1, h2⟩
theorem bz_slim {t : Tr} (h : Bz t) : Bz (slim t) := by
  cases t with
  | nil => exact h
  | node b m u hh l r =>
    rw [slim_eq]
    split
    · exact h
    · split
      · exact h.2.1
      · exact h.2.2
theorem bz_del {t : Tr} {a n : Int} (h : Bz t) : Bz (del t a n).1 := by
  induction t with
  | nil => exact h
  | node b m u hh l r il ir =>
    have h' := h
    obtain ⟨h0, h1, h2⟩ := h
    unfold del
    split
    · split
      · split
        · exact bz_slim (t := .node b m 0 false l r) ⟨fun _ => rfl, h1, h2⟩
        · exact h'
      · split
        · split
          · exact bz_slim (t := .node b m u hh (del l a n).1 r) ⟨h0, il h1, h2⟩
          · exact h'
        · split
          · exact bz_slim (t := .node b m u hh l (del r a n).1) ⟨h0, h1, ir h2⟩
          · exact h'
    · exact h'
theorem wold_eq {t : Tr} (hz : Bz t) (a n : Int) : wold t a n = ((TrM.look t a n).getD 0, (TrM.look t a n).isSome) := by
  induction t with
  | nil => rfl
  | node b m u hh l r il ir =>
    obtain ⟨h0, h1, h2⟩ := hz
    unfold wold TrM.look
    split
    · cases hh with
      | true => rfl
      | false => rw [h0 rfl]; rfl
    · split
      · split
        · exact il h1
        · exact ir h2
      · rfl
theorem dold_eq {t : Tr} (hw : WF t) (a n : Int) : dold t a n = (TrM.look t a n).getD 0 := by
  induction t with
  | nil => rfl
  | node b m u hh l r il ir =>
    obtain ⟨hv, hb, r0, r1, w0, w1⟩ := hw
    by_cases e : b = a ∧ m = n
    · obtain ⟨rfl, rfl⟩ := e
      rw [look_at (And.intro rfl rfl)]
      unfold dold
      rw [if_pos (TrM.cov_self hv), if_pos ⟨rfl, rfl⟩]
      cases hh <;> rfl
    · unfold dold TrM.look
      rw [if_neg e, if_neg e]
      split
      · split
        · exact il w0
        · exact ir w1
      · rfl
theorem del_had {t : Tr} (hw : WF t) (a n : Int) : (del t a n).2 = (TrM.look t a n).isSome := by
  cases hd : (del t a n).2 with
  | false => rw [(del_ok t a n hw).2.2.2.2 hd]; rfl
  | true =>
    induction t with
    | nil => cases hd
    | node b m u hh l r il ir =>
      obtain ⟨hv, hb, r0, r1, w0, w1⟩ := hw
      unfold del at hd
      unfold TrM.look
      by_cases e : b = a ∧ m = n
      · obtain ⟨rfl, rfl⟩ := e
        rw [if_pos (TrM.cov_self hv), if_pos ⟨rfl, rfl⟩] at hd
        rw [if_pos ⟨rfl, rfl⟩]
        cases hh with
        | true => rfl
        | false => cases hd
      · rw [if_neg e]
        by_cases hc : cov b m a n = true
        · rw [if_pos hc, if_neg e] at hd
          rw [if_pos hc]
          by_cases hs : sdI a m = 0
          · rw [if_pos hs] at hd ⊢
            cases h2 : (del l a n).2 with
            | true => exact il w0 h2
            | false => rw [h2] at hd; cases hd
          · rw [if_neg hs] at hd ⊢
            cases h2 : (del r a n).2 with
            | true => exact ir w1 h2
            | false => rw [h2] at hd; cases hd
        · rw [if_neg hc] at hd; cases hd
/-- all that stands below a root is covered by it -/
theorem all_root {c k : Int} {t : Tr} (hw : WF t) (hr : Root c k t) : ∀ y ∈ allT t, cov c k y.1 y.2.1 = true := by
  rintro ⟨y1, y2, y3⟩ hy
  exact look_out hr ((mem_allT hw y1 y2 y3).1 hy)
theorem two_sides {b m : Int} (hv : vld b m = true) {y1 y2 : Int} (h0 : cov (kid b m 0) (m + 1) y1 y2 = true) (h1 : cov (kid b m 1) (m + 1) y1 y2 = true) : False := by
  have := ((cov_iff _ _ _ _).1 h0).2.2.1
  have e0 := (kid_side hv (by omega) (.inl rfl) h0).2.2
  have e1 := (kid_side hv (by omega) (.inr rfl) h1).2.2
  omega
theorem und_bund {t : Tr} (hw : WF t) (a n : Int) : und t a n = Bk.bund a n (allT t) := by
  unfold Bk.bund
  induction t with
  | nil => rfl
  | node b m u hh l r il ir =>
    have hw' := hw
    obtain ⟨hv, hb, r0, r1, w0, w1⟩ := hw
    have hall := all_root hw' (show Root b m (.node b m u hh l r) from TrM.cov_self hv)
    by_cases e : b = a ∧ m = n
    · obtain ⟨rfl, rfl⟩ := e
      rw [und_at]
      exact (List.filter_eq_self.2 hall).symm
    · by_cases hc : cov b m a n = true
      · have hlt := cov_lt hc e
        have hself : cov a n b m = false := by
          cases h : cov a n b m with
          | false => rfl
          | true => have := (cov_vld h).2.2.1; omega
        have hs0 : (if hh = true then [(b, m, u)] else []).filter (fun y => cov a n y.1 y.2.1) = [] := by
          cases hh <;> simp [hself]
        have hall2 : allT (.node b m u hh l r) = (if hh = true then [(b, m, u)] else []) ++ (allT l ++ allT r) := rfl
        rw [hall2, List.filter_append, List.filter_append, hs0, List.nil_append]
        rcases sdI_01 a m with hs | hs
        · rw [und_l e hc hs, il w0]
          have : (allT r).filter (fun y => cov a n y.1 y.2.1) = [] := by
            rw [List.filter_eq_nil_iff]
            intro y hy hcy
            exact two_sides hv (cov_trans (side_kid hc hlt 0 hs) hcy) (all_root w1 r1 y hy)
          rw [this, List.append_nil]
        · rw [und_r e hc hs, ir w1]
          have : (allT l).filter (fun y => cov a n y.1 y.2.1) = [] := by
            rw [List.filter_eq_nil_iff]
            intro y hy hcy
            exact two_sides hv (all_root w0 r0 y hy) (cov_trans (side_kid hc hlt 1 hs) hcy)
          rw [this, List.nil_append]
      · have hc' : cov b m a n = false := by simpa using hc
        by_cases hc2 : cov a n b m = true
        · rw [und_in e hc' hc2]
          exact (List.filter_eq_self.2 (fun y hy => cov_trans hc2 (hall y hy))).symm
        · rw [und_no e hc' (by simpa using hc2)]
          symm
          rw [List.filter_eq_nil_iff]
          intro y hy hcy
          have h1 := hall y hy
          by_cases hle : m ≤ n
          · exact hc (cov_line h1 hcy hle)
          · exact hc2 (cov_line hcy h1 (by omega))
/-- those over a prefix -/
def ovs (a n : Int) (l : List (Int × Int × Int)) : List (Int × Int × Int) := l.filter fun y => cov y.1 y.2.1 a n
theorem ov_ovs {t : Tr} (hw : WF t) (a n : Int) : ov t a n = ovs a n (allT t) := by
  unfold ovs
  induction t with
  | nil => rfl
  | node b m u hh l r il ir =>
    have hw' := hw
    obtain ⟨hv, hb, r0, r1, w0, w1⟩ := hw
    have hall := all_root hw' (show Root b m (.node b m u hh l r) from TrM.cov_self hv)
    by_cases hc : cov b m a n = true
    · have hs0 : (if hh = true then [(b, m, u)] else []).filter (fun y => cov y.1 y.2.1 a n) = (if hh = true then [(b, m, u)] else []) := by
        cases hh <;> simp [hc]
      have hall2 : allT (.node b m u hh l r) = (if hh = true then [(b, m, u)] else []) ++ (allT l ++ allT r) := rfl
      rw [hall2, List.filter_append, List.filter_append, hs0]
      unfold ov
      rw [if_pos hc]
      congr 1
      rcases sdI_01 a m with hs | hs
      · rw [if_pos hs, il w0]
        have : (allT r).filter (fun y => cov y.1 y.2.1 a n) = [] := by
          rw [List.filter_eq_nil_iff]
          intro y hy hcy
          have h1 := cov_trans (all_root w1 r1 y hy) hcy
          have := ((cov_iff _ _ _ _).1 h1).2.2.1
          have := (kid_side hv (by omega) (.inr rfl) h1).2.2
          omega
        rw [this, List.append_nil]
      · rw [if_neg (by omega), ir w1]
        have : (allT l).filter (fun y => cov y.1 y.2.1 a n) = [] := by
          rw [List.filter_eq_nil_iff]
          intro y hy hcy
          have h1 := cov_trans (all_root w0 r0 y hy) hcy
          have := ((cov_iff _ _ _ _).1 h1).2.2.1
          have := (kid_side hv (by omega) (.inl rfl) h1).2.2
          omega
        rw [this, List.nil_append]
    · rw [ov_out (by simpa using hc)]
      symm
      rw [List.filter_eq_nil_iff]
      intro y hy hcy
      exact hc (cov_trans (hall y hy) hcy)
theorem len_split (j : Nat) : ∀ {A : List (Int × Int × Int)}, A.Pairwise (fun y z => y.2.1 < z.2.1) → A.filter (fun y => decide (y.2.1 < (j : Int))) ++ A.filter (fun y => decide (y.2.1 = (j : Int))) = A.filter (fun y => decide (y.2.1 < ((j + 1 : Nat) : Int)))
  | [], _ => rfl
  | x :: xs, h => by
    rw [List.pairwise_cons] at h
    have ih := len_split j h.2
    by_cases h1 : x.2.1 < (j : Int)
    · rw [List.filter_cons_of_pos (by simpa using h1), List.filter_cons_of_neg (by simp; omega), List.filter_cons_of_pos (by simp; omega), List.cons_append, ih]
    · have e1 : xs.filter (fun y => decide (y.2.1 < (j : Int))) = [] := by
        rw [List.filter_eq_nil_iff]; intro y hy; have := h.1 y hy; simp; omega
      have e2 : xs.filter (fun y => decide (y.2.1 = (j : Int))) = [] := by
        rw [List.filter_eq_nil_iff]; intro y hy; have := h.1 y hy; simp; omega
      rw [e1, e2, List.nil_append] at ih
      rw [List.filter_cons_of_neg (by simpa using h1), e1, List.nil_append]
      by_cases h2 : x.2.1 = (j : Int)
      · rw [List.filter_cons_of_pos (by simpa using h2), e2, List.filter_cons_of_pos (by simp; omega), ← ih]
      · rw [List.filter_cons_of_neg (by simpa using h2), e2, List.filter_cons_of_neg (by simp; omega), ← ih]
theorem ovs_len {a n : Int} {l : List (Int × Int × Int)} (h : l.Pairwise lt3) : (ovs a n l).Pairwise (fun y z => y.2.1 < z.2.1) := by
  unfold ovs
  induction l with
  | nil => exact List.Pairwise.nil
  | cons x xs ih =>
    rw [List.pairwise_cons] at h
    rw [List.filter_cons]
    split
    · rename_i hx
      rw [List.pairwise_cons]
      refine ⟨fun z hz => ?_, ih h.2⟩
      obtain ⟨hz1, hz2⟩ := List.mem_filter.1 hz
      have hlt := h.1 z hz1
      unfold lt3 at hlt
      by_cases hle : z.2.1 ≤ x.2.1
      · have := (cov_vld (cov_line hz2 hx hle)).2.2.2
        omega
      · omega
    · exact ih h.2
theorem bov_ovs {a n : Int} {l : List (Int × Int × Int)} (h : l.Pairwise lt3) : Bk.bov a n 33 l = ovs a n l := by
  have hA := ovs_len (a := a) (n := n) h
  have step : ∀ j : Nat, Bk.bov a n j l = (ovs a n l).filter (fun y => decide (y.2.1 < (j : Int))) := by
    intro j
    induction j with
    | zero =>
      have : (ovs a n l).filter (fun y => decide (y.2.1 < ((0 : Nat) : Int))) = [] := by
        rw [List.filter_eq_nil_iff]
        intro y hy
        have := ((cov_iff _ _ _ _).1 (List.mem_filter.1 hy).2).2.2.1
        simp; omega
      rw [this]; rfl
    | succ j ih =>
      rw [Bk.bov_succ, ih, ← len_split j hA]
      congr 1
      unfold Bk.bov1 ovs
      rw [List.filter_filter]
  rw [step]
  refine List.filter_eq_self.2 (fun y hy => ?_)
  have := ((cov_iff _ _ _ _).1 (List.mem_filter.1 hy).2).2.2.1
  simp; omega
theorem ov_bov {t : Tr} (hw : WF t) (a n : Int) : ov t a n = Bk.bov a n 33 (allT t) := by rw [ov_ovs hw, bov_ovs (rising_allT hw)]
theorem ne_count {a n : Int} : ∀ {l : List (Int × Int × Int)}, l.Pairwise lt3 → (l.filter (fun x => ! decide (x.1 = a ∧ x.2.1 = n))).length + (if (bget a n l).isSome = true then 1 else 0) = l.length
  | [], _ => rfl
  | x :: xs, h => by
    rw [List.pairwise_cons] at h
    by_cases e : x.1 = a ∧ x.2.1 = n
    · have hx : xs.filter (fun x => ! decide (x.1 = a ∧ x.2.1 = n)) = xs := by
        refine List.filter_eq_self.2 (fun y hy => ?_)
        have := h.1 y hy
        unfold lt3 at this
        simp only [Bool.not_eq_true', decide_eq_false_iff_not]
        omega
      rw [bget_at e, List.filter_cons_of_neg (by simp [e]), hx]
      simp
    · have := ne_count (a := a) (n := n) h.2
      rw [bget_ne e, List.filter_cons_of_pos (by simp only [Bool.not_eq_true', decide_eq_false_iff_not]; exact e), List.length_cons, List.length_cons]
      omega
theorem bp_false_len (a n v : Int) : ∀ (l : List (Int × Int × Int)), (bp a n v false l).length = (l.filter (fun x => ! decide (x.1 = a ∧ x.2.1 = n))).length + 1
  | [] => rfl
  | x :: xs => by
    have ih := bp_false_len a n v xs
    have it := bp_true a n v xs
    by_cases e : x.1 = a ∧ x.2.1 = n
    · rw [List.filter_cons_of_neg (by simp [e])]
      by_cases ho : ord a n x.1 x.2.1 ≤ 0
      · rw [Bk.bp_f_eq ho e, List.length_cons, it]
      · exfalso; have := (ord_le (a := a) (n := n) (b := x.1) (m := x.2.1)).2 (.inr ⟨e.1.symm, by omega⟩); exact ho this
    · rw [List.filter_cons_of_pos (by simp only [Bool.not_eq_true', decide_eq_false_iff_not]; exact e)]
      by_cases ho : ord a n x.1 x.2.1 ≤ 0
      · rw [Bk.bp_f_ne ho e, List.length_cons, List.length_cons, it, List.length_cons]
      · rw [Bk.bp_f_no ho, List.length_cons, ih, List.length_cons]
theorem len_ins {t : Tr} {a n v : Int} (hw : WF t) (ha : vld a n = true) (a0 : 0 ≤ a) (a1 : a < 4294967296) : (allT (ins t a n v)).length = (allT t).length + (if (TrM.look t a n).isSome = true then 0 else 1) := by
  have h := ne_count (a := a) (n := n) (rising_allT hw)
  rw [all_ins hw ha a0 a1, bp_false_len]
  rw [bget_allT hw] at h
  cases hl : (TrM.look t a n).isSome <;> simp [hl] at h ⊢ <;> omega
theorem len_del {t : Tr} {a n : Int} (hw : WF t) : (allT (del t a n).1).length + (if (TrM.look t a n).isSome = true then 1 else 0) = (allT t).length := by
  have h := ne_count (a := a) (n := n) (rising_allT hw)
  rw [all_del hw, bp_true]
  rw [bget_allT hw] at h
  exact h
theorem und_len {t : Tr} (hw : WF t) (a n : Int) : (und t a n).length ≤ (allT t).length := by rw [und_bund hw]; exact List.length_filter_le _ _
theorem ov_len {t : Tr} (hw : WF t) (a n : Int) : (ov t a n).length ≤ (allT t).length := by rw [ov_ovs hw]; exact List.length_filter_le _ _
end Go.Proofs.Ytibmhdfodmkahaa.Tu
