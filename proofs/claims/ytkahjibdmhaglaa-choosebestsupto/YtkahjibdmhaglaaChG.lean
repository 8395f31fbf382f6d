/- Plain: what the steps leave. -/
import Derived.Test.YtkahjibdmhaglaaChE
namespace Go.Proofs.Ytkahjibdmhaglaa.Ch
set_option linter.unusedVariables false
set_option linter.unusedSimpArgs false

/-- does y strike x out at a step? -/
def bt : Nat → Of → Of → Bool
  | 2, x, y => decide (x.pref < y.pref)
  | 3, x, y => decide (y.path.length < x.path.length)
  | 4, x, y => decide (y.org < x.org)
  | 5, x, y => decide (nbP x = nbP y) && decide (y.med < x.med)
  | 6, x, y => x.inner && !y.inner
  | 7, x, y => decide (y.cost < x.cost)
  | 8, x, y => decide (y.clus.length < x.clus.length)
  | 9, x, y => decide (y.auth < x.auth)
  | 10, x, y => decide (y.peer < x.peer)
  | _, _, _ => false
def surv (X : Nat → Of) (ps : List Nat) (s : Nat) : List Nat := ps.filter (fun i => !ps.any (fun j => bt s (X i) (X j)))
def leftP (X : Nat → Of) (ss ps : List Nat) : List Nat := ss.foldl (surv X) ps
def sOf (k : Nat) : Nat := if k < 3 then k + 2 else k + 3
theorem cmp3_neg (x y : Int) : cmp3 x y < 0 ↔ x < y := by
  unfold cmp3
  split
  · simp; assumption
  · split <;> simp <;> omega
theorem bt_key (k : Nat) (hk : k < 8) (x y : Of) : bt (sOf k) x y = decide (key k y < key k x) := by
  have hc : k = 0 ∨ k = 1 ∨ k = 2 ∨ k = 3 ∨ k = 4 ∨ k = 5 ∨ k = 6 ∨ k = 7 := by omega
  rcases hc with rfl | rfl | rfl | rfl | rfl | rfl | rfl | rfl
  · show decide (x.pref < y.pref) = decide (- y.pref < - x.pref); congr 1; simp
  · show decide (y.path.length < x.path.length) = decide ((y.path.length : Int) < x.path.length); congr 1; simp
  · rfl
  · show (x.inner && !y.inner) = decide ((if y.inner = true then (1 : Int) else 0) < (if x.inner = true then 1 else 0))
    cases x.inner <;> cases y.inner <;> simp
  · rfl
  · show decide (y.clus.length < x.clus.length) = decide ((y.clus.length : Int) < x.clus.length); congr 1; simp
  · rfl
  · rfl
theorem minP_le (g : Nat → Int) : ∀ (ps : List Nat) (j : Nat), j ∈ ps → g (minP (fun i j => cmp3 (g i) (g j)) ps) ≤ g j
  | x :: xs, j, hj => by
    show g (List.foldl (fun m j => if cmp3 (g j) (g m) < 0 then j else m) x xs) ≤ g j
    have h : ∀ (ys : List Nat) (m : Nat), g (ys.foldl (fun m j => if cmp3 (g j) (g m) < 0 then j else m) m) ≤ g m ∧ ∀ j ∈ ys, g (ys.foldl (fun m j => if cmp3 (g j) (g m) < 0 then j else m) m) ≤ g j := by
      intro ys
      induction ys with
      | nil => exact fun m => ⟨Int.le_refl _, fun j hj => by cases hj⟩
      | cons y ys ih =>
        intro m
        rw [List.foldl_cons]
        obtain ⟨h1, h2⟩ := ih (if cmp3 (g y) (g m) < 0 then y else m)
        have h3 : g (if cmp3 (g y) (g m) < 0 then y else m) ≤ g m ∧ g (if cmp3 (g y) (g m) < 0 then y else m) ≤ g y := by
          by_cases c : cmp3 (g y) (g m) < 0
          · rw [if_pos c]; have := (cmp3_neg _ _).1 c; omega
          · rw [if_neg c]; have : ¬ g y < g m := fun h => c ((cmp3_neg _ _).2 h); omega
        refine ⟨by omega, fun j hj => ?_⟩
        rcases List.mem_cons.1 hj with rfl | hj
        · omega
        · exact h2 j hj
    rcases List.mem_cons.1 hj with rfl | hj
    · exact (h xs j).1
    · exact (h xs x).2 j hj
theorem strk_surv (X : Nat → Of) (k : Nat) (hk : k < 8) (ps : List Nat) : strkP X k ps = surv X ps (sOf k) := by
  unfold strkP surv
  apply List.filter_congr
  intro i hi
  congr 1
  rw [Bool.eq_iff_iff, decide_eq_true_iff, List.any_eq_true]
  have hne : ps ≠ [] := fun e => by rw [e] at hi; cases hi
  unfold stp
  rw [cmp3_neg]
  constructor
  · intro h
    exact ⟨_, minP_mem _ ps hne, by rw [bt_key k hk]; simpa using h⟩
  · rintro ⟨j, hj, h⟩
    rw [bt_key k hk] at h
    have := minP_le (fun i => key k (X i)) ps j hj
    simp at h
    exact Int.lt_of_le_of_lt this h
theorem strkA_left (X : Nat → Of) : ∀ (ks ps : List Nat), (∀ k ∈ ks, k < 8) → strkA X ks ps = leftP X (ks.map sOf) ps
  | [], ps, _ => rfl
  | k :: ks, ps, h => by
    show strkA X ks (strkP X k ps) = leftP X (ks.map sOf) (surv X ps (sOf k))
    rw [strk_surv X k (h k List.mem_cons_self), strkA_left X ks _ (fun q hq => h q (List.mem_cons_of_mem _ hq))]
theorem surv_sub (X : Nat → Of) (s : Nat) (ps : List Nat) : (surv X ps s).Sublist ps := List.filter_sublist
theorem left_sub (X : Nat → Of) : ∀ (ss ps : List Nat), (leftP X ss ps).Sublist ps
  | [], ps => List.Sublist.refl _
  | s :: ss, ps => (left_sub X ss (surv X ps s)).trans (surv_sub X s ps)
theorem left_app (X : Nat → Of) (a b ps : List Nat) : leftP X (a ++ b) ps = leftP X b (leftP X a ps) := List.foldl_append
/-- what step 7 has left, of places; the best one -/
def evP (X : Nat → Of) (ps : List Nat) : List Nat := leftP X [2, 3, 4, 5, 6, 7] ps
def bsP (X : Nat → Of) (ps : List Nat) : Option Nat := (leftP X [8, 9, 10] (evP X ps)).head?
def bsI (o : Option Nat) : Int := match o with
  | some b => (b : Int)
  | none => -1
/-- a step leaves something of something -/
theorem surv_ne (X : Nat → Of) (s : Nat) (ps : List Nat) (h : ps ≠ []) : surv X ps s ≠ [] := by
  -- whichever step: one that is least by the step's key is left
  suffices hs : ∃ g : Nat → Int, ∀ i j, bt s (X i) (X j) = true → g j < g i by
    obtain ⟨g, hg⟩ := hs
    have hm := minP_mem (fun i j => cmp3 (g i) (g j)) ps h
    have hl := minP_le g ps
    intro e
    have : minP (fun i j => cmp3 (g i) (g j)) ps ∈ surv X ps s := by
      unfold surv
      rw [List.mem_filter]
      refine ⟨hm, ?_⟩
      rw [Bool.not_eq_true', List.any_eq_false]
      intro j hj c
      have h1 := hg _ _ c
      have h2 := hl j hj
      omega
    rw [e] at this
    cases this
  match s with
  | 0 | 1 => exact ⟨fun _ => 0, fun i j c => by cases c⟩
  | 2 => exact ⟨fun i => - (X i).pref, fun i j c => by simp [bt] at c; show (_ : Int) < _; dsimp only; omega⟩
  | 3 => exact ⟨fun i => (X i).path.length, fun i j c => by simp [bt] at c; show (_ : Int) < _; dsimp only; omega⟩
  | 4 => exact ⟨fun i => (X i).org, fun i j c => by simp [bt] at c; show (_ : Int) < _; dsimp only; omega⟩
  | 5 => exact ⟨fun i => (X i).med, fun i j c => by simp [bt] at c; show (_ : Int) < _; dsimp only; omega⟩
  | 6 => exact ⟨fun i => if (X i).inner then 1 else 0, fun i j c => by simp [bt] at c; simp [c]⟩
  | 7 => exact ⟨fun i => (X i).cost, fun i j c => by simp [bt] at c; show (_ : Int) < _; dsimp only; omega⟩
  | 8 => exact ⟨fun i => (X i).clus.length, fun i j c => by simp [bt] at c; show (_ : Int) < _; dsimp only; omega⟩
  | 9 => exact ⟨fun i => (X i).auth, fun i j c => by simp [bt] at c; show (_ : Int) < _; dsimp only; omega⟩
  | 10 => exact ⟨fun i => (X i).peer, fun i j c => by simp [bt] at c; show (_ : Int) < _; dsimp only; omega⟩
  | s + 11 => exact ⟨fun _ => 0, fun i j c => by cases c⟩
theorem left_ne (X : Nat → Of) : ∀ (ss ps : List Nat), ps ≠ [] → leftP X ss ps ≠ []
  | [], ps, h => h
  | s :: ss, ps, h => left_ne X ss _ (surv_ne X s ps h)
theorem bs_none {X : Nat → Of} {ps : List Nat} (h : bsP X ps = none) : ps = [] := by
  by_cases c : ps = []
  · exact c
  · unfold bsP evP at h
    rw [← left_app, List.head?_eq_none_iff] at h
    exact absurd h (left_ne X _ ps c)
theorem bs_mem {X : Nat → Of} {ps : List Nat} {b : Nat} (h : bsP X ps = some b) : b ∈ ps := by
  unfold bsP evP at h
  rw [← left_app] at h
  exact (left_sub X _ ps).subset (List.mem_of_mem_head? h)
/-- the best one and those that are as good -/
def enP (X : Nat → Of) (ps : List Nat) : List Nat := match bsP X ps with
  | none => []
  | some b => b :: ((evP X ps).filter (fun i => decide (i ≠ b))).take 3

/-! one more that loses -/
def fK (k i : Nat) : Nat := if i < k then i else i + 1
theorem fK_ne (k i : Nat) : fK k i ≠ k := by unfold fK; split <;> omega
theorem fK_inj {k i j : Nat} (h : fK k i = fK k j) : i = j := by unfold fK at h; split at h <;> split at h <;> omega
structure Los (Y X : Nat → Of) (k b : Nat) (pm pl : List Nat) : Prop where
  same : pm.filter (fun i => decide (i ≠ k)) = pl.map (fK k)
  has : b ∈ pl
theorem Los.mem {Y X : Nat → Of} {k b : Nat} {pm pl : List Nat} (h : Los Y X k b pm pl) {i : Nat} (hi : i ∈ pl) : fK k i ∈ pm := by
  have : fK k i ∈ pm.filter (fun i => decide (i ≠ k)) := by rw [h.same]; exact List.mem_map.2 ⟨i, hi, rfl⟩
  exact (List.mem_filter.1 this).1
theorem Los.out {Y X : Nat → Of} {k b : Nat} {pm pl : List Nat} (h : Los Y X k b pm pl) {i : Nat} (hi : i ∈ pm) (hk : i ≠ k) : ∃ j ∈ pl, fK k j = i := by
  have : i ∈ pm.filter (fun i => decide (i ≠ k)) := List.mem_filter.2 ⟨hi, by simpa using hk⟩
  rw [h.same] at this
  obtain ⟨j, hj, e⟩ := List.mem_map.1 this
  exact ⟨j, hj, e⟩
/-- a step at which the one more strikes out nobody whom the best one does not -/
theorem Los.step {Y X : Nat → Of} {k b : Nat} {pm pl : List Nat} (h : Los Y X k b pm pl) (hX : ∀ i, Y (fK k i) = X i) (s : Nat) (hs : ∀ x, bt s x (Y k) = true → bt s x (X b) = true) (hb : b ∈ surv X pl s) : Los Y X k b (surv Y pm s) (surv X pl s) := by
  refine ⟨?_, hb⟩
  unfold surv
  rw [List.filter_filter]
  have e1 : pm.filter (fun a => decide (a ≠ k) && !pm.any (fun j => bt s (Y a) (Y j))) = (pm.filter (fun i => decide (i ≠ k))).filter (fun a => !pm.any (fun j => bt s (Y a) (Y j))) := by
    rw [List.filter_filter]
    apply List.filter_congr
    intro i hi
    exact Bool.and_comm _ _
  rw [e1, h.same, List.filter_map]
  congr 1
  apply List.filter_congr
  intro i hi
  simp only [Function.comp]
  congr 1
  rw [hX, Bool.eq_iff_iff, List.any_eq_true, List.any_eq_true]
  constructor
  · rintro ⟨j, hj, c⟩
    by_cases hjk : j = k
    · subst hjk
      exact ⟨b, h.has, hs _ c⟩
    · obtain ⟨j', hj', rfl⟩ := h.out hj hjk
      exact ⟨j', hj', by rw [hX] at c; exact c⟩
  · rintro ⟨j, hj, c⟩
    exact ⟨fK k j, h.mem hj, by rw [hX]; exact c⟩
/-- behind the step at which it is struck out -/
theorem Los.gone {Y X : Nat → Of} {k b : Nat} {pm pl : List Nat} (h : Los Y X k b pm pl) (hk : k ∉ pm) : pm = pl.map (fK k) := by
  rw [← h.same]
  symm
  rw [List.filter_eq_self]
  intro i hi
  simp
  rintro rfl
  exact hk hi
theorem surv_map {Y X : Nat → Of} {f : Nat → Nat} (hX : ∀ i, Y (f i) = X i) (pl : List Nat) (s : Nat) : surv Y (pl.map f) s = (surv X pl s).map f := by
  unfold surv
  rw [List.filter_map]
  congr 1
  apply List.filter_congr
  intro i hi
  simp only [Function.comp_def, List.any_map, hX]
theorem left_map {Y X : Nat → Of} {f : Nat → Nat} (hX : ∀ i, Y (f i) = X i) : ∀ (ss pl : List Nat), leftP Y ss (pl.map f) = (leftP X ss pl).map f
  | [], pl => rfl
  | s :: ss, pl => by
    show leftP Y ss (surv Y (pl.map f) s) = (leftP X ss (surv X pl s)).map f
    rw [surv_map hX, left_map hX]
theorem surv_has {X : Nat → Of} {ss ps : List Nat} {s b : Nat} (h : b ∈ leftP X (s :: ss) ps) : b ∈ surv X ps s := (left_sub X ss (surv X ps s)).subset h
/-- it is struck out at the step s0: those ahead of it tell nothing -/
theorem los_left {Y X : Nat → Of} {k b : Nat} (hX : ∀ i, Y (fK k i) = X i) (s0 : Nat) (tl : List Nat) (h0 : bt s0 (Y k) (X b) = true) (hb0 : ∀ x, bt s0 x (Y k) = true → bt s0 x (X b) = true) : ∀ (ss pm pl : List Nat), Los Y X k b pm pl → (∀ s ∈ ss, ∀ x, bt s x (Y k) = true → bt s x (X b) = true) → b ∈ leftP X (ss ++ s0 :: tl) pl → leftP Y (ss ++ s0 :: tl) pm = (leftP X (ss ++ s0 :: tl) pl).map (fK k)
  | [], pm, pl, h, _, hb => by
    show leftP Y tl (surv Y pm s0) = (leftP X tl (surv X pl s0)).map (fK k)
    have h1 := h.step hX s0 hb0 (surv_has hb)
    have h2 := h1.gone (by
      unfold surv
      rw [List.mem_filter]
      rintro ⟨-, c⟩
      rw [Bool.not_eq_true', List.any_eq_false] at c
      exact c (fK k b) (h.mem h.has) (by rw [hX]; exact h0))
    rw [h2, left_map hX]
  | s :: ss, pm, pl, h, hs, hb => by
    show leftP Y (ss ++ s0 :: tl) (surv Y pm s) = (leftP X (ss ++ s0 :: tl) (surv X pl s)).map (fK k)
    exact los_left hX s0 tl h0 hb0 ss _ _ (h.step hX s (hs s List.mem_cons_self) (surv_has (ss := ss ++ s0 :: tl) hb)) (fun q hq => hs q (List.mem_cons_of_mem _ hq)) hb
/-- the offer at k loses against b at one of the first three steps -/
structure Loses (x b : Of) : Prop where
  lo : x.pref < b.pref ∨ (x.pref = b.pref ∧ b.path.length < x.path.length) ∨ (x.pref = b.pref ∧ x.path.length = b.path.length ∧ b.org < x.org)
theorem worse {Y X : Nat → Of} {k b : Nat} {pm pl : List Nat} (hX : ∀ i, Y (fK k i) = X i) (h : pm.filter (fun i => decide (i ≠ k)) = pl.map (fK k)) (hb : bsP X pl = some b) (hl : Loses (Y k) (X b)) : evP Y pm = (evP X pl).map (fK k) ∧ bsP Y pm = some (fK k b) := by
  have hb2 : b ∈ leftP X [2, 3, 4, 5, 6, 7] pl := by
    unfold bsP at hb
    exact (left_sub X _ _).subset (List.mem_of_mem_head? hb)
  have hL : Los Y X k b pm pl := ⟨h, bs_mem hb⟩
  have e : evP Y pm = (evP X pl).map (fK k) := by
    unfold evP
    rcases hl.lo with c | ⟨c1, c2⟩ | ⟨c1, c2, c3⟩
    · exact los_left hX 2 [3, 4, 5, 6, 7] (by simpa [bt] using c) (fun x hx => by simp [bt] at hx ⊢; omega) [] pm pl hL (fun s hs => by cases hs) hb2
    · exact los_left hX 3 [4, 5, 6, 7] (by simpa [bt] using c2) (fun x hx => by simp [bt] at hx ⊢; omega) [2] pm pl hL (fun s hs x hx => by simp at hs; subst hs; simp [bt] at hx ⊢; omega) hb2
    · exact los_left hX 4 [5, 6, 7] (by simpa [bt] using c3) (fun x hx => by simp [bt] at hx ⊢; omega) [2, 3] pm pl hL (fun s hs x hx => by
        simp at hs
        rcases hs with rfl | rfl
        · simp [bt] at hx ⊢; omega
        · simp [bt] at hx ⊢; omega) hb2
  refine ⟨e, ?_⟩
  unfold bsP at hb ⊢
  rw [e, left_map hX, List.head?_map, hb]
  rfl
theorem worse_even {Y X : Nat → Of} {k b : Nat} {pm pl : List Nat} (hX : ∀ i, Y (fK k i) = X i) (h : pm.filter (fun i => decide (i ≠ k)) = pl.map (fK k)) (hb : bsP X pl = some b) (hl : Loses (Y k) (X b)) : enP Y pm = (enP X pl).map (fK k) := by
  obtain ⟨h1, h2⟩ := worse hX h hb hl
  unfold enP
  rw [h2, hb, h1]
  dsimp only
  rw [List.map_cons, List.map_take, List.filter_map]
  congr 3
  apply List.filter_congr
  intro i hi
  simp only [Function.comp]
  by_cases c : i = b
  · subst c; simp
  · have : fK k i ≠ fK k b := fun e => c (fK_inj e)
    simp [c, this]
end Go.Proofs.Ytkahjibdmhaglaa.Ch
