/- What Set's writes make of a memory that holds a tree; plain. -/
import Derived.Test.YtjhdjbhpofhiaabFbX
import Derived.Test.YtjhdjbhpofhiaabFbI
namespace Go.Proofs.Ytjhdjbhpofhiaab.Fb
open Go.Proofs.Ytjhdjbhpofhiaab.PM Go.Proofs.Ytjhdjbhpofhiaab
set_option linter.unusedVariables false

theorem wd_off : ∀ (ws : List (Nat × Int)) (ms : List Int) (x : Int), 0 ≤ x → (∀ y ∈ ws, (y.1 : Int) ≠ x) → wd (putsP ms ws) x = wd ms x
  | [], ms, x, _, _ => rfl
  | y :: ws, ms, x, x0, h => by
    show wd (putsP (putP ms y.1 y.2) ws) x = _
    rw [wd_off ws _ x x0 (fun z hz => h z (by simp [hz])), wd_put _ _ _ _ x0, if_neg (fun e => h y (by simp) e.symm)]
theorem wd_last (ms : List Int) (ws : List (Nat × Int)) (k : Nat) (v : Int) (x : Int) (x0 : 0 ≤ x) : wd (putsP ms (ws ++ [(k, v)])) x = if x = k then v else wd (putsP ms ws) x := by
  unfold putsP; rw [List.foldl_append]; exact wd_put _ _ _ _ x0
theorem wd_node (ms : List Int) (n ad len way s0 s1 : Int) (n0 : 0 ≤ n) (x : Int) (x0 : 0 ≤ x) :
    wd (putsP ms (nodeWs n ad len way s0 s1)) x = if x = n * 4 + 3 then s1 else if x = n * 4 + 2 then s0 else if x = n * 4 + 1 then ad else if x = n * 4 then len * 65536 + way else wd ms x := by
  have e0 : (((n * 4).toNat : Nat) : Int) = n * 4 := by omega
  have e1 : (((n * 4 + 1).toNat : Nat) : Int) = n * 4 + 1 := by omega
  have e2 : (((n * 4 + 2).toNat : Nat) : Int) = n * 4 + 2 := by omega
  have e3 : (((n * 4 + 3).toNat : Nat) : Int) = n * 4 + 3 := by omega
  show wd (putP (putP (putP (putP ms _ _) _ _) _ _) _ _) x = _
  rw [wd_put _ _ _ _ x0, wd_put _ _ _ _ x0, wd_put _ _ _ _ x0, wd_put _ _ _ _ x0, e0, e1, e2, e3]
theorem node_at {n ad len way s0 s1 : Int} (n0 : 0 ≤ n) : ∀ y ∈ nodeWs n ad len way s0 s1, n * 4 ≤ (y.1 : Int) ∧ (y.1 : Int) ≤ n * 4 + 3 := by
  intro y hy
  simp [nodeWs] at hy
  rcases hy with rfl | rfl | rfl | rfl <;> simp <;> omega

theorem ins_nn (t : TrM.Tr) (a n v : Int) : TrM.isNil (TrM.ins t a n v) = false := by
  cases t with
  | nil => rfl
  | node b m u h l r =>
    unfold TrM.ins
    split; · rfl
    split
    · split <;> rfl
    · split
      · split <;> rfl
      · split <;> rfl
theorem sl_ins {t : TrM.Tr} {a n v : Int} (h : Sl t) : Sl (TrM.ins t a n v) := by
  induction t with
  | nil => exact ⟨.inl rfl, trivial, trivial⟩
  | node b m u hh l r il ir =>
    obtain ⟨h1, h2, h3⟩ := h
    unfold TrM.ins
    split
    · exact ⟨.inl rfl, h2, h3⟩
    · split
      · split
        · exact ⟨h1.imp id (fun h => ⟨ins_nn _ _ _ _, h.2⟩), il h2, h3⟩
        · exact ⟨h1.imp id (fun h => ⟨h.1, ins_nn _ _ _ _⟩), h2, ir h3⟩
      · split
        · split
          · exact ⟨.inl rfl, ⟨h1, h2, h3⟩, trivial⟩
          · exact ⟨.inl rfl, trivial, ⟨h1, h2, h3⟩⟩
        · split
          · exact ⟨.inr ⟨rfl, rfl⟩, ⟨h1, h2, h3⟩, ⟨.inl rfl, trivial, trivial⟩⟩
          · exact ⟨.inr ⟨rfl, rfl⟩, ⟨.inl rfl, trivial, trivial⟩, ⟨h1, h2, h3⟩⟩

/-- a memory holds a tree, and these numbers are free -/
structure Fit (ms : List Int) (made : Int) (fr : List Int) (t : TrM.Tr) : Prop where
  rp : Rp ms (wd ms 0) t
  wf : TrM.WF t
  sl : Sl t
  nd : (nums ms (wd ms 0) t ++ fr).Nodup
  rng : ∀ j ∈ nums ms (wd ms 0) t ++ fr, 1 ≤ j ∧ j ≤ made
  len : (ms.length : Int) ≤ 4 * made + 4
  m0 : 0 ≤ made
  cnt : ((nums ms (wd ms 0) t).length : Int) + fr.length = made
/-- one change -/
structure Step (ms : List Int) (made : Int) (t t' : TrM.Tr) (ws : List (Nat × Int)) (made' : Int) (fr' : List Int) : Prop where
  fit : Fit (putsP ms ws) made' fr' t'
  ahead : ∀ j, j < ws.length → Rp (putsP ms (ws.take j)) (wd (putsP ms (ws.take j)) 0) t
  most : ∀ y ∈ ws, (y.1 : Int) ≤ 4 * made' + 3
  few : ws.length ≤ 9
  grows : made ≤ made' ∧ made' ≤ made + 2
  room : made' = made ∨ fr' = []
  quiet : t' = t → ws = []
/-- how many nodes a tree has -/
def sz : TrM.Tr → Nat
  | .nil => 0
  | .node _ _ _ _ l r => sz l + sz r + 1
theorem nums_len (ms : List Int) : ∀ (t : TrM.Tr) (k : Int), (nums ms k t).length = sz t
  | .nil, _ => rfl
  | .node _ _ _ _ l r, k => by
    show (nums ms _ l ++ nums ms _ r).length + 1 = sz l + sz r + 1
    rw [List.length_append, nums_len ms l, nums_len ms r]
theorem Step.of {ms : List Int} {made : Int} {fr : List Int} {t t' : TrM.Tr} {ws : List (Nat × Int)} {made' : Int} {fr' : List Int} (h : Fit ms made fr t) (fit : Fit (putsP ms ws) made' fr' t') (ahead : ∀ j, j < ws.length → Rp (putsP ms (ws.take j)) (wd (putsP ms (ws.take j)) 0) t) (most : ∀ y ∈ ws, (y.1 : Int) ≤ 4 * made' + 3) (few : ws.length ≤ 9) (grows : made ≤ made' ∧ made' ≤ made + 2) (room : made' = made ∨ fr' = []) (hne : made' - (fr'.length : Int) ≠ made - fr.length) : Step ms made t t' ws made' fr' :=
  ⟨fit, ahead, most, few, grows, room, fun e => by
    subst e
    have h1 := fit.cnt
    have h2 := h.cnt
    rw [nums_len] at h1 h2
    exact absurd (by omega) hne⟩

theorem Fit.new : Fit [] 0 [] .nil := ⟨rfl, trivial, trivial, by simp [nums], by simp [nums], by simp, by decide, by simp [nums]⟩

theorem fresh0 {T : List Int} {made : Int} {fr : List Int} (m0 : 0 ≤ made) (nd : (T ++ fr).Nodup) (rng : ∀ j ∈ T ++ fr, 1 ≤ j ∧ j ≤ made) {n : Int} (hn : spN made fr = n) :
    (1 ≤ n ∧ n ≤ spM made fr ∧ n ∉ T ∧ n ∉ fr.dropLast) ∧ (T ++ fr.dropLast).Nodup ∧ (∀ j ∈ T ++ fr.dropLast, 1 ≤ j ∧ j ≤ made) ∧ made ≤ spM made fr ∧ spM made fr ≤ made + 1 := by
  rcases List.eq_nil_or_concat fr with rfl | ⟨fr', x, rfl⟩
  · have e : n = made + 1 := by rw [← hn]; rfl
    have e2 : spM made [] = made + 1 := rfl
    refine ⟨⟨by omega, by omega, fun hm => ?_, by simp⟩, by simpa using nd, by simpa using rng, by omega, by omega⟩
    have := (rng n (by simpa using hm)).2; omega
  · rw [List.concat_eq_append] at nd rng hn ⊢
    have e : n = x := by rw [← hn]; unfold spN; simp
    have e2 : spM made (fr' ++ [x]) = made := by unfold spM; rw [if_neg (by simp)]
    subst e
    rw [e2, List.dropLast_concat]
    have hr := rng n (by simp)
    have hnd := nd
    rw [← List.append_assoc, List.nodup_append] at hnd
    obtain ⟨n1, -, n3⟩ := hnd
    have hne : ∀ y ∈ T ++ fr', y ≠ n := fun y hy => n3 y hy n (by simp)
    refine ⟨⟨hr.1, hr.2, fun hm => hne n (List.mem_append_left _ hm) rfl, fun hm => hne n (List.mem_append_right _ hm) rfl⟩, n1, fun j hj => rng j ?_, by omega, by omega⟩
    rw [← List.append_assoc]; exact List.mem_append_left _ hj
theorem Fit.fresh {ms : List Int} {made : Int} {fr : List Int} {t : TrM.Tr} (h : Fit ms made fr t) {n : Int} (hn : spN made fr = n) :
    (1 ≤ n ∧ n ≤ spM made fr ∧ n ∉ nums ms (wd ms 0) t ∧ n ∉ fr.dropLast) ∧ (nums ms (wd ms 0) t ++ fr.dropLast).Nodup ∧ (∀ j ∈ nums ms (wd ms 0) t ++ fr.dropLast, 1 ≤ j ∧ j ≤ made) ∧ made ≤ spM made fr ∧ spM made fr ≤ made + 1 := fresh0 h.m0 h.nd h.rng hn
theorem spM_len (made : Int) (fr : List Int) : (fr.dropLast.length : Int) + made + 1 = spM made fr + fr.length := by
  unfold spM
  cases fr with
  | nil => rw [if_pos rfl]; simp
  | cons x l => rw [if_neg (by simp)]; simp; omega
theorem spM_room (made : Int) (fr : List Int) : spM made fr = made ∨ fr.dropLast = [] := by
  unfold spM
  by_cases h : fr = []
  · subst h; exact .inr rfl
  · rw [if_neg h]; exact .inl rfl

theorem putsP_len' {ms : List Int} {made made' : Int} (hl : (ms.length : Int) ≤ 4 * made + 4) (hm : made ≤ made') (m0 : 0 ≤ made) {ws : List (Nat × Int)} (h : ∀ y ∈ ws, (y.1 : Int) ≤ 4 * made' + 3) : ((putsP ms ws).length : Int) ≤ 4 * made' + 4 := by
  have := putsP_len (ms := ms) (B := (4 * made' + 4).toNat) (by omega) (ws := ws) (fun y hy => by have := h y hy; omega)
  omega

/-- the whole behind a change of a part -/
theorem Fit.put {ms : List Int} {made : Int} {fr : List Int} {t : TrM.Tr} {lk : Int} {s s' : TrM.Tr} {C : TrM.Tr → TrM.Tr} {rest : List Int} (h : Fit ms made fr t) (hC : Hole ms 0 t lk s C rest) (ws : List (Nat × Int)) {made' : Int} {fr' N S' : List Int}
    (hst : Stays ms (putsP ms ws) 0 (nums ms (wd ms 0) t) lk (nums ms (wd ms lk) s)) (hs' : Rp (putsP ms ws) (wd (putsP ms ws) lk) s') (hN : (nums (putsP ms ws) (wd (putsP ms ws) lk) s').Perm (N ++ S')) (hS : S'.Sublist (nums ms (wd ms lk) s))
    (hwf : TrM.WF (C s')) (hsl : Sl (C s')) (hnn : (N ++ fr').Nodup) (hno : ∀ j ∈ N ++ fr', (j ∈ nums ms (wd ms 0) t → j ∈ nums ms (wd ms lk) s ∧ j ∉ S' ) ∧ 1 ≤ j ∧ j ≤ made') (hm : made ≤ made') (hmost : ∀ y ∈ ws, (y.1 : Int) ≤ 4 * made' + 3) (hcnt : (N.length : Int) + S'.length + fr'.length + made = made' + (nums ms (wd ms lk) s).length + fr.length) :
    Fit (putsP ms ws) made' fr' (C s') := by
  obtain ⟨p1, p2⟩ := hC.put (putsP ms ws) s' hst hs'
  have hnd0 : (rest ++ nums ms (wd ms lk) s).Nodup := by
    have := h.nd
    rw [List.nodup_append] at this
    exact hC.nums.nodup_iff.1 this.1
  rw [List.nodup_append] at hnd0
  obtain ⟨q1, q2, q3⟩ := hnd0
  have perm : (nums (putsP ms ws) (wd (putsP ms ws) 0) (C s') ++ fr').Perm ((rest ++ S') ++ (N ++ fr')) := by
    refine (List.Perm.append_right _ (p2.trans (List.Perm.append_left _ hN))).trans ?_
    refine (List.Perm.append_right _ (List.Perm.append_left _ List.perm_append_comm)).trans ?_
    simp only [List.append_assoc]
    exact .refl _
  have nd1 : (rest ++ S').Nodup := List.nodup_append.2 ⟨q1, q2.sublist hS, fun a ha b hb => q3 a ha b (hS.subset hb)⟩
  have int : ∀ j, j ∈ rest ++ S' → j ∈ nums ms (wd ms 0) t := fun j hj => hC.nums.mem_iff.2 (by
    rcases List.mem_append.1 hj with h | h
    · exact List.mem_append_left _ h
    · exact List.mem_append_right _ (hS.subset h))
  refine ⟨p1, hwf, hsl, perm.nodup_iff.2 (List.nodup_append.2 ⟨nd1, hnn, fun a ha b hb e => ?_⟩), fun j hj => ?_, putsP_len' h.len hm h.m0 hmost, by have := h.m0; omega, ?_⟩
  · subst e
    obtain ⟨g1, g2⟩ := (hno a hb).1 (int a ha)
    rcases List.mem_append.1 ha with h | h
    · exact q3 a h a g1 rfl
    · exact g2 h
  · rcases List.mem_append.1 (perm.mem_iff.1 hj) with h1 | h1
    · have := h.rng j (List.mem_append_left _ (int j h1)); omega
    · exact (hno j h1).2
  · have e1 := p2.length_eq
    have e2 := hC.nums.length_eq
    have e3 := hN.length_eq
    have e4 := h.cnt
    simp only [List.length_append] at e1 e2 e3
    omega

theorem Hole.lk0 {ms : List Int} {made : Int} {fr : List Int} {t : TrM.Tr} {lk : Int} {s : TrM.Tr} {C : TrM.Tr → TrM.Tr} {rest : List Int} (hC : Hole ms 0 t lk s C rest) (h : Fit ms made fr t) : 0 ≤ lk ∧ lk ≤ 4 * made + 3 ∧ (lk = 0 ∨ ∃ j ∈ Fb.nums ms (wd ms 0) t, lk = j * 4 + 2 ∨ lk = j * 4 + 3) := by
  have m0 := h.m0
  rcases hC.at_ with ⟨e, -⟩ | ⟨j, hj, e⟩
  · exact ⟨by omega, by omega, .inl e⟩
  · have hjt : j ∈ Fb.nums ms (wd ms 0) t := hC.nums.mem_iff.2 (List.mem_append_left _ hj)
    have := h.rng j (List.mem_append_left _ hjt)
    exact ⟨by omega, by omega, .inr ⟨j, hjt, e⟩⟩

/-- ahead of the last write nobody is led astray: what is written is new -/
theorem ahead_of {ms : List Int} {t : TrM.Tr} (h : Rp ms (wd ms 0) t) (A : List (Nat × Int)) (z : Nat × Int) (hA : ∀ y ∈ A, ∃ p, 1 ≤ p ∧ p ∉ nums ms (wd ms 0) t ∧ p * 4 ≤ (y.1 : Int) ∧ (y.1 : Int) ≤ p * 4 + 3) :
    ∀ j, j < (A ++ [z]).length → Rp (putsP ms ((A ++ [z]).take j)) (wd (putsP ms ((A ++ [z]).take j)) 0) t := by
  intro j hj
  have hj' : j ≤ A.length := by simp at hj; omega
  rw [List.take_append_of_le_length hj']
  have off : ∀ x, 0 ≤ x → (x = 0 ∨ ∃ k ∈ nums ms (wd ms 0) t, k * 4 ≤ x ∧ x ≤ k * 4 + 3) → wd (putsP ms (A.take j)) x = wd ms x := fun x x0 hx => wd_off _ _ _ x0 (fun y hy e => by
    obtain ⟨p, p1, pn, pa, pb⟩ := hA y (List.mem_of_mem_take hy)
    rcases hx with rfl | ⟨k, hk, ka, kb⟩
    · omega
    · have : p = k := by omega
      exact pn (this ▸ hk))
  rw [off 0 (by decide) (.inl rfl)]
  exact (Rp.frame h (fun k hk i i0 i3 => off _ (by have := h.pos k hk; omega) (.inr ⟨k, hk, by omega, by omega⟩))).1

/-- a new node is laid at the link: a leaf, or over what stood there -/
theorem step_new {ms : List Int} {made : Int} {fr : List Int} {t : TrM.Tr} {ad len way : Int} {F lk : Nat} {la : Int} {s : TrM.Tr} {C : TrM.Tr → TrM.Tr} {rest : List Int} (h : Fit ms made fr t) (hC : Ctx ms ad len 0 0 t F (lk : Int) la s C rest) (hv : vld ad len = true) (a0 : 0 ≤ ad) (a1 : ad < 4294967296) (w1 : 1 ≤ way) (w2 : way ≤ 65535) {n : Int} (hn : spN made fr = n) (s0 s1 : Int) (l r : TrM.Tr)
    (hlr : (l = s ∧ r = .nil ∧ s0 = wd ms lk ∧ s1 = 0) ∨ (l = .nil ∧ r = s ∧ s0 = 0 ∧ s1 = wd ms lk)) (hins : TrM.ins s ad len way = .node ad len way true l r) :
    Step ms made t (TrM.ins t ad len way) (nodeWs n ad len way s0 s1 ++ [(lk, n)]) (spM made fr) fr.dropLast := by
  obtain ⟨⟨n1, n2, n3, n4⟩, nd, rng, g1, g2⟩ := h.fresh hn
  obtain ⟨k0, k1, k2⟩ := hC.lk0 h
  have m0 := h.m0
  have hpos := h.rp.pos
  have hlkn : ∀ x, n * 4 ≤ x → x ≤ n * 4 + 3 → x ≠ (lk : Int) := by
    intro x xa xb e
    rcases k2 with e2 | ⟨j, hj, e2⟩
    · omega
    · have : j = n := by omega
      exact n3 (this ▸ hj)
  have hsin : ∀ j, j ∈ nums ms (wd ms lk) s → j ∈ nums ms (wd ms 0) t := fun j hj => hC.nums.mem_iff.2 (List.mem_append_right _ hj)
  obtain ⟨ms', hms'⟩ : ∃ x, putsP ms (nodeWs n ad len way s0 s1 ++ [(lk, n)]) = x := ⟨_, rfl⟩
  have wd' : ∀ x, 0 ≤ x → wd ms' x = if x = lk then n else if x = n * 4 + 3 then s1 else if x = n * 4 + 2 then s0 else if x = n * 4 + 1 then ad else if x = n * 4 then len * 65536 + way else wd ms x := fun x x0 => by
    rw [← hms', wd_last _ _ _ _ _ x0, wd_node _ _ _ _ _ _ _ (by omega) _ x0]
  have off : ∀ x, 0 ≤ x → (x = 0 ∨ ∃ j ∈ nums ms (wd ms 0) t, j * 4 ≤ x ∧ x ≤ j * 4 + 3) → x ≠ lk → wd ms' x = wd ms x := by
    intro x x0 hx hne
    have hx2 : ¬ (n * 4 ≤ x ∧ x ≤ n * 4 + 3) := by
      rintro ⟨xa, xb⟩
      rcases hx with rfl | ⟨j, hj, ja, jb⟩
      · omega
      · have : j = n := by omega
        exact n3 (this ▸ hj)
    rw [wd' x x0, if_neg hne, if_neg (by omega), if_neg (by omega), if_neg (by omega), if_neg (by omega)]
  have elk : wd ms' lk = n := by rw [wd' _ k0, if_pos rfl]
  have e0 : wd ms' (n * 4) = len * 65536 + way := by rw [wd' _ (by omega), if_neg (hlkn _ (by omega) (by omega)), if_neg (by omega), if_neg (by omega), if_neg (by omega), if_pos rfl]
  have e1 : wd ms' (n * 4 + 1) = ad := by rw [wd' _ (by omega), if_neg (hlkn _ (by omega) (by omega)), if_neg (by omega), if_neg (by omega), if_pos rfl]
  have e2 : wd ms' (n * 4 + 2) = s0 := by rw [wd' _ (by omega), if_neg (hlkn _ (by omega) (by omega)), if_neg (by omega), if_pos rfl]
  have e3 : wd ms' (n * 4 + 3) = s1 := by rw [wd' _ (by omega), if_neg (hlkn _ (by omega) (by omega)), if_pos rfl]
  have hlks : ∀ j ∈ nums ms (wd ms lk) s, ∀ i : Int, 0 ≤ i → i ≤ 3 → j * 4 + i ≠ lk := by
    intro j hj i i0 i3 e
    have hj1 := hpos j (hsin j hj)
    rcases hC.at_ with ⟨e2, -⟩ | ⟨p, hp, e2⟩
    · omega
    · have : p = j := by omega
      have hnd := h.nd
      rw [List.nodup_append] at hnd
      have := (List.nodup_append.1 (hC.nums.nodup_iff.1 hnd.1)).2.2 p hp j hj
      exact this (by omega)
  have fs := Rp.frame (ms' := ms') hC.rp (fun j hj i i0 i3 => off _ (by have := hpos j (hsin j hj); omega) (.inr ⟨j, hsin j hj, by omega, by omega⟩) (hlks j hj i i0 i3))
  have hrs : Rp ms' (wd ms' lk) (.node ad len way true l r) := by
    rw [elk]
    refine ⟨⟨n1, e0, e1, by omega, w2, ⟨fun _ => by omega, fun _ => rfl⟩⟩, ?_, ?_⟩
    · rw [e2]
      rcases hlr with ⟨rfl, rfl, rfl, rfl⟩ | ⟨rfl, rfl, rfl, rfl⟩
      · exact fs.1
      · rfl
    · rw [e3]
      rcases hlr with ⟨rfl, rfl, rfl, rfl⟩ | ⟨rfl, rfl, rfl, rfl⟩
      · rfl
      · exact fs.1
  have hnums : (nums ms' (wd ms' lk) (.node ad len way true l r)).Perm ([n] ++ nums ms (wd ms lk) s) := by
    rw [elk]
    show (n :: (nums ms' (wd ms' (n * 4 + 2)) l ++ nums ms' (wd ms' (n * 4 + 3)) r)).Perm _
    rw [e2, e3]
    rcases hlr with ⟨rfl, rfl, rfl, rfl⟩ | ⟨rfl, rfl, rfl, rfl⟩
    · rw [fs.2]; simp [nums]
    · rw [fs.2]; simp [nums]
  have hC2 := hC.ins way
  rw [hins] at hC2
  have most : ∀ y ∈ nodeWs n ad len way s0 s1 ++ [(lk, n)], (y.1 : Int) ≤ 4 * spM made fr + 3 := by
    intro y hy
    rcases List.mem_append.1 hy with hy | hy
    · have := node_at (by omega) y hy; omega
    · simp at hy; subst hy; show (lk : Int) ≤ _; omega
  refine Step.of h ?_ ?_ most (by simp [nodeWs]) ⟨g1, by omega⟩ (spM_room made fr) (by have := spM_len made fr; omega)
  · rw [hC2]
    refine h.put hC.toHole _ (N := [n]) (S' := nums ms (wd ms lk) s) ?_ (by rw [hms']; exact hrs) (by rw [hms']; exact hnums) (List.Sublist.refl _) (by rw [← hC2]; exact TrM.wf_ins h.wf hv a0 a1) (by rw [← hC2]; exact sl_ins h.sl) ?_ ?_ g1 most (by have := spM_len made fr; simp only [List.length_cons, List.length_nil]; omega)
    · intro x hx hne _
      rw [hms']
      have x0 : 0 ≤ x := by
        rcases hx with rfl | ⟨j, hj, ja, jb⟩
        · decide
        · have := hpos j hj; omega
      exact off x x0 hx hne
    · rw [List.nodup_append] at nd
      exact List.nodup_cons.2 ⟨n4, nd.2.1⟩
    · intro j hj
      simp only [List.cons_append, List.nil_append, List.mem_cons] at hj
      rcases hj with rfl | hj
      · exact ⟨fun h => absurd h n3, n1, n2⟩
      · have := rng j (List.mem_append_right _ hj)
        refine ⟨fun hm => ?_, this.1, by omega⟩
        rw [List.nodup_append] at nd
        exact absurd rfl (nd.2.2 j hm j hj)
  · exact ahead_of h.rp _ _ (fun y hy => ⟨n, n1, n3, node_at (by omega) y hy⟩)

theorem Hole.apart {ms : List Int} {made : Int} {fr : List Int} {t : TrM.Tr} {lk : Int} {s : TrM.Tr} {C : TrM.Tr → TrM.Tr} {rest : List Int} (hC : Hole ms 0 t lk s C rest) (h : Fit ms made fr t) : (∀ j, j ∈ Fb.nums ms (wd ms lk) s → j ∈ Fb.nums ms (wd ms 0) t) ∧ (∀ j ∈ Fb.nums ms (wd ms lk) s, ∀ i : Int, 0 ≤ i → i ≤ 3 → j * 4 + i ≠ lk) ∧ (Fb.nums ms (wd ms lk) s).Nodup := by
  have hsin : ∀ j, j ∈ Fb.nums ms (wd ms lk) s → j ∈ Fb.nums ms (wd ms 0) t := fun j hj => hC.nums.mem_iff.2 (List.mem_append_right _ hj)
  have hnd := h.nd
  rw [List.nodup_append] at hnd
  have hnd2 := List.nodup_append.1 (hC.nums.nodup_iff.1 hnd.1)
  refine ⟨hsin, ?_, hnd2.2.1⟩
  intro j hj i i0 i3 e
  have hj1 := h.rp.pos j (hsin j hj)
  rcases hC.at_ with ⟨e2, -⟩ | ⟨p, hp, e2⟩
  · omega
  · exact hnd2.2.2 p hp j hj (by omega)

/-- a node's way turns -/
theorem step_turn {ms : List Int} {made : Int} {fr : List Int} {t : TrM.Tr} {lk : Int} {b m u v : Int} {hh h' : Bool} {l r : TrM.Tr} {C : TrM.Tr → TrM.Tr} {rest : List Int} (h : Fit ms made fr t) (hC : Hole ms 0 t lk (.node b m u hh l r) C rest) (v0 : 0 ≤ v) (v1 : v ≤ 65535) (hv : h' = true ↔ v ≠ 0) (hvu : u ≠ v) {th : Int} (hth : wd ms lk = th)
    (hwf : TrM.WF (C (.node b m v h' l r))) (hsl : Sl (C (.node b m v h' l r))) :
    Step ms made t (C (.node b m v h' l r)) [((th * 4).toNat, m * 65536 + v)] made fr := by
  obtain ⟨hsin, hlks, hnds⟩ := hC.apart h
  obtain ⟨k0, k1, k2⟩ := hC.lk0 h
  have hpos := h.rp.pos
  have hrp := hC.rp
  rw [hth] at hrp hsin hlks hnds
  obtain ⟨⟨g0, g1, g2, g3, g4, g5⟩, hl, hr⟩ := hrp
  have e4 : (((th * 4).toNat : Nat) : Int) = th * 4 := by omega
  have hthin : th ∈ nums ms th (.node b m u hh l r) := by simp [nums]
  have hthr := h.rng th (List.mem_append_left _ (hsin th hthin))
  obtain ⟨ms', hms'⟩ : ∃ x, putsP ms [((th * 4).toNat, m * 65536 + v)] = x := ⟨_, rfl⟩
  have wd' : ∀ x, 0 ≤ x → wd ms' x = if x = th * 4 then m * 65536 + v else wd ms x := fun x x0 => by
    rw [← hms']; show wd (putP ms _ _) x = _; rw [wd_put _ _ _ _ x0, e4]
  have off : ∀ x, 0 ≤ x → x ≠ th * 4 → wd ms' x = wd ms x := fun x x0 hne => by rw [wd' x x0, if_neg hne]
  have elk : wd ms' lk = th := by rw [off lk k0 (fun e => hlks th hthin 0 (by decide) (by decide) (by omega)), hth]
  simp only [nums, List.nodup_cons, List.mem_append, not_or] at hnds
  have fl := Rp.frame (ms' := ms') hl (fun j hj i i0 i3 => off _ (by have := hl.pos j hj; omega) (fun e => hnds.1.1 ((show j = th by omega) ▸ hj)))
  have fr' := Rp.frame (ms' := ms') hr (fun j hj i i0 i3 => off _ (by have := hr.pos j hj; omega) (fun e => hnds.1.2 ((show j = th by omega) ▸ hj)))
  have hrs : Rp ms' (wd ms' lk) (.node b m v h' l r) := by
    rw [elk]
    refine ⟨⟨g0, by rw [wd' _ (by omega), if_pos rfl], by rw [off _ (by omega) (by omega)]; exact g2, v0, v1, hv⟩, ?_, ?_⟩
    · rw [off _ (by omega) (by omega)]; exact fl.1
    · rw [off _ (by omega) (by omega)]; exact fr'.1
  have hnums : nums ms' (wd ms' lk) (.node b m v h' l r) = nums ms (wd ms lk) (.node b m u hh l r) := by
    rw [elk, hth]
    show th :: _ = th :: _
    rw [off (th * 4 + 2) (by omega) (by omega), off (th * 4 + 3) (by omega) (by omega), fl.2, fr'.2]
  have most : ∀ y ∈ [((th * 4).toNat, m * 65536 + v)], (y.1 : Int) ≤ 4 * made + 3 := by
    intro y hy; simp at hy; subst hy; show (((th * 4).toNat : Nat) : Int) ≤ _; omega
  have hnd := h.nd
  rw [List.nodup_append] at hnd
  refine ⟨?_, ?_, most, by simp, ⟨by omega, by omega⟩, .inl rfl, fun e => ?_⟩
  · refine h.put hC _ (N := []) (S' := nums ms (wd ms lk) (.node b m u hh l r)) ?_ (by rw [hms']; exact hrs) (by rw [hms', hnums]; exact .refl _) (List.Sublist.refl _) hwf hsl hnd.2.1 ?_ (by omega) most (by simp only [List.length_nil]; omega)
    · intro x hx hne hno
      rw [hms']
      have x0 : 0 ≤ x := by
        rcases hx with rfl | ⟨j, hj, ja, jb⟩
        · decide
        · have := hpos j hj; omega
      refine off x x0 (fun e => hno th (by rw [hth]; exact hthin) ?_)
      omega
    · intro j hj
      have := h.rng j (List.mem_append_right _ hj)
      exact ⟨fun hm => absurd rfl (hnd.2.2 j hm j hj), this⟩
  · exact ahead_of h.rp [] _ (fun y hy => by cases hy)
  · have e2 := hC.inj _ _ (e.trans hC.is.symm)
    cases e2
    exact absurd rfl hvu
end Go.Proofs.Ytjhdjbhpofhiaab.Fb
