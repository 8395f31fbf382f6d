/- A front in memory: advance. -/
import Derived.Test.YtagfdmkgnedlbagPoG
namespace Go.Proofs.Ytagfdmkgnedlbag.Po
open Go.ChangeShapes Go.WideShapes Go.ChangeAt Go.RowKit Go.Joins Go.Proofs.Ytagfdmkgnedlbag.Ge
set_option linter.unusedVariables false

theorem OwnL.takeN {α : Type} {E : El α} {N n m c : Nat} {w : World} {a : Option Addr} {xs : List α} (h : OwnL E N w (.slice a m c) xs) (hn : n ≤ m) (h0 : a = none → n = 0 ∧ c = 0) : OwnL E N w (.slice a n c) (xs.take n) := by
  rcases h.row.2 with ⟨h1, h2⟩ | ⟨g, c', cur, h1, h2, h3, h4, h5, h6, h7⟩
  · cases h1
    have : n = 0 := by omega
    subst this
    simp
    exact OwnL.nil _ _ _
  · cases h1
    have hl : (xs.take n).length = n := by rw [List.length_take]; omega
    refine ⟨cs_len _ _, .inr ⟨g, c, cur, by rw [hl], h2, h3, by omega, h5, h6, ?_⟩⟩
    rw [hl]
    have e1 : cur.toList.take (n * E.k) = (cur.toList.take (xs.length * E.k)).take (n * E.k) := by
      rw [List.take_take, Nat.min_eq_left (Nat.mul_le_mul_right _ hn)]
    have e2 : E.cs xs = E.cs (xs.take n) ++ E.cs (xs.drop n) := by rw [← cs_app, List.take_append_drop]
    rw [e1, h7, e2]
    have e3 : (E.cs (xs.take n)).length = n * E.k := by rw [cs_len, hl]
    rw [← e3]
    exact List.take_left
/-- a statement whose ways all end in one frame and one world -/
theorem wp_meet {P : Program} {c : Code} {Q : Exit → Act → World → Prop} {a : Act} {w : World} (A : Act) (W : World) (h1 : c.wp P (fun e a' w' => e = .normal ∧ a' = A ∧ w' = W) a w) (h2 : Q .normal A W) : c.wp P Q a w :=
  Code.wp_mono (fun e a' w' h => by obtain ⟨rfl, rfl, rfl⟩ := h; exact h2) h1
/-- the front goes over to what it had spared -/
theorem fm_swap {N : Nat} {w W : World} {bf : Nat} {sv : Value} {A P : List Nat} {C : List Int} {n m : Int} {oa op oc : Option Nat} {av cv : Value} {a : Option Addr} {l c : Nat} (h : Fm N w bf sv A P C n oa op oc) (hv : w.heap[bf]? = some (Obj.cells #[sv, av, .slice a l c, cv, .int .i64 n] 45)) (hW : W.heap[bf]? = some (Obj.cells #[sv, .slice a 0 c, av, cv, .int .i64 m] 45)) (hk : ∀ b, b ≠ bf → W.heap[b]? = w.heap[b]?) : Fm N W bf sv [] A C m op oa oc := by
  obtain ⟨av0, pv0, cv0, e0, h2, h3, h4, h5, h6, h7⟩ := h.box
  rw [hv] at e0
  simp only [Option.some.injEq, Obj.cells.injEq, Array.mk.injEq, List.cons.injEq, and_true, true_and] at e0
  obtain ⟨rfl, rfl, rfl⟩ := e0
  have h3' : OwnL EI N w (.slice a 0 c) (ia []) := by
    obtain ⟨a', c', e, -, hn, -⟩ := h3.form
    cases e
    have := OwnL.takeN h3 (Nat.zero_le _) (fun e => ⟨rfl, (hn e).2⟩)
    simpa [ia] using this
  have hne : ∀ (o : Option Nat), ¬ o = some bf → ∀ g, o = some g → W.heap[g]? = w.heap[g]? := fun o ho g e => hk g (fun e2 => ho (by rw [e, e2]))
  have h6' : (Value.slice a 0 c).ownBlock = op := by
    rw [← h6]
    cases a with
    | none => rfl
    | some ad => rfl
  exact ⟨⟨_, _, _, hW, h3'.blk (hne _ (by rw [h6']; exact h.np)), h2.blk (hne _ (by rw [h5]; exact h.na)), h4.blk (hne _ (by rw [h7]; exact h.nc)), h6', h5, h7⟩, h.np, h.na, h.nc, fun g e1 e2 => h.ap g e2 e1, h.pc, h.ac, h.lo⟩
/-- what a front has spared, as a list in memory -/
theorem Fm.sp {N : Nat} {w : World} {bf : Nat} {sv : Value} {A P : List Nat} {C : List Int} {n : Int} {oa op oc : Option Nat} (h : Fm N w bf sv A P C n oa op oc) : ∃ a c, w.cell? ⟨bf, 0, none⟩ = some sv ∧ w.cell? ⟨bf, 2, none⟩ = some (.slice a P.length c) ∧ ∀ i (hi : i < P.length), ∃ g, op = some g ∧ a = some ⟨g, 0, none⟩ ∧ g < w.heap.size ∧ w.cell? ⟨g, i, none⟩ = some (.int .i64 ((P[i] : Nat) : Int)) := by
  obtain ⟨av, pv, cv, h1, -, h2, -, -, h6, -⟩ := h.box
  obtain ⟨a, c, rfl, -, hn, hb⟩ := h2.form
  rw [ia_len] at h1 h2
  refine ⟨a, c, (box_at h1).1, (box_at h1).1, fun i hi => ?_⟩
  obtain ⟨b, o, e, hl, hc⟩ := h2.lst.1.cells i (by rw [ia_len]; exact hi)
  obtain ⟨rfl, -, -⟩ := hb b o e
  refine ⟨b, by rw [← h6, e]; rfl, e, hl, ?_⟩
  have := hc 0 (by decide)
  have e0 : 0 + i * EI.k + 0 = i := by show 0 + i * 1 + 0 = i; omega
  rw [e0] at this
  rw [this]
  simp [EI, ia]
/-- how far going on has come -/
structure AI (N : Nat) (bf : Nat) (sv : Value) (T : List St) (A : List Nat) (n x : Int) (oa oc : Option Nat) (w : World) (j : Nat) (B : List Nat) (C' : List Int) (ob : Option Nat) (wr : World) : Prop where
  fm : Fm N wr bf sv B A C' n ob oa oc
  fi : Fi T.length n B C'
  mem : ∀ a : Nat, a ∈ B ↔ ∃ s ∈ A.take j, ∃ q, T[s]? = some q ∧ Leads q x ∧ (a : Int) = q.t
  bel : Below N w wr
theorem AI.skip {N : Nat} {bf : Nat} {sv : Value} {T : List St} {A : List Nat} {n x : Int} {oa oc : Option Nat} {w : World} {j : Nat} {B : List Nat} {C' : List Int} {ob : Option Nat} {wr W : World} (h : AI N bf sv T A n x oa oc w j B C' ob wr) (hj : j < A.length) {q : St} (hq : T[A[j]]? = some q) (hk : ¬ Leads q x) (hW : Below wr.heap.size wr W) : AI N bf sv T A n x oa oc w (j + 1) B C' ob W :=
  ⟨h.fm.bel hW, h.fi, fun a => by
    rw [h.mem a, List.take_succ_eq_append_getElem hj]
    constructor
    · rintro ⟨s, hs, r⟩
      exact ⟨s, List.mem_append_left _ hs, r⟩
    · rintro ⟨s, hs, r, hr, hl, ht⟩
      rcases List.mem_append.1 hs with hs | hs
      · exact ⟨s, hs, r, hr, hl, ht⟩
      · rw [List.mem_singleton.1 hs, hq] at hr
        cases hr
        exact absurd hl hk, h.bel.trans (hW.mono (by have h1 := h.fm.lo; have h2 := h.fm.lt; omega))⟩
theorem AI.go {N : Nat} {bf : Nat} {sv : Value} {T : List St} {A : List Nat} {n x : Int} {oa oc : Option Nat} {w : World} {j : Nat} {B B2 : List Nat} {C' C2 : List Int} {ob ob2 : Option Nat} {wr W : World} (h : AI N bf sv T A n x oa oc w j B C' ob wr) (hj : j < A.length) {q : St} (hq : T[A[j]]? = some q) (hk : Leads q x) {t : Nat} (ht : (t : Int) = q.t) (hfm : Fm N W bf sv B2 A C2 n ob2 oa oc) (hfi : Fi T.length n B2 C2) (hmem : ∀ s, s ∈ B2 ↔ s ∈ B ∨ s = t) (hW : Below N wr W) : AI N bf sv T A n x oa oc w (j + 1) B2 C2 ob2 W :=
  ⟨hfm, hfi, fun a => by
    rw [hmem a, h.mem a, List.take_succ_eq_append_getElem hj]
    constructor
    · rintro (⟨s, hs, r⟩ | rfl)
      · exact ⟨s, List.mem_append_left _ hs, r⟩
      · exact ⟨A[j], List.mem_append_right _ (List.mem_singleton.2 rfl), q, hq, hk, ht⟩
    · rintro ⟨s, hs, r, hr, hl, e⟩
      rcases List.mem_append.1 hs with hs | hs
      · exact .inl ⟨s, hs, r, hr, hl, e⟩
      · rw [List.mem_singleton.1 hs, hq] at hr
        cases hr
        exact .inr (by omega), h.bel.trans hW⟩
/-- what going on by a number leaves -/
def Ap (N : Nat) (bf : Nat) (sv : Value) (T : List St) (A : List Nat) (n x : Int) (oc : Option Nat) (w : World) (e : Ending) (w' : World) : Prop :=
  (∃ u, e = .returned u) ∧ ∃ A' P' C' oa' op' B, Fm N w' bf sv A' P' C' n oa' op' oc ∧ Fi T.length n A' C' ∧ (∀ a : Nat, a ∈ B ↔ ∃ s ∈ A, ∃ q, T[s]? = some q ∧ Leads q x ∧ (a : Int) = q.t) ∧ Spr T B A' ∧ Below N w w'
set_option maxRecDepth 100000 in
set_option maxHeartbeats 4000000 in
theorem advance_any (N bf : Nat) (aS : Option Addr) (cS : Nat) (T : List St) (A P : List Nat) (C : List Int) (n x : Int) (oa op oc : Option Nat) (hL : T.length ≤ 1099511627775) (hn0 : 0 ≤ n) (hn : n < 4611686018427387904) (w : World) (h : Fm N w bf (.slice aS T.length cS) A P C n oa op oc) (hF : Fi T.length n A C) (hT : Ts N w aS T) :
    Calls Try.prog 18 #[.pointer (some ⟨bf, 0, none⟩), .int .i64 x] w (Ap N bf (.slice aS T.length cS) T A (n + 1) x oc w) := by
  have H : Hid (Fm N w bf (.slice aS T.length cS) A P C n oa op oc) := h
  have HF : Hid (Fi T.length n A C) := hF
  have HT : Hid (Ts N w aS T) := hT
  obtain ⟨L, hLe⟩ : ∃ L, T.length = L := ⟨_, rfl⟩
  rw [hLe] at H HF hL ⊢
  clear h hF hT
  obtain ⟨av, pv, cv, hv, hA, hP, hC, hoa, hop, hoc⟩ := H.out.box
  obtain ⟨aa, ca, rfl, -⟩ := hA.form
  obtain ⟨ap, cp, rfl, hpc, hpn, -⟩ := hP.form
  have HAA : Hid (∀ g, oa = some g → 0 < A.length → aa = some ⟨g, 0, none⟩) := fun g e hp => by
    obtain ⟨b, o, e1, -⟩ := hA.lst.1.cells 0 (by rw [ia_len]; exact hp)
    obtain ⟨a', c', e2, -, -, hb⟩ := hA.form
    cases e2
    obtain ⟨rfl, -, -⟩ := hb b o e1
    rw [e1] at hoa ⊢
    rw [← hoa] at e
    cases e
    rfl
  rw [ia_len] at hv
  rw [ia_len] at hv
  obtain ⟨al, hal⟩ : ∃ l, A.length = l := ⟨_, rfl⟩
  obtain ⟨pl, hpl⟩ : ∃ l, P.length = l := ⟨_, rfl⟩
  rw [hal, hpl] at hv
  have HV : Hid (w.heap[bf]? = some (Obj.cells #[.slice aS L cS, .slice aa al ca, .slice ap pl cp, cv, .int .i64 n] 45)) := hv
  have b1 : w.cell? ⟨bf, 1, none⟩ = some (.slice aa al ca) := (box_at hv).1
  have b2 : w.cell? ⟨bf, 2, none⟩ = some (.slice ap pl cp) := (box_at hv).1
  have b4 : w.cell? ⟨bf, 4, none⟩ = some (.int .i64 n) := (box_at hv).1
  have z1 : w.frozen? ⟨bf, 1, none⟩ = false := (box_at hv (i := 1)).2
  have z2 : w.frozen? ⟨bf, 2, none⟩ = false := (box_at hv (i := 2)).2
  have z4 : w.frozen? ⟨bf, 4, none⟩ = false := (box_at hv (i := 4)).2
  go_enter Try.func18, Try.ntmps18
  go_wp2_with fail
  obtain ⟨wD, hwD⟩ : ∃ wD, w.drew = wD := ⟨_, rfl⟩
  have HVD : Hid (wD.heap[bf]? = some (Obj.cells #[.slice aS L cS, .slice aa al ca, .slice ap pl cp, cv, .int .i64 n] 45)) := by rw [← hwD]; exact hv
  have HDD : Hid (Below w.heap.size w wD) := by rw [← hwD]; exact drewB w
  clear hv hC hoc hA hP hoa hop
  apply wp_meet
  case h1 =>
    refine wp_region_held_drew (S := fun _ => True) (by kernel_rfl) trivial (fun hHeld => ?_)
    rw [hwD]
    have c1 : wD.cell? ⟨bf, 1, none⟩ = some (.slice aa al ca) := by rw [← hwD]; exact b1
    have c2 : wD.cell? ⟨bf, 2, none⟩ = some (.slice ap pl cp) := by rw [← hwD]; exact b2
    have y1 : wD.frozen? ⟨bf, 1, none⟩ = false := by rw [← hwD]; exact z1
    have y2 : wD.frozen? ⟨bf, 2, none⟩ = false := by rw [← hwD]; exact z2
    have q2 : ∀ v, (wD.setCell ⟨bf, 1, none⟩ v).cell? ⟨bf, 2, none⟩ = some (.slice ap pl cp) := fun v => by rw [← hwD]; exact (box_at (box_set (w := w.drew) HV.out v)).1
    have q3 : ∀ v, (wD.setCell ⟨bf, 1, none⟩ v).frozen? ⟨bf, 2, none⟩ = false := fun v => by rw [← hwD]; exact (box_at (i := 2) (box_set (w := w.drew) HV.out v)).2
    refine wpAnyH_take (i := 0) (v := ?_) rfl (by kernel_rfl) (by kernel_rfl) (by kernel_rfl) (fun _ _ _ h => by cases h.1) (Or.inl ⟨by rfl, ?_⟩) (by assumption) ?_
    case refine_2 => intro W hSw; go_simp; try rfl
    try simp only [Act.put, List.getElem_toArray, List.getElem_cons_zero, List.setIfInBounds_toArray, List.set_cons_zero, List.set_cons_succ]
    refine wpAnyH_take (i := 1) (v := ?_) rfl (by kernel_rfl) (by kernel_rfl) (by kernel_rfl) (fun _ _ _ h => by cases h.1) (Or.inl ⟨by rfl, ?_⟩) (by assumption) ?_
    case refine_2 => intro W hSw; go_simp; try rfl
    try simp only [Act.put, List.getElem_toArray, List.getElem_cons_zero, List.getElem_cons_succ, List.setIfInBounds_toArray, List.set_cons_zero, List.set_cons_succ]
    refine wpAnyH_take (i := 2) (v := ?_) rfl (by kernel_rfl) (by kernel_rfl) (by kernel_rfl) (fun _ _ _ h => by cases h.1) (Or.inl ⟨by rfl, ?_⟩) (by assumption) ?_
    case refine_2 => intro W hSw; go_simp; try rfl
    try simp only [Act.put, List.getElem_toArray, List.getElem_cons_zero, List.getElem_cons_succ, List.setIfInBounds_toArray, List.set_cons_zero, List.set_cons_succ]
    refine wpAnyH_take (i := 3) (v := ?_) rfl (by kernel_rfl) (by kernel_rfl) (by kernel_rfl) (fun _ _ _ h => by cases h.1) (Or.inl ⟨by rfl, ?_⟩) (by assumption) ?_
    case refine_2 => intro W hSw; go_simp; try rfl
    try simp only [Act.put, List.getElem_toArray, List.getElem_cons_zero, List.getElem_cons_succ, List.setIfInBounds_toArray, List.set_cons_zero, List.set_cons_succ]
    refine wpAnyH_take (i := 4) (v := ?_) rfl (by kernel_rfl) (by kernel_rfl) (by kernel_rfl) (fun _ _ _ h => by cases h.1) (Or.inl ⟨by rfl, ?_⟩) (by assumption) ?_
    case refine_2 => intro W hSw; go_simp; try rfl
    try simp only [Act.put, List.getElem_toArray, List.getElem_cons_zero, List.getElem_cons_succ, List.setIfInBounds_toArray, List.set_cons_zero, List.set_cons_succ]
    refine wpAnyH_take (i := 7) (v := ?_) rfl (by kernel_rfl) (by kernel_rfl) (by kernel_rfl) (fun _ _ _ h => by cases h.1) (Or.inl ⟨by rfl, ?_⟩) (by assumption) ?_
    case refine_2 => intro W hSw; go_simp; try rfl
    try simp only [Act.put, List.getElem_toArray, List.getElem_cons_zero, List.getElem_cons_succ, List.setIfInBounds_toArray, List.set_cons_zero, List.set_cons_succ]
    refine wpAnyH_take (i := 8) (v := ?_) rfl (by kernel_rfl) (by kernel_rfl) (by kernel_rfl) (fun _ _ _ h => by cases h.1) (Or.inl ⟨by rfl, ?_⟩) (by assumption) ?_
    case refine_2 => intro W hSw; go_simp; try rfl
    try simp only [Act.put, List.getElem_toArray, List.getElem_cons_zero, List.getElem_cons_succ, List.setIfInBounds_toArray, List.set_cons_zero, List.set_cons_succ]
    refine wpAnyH_take (i := 9) (v := ?_) rfl (by kernel_rfl) (by kernel_rfl) (by kernel_rfl) (fun _ _ _ h => by cases h.1) (Or.inl ⟨by rfl, ?_⟩) (by assumption) ?_
    case refine_2 => intro W hSw; go_simp; try rfl
    try simp only [Act.put, List.getElem_toArray, List.getElem_cons_zero, List.getElem_cons_succ, List.setIfInBounds_toArray, List.set_cons_zero, List.set_cons_succ]
    refine wpAnyH_ready (rs := [5, 10]) (by kernel_rfl) (by simp) ?_
    refine AllReadyH.cons rfl (fun K hK => ?_) (AllReadyH.cons rfl (fun K hK => ?_) (AllReadyH.nil))
    · go_simp
      refine hK.out _ _ trivial (fun hHeld => ?_)
      clear hK K
      try simp only [Act.put, List.getElem_toArray, List.getElem_cons_zero, List.getElem_cons_succ, List.setIfInBounds_toArray, List.set_cons_zero, List.set_cons_succ]
      refine wpAnyH_take (i := 6) (v := ?_) rfl (by kernel_rfl) (by kernel_rfl) (by kernel_rfl) (fun _ _ _ h => by cases h.1) (Or.inl ⟨by rfl, ?_⟩) (by assumption) ?_
      case refine_2 => intro W hSw; go_simp; try rfl
      try simp only [Act.put, List.getElem_toArray, List.getElem_cons_zero, List.getElem_cons_succ, List.setIfInBounds_toArray, List.set_cons_zero, List.set_cons_succ]
      refine wpAnyH_ready (rs := [10]) (by kernel_rfl) (by simp) ?_
      refine AllReadyH.cons rfl (fun K hK => ?_) (AllReadyH.nil)
      go_simp
      refine hK.out _ _ trivial (fun hHeld => ?_)
      clear hK K
      try simp only [Act.put, List.getElem_toArray, List.getElem_cons_zero, List.getElem_cons_succ, List.setIfInBounds_toArray, List.set_cons_zero, List.set_cons_succ]
      refine wpAnyH_take (i := 11) (v := ?_) rfl (by kernel_rfl) (by kernel_rfl) (by kernel_rfl) (fun _ _ _ h => by cases h.1) (Or.inl ⟨by rfl, ?_⟩) (by assumption) ?_
      case refine_2 => intro W hSw; go_simp; try rfl
      try simp only [Act.put, List.getElem_toArray, List.getElem_cons_zero, List.getElem_cons_succ, List.setIfInBounds_toArray, List.set_cons_zero, List.set_cons_succ]
      refine wpAnyH_take (i := 12) (v := ?_) rfl (by kernel_rfl) (by kernel_rfl) (by kernel_rfl) (fun _ _ _ h => by cases h.1) (Or.inl ⟨by rfl, ?_⟩) (by assumption) ?_
      case refine_2 => intro W hSw; go_simp; try rfl
      try simp only [Act.put, List.getElem_toArray, List.getElem_cons_zero, List.getElem_cons_succ, List.setIfInBounds_toArray, List.set_cons_zero, List.set_cons_succ]
      refine wpAnyH_ready (rs := [13]) (by kernel_rfl) (by simp) ?_
      refine AllReadyH.cons rfl (fun K hK => ?_) (AllReadyH.nil)
      go_simp
      refine hK.out _ _ trivial (fun hHeld => ?_)
      clear hK K
      try simp only [Act.put, List.getElem_toArray, List.getElem_cons_zero, List.getElem_cons_succ, List.setIfInBounds_toArray, List.set_cons_zero, List.set_cons_succ]
      refine wpAnyH_take (i := 14) (v := ?_) rfl (by kernel_rfl) (by kernel_rfl) (by kernel_rfl) (fun _ _ _ h => by cases h.1) (Or.inl ⟨by rfl, ?_⟩) (by assumption) ?_
      case refine_2 => intro W hSw; go_simp; try rfl
      try simp only [Act.put, List.getElem_toArray, List.getElem_cons_zero, List.getElem_cons_succ, List.setIfInBounds_toArray, List.set_cons_zero, List.set_cons_succ]
      refine wpAnyH_take (i := 15) (v := ?_) rfl (by kernel_rfl) (by kernel_rfl) (by kernel_rfl) (fun _ _ _ h => by cases h.1) (Or.inl ⟨by rfl, ?_⟩) (by assumption) ?_
      case refine_2 => intro W hSw; go_simp; try rfl
      try simp only [Act.put, List.getElem_toArray, List.getElem_cons_zero, List.getElem_cons_succ, List.setIfInBounds_toArray, List.set_cons_zero, List.set_cons_succ]
      refine wpAnyH_ready (rs := [16]) (by kernel_rfl) (by simp) ?_
      refine AllReadyH.cons rfl (fun K hK => ?_) (AllReadyH.nil)
      go_simp
      refine hK.out _ _ trivial (fun hHeld => ?_)
      clear hK K
      try simp only [Act.put, List.getElem_toArray, List.getElem_cons_zero, List.getElem_cons_succ, List.setIfInBounds_toArray, List.set_cons_zero, List.set_cons_succ]
      refine wpAnyH_done (by kernel_rfl) ?_ _
      exact ⟨rfl, rfl, rfl⟩
    · go_simp
      refine hK.out _ _ trivial (fun hHeld => ?_)
      clear hK K
      try simp only [Act.put, List.getElem_toArray, List.getElem_cons_zero, List.getElem_cons_succ, List.setIfInBounds_toArray, List.set_cons_zero, List.set_cons_succ]
      refine wpAnyH_ready (rs := [5]) (by kernel_rfl) (by simp) ?_
      refine AllReadyH.cons rfl (fun K hK => ?_) (AllReadyH.nil)
      go_simp
      refine hK.out _ _ trivial (fun hHeld => ?_)
      clear hK K
      try simp only [Act.put, List.getElem_toArray, List.getElem_cons_zero, List.getElem_cons_succ, List.setIfInBounds_toArray, List.set_cons_zero, List.set_cons_succ]
      refine wpAnyH_take (i := 6) (v := ?_) rfl (by kernel_rfl) (by kernel_rfl) (by kernel_rfl) (fun _ _ _ h => by cases h.1) (Or.inl ⟨by rfl, ?_⟩) (by assumption) ?_
      case refine_2 => intro W hSw; go_simp; try rfl
      try simp only [Act.put, List.getElem_toArray, List.getElem_cons_zero, List.getElem_cons_succ, List.setIfInBounds_toArray, List.set_cons_zero, List.set_cons_succ]
      refine wpAnyH_take (i := 11) (v := ?_) rfl (by kernel_rfl) (by kernel_rfl) (by kernel_rfl) (fun _ _ _ h => by cases h.1) (Or.inl ⟨by rfl, ?_⟩) (by assumption) ?_
      case refine_2 => intro W hSw; go_simp; try rfl
      try simp only [Act.put, List.getElem_toArray, List.getElem_cons_zero, List.getElem_cons_succ, List.setIfInBounds_toArray, List.set_cons_zero, List.set_cons_succ]
      refine wpAnyH_take (i := 12) (v := ?_) rfl (by kernel_rfl) (by kernel_rfl) (by kernel_rfl) (fun _ _ _ h => by cases h.1) (Or.inl ⟨by rfl, ?_⟩) (by assumption) ?_
      case refine_2 => intro W hSw; go_simp; try rfl
      try simp only [Act.put, List.getElem_toArray, List.getElem_cons_zero, List.getElem_cons_succ, List.setIfInBounds_toArray, List.set_cons_zero, List.set_cons_succ]
      refine wpAnyH_ready (rs := [13]) (by kernel_rfl) (by simp) ?_
      refine AllReadyH.cons rfl (fun K hK => ?_) (AllReadyH.nil)
      go_simp
      refine hK.out _ _ trivial (fun hHeld => ?_)
      clear hK K
      try simp only [Act.put, List.getElem_toArray, List.getElem_cons_zero, List.getElem_cons_succ, List.setIfInBounds_toArray, List.set_cons_zero, List.set_cons_succ]
      refine wpAnyH_take (i := 14) (v := ?_) rfl (by kernel_rfl) (by kernel_rfl) (by kernel_rfl) (fun _ _ _ h => by cases h.1) (Or.inl ⟨by rfl, ?_⟩) (by assumption) ?_
      case refine_2 => intro W hSw; go_simp; try rfl
      try simp only [Act.put, List.getElem_toArray, List.getElem_cons_zero, List.getElem_cons_succ, List.setIfInBounds_toArray, List.set_cons_zero, List.set_cons_succ]
      refine wpAnyH_take (i := 15) (v := ?_) rfl (by kernel_rfl) (by kernel_rfl) (by kernel_rfl) (fun _ _ _ h => by cases h.1) (Or.inl ⟨by rfl, ?_⟩) (by assumption) ?_
      case refine_2 => intro W hSw; go_simp; try rfl
      try simp only [Act.put, List.getElem_toArray, List.getElem_cons_zero, List.getElem_cons_succ, List.setIfInBounds_toArray, List.set_cons_zero, List.set_cons_succ]
      refine wpAnyH_ready (rs := [16]) (by kernel_rfl) (by simp) ?_
      refine AllReadyH.cons rfl (fun K hK => ?_) (AllReadyH.nil)
      go_simp
      refine hK.out _ _ trivial (fun hHeld => ?_)
      clear hK K
      try simp only [Act.put, List.getElem_toArray, List.getElem_cons_zero, List.getElem_cons_succ, List.setIfInBounds_toArray, List.set_cons_zero, List.set_cons_succ]
      refine wpAnyH_done (by kernel_rfl) ?_ _
      exact ⟨rfl, rfl, rfl⟩
  clear b1 b2 b4 z1 z2 z4
  obtain ⟨w2, hw2⟩ : ∃ w2, (wD.setCell ⟨bf, 1, none⟩ (.slice ap 0 cp)).setCell ⟨bf, 2, none⟩ (.slice aa al ca) = w2 := ⟨_, rfl⟩
  have hv2 : w2.heap[bf]? = some (Obj.cells #[.slice aS L cS, .slice ap 0 cp, .slice aa al ca, cv, .int .i64 n] 45) := by rw [← hw2, box_set (box_set HVD.out _)]; rfl
  have hk2 : ∀ b, b ≠ bf → w2.heap[b]? = wD.heap[b]? := fun b hb => by rw [← hw2]; exact (Below.heap_setCell _ ⟨bf, 2, none⟩ _ b hb).trans (Below.heap_setCell _ ⟨bf, 1, none⟩ _ b hb)
  have hs2 : w2.heap.size = wD.heap.size := by rw [← hw2]; simp
  have b2 : w2.cell? ⟨bf, 2, none⟩ = some (.slice aa al ca) := (box_at hv2).1
  have b4 : w2.cell? ⟨bf, 4, none⟩ = some (.int .i64 n) := (box_at hv2).1
  have z4 : w2.frozen? ⟨bf, 4, none⟩ = false := (box_at hv2 (i := 4)).2
  have b2' : ∀ v, (w2.setCell ⟨bf, 4, none⟩ v).cell? ⟨bf, 2, none⟩ = some (.slice aa al ca) := fun v => (box_at (box_set hv2 v)).1
  have HNB : Hid (∀ b, b < w.heap.size → b ≠ bf → w2.heap[b]? = w.heap[b]?) := fun b hb hn => (hk2 b hn).trans (HDD.out.block b hb)
  obtain ⟨w3, hw3⟩ : ∃ w3, w2.setCell ⟨bf, 4, none⟩ (.int .i64 (n + 1)) = w3 := ⟨_, rfl⟩
  have H3 : Hid (AI N bf (.slice aS L cS) T A (n + 1) x oa oc w 0 [] C op w3) := by
    have hv3 : w3.heap[bf]? = some (Obj.cells #[.slice aS L cS, .slice ap 0 cp, .slice aa al ca, cv, .int .i64 (n + 1)] 45) := by rw [← hw3, box_set hv2]; rfl
    have hkk : ∀ b, b ≠ bf → w3.heap[b]? = wD.heap[b]? := fun b hb => by rw [← hw3]; exact (Below.heap_setCell _ ⟨bf, 4, none⟩ _ b hb).trans (hk2 b hb)
    have hs3 : w3.heap.size = wD.heap.size := by rw [← hw3]; simp; exact hs2
    have hbf := H.out.lo
    refine ⟨fm_swap (H.out.bel HDD.out) HVD.out hv3 hkk, by rw [hLe]; exact HF.out.next, fun a => by simp, ?_⟩
    have hd := HDD.out
    refine ⟨?_, ?_, ?_, ?_, fun b hb => (hkk b (by omega)).trans (hd.block b (by have := H.out.lt; omega))⟩
    · rw [← hw3, ← hw2, ← hwD]; rfl
    · rw [← hw3, ← hw2, ← hwD]; rfl
    · rw [← hw3, ← hw2, ← hwD]; rfl
    · rw [hs3]; exact hd.size
  have hlast : w3.cell? ⟨bf, 2, none⟩ = some (.slice aa al ca) := by rw [← hw3]; exact b2' _
  rw [hw2]
  clear hv2 hk2 hs2 hw2 HVD b2' HNB
  go_wp2_with fail
  clear b2 b4 z4 hlast hw3 hwD hpc hpn
  have halL : al ≤ L := by rw [← hal]; exact HF.out.few
  go_loopw [34] (fun iv wr => ∃ (j : Nat) (B : List Nat) (C' : List Int) (ob : Option Nat), j ≤ al ∧ iv = .int .i64 (j : Int) ∧ AI N bf (.slice aS L cS) T A (n + 1) x oa oc w j B C' ob wr) (fun i _ => al - (intOf i).toNat)
  case atStart => exact ⟨0, [], C, op, Nat.zero_le _, rfl, H3.out⟩
  case round =>
    obtain ⟨j, B, C', ob, hj, rfl, hs⟩ := hrel
    have HS : Hid (AI N bf (.slice aS L cS) T A (n + 1) x oa oc w j B C' ob wr) := hs
    have hbn := hs.fm.lo
    have hbl := hs.fm.lt
    clear hs
    by_cases hlt : j < al
    · have hja : j < A.length := by omega
      obtain ⟨a', c', b0, -, hat⟩ := HS.out.fm.sp
      obtain ⟨g, hog, -, hgl, hg⟩ := hat j hja
      obtain rfl : aa = some ⟨g, 0, none⟩ := HAA.out g hog (by omega)
      have hsT : A[j] < T.length := by rw [hLe]; exact HF.out.lt _ (List.getElem_mem hja)
      obtain ⟨tb, tq, rfl, htb, t0, t1, t2, t3⟩ := (HT.out.bel HS.out.bel).at hsT
      have HQ : Hid (T[A[j]]? = some T[A[j]]) := List.getElem?_eq_getElem hsT
      obtain ⟨⟨tl1, tl2⟩, ⟨tl3, tl4⟩⟩ := HT.out.ok _ (List.getElem_mem hsT)
      obtain ⟨s, hs⟩ : ∃ s, A[j] = s := ⟨_, rfl⟩
      have HSS : Hid (A[j] = s) := hs
      have hsL : s < L := by rw [← hLe, ← hs]; exact hsT
      simp only [hs] at hg t0 t1 t2 t3 HQ tl1 tl2 tl3 tl4
      obtain ⟨⟨k, y, t, o⟩, hq⟩ : ∃ q, T[s]'(by rw [hLe]; exact hsL) = q := ⟨_, rfl⟩
      simp only [hq] at t0 t1 t2 t3 HQ tl1 tl2 tl3 tl4
      rw [hLe] at tl2 tl4
      have HOG : Hid (oa = some g) := hog
      clear hs hq hog hat
      have iia : (j : Int) < al := by omega
      have ii0 : (0 : Int) ≤ j := by omega
      have ss1 : (s : Int) < L := by omega
      have ss0 : (0 : Int) ≤ s := by omega
      obtain ⟨sz, hsz⟩ : ∃ z, wr.heap.size = z := ⟨_, rfl⟩
      obtain ⟨w4, hw4⟩ : ∃ w4, wr.alloc (Obj.cells #[.int .i64 k, .int .i64 y, .int .i64 t, .int .i64 o] 39) = w4 := ⟨_, rfl⟩
      have HB4 : Hid (Below wr.heap.size wr w4) := by rw [← hw4]; exact (Below.refl _ wr).alloc (Nat.le_refl _) _
      have HX4 : Hid (w4.heap[sz]? = some (Obj.cells #[.int .i64 k, .int .i64 y, .int .i64 t, .int .i64 o] 39)) := by rw [← hw4, ← hsz]; exact World.alloc_heap_new wr _
      obtain ⟨y0, y1, y2, y3⟩ := cell_four HX4.out
      by_cases hld : Leads ⟨k, y, t, o⟩ x
      · obtain ⟨t', rfl⟩ := Int.eq_ofNat_of_zero_le tl1
        have ht' : t' < L := by omega
        have HR := reach_any N bf (.slice (some ⟨tb, tq, none⟩) L cS) B A C' (n + 1) ob oa oc L t' hL ht' w4 (HS.out.fm.bel HB4.out) (by rw [← hLe]; exact HS.out.fi)
        have HLD : Hid (Leads ⟨k, y, (t' : Int), o⟩ x) := hld
        rcases hld with h3 | ⟨h2, hx⟩
        · have h3' : k = 3 := h3
          subst h3'
          go_wp2_with fail
          refine HR.mono ?_
          rintro e w5 ⟨⟨u, rfl⟩, A2, C2, oa2, hfm2, hfi2, hmem2, -, hkf2⟩
          have HN : Hid (AI N bf (.slice (some ⟨tb, tq, none⟩) L cS) T A (n + 1) x oa oc w (j + 1) A2 C2 oa2 w5) := HS.out.go hja (q := ⟨3, y, (t' : Int), o⟩) (by simp only [HSS.out]; exact HQ.out) HLD.out (t := t') rfl hfm2 (by rw [hLe]; exact hfi2) hmem2 ((HB4.out.mono (by omega)).trans ((HS.out.fm.bel HB4.out).under hkf2))
          clear hfm2 hfi2 hmem2 hkf2 HR
          go_wp2_with fail
          exact ⟨⟨j + 1, A2, C2, oa2, by omega, by simp, HN.out⟩, by simp [intOf]; omega⟩
        · have h2' : k = 2 := h2
          have hx' : y = x := hx
          subst h2' hx'
          go_wp2_with fail
          refine HR.mono ?_
          rintro e w5 ⟨⟨u, rfl⟩, A2, C2, oa2, hfm2, hfi2, hmem2, -, hkf2⟩
          have HN : Hid (AI N bf (.slice (some ⟨tb, tq, none⟩) L cS) T A (n + 1) y oa oc w (j + 1) A2 C2 oa2 w5) := HS.out.go hja (q := ⟨2, y, (t' : Int), o⟩) (by simp only [HSS.out]; exact HQ.out) HLD.out (t := t') rfl hfm2 (by rw [hLe]; exact hfi2) hmem2 ((HB4.out.mono (by omega)).trans ((HS.out.fm.bel HB4.out).under hkf2))
          clear hfm2 hfi2 hmem2 hkf2 HR
          go_wp2_with fail
          exact ⟨⟨j + 1, A2, C2, oa2, by omega, by simp, HN.out⟩, by simp [intOf]; omega⟩
      · have HN : Hid (AI N bf (.slice (some ⟨tb, tq, none⟩) L cS) T A (n + 1) x oa oc w (j + 1) B C' ob w4) := HS.out.skip hja (q := ⟨k, y, t, o⟩) (by simp only [HSS.out]; exact HQ.out) hld HB4.out
        have hk3 : ¬ k = 3 := fun e => hld (.inl e)
        by_cases hk2 : k = 2
        · have hyx : ¬ y = x := fun e => hld (.inr ⟨hk2, e⟩)
          subst hk2
          go_wp2_with fail
          exact ⟨⟨j + 1, B, C', ob, by omega, by simp, HN.out⟩, by simp [intOf]; omega⟩
        · go_wp2_with fail
          exact ⟨⟨j + 1, B, C', ob, by omega, by simp, HN.out⟩, by simp [intOf]; omega⟩
    · obtain rfl : j = al := by omega
      have HSP := spread_any N bf aS cS T B A C' (n + 1) ob oa oc (by rw [hLe]; exact hL) wr (by rw [hLe]; exact HS.out.fm) HS.out.fi (HT.out.bel HS.out.bel)
      rw [hLe] at HSP
      have HMM : Hid (∀ a : Nat, a ∈ B ↔ ∃ s ∈ A, ∃ q, T[s]? = some q ∧ Leads q x ∧ (a : Int) = q.t) := fun a => by rw [HS.out.mem a, ← hal, List.take_length]
      go_wp2_with fail
      refine HSP.mono ?_
      rintro e w5 ⟨⟨u, rfl⟩, A2, C2, oa2, hfm2, hfi2, hspr2, hb2⟩
      have HR : Hid (Fm N w5 bf (.slice aS L cS) A2 A C2 (n + 1) oa2 oa oc ∧ Fi T.length (n + 1) A2 C2 ∧ Spr T B A2 ∧ Below N w w5) := ⟨hfm2, hfi2, hspr2, HS.out.bel.trans hb2⟩
      clear hfm2 hfi2 hspr2 hb2 HSP
      go_wp2_with fail
      obtain ⟨r1, r2, r3, r4⟩ := HR.out
      refine ⟨rfl, .tuple #[], ?_, ⟨_, rfl⟩, A2, A, C2, oa2, oa, B, r1, r2, HMM.out, r3, r4⟩
      simp [results, Try.results18, go_sem]
end Go.Proofs.Ytagfdmkgnedlbag.Po
