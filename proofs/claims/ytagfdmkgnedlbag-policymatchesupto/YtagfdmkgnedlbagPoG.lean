/- A front in memory: spread. -/
import Derived.Test.YtagfdmkgnedlbagPoF
namespace Go.Proofs.Ytagfdmkgnedlbag.Po
open Go.ChangeShapes Go.WideShapes Go.ChangeAt Go.RowKit Go.Joins Go.Proofs.Ytagfdmkgnedlbag.Ge
set_option linter.unusedVariables false

/-- a machine's states lie below N -/
structure Ts (N : Nat) (w : World) (aS : Option Addr) (T : List St) : Prop where
  lst : Lst ET w aS T
  low : ∀ b o, aS = some ⟨b, o, none⟩ → b < N
  ok : OkS T T.length
theorem Ts.bel {N : Nat} {w w' : World} {aS : Option Addr} {T : List St} (h : Ts N w aS T) (hb : Below N w w') : Ts N w' aS T :=
  ⟨h.lst.keep hb.size (fun b o e _ => hb.block b (h.low b o e)), h.low, h.ok⟩
theorem Ts.at {N : Nat} {w : World} {aS : Option Addr} {T : List St} (h : Ts N w aS T) {i : Nat} (hi : i < T.length) : ∃ b o, aS = some ⟨b, o, none⟩ ∧ b < N ∧ w.cell? ⟨b, o + i * 4, none⟩ = some (.int .i64 T[i].k) ∧ w.cell? ⟨b, o + i * 4 + 1, none⟩ = some (.int .i64 T[i].n) ∧ w.cell? ⟨b, o + i * 4 + 2, none⟩ = some (.int .i64 T[i].t) ∧ w.cell? ⟨b, o + i * 4 + 3, none⟩ = some (.int .i64 T[i].o) := by
  obtain ⟨b, o, e, hl, hc⟩ := h.lst.cells i hi
  exact ⟨b, o, e, h.low b o e, hc 0 (by decide), hc 1 (by decide), hc 2 (by decide), hc 3 (by decide)⟩
theorem cell_four {W : World} {g : Nat} {x y z u : Value} {T : TypeId} (h : W.heap[g]? = some (Obj.cells #[x, y, z, u] T)) : W.cell? ⟨g, 0, none⟩ = some x ∧ W.cell? ⟨g, 1, none⟩ = some y ∧ W.cell? ⟨g, 2, none⟩ = some z ∧ W.cell? ⟨g, 3, none⟩ = some u := ⟨(box_at h).1, (box_at h).1, (box_at h).1, (box_at h).1⟩
/-- where a front is, as a list in memory -/
theorem Fm.at {N : Nat} {w : World} {bf : Nat} {sv : Value} {A P : List Nat} {C : List Int} {n : Int} {oa op oc : Option Nat} (h : Fm N w bf sv A P C n oa op oc) : ∃ a c, w.cell? ⟨bf, 0, none⟩ = some sv ∧ w.cell? ⟨bf, 1, none⟩ = some (.slice a A.length c) ∧ ∀ i (hi : i < A.length), ∃ g, a = some ⟨g, 0, none⟩ ∧ g < w.heap.size ∧ w.cell? ⟨g, i, none⟩ = some (.int .i64 ((A[i] : Nat) : Int)) := by
  obtain ⟨av, pv, cv, h1, h2, -⟩ := h.box
  obtain ⟨a, c, rfl, -, hn, hb⟩ := h2.form
  rw [ia_len] at h1 h2
  refine ⟨a, c, (box_at h1).1, (box_at h1).1, fun i hi => ?_⟩
  obtain ⟨b, o, e, hl, hc⟩ := h2.lst.1.cells i (by rw [ia_len]; exact hi)
  obtain ⟨rfl, -, -⟩ := hb b o e
  refine ⟨b, e, hl, ?_⟩
  have := hc 0 (by decide)
  have e0 : 0 + i * EI.k + 0 = i := by show 0 + i * 1 + 0 = i; omega
  rw [e0] at this
  rw [this]
  simp [EI, ia]
/-- what spreading leaves -/
def Sp (N : Nat) (bf : Nat) (sv : Value) (T : List St) (A P : List Nat) (n : Int) (op oc : Option Nat) (w : World) (e : Ending) (w' : World) : Prop :=
  (∃ u, e = .returned u) ∧ ∃ A' C' oa', Fm N w' bf sv A' P C' n oa' op oc ∧ Fi T.length n A' C' ∧ Spr T A A' ∧ Below N w w'
/-- how far spreading has come -/
structure SI (N : Nat) (bf : Nat) (sv : Value) (T : List St) (A P : List Nat) (n : Int) (op oc : Option Nat) (w : World) (i : Nat) (A' : List Nat) (C' : List Int) (oa' : Option Nat) (wr : World) : Prop where
  fm : Fm N wr bf sv A' P C' n oa' op oc
  fi : Fi T.length n A' C'
  sub : ∀ s ∈ A, s ∈ A'
  sound : ∀ t ∈ A', ∃ s ∈ A, Rch T s [] t
  done : ∀ s ∈ A'.take i, ∀ q, T[s]? = some q → q.k = 4 → ∀ a : Nat, (a : Int) = q.t ∨ (a : Int) = q.o → a ∈ A'
  bel : Below N w wr
theorem SI.fin {N : Nat} {bf : Nat} {sv : Value} {T : List St} {A P : List Nat} {n : Int} {op oc : Option Nat} {w : World} {i : Nat} {A' : List Nat} {C' : List Int} {oa' : Option Nat} {wr : World} (h : SI N bf sv T A P n op oc w i A' C' oa' wr) (hi : A'.length ≤ i) : Spr T A A' :=
  spr_of h.sub h.sound (fun s hs => h.done s (by rw [List.take_of_length_le hi]; exact hs))
theorem SI.skip {N : Nat} {bf : Nat} {sv : Value} {T : List St} {A P : List Nat} {n : Int} {op oc : Option Nat} {w : World} {i : Nat} {A' : List Nat} {C' : List Int} {oa' : Option Nat} {wr W : World} (h : SI N bf sv T A P n op oc w i A' C' oa' wr) (hi : i < A'.length) {q : St} (hq : T[A'[i]]? = some q) (hk : ¬ q.k = 4) (hW : Below wr.heap.size wr W) : SI N bf sv T A P n op oc w (i + 1) A' C' oa' W :=
  ⟨h.fm.bel hW, h.fi, h.sub, h.sound, fun s hs r hr hrk => by
    rw [List.take_succ_eq_append_getElem hi] at hs
    rcases List.mem_append.1 hs with hs | hs
    · exact h.done s hs r hr hrk
    · rw [List.mem_singleton.1 hs, hq] at hr
      cases hr
      exact absurd hrk hk, h.bel.trans (hW.mono (by have h1 := h.fm.lo; have h2 := h.fm.lt; omega))⟩
theorem SI.fork {N : Nat} {bf : Nat} {sv : Value} {T : List St} {A P : List Nat} {n : Int} {op oc : Option Nat} {w : World} {i : Nat} {A' : List Nat} {C' : List Int} {oa' : Option Nat} {wr W : World} (h : SI N bf sv T A P n op oc w i A' C' oa' wr) (hi : i < A'.length) {q : St} (hq : T[A'[i]]? = some q) (hk : q.k = 4) {t o : Nat} (ht : (t : Int) = q.t) (ho : (o : Int) = q.o) {A2 : List Nat} {C2 : List Int} {oa2 : Option Nat} (hfm : Fm N W bf sv A2 P C2 n oa2 op oc) (hfi : Fi T.length n A2 C2) (hmem : ∀ s, s ∈ A2 ↔ (s ∈ A' ∨ s = t) ∨ s = o) (hext : ∃ M, A2 = A' ++ M) (hW : Below N wr W) : SI N bf sv T A P n op oc w (i + 1) A2 C2 oa2 W := by
  obtain ⟨M, hM⟩ := hext
  have hin : ∀ s, s ∈ A' → s ∈ A2 := fun s hs => (hmem s).2 (.inl (.inl hs))
  have hso := h.sound A'[i] (List.getElem_mem hi)
  refine ⟨hfm, hfi, fun s hs => hin s (h.sub s hs), fun s hs => ?_, fun s hs r hr hrk a ha => ?_, h.bel.trans hW⟩
  · rcases (hmem s).1 hs with (hs | rfl) | rfl
    · exact h.sound s hs
    · exact rch_fork hso hq hk (.inl ht)
    · exact rch_fork hso hq hk (.inr ho)
  · have e1 : A2.take (i + 1) = A'.take i ++ [A'[i]] := by rw [hM, List.take_append_of_le_length (by omega), List.take_succ_eq_append_getElem hi]
    rw [e1] at hs
    rcases List.mem_append.1 hs with hs | hs
    · exact hin a (h.done s hs r hr hrk a ha)
    · rw [List.mem_singleton.1 hs, hq] at hr
      cases hr
      rcases ha with ha | ha
      · exact (hmem a).2 (.inl (.inr (by omega)))
      · exact (hmem a).2 (.inr (by omega))
set_option maxRecDepth 100000 in
set_option maxHeartbeats 4000000 in
theorem spread_any (N bf : Nat) (aS : Option Addr) (cS : Nat) (T : List St) (A P : List Nat) (C : List Int) (n : Int) (oa op oc : Option Nat) (hL : T.length ≤ 1099511627775) (w : World) (h : Fm N w bf (.slice aS T.length cS) A P C n oa op oc) (hF : Fi T.length n A C) (hT : Ts N w aS T) :
    Calls Try.prog 17 #[.pointer (some ⟨bf, 0, none⟩)] w (Sp N bf (.slice aS T.length cS) T A P n op oc w) := by
  have HI : Hid (SI N bf (.slice aS T.length cS) T A P n op oc w 0 A C oa w) := ⟨h, hF, fun s hs => hs, fun t ht => ⟨t, ht, 0, .refl t⟩, fun s hs => by simp at hs, Below.refl _ _⟩
  have HT : Hid (Ts N w aS T) := hT
  obtain ⟨L, hLe⟩ : ∃ L, T.length = L := ⟨_, rfl⟩
  rw [hLe] at HI hL ⊢
  clear h hF hT
  go_enter Try.func17, Try.ntmps17
  go_wp2_with fail
  go_loopw [2] (fun iv wr => ∃ (i : Nat) (A' : List Nat) (C' : List Int) (oa' : Option Nat), i ≤ A'.length ∧ iv = .int .i64 (i : Int) ∧ SI N bf (.slice aS L cS) T A P n op oc w i A' C' oa' wr) (fun i _ => L - (intOf i).toNat)
  case atStart => exact ⟨0, A, C, oa, Nat.zero_le _, rfl, HI.out⟩
  case round =>
    obtain ⟨i, A', C', oa', hi, rfl, hs⟩ := hrel
    have HS : Hid (SI N bf (.slice aS L cS) T A P n op oc w i A' C' oa' wr) := hs
    obtain ⟨a, c, b0, b1, hat⟩ := hs.fm.at
    have hfew : A'.length ≤ L := by rw [← hLe]; exact hs.fi.few
    obtain ⟨al, hal⟩ : ∃ l, A'.length = l := ⟨_, rfl⟩
    rw [hal] at b1
    have hbn := hs.fm.lo
    have hbl := hs.fm.lt
    clear hs
    by_cases hlt : i < al
    · have hia : i < A'.length := by omega
      obtain ⟨g, rfl, hgl, hg⟩ := hat i hia
      have hsT : A'[i] < T.length := HS.out.fi.lt _ (List.getElem_mem hia)
      obtain ⟨tb, tq, rfl, htb, t0, t1, t2, t3⟩ := (HT.out.bel HS.out.bel).at hsT
      have HQ : Hid (T[A'[i]]? = some T[A'[i]]) := List.getElem?_eq_getElem hsT
      obtain ⟨⟨tl1, tl2⟩, ⟨tl3, tl4⟩⟩ := HT.out.ok _ (List.getElem_mem hsT)
      obtain ⟨s, hs⟩ : ∃ s, A'[i] = s := ⟨_, rfl⟩
      have HSS : Hid (A'[i] = s) := hs
      have hsL : s < L := by rw [← hLe, ← hs]; exact hsT
      simp only [hs] at hg t0 t1 t2 t3 HQ tl1 tl2 tl3 tl4
      obtain ⟨⟨k, x, t, o⟩, hq⟩ : ∃ q, T[s]'(by rw [hLe]; exact hsL) = q := ⟨_, rfl⟩
      simp only [hq] at t0 t1 t2 t3 HQ tl1 tl2 tl3 tl4
      rw [hLe] at tl2 tl4
      clear hs hq
      have iia : (i : Int) < al := by omega
      have ii0 : (0 : Int) ≤ i := by omega
      have ss1 : (s : Int) < L := by omega
      have ss0 : (0 : Int) ≤ s := by omega
      have HC : Hid (wr.drew.cell? ⟨bf, 0, none⟩ = some (.slice (some ⟨tb, tq, none⟩) L cS) ∧ wr.drew.cell? ⟨bf, 1, none⟩ = some (.slice (some ⟨g, 0, none⟩) al c) ∧ wr.drew.cell? ⟨g, i, none⟩ = some (.int .i64 (s : Int)) ∧ wr.drew.cell? ⟨tb, tq + s * 4, none⟩ = some (.int .i64 k) ∧ wr.drew.cell? ⟨tb, tq + s * 4 + 1, none⟩ = some (.int .i64 x) ∧ wr.drew.cell? ⟨tb, tq + s * 4 + 2, none⟩ = some (.int .i64 t) ∧ wr.drew.cell? ⟨tb, tq + s * 4 + 3, none⟩ = some (.int .i64 o)) := ⟨b0, b1, hg, t0, t1, t2, t3⟩
      obtain ⟨sz, hsz⟩ : ∃ z, wr.heap.size = z := ⟨_, rfl⟩
      go_upto_region 3 with fail
      refine wp_region_held_drew (S := fun W => W.cell? ⟨bf, 0, none⟩ = some (.slice (some ⟨tb, tq, none⟩) L cS) ∧ W.cell? ⟨bf, 1, none⟩ = some (.slice (some ⟨g, 0, none⟩) al c) ∧ W.cell? ⟨g, i, none⟩ = some (.int .i64 (s : Int)) ∧ W.cell? ⟨tb, tq + s * 4, none⟩ = some (.int .i64 k) ∧ W.cell? ⟨tb, tq + s * 4 + 1, none⟩ = some (.int .i64 x) ∧ W.cell? ⟨tb, tq + s * 4 + 2, none⟩ = some (.int .i64 t) ∧ W.cell? ⟨tb, tq + s * 4 + 3, none⟩ = some (.int .i64 o)) (by kernel_rfl) HC.out (fun hHeld => ?_)
      obtain ⟨wD, hwD⟩ : ∃ wD, wr.drew = wD := ⟨_, rfl⟩
      have HBD : Hid (Below wr.heap.size wr wD) := by rw [← hwD]; exact drewB wr
      have hszD : wD.heap.size = sz := by rw [← hwD]; exact hsz
      rw [hwD] at hHeld ⊢
      clear hwD HC b0 b1 hg t0 t1 t2 t3
      have HAL : Hid (∀ (ob : Obj) (b j : Nat), b < sz → (wD.alloc ob).cell? ⟨b, j, none⟩ = wD.cell? ⟨b, j, none⟩) := fun ob b j hb => World.cell?_of_block (w := wD) (((Below.refl _ wD).alloc (Nat.le_refl _) ob).block b (by rw [hszD]; exact hb))
      have HH : Hid (∀ ob : Obj, (wD.alloc ob).cell? ⟨bf, 0, none⟩ = some (.slice (some ⟨tb, tq, none⟩) L cS) ∧ (wD.alloc ob).cell? ⟨bf, 1, none⟩ = some (.slice (some ⟨g, 0, none⟩) al c) ∧ (wD.alloc ob).cell? ⟨g, i, none⟩ = some (.int .i64 (s : Int)) ∧ (wD.alloc ob).cell? ⟨tb, tq + s * 4, none⟩ = some (.int .i64 k) ∧ (wD.alloc ob).cell? ⟨tb, tq + s * 4 + 1, none⟩ = some (.int .i64 x) ∧ (wD.alloc ob).cell? ⟨tb, tq + s * 4 + 2, none⟩ = some (.int .i64 t) ∧ (wD.alloc ob).cell? ⟨tb, tq + s * 4 + 3, none⟩ = some (.int .i64 o)) := fun ob => by
        obtain ⟨j0, j1, j2, j3, j4, j5, j6⟩ := hHeld
        have q := HAL.out ob
        exact ⟨(q bf 0 (by omega)).trans j0, (q bf 1 (by omega)).trans j1, (q g i (by omega)).trans j2, (q tb _ (by omega)).trans j3, (q tb _ (by omega)).trans j4, (q tb _ (by omega)).trans j5, (q tb _ (by omega)).trans j6⟩
      refine wpAnyH_take (i := 0) (v := ?_) rfl (by kernel_rfl) (by kernel_rfl) (by kernel_rfl) (fun _ _ _ h => h) (Or.inl ⟨by rfl, ?_⟩) (by assumption) ?_
      case refine_2 => intro W hSw; obtain ⟨j0, j1, j2, j3, j4, j5, j6⟩ := hSw; go_simp; try rfl
      try simp only [Act.put, List.getElem_toArray, List.getElem_cons_zero, List.setIfInBounds_toArray, List.set_cons_zero, List.set_cons_succ]
      refine wpAnyH_take (i := 1) (v := ?_) rfl (by kernel_rfl) (by kernel_rfl) (by kernel_rfl) (fun _ _ _ h => h) (Or.inl ⟨by rfl, ?_⟩) (by assumption) ?_
      case refine_2 => intro W hSw; obtain ⟨j0, j1, j2, j3, j4, j5, j6⟩ := hSw; go_simp; try rfl
      try simp only [Act.put, List.getElem_toArray, List.getElem_cons_zero, List.getElem_cons_succ, List.setIfInBounds_toArray, List.set_cons_zero, List.set_cons_succ]
      refine wpAnyH_take (i := 2) (v := ?_) rfl (by kernel_rfl) (by kernel_rfl) (by kernel_rfl) (fun _ _ _ h => h) (Or.inl ⟨by rfl, ?_⟩) (by assumption) ?_
      case refine_2 => intro W hSw; obtain ⟨j0, j1, j2, j3, j4, j5, j6⟩ := hSw; go_simp; try rfl
      try simp only [Act.put, List.getElem_toArray, List.getElem_cons_zero, List.getElem_cons_succ, List.setIfInBounds_toArray, List.set_cons_zero, List.set_cons_succ]
      refine wpAnyH_take (i := 3) (v := ?_) rfl (by kernel_rfl) (by kernel_rfl) (by kernel_rfl) (fun _ _ _ h => h) (Or.inl ⟨by rfl, ?_⟩) (by assumption) ?_
      case refine_2 => intro W hSw; obtain ⟨j0, j1, j2, j3, j4, j5, j6⟩ := hSw; go_simp; try rfl
      try simp only [Act.put, List.getElem_toArray, List.getElem_cons_zero, List.getElem_cons_succ, List.setIfInBounds_toArray, List.set_cons_zero, List.set_cons_succ]
      refine wpAnyH_take (i := 4) (v := ?_) rfl (by kernel_rfl) (by kernel_rfl) (by kernel_rfl) (fun _ _ _ h => h) (Or.inl ⟨by rfl, ?_⟩) (by assumption) ?_
      case refine_2 => intro W hSw; obtain ⟨j0, j1, j2, j3, j4, j5, j6⟩ := hSw; go_simp; try rfl
      try simp only [Act.put, List.getElem_toArray, List.getElem_cons_zero, List.getElem_cons_succ, List.setIfInBounds_toArray, List.set_cons_zero, List.set_cons_succ]
      refine wpAnyH_take (i := 5) (v := ?_) rfl (by kernel_rfl) (by kernel_rfl) (by kernel_rfl) (fun _ _ _ h => h) (Or.inl ⟨by rfl, ?_⟩) (by assumption) ?_
      case refine_2 => intro W hSw; obtain ⟨j0, j1, j2, j3, j4, j5, j6⟩ := hSw; go_simp; try rfl
      try simp only [Act.put, List.getElem_toArray, List.getElem_cons_zero, List.getElem_cons_succ, List.setIfInBounds_toArray, List.set_cons_zero, List.set_cons_succ]
      refine wpAnyH_take (i := 6) (v := ?_) rfl (by kernel_rfl) (by kernel_rfl) (by kernel_rfl) (fun _ _ _ h => h) (Or.inl ⟨by rfl, ?_⟩) (by assumption) ?_
      case refine_2 => intro W hSw; obtain ⟨j0, j1, j2, j3, j4, j5, j6⟩ := hSw; go_simp; try rfl
      try simp only [Act.put, List.getElem_toArray, List.getElem_cons_zero, List.getElem_cons_succ, List.setIfInBounds_toArray, List.set_cons_zero, List.set_cons_succ]
      refine wpAnyH_take (i := 7) (v := ?_) rfl (by kernel_rfl) (by kernel_rfl) (by kernel_rfl) (fun _ _ _ h => h) (Or.inl ⟨by rfl, ?_⟩) (by assumption) ?_
      case refine_2 => intro W hSw; obtain ⟨j0, j1, j2, j3, j4, j5, j6⟩ := hSw; go_simp; try rfl
      try simp only [Act.put, List.getElem_toArray, List.getElem_cons_zero, List.getElem_cons_succ, List.setIfInBounds_toArray, List.set_cons_zero, List.set_cons_succ]
      refine wpAnyH_take (i := 8) (v := ?_) rfl (by kernel_rfl) (by kernel_rfl) (by kernel_rfl) (fun _ _ _ h => h) (Or.inl ⟨by rfl, ?_⟩) (by assumption) ?_
      case refine_2 => intro W hSw; obtain ⟨j0, j1, j2, j3, j4, j5, j6⟩ := hSw; go_simp; try rfl
      try simp only [Act.put, List.getElem_toArray, List.getElem_cons_zero, List.getElem_cons_succ, List.setIfInBounds_toArray, List.set_cons_zero, List.set_cons_succ]
      refine wpAnyH_take (i := 9) (v := ?_) rfl (by kernel_rfl) (by kernel_rfl) (by kernel_rfl) (fun _ _ _ h => h) (Or.inl ⟨by rfl, ?_⟩) (by assumption) ?_
      case refine_2 => intro W hSw; obtain ⟨j0, j1, j2, j3, j4, j5, j6⟩ := hSw; go_simp; try rfl
      try simp only [Act.put, List.getElem_toArray, List.getElem_cons_zero, List.getElem_cons_succ, List.setIfInBounds_toArray, List.set_cons_zero, List.set_cons_succ]
      refine wpAnyH_take (i := 10) (v := ?_) rfl (by kernel_rfl) (by kernel_rfl) (by kernel_rfl) (fun _ _ _ h => h) (Or.inl ⟨by rfl, ?_⟩) (by assumption) ?_
      case refine_2 => intro W hSw; obtain ⟨j0, j1, j2, j3, j4, j5, j6⟩ := hSw; go_simp; try rfl
      try simp only [Act.put, List.getElem_toArray, List.getElem_cons_zero, List.getElem_cons_succ, List.setIfInBounds_toArray, List.set_cons_zero, List.set_cons_succ]
      refine wpAnyH_take (i := 11) (v := ?_) rfl (by kernel_rfl) (by kernel_rfl) (by kernel_rfl) (fun _ _ _ h => h) (Or.inl ⟨by rfl, ?_⟩) (by assumption) ?_
      case refine_2 => intro W hSw; obtain ⟨j0, j1, j2, j3, j4, j5, j6⟩ := hSw; go_simp; try rfl
      try simp only [Act.put, List.getElem_toArray, List.getElem_cons_zero, List.getElem_cons_succ, List.setIfInBounds_toArray, List.set_cons_zero, List.set_cons_succ]
      refine wpAnyH_take (i := 12) (v := ?_) rfl (by kernel_rfl) (by kernel_rfl) (by kernel_rfl) (fun _ _ _ h => h) (Or.inl ⟨by rfl, ?_⟩) (by assumption) ?_
      case refine_2 => intro W hSw; obtain ⟨j0, j1, j2, j3, j4, j5, j6⟩ := hSw; go_simp; try rfl
      try simp only [Act.put, List.getElem_toArray, List.getElem_cons_zero, List.getElem_cons_succ, List.setIfInBounds_toArray, List.set_cons_zero, List.set_cons_succ]
      refine wpAnyH_ready (rs := [13]) (by kernel_rfl) (by simp) ?_
      refine AllReadyH.cons rfl (fun K hK => ?_) (AllReadyH.nil)
      go_simp
      refine hK.out _ _ (HH.out _) (fun hHeld => ?_)
      clear hK K
      try simp only [Act.put, List.getElem_toArray, List.getElem_cons_zero, List.getElem_cons_succ, List.setIfInBounds_toArray, List.set_cons_zero, List.set_cons_succ]
      refine wpAnyH_ready (rs := [14]) (by kernel_rfl) (by simp) ?_
      refine AllReadyH.cons rfl (fun K hK => ?_) (AllReadyH.nil)
      go_simp
      refine hK.out _ _ (HH.out _) (fun hHeld => ?_)
      clear hK K
      try simp only [Act.put, List.getElem_toArray, List.getElem_cons_zero, List.getElem_cons_succ, List.setIfInBounds_toArray, List.set_cons_zero, List.set_cons_succ]
      refine wpAnyH_done (by kernel_rfl) ?_ _
      clear hHeld HH HAL
      obtain ⟨w1, hw1⟩ : ∃ w1, wD.alloc (Obj.cells #[.int .i64 k, .int .i64 x, .int .i64 t, .int .i64 o] 39) = w1 := ⟨_, rfl⟩
      have HB1 : Hid (Below wr.heap.size wr w1) := by rw [← hw1]; exact HBD.out.alloc (by rw [hszD, hsz]; exact Nat.le_refl _) _
      have HX1 : Hid (w1.heap[sz]? = some (Obj.cells #[.int .i64 k, .int .i64 x, .int .i64 t, .int .i64 o] 39)) := by rw [← hw1, ← hszD]; exact World.alloc_heap_new wD _
      have hs1 : w1.heap.size = sz + 1 := by rw [← hw1, ← hszD]; simp
      obtain ⟨y0, y1, y2, y3⟩ := cell_four HX1.out
      rw [hw1]
      try rw [hszD]
      clear hw1
      by_cases hk : k = 4
      · subst hk
        obtain ⟨t', rfl⟩ := Int.eq_ofNat_of_zero_le tl1
        obtain ⟨o', rfl⟩ := Int.eq_ofNat_of_zero_le tl3
        have ht' : t' < L := by omega
        have ho' : o' < L := by omega
        have HR := reach_any N bf (.slice (some ⟨tb, tq, none⟩) L cS) A' P C' n oa' op oc L t' hL ht' w1 (HS.out.fm.bel HB1.out) (by rw [← hLe]; exact HS.out.fi)
        go_wp2_with fail
        refine HR.mono ?_
        rintro e w2 ⟨⟨u, rfl⟩, A1, C1, oa1, hfm1, hfi1, hmem1, hext1, hkf1⟩
        have HX2 : Hid (w2.heap[sz]? = some (Obj.cells #[.int .i64 4, .int .i64 x, .int .i64 (t' : Int), .int .i64 (o' : Int)] 39)) := by
          refine (hkf1.block sz (by omega) (by omega) (fun e => ?_) (fun e => ?_)).trans HX1.out
          · have := ((HS.out.fm).olt.1 sz e.symm).2; omega
          · have := ((HS.out.fm).olt.2.2 sz e.symm).2; omega
        have HK1 : Hid (Below N w1 w2) := (HS.out.fm.bel HB1.out).under hkf1
        have HR2 := reach_any N bf (.slice (some ⟨tb, tq, none⟩) L cS) A1 P C1 n oa1 op oc L o' hL ho' w2 hfm1 hfi1
        have HF1 : Hid (Fm N w2 bf (.slice (some ⟨tb, tq, none⟩) L cS) A1 P C1 n oa1 op oc) := hfm1
        have HM1 : Hid (∀ s, s ∈ A1 ↔ s ∈ A' ∨ s = t') := hmem1
        have HE1 : Hid (∃ M, A1 = A' ++ M) := hext1
        obtain ⟨z0, z1, z2, z3⟩ := cell_four HX2.out
        clear hfm1 hfi1 hmem1 hext1 hkf1 HR y0 y1 y2 y3
        go_wp2_with fail
        refine HR2.mono ?_
        rintro e w3 ⟨⟨u2, rfl⟩, A2, C2, oa2, hfm2, hfi2, hmem2, hext2, hkf2⟩
        have HN : Hid (SI N bf (.slice (some ⟨tb, tq, none⟩) L cS) T A P n op oc w (i + 1) A2 C2 oa2 w3) := by
          refine HS.out.fork hia (q := ⟨4, x, (t' : Int), (o' : Int)⟩) (by simp only [HSS.out]; exact HQ.out) rfl (t := t') (o := o') rfl rfl hfm2 (by rw [hLe]; exact hfi2) (fun s => ?_) ?_ ?_
          · rw [hmem2 s, HM1.out s]
          · obtain ⟨M1, e1⟩ := HE1.out
            obtain ⟨M2, e2⟩ := hext2
            exact ⟨M1 ++ M2, by rw [e2, e1, List.append_assoc]⟩
          · exact ((HB1.out.mono (by omega)).trans HK1.out).trans (HF1.out.under hkf2)
        have hl2 : i + 1 ≤ A2.length := by
          obtain ⟨M1, e1⟩ := HE1.out
          obtain ⟨M2, e2⟩ := hext2
          rw [e2, e1]
          simp
          omega
        clear hfm2 hfi2 hmem2 hext2 hkf2 HR2
        go_wp2_with fail
        exact ⟨⟨i + 1, A2, C2, oa2, hl2, by simp, HN.out⟩, by simp [intOf]; omega⟩
      · have HN : Hid (SI N bf (.slice (some ⟨tb, tq, none⟩) L cS) T A P n op oc w (i + 1) A' C' oa' w1) := HS.out.skip hia (q := ⟨k, x, t, o⟩) (by simp only [HSS.out]; exact HQ.out) hk HB1.out
        go_wp2_with fail
        exact ⟨⟨i + 1, A', C', oa', by omega, by simp, HN.out⟩, by simp [intOf]; omega⟩
    · have hie : A'.length ≤ i := by omega
      obtain rfl : i = al := by omega
      have HFI : Hid (Spr T A A') := HS.out.fin hie
      go_wp2_with fail
      refine ⟨rfl, .tuple #[], ?_, ⟨_, rfl⟩, A', C', oa', HS.out.fm, HS.out.fi, HFI.out, HS.out.bel⟩
      simp [results, Try.results17, go_sem]
end Go.Proofs.Ytagfdmkgnedlbag.Po
