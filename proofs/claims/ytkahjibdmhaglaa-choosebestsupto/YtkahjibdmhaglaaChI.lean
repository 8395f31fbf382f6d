/- Best and Even. -/
import Derived.Test.YtkahjibdmhaglaaChH
namespace Go.Proofs.Ytkahjibdmhaglaa.Ch
open Go.ChangeShapes Go.WideShapes Go.ChangeAt Go.RowKit Go.Joins Go.Deep Go.Proofs.Ytkahjibdmhaglaa.Ge
set_option linter.unusedVariables false
set_option linter.unusedSimpArgs false

/-- what a list of steps is -/
def StPost (ks : List Nat) (w : World) (e : Ending) (w' : World) : Prop := ∃ sb, e = .returned (.slice (some ⟨sb, 0, none⟩) ks.length ks.length) ∧ w.heap.size ≤ sb ∧ sb < w'.heap.size ∧ (∀ i (hi : i < ks.length), w'.cell? ⟨sb, i, none⟩ = some (fvK ks[i])) ∧ Below w.heap.size w w'
set_option maxRecDepth 100000 in
theorem so_any (w : World) : Calls Try.prog 18 #[] w (StPost [0, 1, 2] w) := by
  have HE : Hid (StPost [0, 1, 2] w (.returned (.slice (some ⟨w.heap.size, 0, none⟩) 3 3)) (w.alloc (Obj.cells #[fvK 0, fvK 1, fvK 2] 46))) := by
    refine ⟨w.heap.size, rfl, Nat.le_refl _, by simp, fun i hi => ?_, (Below.refl _ w).alloc (Nat.le_refl _) _⟩
    have h1 := World.alloc_heap_new w (Obj.cells #[fvK 0, fvK 1, fvK 2] 46)
    unfold World.cell?
    rw [h1]
    simp at hi
    rcases i with _ | _ | _ | i
    all_goals first | rfl | omega
  go_enter Try.func18, Try.ntmps18
  go_wp2_with fail
  go_ret
  exact HE.out
set_option maxRecDepth 100000 in
theorem sc_any (w : World) : Calls Try.prog 20 #[] w (StPost [3, 4] w) := by
  have HE : Hid (StPost [3, 4] w (.returned (.slice (some ⟨w.heap.size, 0, none⟩) 2 2)) (w.alloc (Obj.cells #[fvK 3, fvK 4] 46))) := by
    refine ⟨w.heap.size, rfl, Nat.le_refl _, by simp, fun i hi => ?_, (Below.refl _ w).alloc (Nat.le_refl _) _⟩
    have h1 := World.alloc_heap_new w (Obj.cells #[fvK 3, fvK 4] 46)
    unfold World.cell?
    rw [h1]
    simp at hi
    rcases i with _ | _ | _ | i
    all_goals first | rfl | omega
  go_enter Try.func20, Try.ntmps20
  go_wp2_with fail
  go_ret
  exact HE.out
set_option maxRecDepth 100000 in
theorem sp_any (w : World) : Calls Try.prog 21 #[] w (StPost [5, 6, 7] w) := by
  have HE : Hid (StPost [5, 6, 7] w (.returned (.slice (some ⟨w.heap.size, 0, none⟩) 3 3)) (w.alloc (Obj.cells #[fvK 5, fvK 6, fvK 7] 46))) := by
    refine ⟨w.heap.size, rfl, Nat.le_refl _, by simp, fun i hi => ?_, (Below.refl _ w).alloc (Nat.le_refl _) _⟩
    have h1 := World.alloc_heap_new w (Obj.cells #[fvK 5, fvK 6, fvK 7] 46)
    unfold World.cell?
    rw [h1]
    simp at hi
    rcases i with _ | _ | _ | i
    all_goals first | rfl | omega
  go_enter Try.func21, Try.ntmps21
  go_wp2_with fail
  go_ret
  exact HE.out
theorem ev_eq (X : Nat → Of) (ps : List Nat) : strkA X [3, 4] (surv X (strkA X [0, 1, 2] ps) 5) = evP X ps := by
  rw [strkA_left X [3, 4] _ (by decide), strkA_left X [0, 1, 2] _ (by decide)]
  rfl
theorem pe_eq (X : Nat → Of) (ps : List Nat) : strkA X [5, 6, 7] ps = leftP X [8, 9, 10] ps := strkA_left X [5, 6, 7] _ (by decide)
theorem gr_bel2 {N : Nat} {w W : World} {v : Value} {ps : List Nat} (h : w.grownBy W v.ownBlock) (hN : N ≤ w.heap.size) (ho : OwnL EN N w v ps) : Below N w W := (Below.refl N w).grown h hN (fun k e => (ho.row.lt k e).1)
theorem InN.sub {ps qs : List Nat} {n : Nat} (h : InN qs n) (hs : ps.Sublist qs) : InN ps n := fun i hi => h i (hs.subset hi)
set_option maxRecDepth 100000 in
set_option maxHeartbeats 8000000 in
theorem even_any (la : Option Addr) (n lc : Nat) (xs : List (Of × Oa)) (hxn : xs.length = n) (hn : n ≤ 100000000) (w : World) (hx : Ofs w.heap.size w la xs) : Calls Try.prog 33 #[.slice la n lc] w (RcPost w (evP (atO xs) (rchP (atO xs) n))) := by
  have HX : Hid (Ofs w.heap.size w la xs) := hx
  have HXN : Hid (xs.length = n) := hxn
  have HNB : Hid (n ≤ 100000000) := hn
  clear hx hxn hn
  go_enter Try.func33, Try.ntmps33
  go_wp2_with fail
  refine (so_any w).mono ?_
  rintro e W1 ⟨sb, rfl, hs1, hs2, hs3, hb1⟩
  have HS1 : Hid (w.heap.size ≤ sb ∧ sb < W1.heap.size) := ⟨hs1, hs2⟩
  have HS3 : Hid (∀ i (hi : i < [0, 1, 2].length), W1.cell? ⟨sb, i, none⟩ = some (fvK [0, 1, 2][i])) := hs3
  have HB1 : Hid (Below w.heap.size w W1) := hb1
  clear hs1 hs2 hs3 hb1
  go_wp2_with fail
  refine (reached_any la n lc xs HXN.out HNB.out W1 ((HX.out.bel HB1.out).mono HB1.out.size)).mono ?_
  rintro e W2 ⟨v2, rfl, ho2, hb2⟩
  have HO2 : Hid (OwnL EN W1.heap.size W2 v2 (rchP (atO xs) n)) := ho2
  have HB2 : Hid (Below W1.heap.size W1 W2) := hb2
  have HBW2 : Hid (Below w.heap.size w W2) := HB1.out.trans (hb2.mono HB1.out.size)
  clear ho2 hb2
  go_wp2_with fail
  refine (strikes_any [0, 1, 2] 3 3 rfl (by decide) sb la n lc xs HXN.out w.heap.size v2 (rchP (atO xs) n) (rch_in _ _) W2 HBW2.out.size (HX.out.bel HBW2.out) (HO2.out.mono HB1.out.size) (fun i hi => (World.cell?_of_block (w := W1) (HB2.out.block sb HS1.out.2)).trans (HS3.out i hi)) (fun e => by have := (HO2.out.row.lt sb e).1; have := HS1.out.2; omega) _ rfl (by decide)).mono ?_
  rintro e W3 ⟨v3, rfl, ho3, hg3, hl3⟩
  have HO3 : Hid (OwnL EN w.heap.size W3 v3 (strkA (atO xs) [0, 1, 2] (rchP (atO xs) n))) := ho3
  have HB3 : Hid (Below w.heap.size w W3) := HBW2.out.trans (gr_bel2 hg3 HBW2.out.size (HO2.out.mono HB1.out.size))
  clear ho3 hg3 hl3 HO2 HB2 HBW2 HB1 HS1 HS3
  go_wp2_with fail
  refine (sc_any W3).mono ?_
  rintro e W4 ⟨sc, rfl, hs1, hs2, hs3, hb4⟩
  have HS1 : Hid (W3.heap.size ≤ sc ∧ sc < W4.heap.size) := ⟨hs1, hs2⟩
  have HS3 : Hid (∀ i (hi : i < [3, 4].length), W4.cell? ⟨sc, i, none⟩ = some (fvK [3, 4][i])) := hs3
  have HB4 : Hid (Below w.heap.size w W4) := HB3.out.trans (hb4.mono HB3.out.size)
  have HO4 : Hid (OwnL EN w.heap.size W4 v3 (strkA (atO xs) [0, 1, 2] (rchP (atO xs) n))) := HO3.out.bel hb4
  have HNS : Hid (∀ g, v3.ownBlock = some g → g < W3.heap.size) := fun g e => (HO3.out.row.lt g e).2
  clear hs1 hs2 hs3 hb4
  go_wp2_with fail
  refine (med_any la n lc xs HXN.out w.heap.size v3 _ ((rch_in _ _).sub (strkA_sub _ _ _)) W4 HB4.out.size (HX.out.bel HB4.out) HO4.out _ rfl).mono ?_
  rintro e W5 ⟨v5, rfl, ho5, hg5, hl5⟩
  have HO5 : Hid (OwnL EN w.heap.size W5 v5 (surv (atO xs) (strkA (atO xs) [0, 1, 2] (rchP (atO xs) n)) 5)) := ho5
  have HB5 : Hid (Below w.heap.size w W5) := HB4.out.trans (gr_bel2 hg5 HB4.out.size HO4.out)
  have HN5 : Hid (v5.ownBlock ≠ some sc) := by
    intro e
    rcases hl5 with c | c
    · have := HNS.out sc (c.symm.trans e); have := HS1.out.1; omega
    · rw [c] at e; cases e
  have HC5 : Hid (∀ i (hi : i < [3, 4].length), W5.cell? ⟨sc, i, none⟩ = some (fvK [3, 4][i])) := fun i hi => (World.cell?_of_block (w := W4) (hg5.block sc HS1.out.2 (fun e => by have := HNS.out sc e.symm; have := HS1.out.1; omega))).trans (HS3.out i hi)
  clear ho5 hg5 hl5 HO4 HNS HO3 HS3 HS1 HB3 HB4
  go_wp2_with fail
  refine (strikes_any [3, 4] 2 2 rfl (by decide) sc la n lc xs HXN.out w.heap.size v5 _ ((rch_in _ _).sub ((surv_sub _ _ _).trans (strkA_sub _ _ _))) W5 HB5.out.size (HX.out.bel HB5.out) HO5.out HC5.out HN5.out _ rfl (by decide)).mono ?_
  rintro e W6 ⟨v6, rfl, ho6, hg6, hl6⟩
  have HE : Hid (RcPost w (evP (atO xs) (rchP (atO xs) n)) (.returned v6) W6) := by
    rw [ev_eq] at ho6
    exact ⟨_, rfl, ho6, HB5.out.trans (gr_bel2 hg6 HB5.out.size HO5.out)⟩
  clear ho6 hg6 hl6
  go_wp2_with fail
  go_ret
  exact HE.out
def BoPost (w : World) (N : Nat) (z : Int) (e : Ending) (w' : World) : Prop := e = .returned (.int .i64 z) ∧ Below N w w'
set_option maxRecDepth 100000 in
set_option maxHeartbeats 8000000 in
theorem bestOf_any (la : Option Addr) (n lc : Nat) (xs : List (Of × Oa)) (hxn : xs.length = n) (N : Nat) (v : Value) (ps : List Nat) (hin : InN ps n) (w : World) (hN : N ≤ w.heap.size) (hx : Ofs N w la xs) (h : OwnL EN N w v ps) (z : Int) (hz : bsI (leftP (atO xs) [8, 9, 10] ps).head? = z) : Calls Try.prog 34 #[.slice la n lc, v] w (BoPost w N z) := by
  have HX : Hid (Ofs N w la xs) := hx
  have HXN : Hid (xs.length = n) := hxn
  have HIN : Hid (InN ps n) := hin
  have HNN : Hid (N ≤ w.heap.size) := hN
  have HO : Hid (OwnL EN N w v ps) := h
  have HZ : Hid (bsI (leftP (atO xs) [8, 9, 10] ps).head? = z) := hz
  clear hx hxn hin hN h hz
  go_enter Try.func34, Try.ntmps34
  go_wp2_with fail
  refine (sp_any w).mono ?_
  rintro e W1 ⟨sb, rfl, hs1, hs2, hs3, hb1⟩
  have HS3 : Hid (∀ i (hi : i < [5, 6, 7].length), W1.cell? ⟨sb, i, none⟩ = some (fvK [5, 6, 7][i])) := hs3
  have HB1 : Hid (Below N w W1) := hb1.mono HNN.out
  have HO1 : Hid (OwnL EN N W1 v ps) := HO.out.bel hb1
  have HNS : Hid (v.ownBlock ≠ some sb) := fun e => by have := (HO.out.row.lt sb e).2; omega
  clear hs1 hs2 hs3 hb1
  go_wp2_with fail
  refine (strikes_any [5, 6, 7] 3 3 rfl (by decide) sb la n lc xs HXN.out N v ps HIN.out W1 (Nat.le_trans HNN.out HB1.out.size) (HX.out.bel HB1.out) HO1.out HS3.out HNS.out _ rfl (by decide)).mono ?_
  rintro e W2 ⟨v2, rfl, ho2, hg2, hl2⟩
  rw [pe_eq] at ho2
  have HB2 : Hid (Below N w W2) := HB1.out.trans (gr_bel2 hg2 (Nat.le_trans HNN.out HB1.out.size) HO1.out)
  clear hg2 hl2 HS3 HB1 HO1 HNS
  obtain ⟨qs, hqs⟩ : ∃ y, leftP (atO xs) [8, 9, 10] ps = y := ⟨_, rfl⟩
  rw [hqs] at ho2 HZ
  clear hqs
  obtain ⟨va, vc, rfl, -⟩ := ho2.form
  cases qs with
  | nil =>
    have HE : Hid (BoPost w N z (.returned (.int .i64 (-1))) W2) := by rw [← HZ.out]; exact ⟨rfl, HB2.out⟩
    clear ho2
    go_wp2_with fail
    go_ret
    exact HE.out
  | cons q qs =>
    have HE : Hid (BoPost w N z (.returned (.int .i64 (q : Int))) W2) := by rw [← HZ.out]; exact ⟨rfl, HB2.out⟩
    obtain ⟨g, rfl⟩ : ∃ g, va = some ⟨g, 0, none⟩ := by
      rcases ho2.row.2 with ⟨h1, h2⟩ | ⟨g', c, cur, h1, h2, h3, h4⟩
      · simp at h2
      · cases h1
        exact ⟨g', rfl⟩
    have c0 : W2.cell? ⟨g, 0, none⟩ = some (.int .i64 (q : Int)) := lst_if ho2 0 (by simp)
    have hsm := ho2.lst.1.small
    obtain ⟨m, hm⟩ : ∃ m, (q :: qs).length = m := ⟨_, rfl⟩
    rw [hm] at hsm ⊢
    have hm0 : ((m : Int) == 0) = false := by rw [← hm]; simp; omega
    have hm1 : (0 : Int) < (m : Int) := by rw [← hm]; simp only [List.length_cons]; omega
    clear ho2 hm
    go_wp2_with fail
    go_ret
    exact HE.out
set_option maxRecDepth 100000 in
set_option maxHeartbeats 8000000 in
theorem best_any (la : Option Addr) (n lc : Nat) (xs : List (Of × Oa)) (hxn : xs.length = n) (hn : n ≤ 100000000) (w : World) (hx : Ofs w.heap.size w la xs) (z : Int) (hz : bsI (bsP (atO xs) (rchP (atO xs) n)) = z) : Calls Try.prog 9 #[.slice la n lc] w (BoPost w w.heap.size z) := by
  have HX : Hid (Ofs w.heap.size w la xs) := hx
  have HXN : Hid (xs.length = n) := hxn
  have HNB : Hid (n ≤ 100000000) := hn
  have HZ : Hid (bsI (bsP (atO xs) (rchP (atO xs) n)) = z) := hz
  clear hx hxn hn hz
  go_enter Try.func9, Try.ntmps9
  go_wp2_with fail
  refine (even_any la n lc xs HXN.out HNB.out w HX.out).mono ?_
  rintro e W1 ⟨v1, rfl, ho1, hb1⟩
  have HO1 : Hid (OwnL EN w.heap.size W1 v1 (evP (atO xs) (rchP (atO xs) n))) := ho1
  have HB1 : Hid (Below w.heap.size w W1) := hb1
  clear ho1 hb1
  go_wp2_with fail
  refine (bestOf_any la n lc xs HXN.out w.heap.size v1 _ ((rch_in _ _).sub (left_sub _ _ _)) W1 HB1.out.size (HX.out.bel HB1.out) HO1.out z HZ.out).mono ?_
  rintro e W2 ⟨rfl, hb2⟩
  have HE : Hid (BoPost w w.heap.size z (.returned (.int .i64 z)) W2) := ⟨rfl, HB1.out.trans hb2⟩
  clear hb2
  go_wp2_with fail
  go_ret
  exact HE.out
set_option maxRecDepth 100000 in
set_option maxHeartbeats 8000000 in
theorem clone_any (N : Nat) (g m vc : Nat) (ps : List Nat) (hm : ps.length = m) (hs : m ≤ 1000000000) (w : World) (h : OwnL EN N w (.slice (some ⟨g, 0, none⟩) m vc) ps) : Calls Try.prog 35 #[.slice (some ⟨g, 0, none⟩) m vc] w (RcPost w ps) := by
  have HO : Hid (OwnL EN N w (.slice (some ⟨g, 0, none⟩) m vc) ps) := h
  have HM : Hid (ps.length = m) := hm
  have hq : ∀ (w : World) (a : Option Addr) (n c n' c' : Nat), (binOp .eql 24 (.slice a n c) (.slice none n' c')).run Try.prog w = .ok (.bool a.isNone) w := fun w a n c n' c' => Lib.run_eql_slice_nil w _ _ a n c n' c' Try.underlying24
  clear h hm
  go_enter Try.func35, Try.ntmps35
  go_wp2_with (at_builtin; refine list_appL EN rfl _ _ 24 rfl rfl w.heap.size (.slice (some ⟨w.heap.size, 0, none⟩) 0 0) [] ps (some ⟨g, 0, none⟩) m vc (w.alloc (Obj.cells #[] 3)) (by simp; omega) rfl (own_made0 EN rfl).1 rfl ((HO.out.lst.1).bel (own_made0 EN rfl).2) (fun c => by cases c) HM.out (own_made0 EN rfl).2.size ?_)
  intro v' w' h2 h3 h4
  have HE : Hid (RcPost w ps (.returned v') w') := by
    have h5 := h2.out
    have h6 := own_made0 (W := w) EN rfl
    exact ⟨_, rfl, h5, h6.2.trans ((Below.refl _ _).grown h3.out h6.2.size (fun k e => (h6.1.row.lt k e).1))⟩
  clear h2 h3 h4
  go_wp2_with fail
  go_ret
  exact HE.out
theorem take3 {b : Nat} {L : List Nat} {i : Nat} (h : i < L.length) : ((L.take (i + 1)).filter (fun j => decide (j ≠ b))).take 3 = if L[i] ≠ b ∧ (((L.take i).filter (fun j => decide (j ≠ b))).take 3).length < 3 then ((L.take i).filter (fun j => decide (j ≠ b))).take 3 ++ [L[i]] else ((L.take i).filter (fun j => decide (j ≠ b))).take 3 := by
  rw [(List.take_append_getElem h).symm, List.filter_append]
  by_cases c : L[i] = b
  · rw [if_neg (fun c2 => c2.1 c)]
    simp [List.filter, c]
  · have e : List.filter (fun j => decide (j ≠ b)) [L[i]] = [L[i]] := by simp [List.filter, c]
    rw [e, List.take_append]
    by_cases c3 : (((L.take i).filter (fun j => decide (j ≠ b))).take 3).length < 3
    · rw [if_pos ⟨c, c3⟩]
      congr 1
      rw [List.length_take] at c3
      have : ∃ k, 3 - (List.filter (fun j => decide (j ≠ b)) (List.take i L)).length = k + 1 := ⟨2 - (List.filter (fun j => decide (j ≠ b)) (List.take i L)).length, by omega⟩
      obtain ⟨k, hk⟩ := this
      rw [hk]
      simp
    · rw [if_neg (fun c2 => c3 c2.2)]
      rw [List.length_take] at c3
      have : 3 - (List.filter (fun j => decide (j ≠ b)) (List.take i L)).length = 0 := by omega
      rw [this]
      simp
def enO (z : Option Nat) (L : List Nat) : List Nat := match z with
  | none => []
  | some b => b :: (L.filter (fun i => decide (i ≠ b))).take 3
structure EvI (w : World) (N : Nat) (W1 : World) (b : Nat) (L : List Nat) (m : Nat) (iv ov : Value) (W : World) : Prop where
  at_ : ∃ i : Nat, i ≤ m ∧ iv = .int .i64 (i : Int) ∧ OwnL EN N W ov (b :: ((L.take i).filter (fun j => decide (j ≠ b))).take 3)
  bel : Below N W1 W
set_option maxRecDepth 100000 in
set_option maxHeartbeats 16000000 in
theorem evens_any (la : Option Addr) (n lc : Nat) (xs : List (Of × Oa)) (hxn : xs.length = n) (hn : n ≤ 100000000) (w : World) (hx : Ofs w.heap.size w la xs) : Calls Try.prog 8 #[.slice la n lc] w (RcPost w (enP (atO xs) (rchP (atO xs) n))) := by
  have HX : Hid (Ofs w.heap.size w la xs) := hx
  have HXN : Hid (xs.length = n) := hxn
  have HNB : Hid (n ≤ 100000000) := hn
  obtain ⟨R, hR⟩ : ∃ y, enP (atO xs) (rchP (atO xs) n) = y := ⟨_, rfl⟩
  have HRR : Hid (enP (atO xs) (rchP (atO xs) n) = R) := hR
  rw [hR]
  clear hx hxn hn hR
  go_enter Try.func8, Try.ntmps8
  go_wp2_with fail
  refine (even_any la n lc xs HXN.out HNB.out w HX.out).mono ?_
  rintro e W1 ⟨v1, rfl, ho1, hb1⟩
  obtain ⟨L, hL⟩ : ∃ y, evP (atO xs) (rchP (atO xs) n) = y := ⟨_, rfl⟩
  have HLI : Hid (InN L n) := by rw [← hL]; exact (rch_in _ _).sub (left_sub _ _ _)
  have HLL : Hid (L.length ≤ 100000000) := by
    rw [← hL]
    exact Nat.le_trans (left_sub _ _ _).length_le (Nat.le_trans (rch_len _ _) HNB.out)
  obtain ⟨z, hz⟩ : ∃ y, bsP (atO xs) (rchP (atO xs) n) = y := ⟨_, rfl⟩
  have HZ : Hid ((leftP (atO xs) [8, 9, 10] L).head? = z) := by rw [← hz, ← hL]; rfl
  have HR : Hid (R = enO z L) := by
    show _ = _
    rw [← HRR.out, ← hz, ← hL]
    rfl
  rw [hL] at ho1
  have HO1 : Hid (OwnL EN w.heap.size W1 v1 L) := ho1
  have HB1 : Hid (Below w.heap.size w W1) := hb1
  clear hL hz hb1 HRR
  obtain ⟨va, vc, rfl, -, hnil, -⟩ := ho1.form
  obtain ⟨m, hm⟩ : ∃ m, L.length = m := ⟨_, rfl⟩
  have HM : Hid (L.length = m) := hm
  have hm8 : m ≤ 100000000 := by rw [← hm]; exact HLL.out
  rw [hm] at HO1 ⊢
  clear ho1
  by_cases h0 : m = 0
  case pos =>
    have HE : Hid (RcPost w R (.returned (.slice none 0 0)) W1) := by
      have h5 : L = [] := List.length_eq_zero_iff.1 (hm.trans h0)
      have h6 := HZ.out
      rw [h5] at h6
      have h7 : z = none := by rw [← h6]; rfl
      have h8 := HR.out
      rw [h7] at h8
      rw [h8]
      exact ⟨_, rfl, OwnL.nil _ _ _, HB1.out⟩
    have h0b : ((m : Int) == 0) = true := by simpa using h0
    clear h0 hm hnil
    go_wp2_with fail
    go_ret
    exact HE.out
  have h0b : ((m : Int) == 0) = false := by simpa using h0
  have hm0 : 0 < m := by omega
  obtain ⟨g, rfl⟩ : ∃ g, va = some ⟨g, 0, none⟩ := by
    rcases HO1.out.row.2 with ⟨h1, h2⟩ | ⟨g', c, cur, h1, h2, h3, h4⟩
    · omega
    · cases h1
      exact ⟨g', rfl⟩
  obtain ⟨b, rfl⟩ : ∃ b, z = some b := by
    cases z with
    | none =>
      have h6 := HZ.out
      rw [List.head?_eq_none_iff] at h6
      exact absurd h6 (left_ne _ _ _ (fun e => by rw [e] at hm; simp at hm; omega))
    | some b => exact ⟨b, rfl⟩
  have HRE : Hid (b :: (L.filter (fun i => decide (i ≠ b))).take 3 = R) := HR.out.symm
  clear hm h0 hnil HR
  go_wp2_with fail
  refine (clone_any w.heap.size g m vc L HM.out (by omega) W1 HO1.out).mono ?_
  rintro e W2 ⟨v2, rfl, ho2, hb2⟩
  have HO2 : Hid (OwnL EN W1.heap.size W2 v2 L) := ho2
  have HB2 : Hid (Below W1.heap.size W1 W2) := hb2
  clear ho2 hb2
  go_wp2_with fail
  refine (bestOf_any la n lc xs HXN.out W1.heap.size v2 L HLI.out W2 HB2.out.size (((HX.out.bel HB1.out).mono HB1.out.size).bel HB2.out) HO2.out (b : Int) (by rw [HZ.out]; rfl)).mono ?_
  rintro e W3 ⟨rfl, hb3⟩
  have HB3 : Hid (Below W1.heap.size W1 W3) := HB2.out.trans hb3
  clear hb3 HO2 HB2 HZ
  have HMD := own_made EN (W := W3) [b] 1 rfl (by decide) rfl
  have HMO : Hid (OwnL EN W3.heap.size (W3.alloc (Obj.cells (EN.enc b).toArray 3)) (.slice (some ⟨W3.heap.size, 0, none⟩) 1 1) [b] ∧ Below W3.heap.size W3 (W3.alloc (Obj.cells (EN.enc b).toArray 3))) := HMD
  clear HMD
  go_wp2_with (refine list_nbuild rfl _ rfl b rfl ?_)
  obtain ⟨W4, hW4⟩ : ∃ y, W3.alloc (Obj.cells (EN.enc b).toArray 3) = y := ⟨_, rfl⟩
  obtain ⟨o4, ho4⟩ : ∃ y, W3.heap.size = y := ⟨_, rfl⟩
  have HO4 : Hid (OwnL EN W1.heap.size W4 (.slice (some ⟨o4, 0, none⟩) 1 1) [b]) := by rw [← hW4, ← ho4]; exact HMO.out.1.mono HB3.out.size
  have HB4 : Hid (Below W1.heap.size W1 W4) := by rw [← hW4]; exact HB3.out.trans (HMO.out.2.mono HB3.out.size)
  rw [hW4, ho4]
  clear hW4 ho4 HMO HB3
  go_wp2_with fail
  go_loopw [21, 5, 7] (fun iv ov _ wr => EvI w W1.heap.size W1 b L m iv ov wr) (fun i _ _ _ => m - (intOf i).toNat)
  case atStart => exact ⟨⟨0, by omega, rfl, HO4.out⟩, HB4.out⟩
  case round =>
    obtain ⟨⟨i, hi, rfl, ho⟩, hbl⟩ := hrel
    obtain ⟨qs, hqs⟩ : ∃ y, ((L.take i).filter (fun j => decide (j ≠ b))).take 3 = y := ⟨_, rfl⟩
    have hq3 : qs.length ≤ 3 := by rw [← hqs, List.length_take]; omega
    have HQS : Hid (((L.take i).filter (fun j => decide (j ≠ b))).take 3 = qs) := hqs
    rw [hqs] at ho
    obtain ⟨va, vq, rfl, -⟩ := ho.form
    obtain ⟨wz, hwz⟩ : ∃ y, wr = y := ⟨_, rfl⟩
    rw [hwz] at ho hbl ⊢
    obtain ⟨ql, hql⟩ : ∃ y, (b :: qs).length = y := ⟨_, rfl⟩
    have hql2 : ql = qs.length + 1 := by rw [← hql]; rfl
    rw [hql] at ho
    have HOQ : Hid (OwnL EN W1.heap.size wz (.slice va ql vq) (b :: qs)) := ho
    have HBL : Hid (Below W1.heap.size W1 wz) := hbl
    rw [hql]
    clear hqs ho hbl hwz hql HO4 HB4
    by_cases hlt : i < m
    case neg =>
      have hii : ¬ (i : Int) < (m : Int) := by omega
      have HE : Hid (RcPost w R (.returned (.slice va ql vq)) wz) := by
        have h5 := HQS.out
        rw [List.take_of_length_le (l := L) (by have := HM.out; omega)] at h5
        rw [← HRE.out, h5]
        exact ⟨_, rfl, HOQ.out.mono HB1.out.size, HB1.out.trans (HBL.out.mono HB1.out.size)⟩
      clear hql2 hq3
      go_wp2_with fail
      go_ret
      exact HE.out
    have hiL : i < L.length := by rw [HM.out]; exact hlt
    have hii : (i : Int) < (m : Int) := by omega
    have ii0 : (0 : Int) ≤ (i : Int) := by omega
    obtain ⟨j, hj⟩ : ∃ y, L[i] = y := ⟨_, rfl⟩
    have cg : wz.cell? ⟨g, i, none⟩ = some (.int .i64 (j : Int)) := by
      have h5 := lst_if (HO1.out.bel HBL.out) i hiL
      rw [hj] at h5
      exact h5
    have HNX : Hid (((L.take (i + 1)).filter (fun j => decide (j ≠ b))).take 3 = if j ≠ b ∧ qs.length < 3 then qs ++ [j] else qs) := by
      show _ = _
      rw [take3 hiL, HQS.out, hj]
    clear hj
    by_cases hjb : j = b
    case pos =>
      rw [if_neg (fun c => c.1 hjb)] at HNX
      have hjn : ((j : Int) != (b : Int)) = false := by rw [hjb]; simp
      clear hjb hql2 hq3
      go_wp2_with fail
      refine ⟨⟨⟨i + 1, by omega, by simp, by rw [HNX.out]; exact HOQ.out⟩, HBL.out⟩, ?_⟩
      simp [intOf]
      omega
    have hjn : ((j : Int) != (b : Int)) = true := by simp; omega
    by_cases hq : qs.length < 3
    case neg =>
      rw [if_neg (fun c => hq c.2)] at HNX
      have hql4 : ¬ (ql : Int) < 4 := by omega
      clear hjb hql2 hq3 hq
      go_wp2_with fail
      refine ⟨⟨⟨i + 1, by omega, by simp, by rw [HNX.out]; exact HOQ.out⟩, HBL.out⟩, ?_⟩
      simp [intOf]
      omega
    rw [if_pos ⟨hjb, hq⟩] at HNX
    have hql4 : (ql : Int) < 4 := by omega
    have HQ3 : Hid (qs.length < 3) := hq
    clear hjb hql2 hq3 hq
    have HA2 : Hid (Below wz.heap.size wz (wz.alloc (Obj.cells (EN.enc j).toArray 3))) := (Below.refl _ wz).alloc (Nat.le_refl _) _
    have HSZ : Hid (W1.heap.size ≤ (wz.alloc (Obj.cells (EN.enc j).toArray 3)).heap.size) := Nat.le_trans HBL.out.size HA2.out.size
    go_wp2_with (first | (refine list_nbuild rfl _ rfl j rfl ?_) | (refine list_app1 EN rfl _ _ 24 rfl rfl W1.heap.size (.slice va ql vq) (b :: qs) j (by have := HQ3.out; simp; omega) (w := wz) (wz.alloc (Obj.cells (EN.enc j).toArray 3)) rfl (HOQ.out.bel HA2.out) rfl HSZ.out rfl ?_))
    intro v7 w7 ho7 hg7 ha7
    have HB7 : Hid (Below W1.heap.size W1 w7) := (HBL.out.trans (HA2.out.mono HBL.out.size)).grown hg7.out HSZ.out (fun k e => (HOQ.out.row.lt k e).1)
    have HO7 : Hid (OwnL EN W1.heap.size w7 v7 (b :: (qs ++ [j]))) := ho7.out
    clear ho7 hg7 ha7 HA2 HSZ HOQ HBL cg
    go_wp2_with fail
    refine ⟨⟨⟨i + 1, by omega, by simp, by rw [HNX.out]; exact HO7.out⟩, HB7.out⟩, ?_⟩
    simp [intOf]
    omega
end Go.Proofs.Ytkahjibdmhaglaa.Ch
