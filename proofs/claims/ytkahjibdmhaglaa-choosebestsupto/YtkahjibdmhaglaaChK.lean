/- The order of offers: what its sorts compare. -/
import Derived.Test.YtkahjibdmhaglaaChJ
namespace Go.Proofs.Ytkahjibdmhaglaa.Ch
open Go.ChangeShapes Go.WideShapes Go.ChangeAt Go.RowKit Go.Joins Go.Deep Go.Proofs.Ytkahjibdmhaglaa.Ge
open Go.Sort hiding Below
set_option linter.unusedVariables false
set_option linter.unusedSimpArgs false

/-- what the comparisons read -/
structure FdR (N lb lo n lc sb1 sb2 c5 : Nat) (xs : List (Of × Oa)) (w : World) : Prop where
  len : xs.length = n
  hn : n ≤ 100000000
  hN : N ≤ w.heap.size
  rd : ∀ W, Below N w W → (∀ i (h : i < xs.length), OfAt W lb (lo + i * 13) xs[i].1 xs[i].2 ∧ Lst EI W xs[i].2.p xs[i].1.path) ∧ (∀ i (hi : i < [0, 1, 2].length), W.cell? ⟨sb1, i, none⟩ = some (fvK [0, 1, 2][i])) ∧ (∀ i (hi : i < [3, 4, 5, 6, 7].length), W.cell? ⟨sb2, i, none⟩ = some (fvK [3, 4, 5, 6, 7][i]))
theorem FdR.bel {N lb lo n lc sb1 sb2 c5 : Nat} {xs : List (Of × Oa)} {w w' : World} (h : FdR N lb lo n lc sb1 sb2 c5 xs w) (hb : Below N w w') : FdR N lb lo n lc sb1 sb2 c5 xs w' := ⟨h.len, h.hn, Nat.le_trans h.hN hb.size, fun W hW => h.rd W (hb.trans hW)⟩
theorem FdR.gw {N lb lo n lc sb1 sb2 c5 : Nat} {xs : List (Of × Oa)} {w w' : World} (h : FdR N lb lo n lc sb1 sb2 c5 xs w) (hb : Gw w w') : FdR N lb lo n lc sb1 sb2 c5 xs w' := h.bel (hb.bel.mono h.hN)
theorem FdR.at {N lb lo n lc sb1 sb2 c5 : Nat} {xs : List (Of × Oa)} {w : World} (h : FdR N lb lo n lc sb1 sb2 c5 xs w) (i : Nat) (hi : i < n) : ∃ s, OfAt w lb (lo + i * 13) (atO xs i) s ∧ Lst EI w s.p (atO xs i).path := by
  have hl : i < xs.length := by rw [h.len]; exact hi
  have h5 := (h.rd w (Below.refl _ _)).1 i hl
  rw [atO_is hl]
  exact ⟨_, h5⟩
def FdK : Sk := ⟨48, 3, _, Try.underlying48, rfl, by kernel_rfl⟩
def fdL (lb lo n lc sb1 sb2 c5 : Nat) : List Value := [.slice (some ⟨lb, lo, none⟩) n lc, .slice (some ⟨sb1, 0, none⟩) 3 3, .slice (some ⟨sb2, 0, none⟩) 5 c5]
theorem list_sboxe {ops : Array Oper} {rest : List Oper} {o : Oper} {ac : Act} {Q : Exit → Act → World → Prop} {W : World} (T : Sk) (hgd : o.guard = none) (x : Operand) (ho : o.op = .box T.t x) {cs : List Value} (hx : ac.eval x = .agg cs.toArray)
    (k : ∀ b W', Hid (SB T b cs W') → Hid (Gw W W') → Hid (W.heap.size = b) → wpList Try.prog ops Q rest (ac.put o.dst (.pointer (some ⟨b, 0, none⟩))) W') : wpList Try.prog ops Q (o :: rest) ac W := by
  refine wpList_plain hgd fun K hK => ?_
  unfold Oper.wp
  rw [sbox_run T x ho hx]
  exact hK _ _ (k _ _ (World.alloc_heap_new W _) (Gw.new W _) rfl)
theorem ibuild2_run {o : Oper} (x y : Operand) (ho : o.op = .buildSlice 24 2 #[(0, x), (1, y)]) {ρ : Operand → Value} {a b : Int} {W : World} (hx : ρ x = .int .i64 a) (hy : ρ y = .int .i64 b) : (execOp ρ o).run Try.prog W = .ok (.value (.slice (some ⟨W.heap.size, 0, none⟩) 2 2)) (W.alloc (Obj.cells (EI.cs [a, b]).toArray 3)) := by
  unfold execOp
  rw [ho]
  simp [go_sem, hx, hy]
  rfl
theorem ibuild4_run {o : Oper} (x y z u : Operand) (ho : o.op = .buildSlice 24 4 #[(0, x), (1, y), (2, z), (3, u)]) {ρ : Operand → Value} {a b c d : Int} {W : World} (hx : ρ x = .int .i64 a) (hy : ρ y = .int .i64 b) (hz : ρ z = .int .i64 c) (hu : ρ u = .int .i64 d) : (execOp ρ o).run Try.prog W = .ok (.value (.slice (some ⟨W.heap.size, 0, none⟩) 4 4)) (W.alloc (Obj.cells (EI.cs [a, b, c, d]).toArray 3)) := by
  unfold execOp
  rw [ho]
  simp [go_sem, hx, hy, hz, hu]
  rfl
theorem SB.gw {T : Sk} {b : Nat} {cs : List Value} {w w' : World} (h : SB T b cs w) (hb : Gw w w') : SB T b cs w' := h.blk (hb.bel.block b h.lt)
theorem list_sboxf {ops : Array Oper} {rest : List Oper} {o : Oper} {ac : Act} {Q : Exit → Act → World → Prop} {W : World} (T : Sk) (hgd : o.guard = none) (x : Operand) (ho : o.op = .box T.t x) {cs : List Value} (hx : ac.eval x = .agg cs.toArray)
    (k : ∀ b W', Hid (SB T b cs W') → Hid (Gw W W') → Hid (W.heap.size = b) → Hid (W'.heap.size = W.heap.size + 1) → wpList Try.prog ops Q rest (ac.put o.dst (.pointer (some ⟨b, 0, none⟩))) W') : wpList Try.prog ops Q (o :: rest) ac W := by
  refine wpList_plain hgd fun K hK => ?_
  unfold Oper.wp
  rw [sbox_run T x ho hx]
  exact hK _ _ (k _ _ (World.alloc_heap_new W _) (Gw.new W _) rfl (by show (W.alloc _).heap.size = _; simp))
def earlyP (xs : List (Of × Oa)) (i j : Nat) : Int := cmpA [0, 1, 2] (atO xs i) (atO xs j)
def lateP (xs : List (Of × Oa)) (i j : Nat) : Int := orP [cmpA [3, 4, 5, 6, 7] (atO xs i) (atO xs j), cmp3 (i : Int) (j : Int)]
def nbrP (xs : List (Of × Oa)) (i j : Nat) : Int := cmp3 (nbP (atO xs i)) (nbP (atO xs j))
def medP (xs : List (Of × Oa)) (i j : Nat) : Int := cmp3 (atO xs i).med (atO xs j).med
def CmPost (w : World) (z : Int) (e : Ending) (w' : World) : Prop := e = .returned (.int .i64 z) ∧ Gw w w'
set_option maxRecDepth 100000 in
set_option maxHeartbeats 8000000 in
theorem early_any (N lb lo n lc sb1 sb2 c5 : Nat) (xs : List (Of × Oa)) (i j : Nat) (hi : i < n) (hj : j < n) (w : World) (h : FdR N lb lo n lc sb1 sb2 c5 xs w) (z : Int) (hz : earlyP xs i j = z) : Calls Try.prog 26 #[.agg (fdL lb lo n lc sb1 sb2 c5).toArray, .int .i64 (i : Int), .int .i64 (j : Int)] w (CmPost w z) := by
  have HF : Hid (FdR N lb lo n lc sb1 sb2 c5 xs w) := h
  have HZ : Hid (earlyP xs i j = z) := hz
  have hii : (i : Int) < (n : Int) := by omega
  have hjj : (j : Int) < (n : Int) := by omega
  have i0 : (0 : Int) ≤ (i : Int) := by omega
  have j0 : (0 : Int) ≤ (j : Int) := by omega
  clear h hz
  go_enter Try.func26, Try.ntmps26
  go_wp2_with (refine list_sboxe FdK rfl _ rfl (cs := fdL lb lo n lc sb1 sb2 c5) rfl ?_)
  intro bf W0 hx hg hbf
  have HFD : Hid (∀ W, Gw W0 W → SB FdK bf (fdL lb lo n lc sb1 sb2 c5) W ∧ FdR N lb lo n lc sb1 sb2 c5 xs W ∧ Gw w W) := fun W hW => ⟨SB.gw hx.out hW, HF.out.gw (hg.out.trans hW), hg.out.trans hW⟩
  clear hx hg hbf
  go_wp2_with fail
  refine wp_region_held_drew (S := fun W => Gw W0 W) (by kernel_rfl) (Gw.dn W0 1) (fun hHeld => ?_)
  obtain ⟨wd, hwd⟩ : ∃ y, W0.drew = y := ⟨_, rfl⟩
  have HWD : Hid (Gw W0 wd) := by rw [← hwd]; exact Gw.dn W0 1
  rw [hwd] at hHeld ⊢
  clear hwd
  obtain ⟨si, hsi⟩ := (HFD.out wd HWD.out).2.1.at i hi
  obtain ⟨sj, hsj⟩ := (HFD.out wd HWD.out).2.1.at j hj
  have HCM : Hid (Calls Try.prog 51 #[.slice (some ⟨sb1, 0, none⟩) 3 3, .pointer (some ⟨lb, lo + i * 13, none⟩), .pointer (some ⟨lb, lo + j * 13, none⟩)] wd fun e w' => e = .returned (.int .i64 (cmpA [0, 1, 2] (atO xs i) (atO xs j))) ∧ ∃ q, w' = (wd).drewN q) := cmps_any [0, 1, 2] 3 3 sb1 lb (lo + i * 13) (lo + j * 13) _ _ si sj wd rfl (by decide) (by decide) ((HFD.out wd HWD.out).2.1.rd wd (Below.refl _ _)).2.1 hsi.1 hsj.1
  clear hsi hsj
  have HZ2 : Hid (cmpA [0, 1, 2] (atO xs i) (atO xs j) = z) := HZ.out
  rw [HZ2.out] at HCM
  refine wpAnyH_take (i := 0) (v := .pointer (some ⟨bf, 1, none⟩)) rfl (by kernel_rfl) (by kernel_rfl) (by kernel_rfl) (fun _ _ _ h => h) (Or.inl ⟨by rfl, ?_⟩) (by assumption) ?_
  case refine_1 => intro W hSw; go_simp; try rfl
  try simp only [Act.put, List.getElem_toArray, List.getElem_cons_zero, List.getElem_cons_succ, List.setIfInBounds_toArray, List.set_cons_zero, List.set_cons_succ]
  refine wpAnyH_take (i := 1) (v := .slice (some ⟨sb1, 0, none⟩) 3 3) rfl (by kernel_rfl) (by kernel_rfl) (by kernel_rfl) (fun _ _ _ h => h) (Or.inl ⟨by rfl, ?_⟩) (by assumption) ?_
  case refine_1 => intro W hSw; have k1 := (HFD.out W hSw).1.cell 1; go_simp; try rfl
  try simp only [Act.put, List.getElem_toArray, List.getElem_cons_zero, List.getElem_cons_succ, List.setIfInBounds_toArray, List.set_cons_zero, List.set_cons_succ]
  refine wpAnyH_take (i := 2) (v := .pointer (some ⟨bf, 0, none⟩)) rfl (by kernel_rfl) (by kernel_rfl) (by kernel_rfl) (fun _ _ _ h => h) (Or.inl ⟨by rfl, ?_⟩) (by assumption) ?_
  case refine_1 => intro W hSw; go_simp; try rfl
  try simp only [Act.put, List.getElem_toArray, List.getElem_cons_zero, List.getElem_cons_succ, List.setIfInBounds_toArray, List.set_cons_zero, List.set_cons_succ]
  refine wpAnyH_take (i := 3) (v := .slice (some ⟨lb, lo, none⟩) n lc) rfl (by kernel_rfl) (by kernel_rfl) (by kernel_rfl) (fun _ _ _ h => h) (Or.inl ⟨by rfl, ?_⟩) (by assumption) ?_
  case refine_1 => intro W hSw; have k1 := (HFD.out W hSw).1.cell 0; go_simp; try rfl
  try simp only [Act.put, List.getElem_toArray, List.getElem_cons_zero, List.getElem_cons_succ, List.setIfInBounds_toArray, List.set_cons_zero, List.set_cons_succ]
  refine wpAnyH_take (i := 4) (v := .int .i64 (i : Int)) rfl (by kernel_rfl) (by kernel_rfl) (by kernel_rfl) (fun _ _ _ h => h) (Or.inl ⟨by rfl, ?_⟩) (by assumption) ?_
  case refine_1 => intro W hSw; go_simp; try rfl
  try simp only [Act.put, List.getElem_toArray, List.getElem_cons_zero, List.getElem_cons_succ, List.setIfInBounds_toArray, List.set_cons_zero, List.set_cons_succ]
  refine wpAnyH_take (i := 5) (v := .pointer (some ⟨lb, lo + i * 13, none⟩)) rfl (by kernel_rfl) (by kernel_rfl) (by kernel_rfl) (fun _ _ _ h => h) (Or.inl ⟨by rfl, ?_⟩) (by assumption) ?_
  case refine_1 => intro W hSw; go_simp; try rfl
  try simp only [Act.put, List.getElem_toArray, List.getElem_cons_zero, List.getElem_cons_succ, List.setIfInBounds_toArray, List.set_cons_zero, List.set_cons_succ]
  refine wpAnyH_take (i := 6) (v := .pointer (some ⟨bf, 0, none⟩)) rfl (by kernel_rfl) (by kernel_rfl) (by kernel_rfl) (fun _ _ _ h => h) (Or.inl ⟨by rfl, ?_⟩) (by assumption) ?_
  case refine_1 => intro W hSw; go_simp; try rfl
  try simp only [Act.put, List.getElem_toArray, List.getElem_cons_zero, List.getElem_cons_succ, List.setIfInBounds_toArray, List.set_cons_zero, List.set_cons_succ]
  refine wpAnyH_take (i := 7) (v := .slice (some ⟨lb, lo, none⟩) n lc) rfl (by kernel_rfl) (by kernel_rfl) (by kernel_rfl) (fun _ _ _ h => h) (Or.inl ⟨by rfl, ?_⟩) (by assumption) ?_
  case refine_1 => intro W hSw; have k1 := (HFD.out W hSw).1.cell 0; go_simp; try rfl
  try simp only [Act.put, List.getElem_toArray, List.getElem_cons_zero, List.getElem_cons_succ, List.setIfInBounds_toArray, List.set_cons_zero, List.set_cons_succ]
  refine wpAnyH_take (i := 8) (v := .int .i64 (j : Int)) rfl (by kernel_rfl) (by kernel_rfl) (by kernel_rfl) (fun _ _ _ h => h) (Or.inl ⟨by rfl, ?_⟩) (by assumption) ?_
  case refine_1 => intro W hSw; go_simp; try rfl
  try simp only [Act.put, List.getElem_toArray, List.getElem_cons_zero, List.getElem_cons_succ, List.setIfInBounds_toArray, List.set_cons_zero, List.set_cons_succ]
  refine wpAnyH_take (i := 9) (v := .pointer (some ⟨lb, lo + j * 13, none⟩)) rfl (by kernel_rfl) (by kernel_rfl) (by kernel_rfl) (fun _ _ _ h => h) (Or.inl ⟨by rfl, ?_⟩) (by assumption) ?_
  case refine_1 => intro W hSw; go_simp; try rfl
  try simp only [Act.put, List.getElem_toArray, List.getElem_cons_zero, List.getElem_cons_succ, List.setIfInBounds_toArray, List.set_cons_zero, List.set_cons_succ]
  refine wpAnyH_ready (rs := [10]) (by kernel_rfl) (by simp) ?_
  refine AllReadyH.cons rfl (fun K hK => ?_) AllReadyH.nil
  go_simp
  refine HCM.out.mono ?_
  rintro e w1 ⟨rfl, q1, hw1⟩
  have HG1 : Hid (Gw W0 w1) := by show _; rw [hw1]; exact HWD.out.trans (Gw.dn _ _)
  clear hw1
  refine hK.out _ _ HG1.out (fun hHeld => ?_)
  clear hK K
  try simp only [Act.put, List.getElem_toArray, List.getElem_cons_zero, List.getElem_cons_succ, List.setIfInBounds_toArray, List.set_cons_zero, List.set_cons_succ]
  refine wpAnyH_take (i := 11) (v := .int .i64 z) rfl (by kernel_rfl) (by kernel_rfl) (by kernel_rfl) (fun _ _ _ h => h) (Or.inl ⟨by rfl, ?_⟩) (by assumption) ?_
  case refine_1 => intro W hSw; go_simp; try rfl
  try simp only [Act.put, List.getElem_toArray, List.getElem_cons_zero, List.getElem_cons_succ, List.setIfInBounds_toArray, List.set_cons_zero, List.set_cons_succ]
  refine wpAnyH_done (by kernel_rfl) ?_ _
  clear hHeld
  have HE : Hid (Gw w w1) := (HFD.out w1 HG1.out).2.2
  go_wp2_with fail
  go_ret
  exact ⟨rfl, HE.out⟩
set_option maxRecDepth 100000 in
set_option maxHeartbeats 8000000 in
theorem nbr_any (N lb lo n lc sb1 sb2 c5 : Nat) (xs : List (Of × Oa)) (i j : Nat) (hi : i < n) (hj : j < n) (w : World) (h : FdR N lb lo n lc sb1 sb2 c5 xs w) (z : Int) (hz : nbrP xs i j = z) : Calls Try.prog 27 #[.agg (fdL lb lo n lc sb1 sb2 c5).toArray, .int .i64 (i : Int), .int .i64 (j : Int)] w (CmPost w z) := by
  have HF : Hid (FdR N lb lo n lc sb1 sb2 c5 xs w) := h
  have HZ : Hid (nbrP xs i j = z) := hz
  have hii : (i : Int) < (n : Int) := by omega
  have hjj : (j : Int) < (n : Int) := by omega
  have i0 : (0 : Int) ≤ (i : Int) := by omega
  have j0 : (0 : Int) ≤ (j : Int) := by omega
  clear h hz
  go_enter Try.func27, Try.ntmps27
  go_wp2_with (refine list_sboxe FdK rfl _ rfl (cs := fdL lb lo n lc sb1 sb2 c5) rfl ?_)
  intro bf W0 hx hg hbf
  have HFD : Hid (∀ W, Gw W0 W → SB FdK bf (fdL lb lo n lc sb1 sb2 c5) W ∧ FdR N lb lo n lc sb1 sb2 c5 xs W ∧ Gw w W) := fun W hW => ⟨SB.gw hx.out hW, HF.out.gw (hg.out.trans hW), hg.out.trans hW⟩
  clear hx hg hbf
  go_wp2_with fail
  refine wp_region_held_drew (S := fun W => Gw W0 W) (by kernel_rfl) (Gw.dn W0 1) (fun hHeld => ?_)
  obtain ⟨wd, hwd⟩ : ∃ y, W0.drew = y := ⟨_, rfl⟩
  have HWD : Hid (Gw W0 wd) := by rw [← hwd]; exact Gw.dn W0 1
  rw [hwd] at hHeld ⊢
  clear hwd
  obtain ⟨si, hsi⟩ := (HFD.out wd HWD.out).2.1.at i hi
  obtain ⟨sj, hsj⟩ := (HFD.out wd HWD.out).2.1.at j hj
  have HC1 : Hid (Calls Try.prog 52 #[.pointer (some ⟨lb, lo + i * 13, none⟩)] wd fun e w' => e = .returned (.int .i64 (nbP (atO xs i))) ∧ w' = wd) := nb_any lb (lo + i * 13) _ si wd hsi.1 hsi.2
  have HC2 : Hid (Calls Try.prog 52 #[.pointer (some ⟨lb, lo + j * 13, none⟩)] wd fun e w' => e = .returned (.int .i64 (nbP (atO xs j))) ∧ w' = wd) := nb_any lb (lo + j * 13) _ sj wd hsj.1 hsj.2
  obtain ⟨p1, hp1⟩ : ∃ y, nbP (atO xs i) = y := ⟨_, rfl⟩
  obtain ⟨p2, hp2⟩ : ∃ y, nbP (atO xs j) = y := ⟨_, rfl⟩
  have HZ2 : Hid (cmp3 p1 p2 = z) := by show _ = _; rw [← HZ.out, ← hp1, ← hp2]; rfl
  rw [hp1] at HC1
  rw [hp2] at HC2
  clear hsi hsj hp1 hp2
  refine wpAnyH_take (i := 0) (v := .pointer (some ⟨bf, 0, none⟩)) rfl (by kernel_rfl) (by kernel_rfl) (by kernel_rfl) (fun _ _ _ h => h) (Or.inl ⟨by rfl, ?_⟩) (by assumption) ?_
  case refine_1 => intro W hSw; go_simp; try rfl
  try simp only [Act.put, List.getElem_toArray, List.getElem_cons_zero, List.getElem_cons_succ, List.setIfInBounds_toArray, List.set_cons_zero, List.set_cons_succ]
  refine wpAnyH_take (i := 1) (v := .slice (some ⟨lb, lo, none⟩) n lc) rfl (by kernel_rfl) (by kernel_rfl) (by kernel_rfl) (fun _ _ _ h => h) (Or.inl ⟨by rfl, ?_⟩) (by assumption) ?_
  case refine_1 => intro W hSw; have k1 := (HFD.out W hSw).1.cell 0; go_simp; try rfl
  try simp only [Act.put, List.getElem_toArray, List.getElem_cons_zero, List.getElem_cons_succ, List.setIfInBounds_toArray, List.set_cons_zero, List.set_cons_succ]
  refine wpAnyH_take (i := 2) (v := .int .i64 (i : Int)) rfl (by kernel_rfl) (by kernel_rfl) (by kernel_rfl) (fun _ _ _ h => h) (Or.inl ⟨by rfl, ?_⟩) (by assumption) ?_
  case refine_1 => intro W hSw; go_simp; try rfl
  try simp only [Act.put, List.getElem_toArray, List.getElem_cons_zero, List.getElem_cons_succ, List.setIfInBounds_toArray, List.set_cons_zero, List.set_cons_succ]
  refine wpAnyH_take (i := 3) (v := .pointer (some ⟨lb, lo + i * 13, none⟩)) rfl (by kernel_rfl) (by kernel_rfl) (by kernel_rfl) (fun _ _ _ h => h) (Or.inl ⟨by rfl, ?_⟩) (by assumption) ?_
  case refine_1 => intro W hSw; go_simp; try rfl
  try simp only [Act.put, List.getElem_toArray, List.getElem_cons_zero, List.getElem_cons_succ, List.setIfInBounds_toArray, List.set_cons_zero, List.set_cons_succ]
  refine wpAnyH_take (i := 5) (v := .pointer (some ⟨bf, 0, none⟩)) rfl (by kernel_rfl) (by kernel_rfl) (by kernel_rfl) (fun _ _ _ h => h) (Or.inl ⟨by rfl, ?_⟩) (by assumption) ?_
  case refine_1 => intro W hSw; go_simp; try rfl
  try simp only [Act.put, List.getElem_toArray, List.getElem_cons_zero, List.getElem_cons_succ, List.setIfInBounds_toArray, List.set_cons_zero, List.set_cons_succ]
  refine wpAnyH_take (i := 6) (v := .slice (some ⟨lb, lo, none⟩) n lc) rfl (by kernel_rfl) (by kernel_rfl) (by kernel_rfl) (fun _ _ _ h => h) (Or.inl ⟨by rfl, ?_⟩) (by assumption) ?_
  case refine_1 => intro W hSw; have k1 := (HFD.out W hSw).1.cell 0; go_simp; try rfl
  try simp only [Act.put, List.getElem_toArray, List.getElem_cons_zero, List.getElem_cons_succ, List.setIfInBounds_toArray, List.set_cons_zero, List.set_cons_succ]
  refine wpAnyH_take (i := 7) (v := .int .i64 (j : Int)) rfl (by kernel_rfl) (by kernel_rfl) (by kernel_rfl) (fun _ _ _ h => h) (Or.inl ⟨by rfl, ?_⟩) (by assumption) ?_
  case refine_1 => intro W hSw; go_simp; try rfl
  try simp only [Act.put, List.getElem_toArray, List.getElem_cons_zero, List.getElem_cons_succ, List.setIfInBounds_toArray, List.set_cons_zero, List.set_cons_succ]
  refine wpAnyH_take (i := 8) (v := .pointer (some ⟨lb, lo + j * 13, none⟩)) rfl (by kernel_rfl) (by kernel_rfl) (by kernel_rfl) (fun _ _ _ h => h) (Or.inl ⟨by rfl, ?_⟩) (by assumption) ?_
  case refine_1 => intro W hSw; go_simp; try rfl
  try simp only [Act.put, List.getElem_toArray, List.getElem_cons_zero, List.getElem_cons_succ, List.setIfInBounds_toArray, List.set_cons_zero, List.set_cons_succ]
  refine wpAnyH_ready (rs := [4]) (by kernel_rfl) (by simp) ?_
  refine AllReadyH.cons rfl (fun K hK => ?_) AllReadyH.nil
  go_simp
  refine (HC1.out).mono ?_
  rintro e we ⟨rfl, hwe⟩
  rw [hwe]
  clear hwe we
  refine hK.out _ _ HWD.out (fun hHeld => ?_)
  clear hK K
  try simp only [Act.put, List.getElem_toArray, List.getElem_cons_zero, List.getElem_cons_succ, List.setIfInBounds_toArray, List.set_cons_zero, List.set_cons_succ]
  refine wpAnyH_ready (rs := [9]) (by kernel_rfl) (by simp) ?_
  refine AllReadyH.cons rfl (fun K hK => ?_) AllReadyH.nil
  go_simp
  refine (HC2.out).mono ?_
  rintro e we ⟨rfl, hwe⟩
  rw [hwe]
  clear hwe we
  refine hK.out _ _ HWD.out (fun hHeld => ?_)
  clear hK K
  try simp only [Act.put, List.getElem_toArray, List.getElem_cons_zero, List.getElem_cons_succ, List.setIfInBounds_toArray, List.set_cons_zero, List.set_cons_succ]
  refine wpAnyH_ready (rs := [10]) (by kernel_rfl) (by simp) ?_
  refine AllReadyH.cons rfl (fun K hK => ?_) AllReadyH.nil
  go_simp
  refine (cmp_any p1 p2 wd).mono ?_
  rintro e we ⟨rfl, hwe⟩
  rw [hwe]
  clear hwe we
  refine hK.out _ _ HWD.out (fun hHeld => ?_)
  clear hK K
  try simp only [Act.put, List.getElem_toArray, List.getElem_cons_zero, List.getElem_cons_succ, List.setIfInBounds_toArray, List.set_cons_zero, List.set_cons_succ]
  rw [HZ2.out]
  refine wpAnyH_take (i := 11) (v := .int .i64 z) rfl (by kernel_rfl) (by kernel_rfl) (by kernel_rfl) (fun _ _ _ h => h) (Or.inl ⟨by rfl, ?_⟩) (by assumption) ?_
  case refine_1 => intro W hSw; go_simp; try rfl
  try simp only [Act.put, List.getElem_toArray, List.getElem_cons_zero, List.getElem_cons_succ, List.setIfInBounds_toArray, List.set_cons_zero, List.set_cons_succ]
  refine wpAnyH_done (by kernel_rfl) ?_ _
  clear hHeld
  have HE : Hid (Gw w wd) := (HFD.out wd HWD.out).2.2
  go_wp2_with fail
  go_ret
  exact ⟨rfl, HE.out⟩
set_option maxRecDepth 100000 in
set_option maxHeartbeats 8000000 in
theorem bmed_any (N lb lo n lc sb1 sb2 c5 : Nat) (xs : List (Of × Oa)) (i j : Nat) (hi : i < n) (hj : j < n) (w : World) (h : FdR N lb lo n lc sb1 sb2 c5 xs w) (z : Int) (hz : medP xs i j = z) : Calls Try.prog 28 #[.agg (fdL lb lo n lc sb1 sb2 c5).toArray, .int .i64 (i : Int), .int .i64 (j : Int)] w (CmPost w z) := by
  have HF : Hid (FdR N lb lo n lc sb1 sb2 c5 xs w) := h
  have HZ : Hid (medP xs i j = z) := hz
  have hii : (i : Int) < (n : Int) := by omega
  have hjj : (j : Int) < (n : Int) := by omega
  have i0 : (0 : Int) ≤ (i : Int) := by omega
  have j0 : (0 : Int) ≤ (j : Int) := by omega
  clear h hz
  go_enter Try.func28, Try.ntmps28
  go_wp2_with (refine list_sboxe FdK rfl _ rfl (cs := fdL lb lo n lc sb1 sb2 c5) rfl ?_)
  intro bf W0 hx hg hbf
  have HFD : Hid (∀ W, Gw W0 W → SB FdK bf (fdL lb lo n lc sb1 sb2 c5) W ∧ FdR N lb lo n lc sb1 sb2 c5 xs W ∧ Gw w W) := fun W hW => ⟨SB.gw hx.out hW, HF.out.gw (hg.out.trans hW), hg.out.trans hW⟩
  clear hx hg hbf
  go_wp2_with fail
  refine wp_region_held_drew (S := fun W => Gw W0 W) (by kernel_rfl) (Gw.dn W0 1) (fun hHeld => ?_)
  obtain ⟨wd, hwd⟩ : ∃ y, W0.drew = y := ⟨_, rfl⟩
  have HWD : Hid (Gw W0 wd) := by rw [← hwd]; exact Gw.dn W0 1
  rw [hwd] at hHeld ⊢
  clear hwd
  have HMI : Hid (∀ W, Gw W0 W → W.cell? ⟨lb, lo + i * 13 + 5, none⟩ = some (.int .i64 (atO xs i).med)) := fun W hW => by
    obtain ⟨si, hsi⟩ := (HFD.out W hW).2.1.at i hi
    exact hsi.1 5 (by decide)
  have HMJ : Hid (∀ W, Gw W0 W → W.cell? ⟨lb, lo + j * 13 + 5, none⟩ = some (.int .i64 (atO xs j).med)) := fun W hW => by
    obtain ⟨sj, hsj⟩ := (HFD.out W hW).2.1.at j hj
    exact hsj.1 5 (by decide)
  obtain ⟨p1, hp1⟩ : ∃ y, (atO xs i).med = y := ⟨_, rfl⟩
  obtain ⟨p2, hp2⟩ : ∃ y, (atO xs j).med = y := ⟨_, rfl⟩
  have HZ2 : Hid (cmp3 p1 p2 = z) := by show _ = _; rw [← HZ.out, ← hp1, ← hp2]; rfl
  rw [hp1] at HMI
  rw [hp2] at HMJ
  clear hp1 hp2
  refine wpAnyH_take (i := 0) (v := .pointer (some ⟨bf, 0, none⟩)) rfl (by kernel_rfl) (by kernel_rfl) (by kernel_rfl) (fun _ _ _ h => h) (Or.inl ⟨by rfl, ?_⟩) (by assumption) ?_
  case refine_1 => intro W hSw; go_simp; try rfl
  try simp only [Act.put, List.getElem_toArray, List.getElem_cons_zero, List.getElem_cons_succ, List.setIfInBounds_toArray, List.set_cons_zero, List.set_cons_succ]
  refine wpAnyH_take (i := 1) (v := .slice (some ⟨lb, lo, none⟩) n lc) rfl (by kernel_rfl) (by kernel_rfl) (by kernel_rfl) (fun _ _ _ h => h) (Or.inl ⟨by rfl, ?_⟩) (by assumption) ?_
  case refine_1 => intro W hSw; have k1 := (HFD.out W hSw).1.cell 0; go_simp; try rfl
  try simp only [Act.put, List.getElem_toArray, List.getElem_cons_zero, List.getElem_cons_succ, List.setIfInBounds_toArray, List.set_cons_zero, List.set_cons_succ]
  refine wpAnyH_take (i := 2) (v := .int .i64 (i : Int)) rfl (by kernel_rfl) (by kernel_rfl) (by kernel_rfl) (fun _ _ _ h => h) (Or.inl ⟨by rfl, ?_⟩) (by assumption) ?_
  case refine_1 => intro W hSw; go_simp; try rfl
  try simp only [Act.put, List.getElem_toArray, List.getElem_cons_zero, List.getElem_cons_succ, List.setIfInBounds_toArray, List.set_cons_zero, List.set_cons_succ]
  refine wpAnyH_take (i := 3) (v := .pointer (some ⟨lb, lo + i * 13, none⟩)) rfl (by kernel_rfl) (by kernel_rfl) (by kernel_rfl) (fun _ _ _ h => h) (Or.inl ⟨by rfl, ?_⟩) (by assumption) ?_
  case refine_1 => intro W hSw; go_simp; try rfl
  try simp only [Act.put, List.getElem_toArray, List.getElem_cons_zero, List.getElem_cons_succ, List.setIfInBounds_toArray, List.set_cons_zero, List.set_cons_succ]
  refine wpAnyH_take (i := 4) (v := .pointer (some ⟨lb, lo + i * 13, none⟩)) rfl (by kernel_rfl) (by kernel_rfl) (by kernel_rfl) (fun _ _ _ h => h) (Or.inl ⟨by rfl, ?_⟩) (by assumption) ?_
  case refine_1 => intro W hSw; go_simp; try rfl
  try simp only [Act.put, List.getElem_toArray, List.getElem_cons_zero, List.getElem_cons_succ, List.setIfInBounds_toArray, List.set_cons_zero, List.set_cons_succ]
  refine wpAnyH_take (i := 5) (v := .pointer (some ⟨lb, lo + i * 13 + 5, none⟩)) rfl (by kernel_rfl) (by kernel_rfl) (by kernel_rfl) (fun _ _ _ h => h) (Or.inl ⟨by rfl, ?_⟩) (by assumption) ?_
  case refine_1 => intro W hSw; go_simp; try rfl
  try simp only [Act.put, List.getElem_toArray, List.getElem_cons_zero, List.getElem_cons_succ, List.setIfInBounds_toArray, List.set_cons_zero, List.set_cons_succ]
  refine wpAnyH_take (i := 6) (v := .int .i64 p1) rfl (by kernel_rfl) (by kernel_rfl) (by kernel_rfl) (fun _ _ _ h => h) (Or.inl ⟨by rfl, ?_⟩) (by assumption) ?_
  case refine_1 => intro W hSw; have k1 := HMI.out W hSw; go_simp; try rfl
  try simp only [Act.put, List.getElem_toArray, List.getElem_cons_zero, List.getElem_cons_succ, List.setIfInBounds_toArray, List.set_cons_zero, List.set_cons_succ]
  refine wpAnyH_take (i := 7) (v := .pointer (some ⟨bf, 0, none⟩)) rfl (by kernel_rfl) (by kernel_rfl) (by kernel_rfl) (fun _ _ _ h => h) (Or.inl ⟨by rfl, ?_⟩) (by assumption) ?_
  case refine_1 => intro W hSw; go_simp; try rfl
  try simp only [Act.put, List.getElem_toArray, List.getElem_cons_zero, List.getElem_cons_succ, List.setIfInBounds_toArray, List.set_cons_zero, List.set_cons_succ]
  refine wpAnyH_take (i := 8) (v := .slice (some ⟨lb, lo, none⟩) n lc) rfl (by kernel_rfl) (by kernel_rfl) (by kernel_rfl) (fun _ _ _ h => h) (Or.inl ⟨by rfl, ?_⟩) (by assumption) ?_
  case refine_1 => intro W hSw; have k1 := (HFD.out W hSw).1.cell 0; go_simp; try rfl
  try simp only [Act.put, List.getElem_toArray, List.getElem_cons_zero, List.getElem_cons_succ, List.setIfInBounds_toArray, List.set_cons_zero, List.set_cons_succ]
  refine wpAnyH_take (i := 9) (v := .int .i64 (j : Int)) rfl (by kernel_rfl) (by kernel_rfl) (by kernel_rfl) (fun _ _ _ h => h) (Or.inl ⟨by rfl, ?_⟩) (by assumption) ?_
  case refine_1 => intro W hSw; go_simp; try rfl
  try simp only [Act.put, List.getElem_toArray, List.getElem_cons_zero, List.getElem_cons_succ, List.setIfInBounds_toArray, List.set_cons_zero, List.set_cons_succ]
  refine wpAnyH_take (i := 10) (v := .pointer (some ⟨lb, lo + j * 13, none⟩)) rfl (by kernel_rfl) (by kernel_rfl) (by kernel_rfl) (fun _ _ _ h => h) (Or.inl ⟨by rfl, ?_⟩) (by assumption) ?_
  case refine_1 => intro W hSw; go_simp; try rfl
  try simp only [Act.put, List.getElem_toArray, List.getElem_cons_zero, List.getElem_cons_succ, List.setIfInBounds_toArray, List.set_cons_zero, List.set_cons_succ]
  refine wpAnyH_take (i := 11) (v := .pointer (some ⟨lb, lo + j * 13, none⟩)) rfl (by kernel_rfl) (by kernel_rfl) (by kernel_rfl) (fun _ _ _ h => h) (Or.inl ⟨by rfl, ?_⟩) (by assumption) ?_
  case refine_1 => intro W hSw; go_simp; try rfl
  try simp only [Act.put, List.getElem_toArray, List.getElem_cons_zero, List.getElem_cons_succ, List.setIfInBounds_toArray, List.set_cons_zero, List.set_cons_succ]
  refine wpAnyH_take (i := 12) (v := .pointer (some ⟨lb, lo + j * 13 + 5, none⟩)) rfl (by kernel_rfl) (by kernel_rfl) (by kernel_rfl) (fun _ _ _ h => h) (Or.inl ⟨by rfl, ?_⟩) (by assumption) ?_
  case refine_1 => intro W hSw; go_simp; try rfl
  try simp only [Act.put, List.getElem_toArray, List.getElem_cons_zero, List.getElem_cons_succ, List.setIfInBounds_toArray, List.set_cons_zero, List.set_cons_succ]
  refine wpAnyH_take (i := 13) (v := .int .i64 p2) rfl (by kernel_rfl) (by kernel_rfl) (by kernel_rfl) (fun _ _ _ h => h) (Or.inl ⟨by rfl, ?_⟩) (by assumption) ?_
  case refine_1 => intro W hSw; have k1 := HMJ.out W hSw; go_simp; try rfl
  try simp only [Act.put, List.getElem_toArray, List.getElem_cons_zero, List.getElem_cons_succ, List.setIfInBounds_toArray, List.set_cons_zero, List.set_cons_succ]
  refine wpAnyH_ready (rs := [14]) (by kernel_rfl) (by simp) ?_
  refine AllReadyH.cons rfl (fun K hK => ?_) AllReadyH.nil
  go_simp
  refine (cmp_any p1 p2 wd).mono ?_
  rintro e we ⟨rfl, hwe⟩
  rw [hwe]
  clear hwe we
  refine hK.out _ _ HWD.out (fun hHeld => ?_)
  clear hK K
  try simp only [Act.put, List.getElem_toArray, List.getElem_cons_zero, List.getElem_cons_succ, List.setIfInBounds_toArray, List.set_cons_zero, List.set_cons_succ]
  rw [HZ2.out]
  refine wpAnyH_take (i := 15) (v := .int .i64 z) rfl (by kernel_rfl) (by kernel_rfl) (by kernel_rfl) (fun _ _ _ h => h) (Or.inl ⟨by rfl, ?_⟩) (by assumption) ?_
  case refine_1 => intro W hSw; go_simp; try rfl
  try simp only [Act.put, List.getElem_toArray, List.getElem_cons_zero, List.getElem_cons_succ, List.setIfInBounds_toArray, List.set_cons_zero, List.set_cons_succ]
  refine wpAnyH_done (by kernel_rfl) ?_ _
  clear hHeld
  have HE : Hid (Gw w wd) := (HFD.out wd HWD.out).2.2
  go_wp2_with fail
  go_ret
  exact ⟨rfl, HE.out⟩
set_option maxRecDepth 100000 in
set_option maxHeartbeats 8000000 in
theorem late_any (N lb lo n lc sb1 sb2 c5 : Nat) (xs : List (Of × Oa)) (i j : Nat) (hi : i < n) (hj : j < n) (w : World) (h : FdR N lb lo n lc sb1 sb2 c5 xs w) (z : Int) (hz : lateP xs i j = z) : Calls Try.prog 29 #[.agg (fdL lb lo n lc sb1 sb2 c5).toArray, .int .i64 (i : Int), .int .i64 (j : Int)] w (CmPost w z) := by
  have HF : Hid (FdR N lb lo n lc sb1 sb2 c5 xs w) := h
  have HZ : Hid (lateP xs i j = z) := hz
  have hii : (i : Int) < (n : Int) := by omega
  have hjj : (j : Int) < (n : Int) := by omega
  have i0 : (0 : Int) ≤ (i : Int) := by omega
  have j0 : (0 : Int) ≤ (j : Int) := by omega
  clear h hz
  go_enter Try.func29, Try.ntmps29
  go_wp2_with (refine list_sboxe FdK rfl _ rfl (cs := fdL lb lo n lc sb1 sb2 c5) rfl ?_)
  intro bf W0 hx hg hbf
  have HFD : Hid (∀ W, Gw W0 W → SB FdK bf (fdL lb lo n lc sb1 sb2 c5) W ∧ FdR N lb lo n lc sb1 sb2 c5 xs W ∧ Gw w W) := fun W hW => ⟨SB.gw hx.out hW, HF.out.gw (hg.out.trans hW), hg.out.trans hW⟩
  clear hx hg hbf
  go_wp2_with fail
  refine wp_region_held_drew (S := fun W => Gw W0 W) (by kernel_rfl) (Gw.dn W0 1) (fun hHeld => ?_)
  obtain ⟨wd, hwd⟩ : ∃ y, W0.drew = y := ⟨_, rfl⟩
  have HWD : Hid (Gw W0 wd) := by rw [← hwd]; exact Gw.dn W0 1
  rw [hwd] at hHeld ⊢
  clear hwd
  obtain ⟨si, hsi⟩ := (HFD.out wd HWD.out).2.1.at i hi
  obtain ⟨sj, hsj⟩ := (HFD.out wd HWD.out).2.1.at j hj
  have HCM : Hid (Calls Try.prog 51 #[.slice (some ⟨sb2, 0, none⟩) 5 c5, .pointer (some ⟨lb, lo + i * 13, none⟩), .pointer (some ⟨lb, lo + j * 13, none⟩)] wd fun e w' => e = .returned (.int .i64 (cmpA [3, 4, 5, 6, 7] (atO xs i) (atO xs j))) ∧ ∃ q, w' = (wd).drewN q) := cmps_any [3, 4, 5, 6, 7] 5 c5 sb2 lb (lo + i * 13) (lo + j * 13) _ _ si sj wd rfl (by decide) (by decide) ((HFD.out wd HWD.out).2.1.rd wd (Below.refl _ _)).2.2 hsi.1 hsj.1
  clear hsi hsj
  obtain ⟨p1, hp1⟩ : ∃ y, cmpA [3, 4, 5, 6, 7] (atO xs i) (atO xs j) = y := ⟨_, rfl⟩
  obtain ⟨p2, hp2⟩ : ∃ y, cmp3 (i : Int) (j : Int) = y := ⟨_, rfl⟩
  have HP2 : Hid (cmp3 (i : Int) (j : Int) = p2) := hp2
  have HZ2 : Hid (orP [p1, p2] = z) := by show _ = _; rw [← HZ.out, ← hp1, ← hp2]; rfl
  rw [hp1] at HCM
  clear hp1 hp2
  refine wpAnyH_take (i := 0) (v := .pointer (some ⟨bf, 2, none⟩)) rfl (by kernel_rfl) (by kernel_rfl) (by kernel_rfl) (fun _ _ _ h => h) (Or.inl ⟨by rfl, ?_⟩) (by assumption) ?_
  case refine_1 => intro W hSw; go_simp; try rfl
  try simp only [Act.put, List.getElem_toArray, List.getElem_cons_zero, List.getElem_cons_succ, List.setIfInBounds_toArray, List.set_cons_zero, List.set_cons_succ]
  refine wpAnyH_take (i := 1) (v := .slice (some ⟨sb2, 0, none⟩) 5 c5) rfl (by kernel_rfl) (by kernel_rfl) (by kernel_rfl) (fun _ _ _ h => h) (Or.inl ⟨by rfl, ?_⟩) (by assumption) ?_
  case refine_1 => intro W hSw; have k1 := (HFD.out W hSw).1.cell 2; go_simp; try rfl
  try simp only [Act.put, List.getElem_toArray, List.getElem_cons_zero, List.getElem_cons_succ, List.setIfInBounds_toArray, List.set_cons_zero, List.set_cons_succ]
  refine wpAnyH_take (i := 2) (v := .pointer (some ⟨bf, 0, none⟩)) rfl (by kernel_rfl) (by kernel_rfl) (by kernel_rfl) (fun _ _ _ h => h) (Or.inl ⟨by rfl, ?_⟩) (by assumption) ?_
  case refine_1 => intro W hSw; go_simp; try rfl
  try simp only [Act.put, List.getElem_toArray, List.getElem_cons_zero, List.getElem_cons_succ, List.setIfInBounds_toArray, List.set_cons_zero, List.set_cons_succ]
  refine wpAnyH_take (i := 3) (v := .slice (some ⟨lb, lo, none⟩) n lc) rfl (by kernel_rfl) (by kernel_rfl) (by kernel_rfl) (fun _ _ _ h => h) (Or.inl ⟨by rfl, ?_⟩) (by assumption) ?_
  case refine_1 => intro W hSw; have k1 := (HFD.out W hSw).1.cell 0; go_simp; try rfl
  try simp only [Act.put, List.getElem_toArray, List.getElem_cons_zero, List.getElem_cons_succ, List.setIfInBounds_toArray, List.set_cons_zero, List.set_cons_succ]
  refine wpAnyH_take (i := 4) (v := .int .i64 (i : Int)) rfl (by kernel_rfl) (by kernel_rfl) (by kernel_rfl) (fun _ _ _ h => h) (Or.inl ⟨by rfl, ?_⟩) (by assumption) ?_
  case refine_1 => intro W hSw; go_simp; try rfl
  try simp only [Act.put, List.getElem_toArray, List.getElem_cons_zero, List.getElem_cons_succ, List.setIfInBounds_toArray, List.set_cons_zero, List.set_cons_succ]
  refine wpAnyH_take (i := 5) (v := .pointer (some ⟨lb, lo + i * 13, none⟩)) rfl (by kernel_rfl) (by kernel_rfl) (by kernel_rfl) (fun _ _ _ h => h) (Or.inl ⟨by rfl, ?_⟩) (by assumption) ?_
  case refine_1 => intro W hSw; go_simp; try rfl
  try simp only [Act.put, List.getElem_toArray, List.getElem_cons_zero, List.getElem_cons_succ, List.setIfInBounds_toArray, List.set_cons_zero, List.set_cons_succ]
  refine wpAnyH_take (i := 6) (v := .pointer (some ⟨bf, 0, none⟩)) rfl (by kernel_rfl) (by kernel_rfl) (by kernel_rfl) (fun _ _ _ h => h) (Or.inl ⟨by rfl, ?_⟩) (by assumption) ?_
  case refine_1 => intro W hSw; go_simp; try rfl
  try simp only [Act.put, List.getElem_toArray, List.getElem_cons_zero, List.getElem_cons_succ, List.setIfInBounds_toArray, List.set_cons_zero, List.set_cons_succ]
  refine wpAnyH_take (i := 7) (v := .slice (some ⟨lb, lo, none⟩) n lc) rfl (by kernel_rfl) (by kernel_rfl) (by kernel_rfl) (fun _ _ _ h => h) (Or.inl ⟨by rfl, ?_⟩) (by assumption) ?_
  case refine_1 => intro W hSw; have k1 := (HFD.out W hSw).1.cell 0; go_simp; try rfl
  try simp only [Act.put, List.getElem_toArray, List.getElem_cons_zero, List.getElem_cons_succ, List.setIfInBounds_toArray, List.set_cons_zero, List.set_cons_succ]
  refine wpAnyH_take (i := 8) (v := .int .i64 (j : Int)) rfl (by kernel_rfl) (by kernel_rfl) (by kernel_rfl) (fun _ _ _ h => h) (Or.inl ⟨by rfl, ?_⟩) (by assumption) ?_
  case refine_1 => intro W hSw; go_simp; try rfl
  try simp only [Act.put, List.getElem_toArray, List.getElem_cons_zero, List.getElem_cons_succ, List.setIfInBounds_toArray, List.set_cons_zero, List.set_cons_succ]
  refine wpAnyH_take (i := 9) (v := .pointer (some ⟨lb, lo + j * 13, none⟩)) rfl (by kernel_rfl) (by kernel_rfl) (by kernel_rfl) (fun _ _ _ h => h) (Or.inl ⟨by rfl, ?_⟩) (by assumption) ?_
  case refine_1 => intro W hSw; go_simp; try rfl
  try simp only [Act.put, List.getElem_toArray, List.getElem_cons_zero, List.getElem_cons_succ, List.setIfInBounds_toArray, List.set_cons_zero, List.set_cons_succ]
  refine wpAnyH_take (i := 11) (v := .int .i64 (i : Int)) rfl (by kernel_rfl) (by kernel_rfl) (by kernel_rfl) (fun _ _ _ h => h) (Or.inl ⟨by rfl, ?_⟩) (by assumption) ?_
  case refine_1 => intro W hSw; go_simp; try rfl
  try simp only [Act.put, List.getElem_toArray, List.getElem_cons_zero, List.getElem_cons_succ, List.setIfInBounds_toArray, List.set_cons_zero, List.set_cons_succ]
  refine wpAnyH_take (i := 12) (v := .int .i64 (j : Int)) rfl (by kernel_rfl) (by kernel_rfl) (by kernel_rfl) (fun _ _ _ h => h) (Or.inl ⟨by rfl, ?_⟩) (by assumption) ?_
  case refine_1 => intro W hSw; go_simp; try rfl
  try simp only [Act.put, List.getElem_toArray, List.getElem_cons_zero, List.getElem_cons_succ, List.setIfInBounds_toArray, List.set_cons_zero, List.set_cons_succ]
  refine wpAnyH_ready (rs := [10]) (by kernel_rfl) (by simp) ?_
  refine AllReadyH.cons rfl (fun K hK => ?_) AllReadyH.nil
  go_simp
  refine HCM.out.mono ?_
  rintro e w1 ⟨rfl, q1, hw1⟩
  have HG1 : Hid (Gw W0 w1) := by show _; rw [hw1]; exact HWD.out.trans (Gw.dn _ _)
  clear hw1
  refine hK.out _ _ HG1.out (fun hHeld => ?_)
  clear hK K
  try simp only [Act.put, List.getElem_toArray, List.getElem_cons_zero, List.getElem_cons_succ, List.setIfInBounds_toArray, List.set_cons_zero, List.set_cons_succ]
  refine wpAnyH_ready (rs := [13]) (by kernel_rfl) (by simp) ?_
  refine AllReadyH.cons rfl (fun K hK => ?_) AllReadyH.nil
  go_simp
  refine (cmp_any (i : Int) (j : Int) w1).mono ?_
  rintro e we ⟨rfl, hwe⟩
  rw [hwe]
  clear hwe we
  refine hK.out _ _ HG1.out (fun hHeld => ?_)
  clear hK K
  try simp only [Act.put, List.getElem_toArray, List.getElem_cons_zero, List.getElem_cons_succ, List.setIfInBounds_toArray, List.set_cons_zero, List.set_cons_succ]
  rw [HP2.out]
  refine wpAnyH_ready (rs := [14]) (by kernel_rfl) (by simp) ?_
  refine AllReadyH.cons rfl (fun K hK => ?_) AllReadyH.nil
  refine step_run rfl (ibuild2_run (.tmp 17) (.tmp 20) rfl rfl rfl) ?_
  obtain ⟨bs, hbs⟩ : ∃ y, w1.heap.size = y := ⟨_, rfl⟩
  rw [hbs]
  have hms := own_made EI (W := w1) [p1, p2] 2 rfl (by decide) rfl
  rw [hbs] at hms
  obtain ⟨w2, hw2⟩ : ∃ y, w1.alloc (Obj.cells (EI.cs [p1, p2]).toArray 3) = y := ⟨_, rfl⟩
  have HLw2 : Hid (Lst EI w2 (some ⟨bs, 0, none⟩) [p1, p2]) := by show Lst EI _ _ _; rw [← hw2]; exact hms.1.lst.1
  have HG2 : Hid (Gw W0 w2) := by show Gw _ _; rw [← hw2]; exact HG1.out.trans (Gw.new _ _)
  rw [hw2]
  clear hms hw2 hbs
  refine hK.out _ _ HG2.out (fun hHeld => ?_)
  clear hK K
  try simp only [Act.put, List.getElem_toArray, List.getElem_cons_zero, List.getElem_cons_succ, List.setIfInBounds_toArray, List.set_cons_zero, List.set_cons_succ]
  refine wpAnyH_ready (rs := [15]) (by kernel_rfl) (by simp) ?_
  refine AllReadyH.cons rfl (fun K hK => ?_) AllReadyH.nil
  go_simp
  refine (or_any [p1, p2] bs 2 2 rfl w2 HLw2.out).mono ?_
  rintro e we ⟨rfl, hwe⟩
  rw [hwe]
  clear hwe we
  refine hK.out _ _ HG2.out (fun hHeld => ?_)
  clear hK K
  try simp only [Act.put, List.getElem_toArray, List.getElem_cons_zero, List.getElem_cons_succ, List.setIfInBounds_toArray, List.set_cons_zero, List.set_cons_succ]
  rw [HZ2.out]
  refine wpAnyH_take (i := 16) (v := .int .i64 z) rfl (by kernel_rfl) (by kernel_rfl) (by kernel_rfl) (fun _ _ _ h => h) (Or.inl ⟨by rfl, ?_⟩) (by assumption) ?_
  case refine_1 => intro W hSw; go_simp; try rfl
  try simp only [Act.put, List.getElem_toArray, List.getElem_cons_zero, List.getElem_cons_succ, List.setIfInBounds_toArray, List.set_cons_zero, List.set_cons_succ]
  refine wpAnyH_done (by kernel_rfl) ?_ _
  clear hHeld
  have HE : Hid (Gw w w2) := (HFD.out w2 HG2.out).2.2
  go_wp2_with fail
  go_ret
  exact ⟨rfl, HE.out⟩
end Go.Proofs.Ytkahjibdmhaglaa.Ch
