/- The order of offers: the two literals by which it sorts. -/
import Derived.Test.YtkahjibdmhaglaaChK
namespace Go.Proofs.Ytkahjibdmhaglaa.Ch
open Go.ChangeShapes Go.WideShapes Go.ChangeAt Go.RowKit Go.Joins Go.Deep Go.Proofs.Ytkahjibdmhaglaa.Ge
open Go.Sort hiding Below
set_option linter.unusedVariables false
set_option linter.unusedSimpArgs false

def ord1 (xs : List (Of × Oa)) (i j : Nat) : Int := orP [earlyP xs i j, nbrP xs i j, medP xs i j, lateP xs i j]
def ord2 (xs : List (Of × Oa)) (la : Nat → Nat) (i j : Nat) : Int := orP [earlyP xs i j, lateP xs (la i) (la j)]
set_option maxRecDepth 100000 in
set_option maxHeartbeats 16000000 in
theorem ord1_any (N lb lo n lc sb1 sb2 c5 : Nat) (xs : List (Of × Oa)) (bf i j : Nat) (hi : i < n) (hj : j < n) (W0 : World) (h : FdR N lb lo n lc sb1 sb2 c5 xs W0) (hb : SB FdK bf (fdL lb lo n lc sb1 sb2 c5) W0) (z : Int) (hz : ord1 xs i j = z) : Calls Try.prog 24 #[.int .i64 (i : Int), .int .i64 (j : Int), .pointer (some ⟨bf, 0, none⟩)] W0 (CmPost W0 z) := by
  have HFD : Hid (∀ W, Gw W0 W → SB FdK bf (fdL lb lo n lc sb1 sb2 c5) W ∧ FdR N lb lo n lc sb1 sb2 c5 xs W ∧ Gw W0 W) := fun W hW => ⟨SB.gw hb hW, h.gw hW, hW⟩
  obtain ⟨z1, hz1⟩ : ∃ y, earlyP xs i j = y := ⟨_, rfl⟩
  obtain ⟨z2, hz2⟩ : ∃ y, nbrP xs i j = y := ⟨_, rfl⟩
  obtain ⟨z3, hz3⟩ : ∃ y, medP xs i j = y := ⟨_, rfl⟩
  obtain ⟨z4, hz4⟩ : ∃ y, lateP xs i j = y := ⟨_, rfl⟩
  have HP : Hid (earlyP xs i j = z1 ∧ nbrP xs i j = z2 ∧ medP xs i j = z3 ∧ lateP xs i j = z4) := ⟨hz1, hz2, hz3, hz4⟩
  have HZ2 : Hid (orP [z1, z2, z3, z4] = z) := by show _ = _; rw [← hz, ← hz1, ← hz2, ← hz3, ← hz4]; rfl
  clear h hb hz hz1 hz2 hz3 hz4
  go_enter Try.func24, Try.ntmps24
  go_wp2_with fail
  refine wp_region_held_drew (S := fun W => Gw W0 W) (by kernel_rfl) (Gw.dn W0 1) (fun hHeld => ?_)
  obtain ⟨wd, hwd⟩ : ∃ y, W0.drew = y := ⟨_, rfl⟩
  have HWD : Hid (Gw W0 wd) := by rw [← hwd]; exact Gw.dn W0 1
  rw [hwd] at hHeld ⊢
  clear hwd
  refine wpAnyH_take (i := 0) (v := .agg (fdL lb lo n lc sb1 sb2 c5).toArray) rfl (by kernel_rfl) (by kernel_rfl) (by kernel_rfl) (fun _ _ _ h => h) (Or.inl ⟨by rfl, (fun W hSw => sload_run FdK (.tmp 2) rfl rfl (HFD.out W hSw).1 rfl)⟩) (by assumption) ?_
  try simp only [Act.put, List.getElem_toArray, List.getElem_cons_zero, List.getElem_cons_succ, List.setIfInBounds_toArray, List.set_cons_zero, List.set_cons_succ]
  refine wpAnyH_take (i := 1) (v := .int .i64 (i : Int)) rfl (by kernel_rfl) (by kernel_rfl) (by kernel_rfl) (fun _ _ _ h => h) (Or.inl ⟨by rfl, ?_⟩) (by assumption) ?_
  case refine_1 => intro W hSw; go_simp; try rfl
  try simp only [Act.put, List.getElem_toArray, List.getElem_cons_zero, List.getElem_cons_succ, List.setIfInBounds_toArray, List.set_cons_zero, List.set_cons_succ]
  refine wpAnyH_take (i := 2) (v := .int .i64 (j : Int)) rfl (by kernel_rfl) (by kernel_rfl) (by kernel_rfl) (fun _ _ _ h => h) (Or.inl ⟨by rfl, ?_⟩) (by assumption) ?_
  case refine_1 => intro W hSw; go_simp; try rfl
  try simp only [Act.put, List.getElem_toArray, List.getElem_cons_zero, List.getElem_cons_succ, List.setIfInBounds_toArray, List.set_cons_zero, List.set_cons_succ]
  refine wpAnyH_take (i := 4) (v := .agg (fdL lb lo n lc sb1 sb2 c5).toArray) rfl (by kernel_rfl) (by kernel_rfl) (by kernel_rfl) (fun _ _ _ h => h) (Or.inl ⟨by rfl, (fun W hSw => sload_run FdK (.tmp 2) rfl rfl (HFD.out W hSw).1 rfl)⟩) (by assumption) ?_
  try simp only [Act.put, List.getElem_toArray, List.getElem_cons_zero, List.getElem_cons_succ, List.setIfInBounds_toArray, List.set_cons_zero, List.set_cons_succ]
  refine wpAnyH_take (i := 5) (v := .int .i64 (i : Int)) rfl (by kernel_rfl) (by kernel_rfl) (by kernel_rfl) (fun _ _ _ h => h) (Or.inl ⟨by rfl, ?_⟩) (by assumption) ?_
  case refine_1 => intro W hSw; go_simp; try rfl
  try simp only [Act.put, List.getElem_toArray, List.getElem_cons_zero, List.getElem_cons_succ, List.setIfInBounds_toArray, List.set_cons_zero, List.set_cons_succ]
  refine wpAnyH_take (i := 6) (v := .int .i64 (j : Int)) rfl (by kernel_rfl) (by kernel_rfl) (by kernel_rfl) (fun _ _ _ h => h) (Or.inl ⟨by rfl, ?_⟩) (by assumption) ?_
  case refine_1 => intro W hSw; go_simp; try rfl
  try simp only [Act.put, List.getElem_toArray, List.getElem_cons_zero, List.getElem_cons_succ, List.setIfInBounds_toArray, List.set_cons_zero, List.set_cons_succ]
  refine wpAnyH_take (i := 8) (v := .agg (fdL lb lo n lc sb1 sb2 c5).toArray) rfl (by kernel_rfl) (by kernel_rfl) (by kernel_rfl) (fun _ _ _ h => h) (Or.inl ⟨by rfl, (fun W hSw => sload_run FdK (.tmp 2) rfl rfl (HFD.out W hSw).1 rfl)⟩) (by assumption) ?_
  try simp only [Act.put, List.getElem_toArray, List.getElem_cons_zero, List.getElem_cons_succ, List.setIfInBounds_toArray, List.set_cons_zero, List.set_cons_succ]
  refine wpAnyH_take (i := 9) (v := .int .i64 (i : Int)) rfl (by kernel_rfl) (by kernel_rfl) (by kernel_rfl) (fun _ _ _ h => h) (Or.inl ⟨by rfl, ?_⟩) (by assumption) ?_
  case refine_1 => intro W hSw; go_simp; try rfl
  try simp only [Act.put, List.getElem_toArray, List.getElem_cons_zero, List.getElem_cons_succ, List.setIfInBounds_toArray, List.set_cons_zero, List.set_cons_succ]
  refine wpAnyH_take (i := 10) (v := .int .i64 (j : Int)) rfl (by kernel_rfl) (by kernel_rfl) (by kernel_rfl) (fun _ _ _ h => h) (Or.inl ⟨by rfl, ?_⟩) (by assumption) ?_
  case refine_1 => intro W hSw; go_simp; try rfl
  try simp only [Act.put, List.getElem_toArray, List.getElem_cons_zero, List.getElem_cons_succ, List.setIfInBounds_toArray, List.set_cons_zero, List.set_cons_succ]
  refine wpAnyH_take (i := 12) (v := .agg (fdL lb lo n lc sb1 sb2 c5).toArray) rfl (by kernel_rfl) (by kernel_rfl) (by kernel_rfl) (fun _ _ _ h => h) (Or.inl ⟨by rfl, (fun W hSw => sload_run FdK (.tmp 2) rfl rfl (HFD.out W hSw).1 rfl)⟩) (by assumption) ?_
  try simp only [Act.put, List.getElem_toArray, List.getElem_cons_zero, List.getElem_cons_succ, List.setIfInBounds_toArray, List.set_cons_zero, List.set_cons_succ]
  refine wpAnyH_take (i := 13) (v := .int .i64 (i : Int)) rfl (by kernel_rfl) (by kernel_rfl) (by kernel_rfl) (fun _ _ _ h => h) (Or.inl ⟨by rfl, ?_⟩) (by assumption) ?_
  case refine_1 => intro W hSw; go_simp; try rfl
  try simp only [Act.put, List.getElem_toArray, List.getElem_cons_zero, List.getElem_cons_succ, List.setIfInBounds_toArray, List.set_cons_zero, List.set_cons_succ]
  refine wpAnyH_take (i := 14) (v := .int .i64 (j : Int)) rfl (by kernel_rfl) (by kernel_rfl) (by kernel_rfl) (fun _ _ _ h => h) (Or.inl ⟨by rfl, ?_⟩) (by assumption) ?_
  case refine_1 => intro W hSw; go_simp; try rfl
  try simp only [Act.put, List.getElem_toArray, List.getElem_cons_zero, List.getElem_cons_succ, List.setIfInBounds_toArray, List.set_cons_zero, List.set_cons_succ]
  refine wpAnyH_ready (rs := [3]) (by kernel_rfl) (by simp) ?_
  refine AllReadyH.cons rfl (fun K hK => ?_) AllReadyH.nil
  go_simp
  refine (early_any N lb lo n lc sb1 sb2 c5 xs i j hi hj wd (HFD.out wd HWD.out).2.1 z1 HP.out.1).mono ?_
  rintro e w1 ⟨rfl, hgw⟩
  have HG1 : Hid (Gw W0 w1) := HWD.out.trans hgw
  clear hgw
  refine hK.out _ _ HG1.out (fun hHeld => ?_)
  clear hK K
  try simp only [Act.put, List.getElem_toArray, List.getElem_cons_zero, List.getElem_cons_succ, List.setIfInBounds_toArray, List.set_cons_zero, List.set_cons_succ]
  refine wpAnyH_ready (rs := [7]) (by kernel_rfl) (by simp) ?_
  refine AllReadyH.cons rfl (fun K hK => ?_) AllReadyH.nil
  go_simp
  refine (nbr_any N lb lo n lc sb1 sb2 c5 xs i j hi hj w1 (HFD.out w1 HG1.out).2.1 z2 HP.out.2.1).mono ?_
  rintro e w2 ⟨rfl, hgw⟩
  have HG2 : Hid (Gw W0 w2) := HG1.out.trans hgw
  clear hgw
  refine hK.out _ _ HG2.out (fun hHeld => ?_)
  clear hK K
  try simp only [Act.put, List.getElem_toArray, List.getElem_cons_zero, List.getElem_cons_succ, List.setIfInBounds_toArray, List.set_cons_zero, List.set_cons_succ]
  refine wpAnyH_ready (rs := [11]) (by kernel_rfl) (by simp) ?_
  refine AllReadyH.cons rfl (fun K hK => ?_) AllReadyH.nil
  go_simp
  refine (bmed_any N lb lo n lc sb1 sb2 c5 xs i j hi hj w2 (HFD.out w2 HG2.out).2.1 z3 HP.out.2.2.1).mono ?_
  rintro e w3 ⟨rfl, hgw⟩
  have HG3 : Hid (Gw W0 w3) := HG2.out.trans hgw
  clear hgw
  refine hK.out _ _ HG3.out (fun hHeld => ?_)
  clear hK K
  try simp only [Act.put, List.getElem_toArray, List.getElem_cons_zero, List.getElem_cons_succ, List.setIfInBounds_toArray, List.set_cons_zero, List.set_cons_succ]
  refine wpAnyH_ready (rs := [15]) (by kernel_rfl) (by simp) ?_
  refine AllReadyH.cons rfl (fun K hK => ?_) AllReadyH.nil
  go_simp
  refine (late_any N lb lo n lc sb1 sb2 c5 xs i j hi hj w3 (HFD.out w3 HG3.out).2.1 z4 HP.out.2.2.2).mono ?_
  rintro e w4 ⟨rfl, hgw⟩
  have HG4 : Hid (Gw W0 w4) := HG3.out.trans hgw
  clear hgw
  refine hK.out _ _ HG4.out (fun hHeld => ?_)
  clear hK K
  try simp only [Act.put, List.getElem_toArray, List.getElem_cons_zero, List.getElem_cons_succ, List.setIfInBounds_toArray, List.set_cons_zero, List.set_cons_succ]
  refine wpAnyH_ready (rs := [16]) (by kernel_rfl) (by simp) ?_
  refine AllReadyH.cons rfl (fun K hK => ?_) AllReadyH.nil
  refine step_run rfl (ibuild4_run (.tmp 9) (.tmp 13) (.tmp 17) (.tmp 21) rfl rfl rfl rfl rfl) ?_
  obtain ⟨bs, hbs⟩ : ∃ y, w4.heap.size = y := ⟨_, rfl⟩
  rw [hbs]
  have hms := own_made EI (W := w4) [z1, z2, z3, z4] 4 rfl (by decide) rfl
  rw [hbs] at hms
  obtain ⟨w5, hw5⟩ : ∃ y, w4.alloc (Obj.cells (EI.cs [z1, z2, z3, z4]).toArray 3) = y := ⟨_, rfl⟩
  have HLw5 : Hid (Lst EI w5 (some ⟨bs, 0, none⟩) [z1, z2, z3, z4]) := by show Lst EI _ _ _; rw [← hw5]; exact hms.1.lst.1
  have HG5 : Hid (Gw W0 w5) := by show Gw _ _; rw [← hw5]; exact HG4.out.trans (Gw.new _ _)
  rw [hw5]
  clear hms hw5 hbs
  refine hK.out _ _ HG5.out (fun hHeld => ?_)
  clear hK K
  try simp only [Act.put, List.getElem_toArray, List.getElem_cons_zero, List.getElem_cons_succ, List.setIfInBounds_toArray, List.set_cons_zero, List.set_cons_succ]
  refine wpAnyH_ready (rs := [17]) (by kernel_rfl) (by simp) ?_
  refine AllReadyH.cons rfl (fun K hK => ?_) AllReadyH.nil
  go_simp
  refine (or_any [z1, z2, z3, z4] bs 4 4 rfl w5 HLw5.out).mono ?_
  rintro e we ⟨rfl, hwe⟩
  rw [hwe]
  clear hwe we
  refine hK.out _ _ HG5.out (fun hHeld => ?_)
  clear hK K
  try simp only [Act.put, List.getElem_toArray, List.getElem_cons_zero, List.getElem_cons_succ, List.setIfInBounds_toArray, List.set_cons_zero, List.set_cons_succ]
  rw [HZ2.out]
  refine wpAnyH_take (i := 18) (v := .int .i64 z) rfl (by kernel_rfl) (by kernel_rfl) (by kernel_rfl) (fun _ _ _ h => h) (Or.inl ⟨by rfl, ?_⟩) (by assumption) ?_
  case refine_1 => intro W hSw; go_simp; try rfl
  try simp only [Act.put, List.getElem_toArray, List.getElem_cons_zero, List.getElem_cons_succ, List.setIfInBounds_toArray, List.set_cons_zero, List.set_cons_succ]
  refine wpAnyH_done (by kernel_rfl) ?_ _
  clear hHeld
  have HE : Hid (Gw W0 w5) := HG5.out
  go_wp2_with fail
  go_ret
  exact ⟨rfl, HE.out⟩
set_option maxRecDepth 100000 in
set_option maxHeartbeats 16000000 in
theorem ord2_any (N lb lo n lc sb1 sb2 c5 : Nat) (xs : List (Of × Oa)) (bf b5 g5 c6 i j : Nat) (la : Nat → Nat) (hla : ∀ i, i < n → la i < n) (hi : i < n) (hj : j < n) (W0 : World) (h : FdR N lb lo n lc sb1 sb2 c5 xs W0) (hb : SB FdK bf (fdL lb lo n lc sb1 sb2 c5) W0) (h5 : W0.cell? ⟨b5, 0, none⟩ = some (.slice (some ⟨g5, 0, none⟩) n c6)) (hl : ∀ i, i < n → W0.cell? ⟨g5, i, none⟩ = some (.int .i64 (la i : Int))) (z : Int) (hz : ord2 xs la i j = z) : Calls Try.prog 32 #[.int .i64 (i : Int), .int .i64 (j : Int), .pointer (some ⟨bf, 0, none⟩), .pointer (some ⟨b5, 0, none⟩)] W0 (CmPost W0 z) := by
  obtain ⟨ui, hui⟩ : ∃ y, la i = y := ⟨_, rfl⟩
  obtain ⟨uj, huj⟩ : ∃ y, la j = y := ⟨_, rfl⟩
  have hu1 : ui < n := by rw [← hui]; exact hla i hi
  have hu2 : uj < n := by rw [← huj]; exact hla j hj
  have e1 := hl i hi
  have e2 := hl j hj
  rw [hui] at e1
  rw [huj] at e2
  have HFD : Hid (∀ W, Gw W0 W → SB FdK bf (fdL lb lo n lc sb1 sb2 c5) W ∧ FdR N lb lo n lc sb1 sb2 c5 xs W ∧ Gw W0 W ∧ W.cell? ⟨b5, 0, none⟩ = some (.slice (some ⟨g5, 0, none⟩) n c6) ∧ W.cell? ⟨g5, i, none⟩ = some (.int .i64 (ui : Int)) ∧ W.cell? ⟨g5, j, none⟩ = some (.int .i64 (uj : Int))) := fun W hW =>
    ⟨SB.gw hb hW, h.gw hW, hW, (World.cell?_of_block (w := W0) (hW.bel.block b5 (World.block_lt_of_cell? W0 _ h5))).trans h5, (World.cell?_of_block (w := W0) (hW.bel.block g5 (World.block_lt_of_cell? W0 _ e1))).trans e1, (World.cell?_of_block (w := W0) (hW.bel.block g5 (World.block_lt_of_cell? W0 _ e1))).trans e2⟩
  obtain ⟨z1, hz1⟩ : ∃ y, earlyP xs i j = y := ⟨_, rfl⟩
  obtain ⟨z4, hz4⟩ : ∃ y, lateP xs ui uj = y := ⟨_, rfl⟩
  have HP : Hid (earlyP xs i j = z1 ∧ lateP xs ui uj = z4) := ⟨hz1, hz4⟩
  have HZ2 : Hid (orP [z1, z4] = z) := by show _ = _; rw [← hz, ← hz1, ← hz4, ← hui, ← huj]; rfl
  have hii : (i : Int) < (n : Int) := by omega
  have hjj : (j : Int) < (n : Int) := by omega
  have i0 : (0 : Int) ≤ (i : Int) := by omega
  have j0 : (0 : Int) ≤ (j : Int) := by omega
  clear h hb hz hz1 hz4 h5 hl e1 e2 hui huj hla
  go_enter Try.func32, Try.ntmps32
  go_wp2_with fail
  refine wp_region_held_drew (S := fun W => Gw W0 W) (by kernel_rfl) (Gw.dn W0 1) (fun hHeld => ?_)
  obtain ⟨wd, hwd⟩ : ∃ y, W0.drew = y := ⟨_, rfl⟩
  have HWD : Hid (Gw W0 wd) := by rw [← hwd]; exact Gw.dn W0 1
  rw [hwd] at hHeld ⊢
  clear hwd
  refine wpAnyH_take (i := 0) (v := .agg (fdL lb lo n lc sb1 sb2 c5).toArray) rfl (by kernel_rfl) (by kernel_rfl) (by kernel_rfl) (fun _ _ _ h => h) (Or.inl ⟨by rfl, (fun W hSw => sload_run FdK (.tmp 2) rfl rfl (HFD.out W hSw).1 rfl)⟩) (by assumption) ?_
  try simp only [Act.put, List.getElem_toArray, List.getElem_cons_zero, List.getElem_cons_succ, List.setIfInBounds_toArray, List.set_cons_zero, List.set_cons_succ]
  refine wpAnyH_take (i := 1) (v := .int .i64 (i : Int)) rfl (by kernel_rfl) (by kernel_rfl) (by kernel_rfl) (fun _ _ _ h => h) (Or.inl ⟨by rfl, ?_⟩) (by assumption) ?_
  case refine_1 => intro W hSw; go_simp; try rfl
  try simp only [Act.put, List.getElem_toArray, List.getElem_cons_zero, List.getElem_cons_succ, List.setIfInBounds_toArray, List.set_cons_zero, List.set_cons_succ]
  refine wpAnyH_take (i := 2) (v := .int .i64 (j : Int)) rfl (by kernel_rfl) (by kernel_rfl) (by kernel_rfl) (fun _ _ _ h => h) (Or.inl ⟨by rfl, ?_⟩) (by assumption) ?_
  case refine_1 => intro W hSw; go_simp; try rfl
  try simp only [Act.put, List.getElem_toArray, List.getElem_cons_zero, List.getElem_cons_succ, List.setIfInBounds_toArray, List.set_cons_zero, List.set_cons_succ]
  refine wpAnyH_take (i := 4) (v := .agg (fdL lb lo n lc sb1 sb2 c5).toArray) rfl (by kernel_rfl) (by kernel_rfl) (by kernel_rfl) (fun _ _ _ h => h) (Or.inl ⟨by rfl, (fun W hSw => sload_run FdK (.tmp 2) rfl rfl (HFD.out W hSw).1 rfl)⟩) (by assumption) ?_
  try simp only [Act.put, List.getElem_toArray, List.getElem_cons_zero, List.getElem_cons_succ, List.setIfInBounds_toArray, List.set_cons_zero, List.set_cons_succ]
  refine wpAnyH_take (i := 5) (v := .slice (some ⟨g5, 0, none⟩) n c6) rfl (by kernel_rfl) (by kernel_rfl) (by kernel_rfl) (fun _ _ _ h => h) (Or.inl ⟨by rfl, ?_⟩) (by assumption) ?_
  case refine_1 => intro W hSw; have k1 := (HFD.out W hSw).2.2.2.1; go_simp; try rfl
  try simp only [Act.put, List.getElem_toArray, List.getElem_cons_zero, List.getElem_cons_succ, List.setIfInBounds_toArray, List.set_cons_zero, List.set_cons_succ]
  refine wpAnyH_take (i := 6) (v := .int .i64 (i : Int)) rfl (by kernel_rfl) (by kernel_rfl) (by kernel_rfl) (fun _ _ _ h => h) (Or.inl ⟨by rfl, ?_⟩) (by assumption) ?_
  case refine_1 => intro W hSw; go_simp; try rfl
  try simp only [Act.put, List.getElem_toArray, List.getElem_cons_zero, List.getElem_cons_succ, List.setIfInBounds_toArray, List.set_cons_zero, List.set_cons_succ]
  refine wpAnyH_take (i := 7) (v := .pointer (some ⟨g5, i, none⟩)) rfl (by kernel_rfl) (by kernel_rfl) (by kernel_rfl) (fun _ _ _ h => h) (Or.inl ⟨by rfl, ?_⟩) (by assumption) ?_
  case refine_1 => intro W hSw; go_simp; try rfl
  try simp only [Act.put, List.getElem_toArray, List.getElem_cons_zero, List.getElem_cons_succ, List.setIfInBounds_toArray, List.set_cons_zero, List.set_cons_succ]
  refine wpAnyH_take (i := 8) (v := .int .i64 (ui : Int)) rfl (by kernel_rfl) (by kernel_rfl) (by kernel_rfl) (fun _ _ _ h => h) (Or.inl ⟨by rfl, ?_⟩) (by assumption) ?_
  case refine_1 => intro W hSw; have k1 := (HFD.out W hSw).2.2.2.2.1; go_simp; try rfl
  try simp only [Act.put, List.getElem_toArray, List.getElem_cons_zero, List.getElem_cons_succ, List.setIfInBounds_toArray, List.set_cons_zero, List.set_cons_succ]
  refine wpAnyH_take (i := 9) (v := .slice (some ⟨g5, 0, none⟩) n c6) rfl (by kernel_rfl) (by kernel_rfl) (by kernel_rfl) (fun _ _ _ h => h) (Or.inl ⟨by rfl, ?_⟩) (by assumption) ?_
  case refine_1 => intro W hSw; have k1 := (HFD.out W hSw).2.2.2.1; go_simp; try rfl
  try simp only [Act.put, List.getElem_toArray, List.getElem_cons_zero, List.getElem_cons_succ, List.setIfInBounds_toArray, List.set_cons_zero, List.set_cons_succ]
  refine wpAnyH_take (i := 10) (v := .int .i64 (j : Int)) rfl (by kernel_rfl) (by kernel_rfl) (by kernel_rfl) (fun _ _ _ h => h) (Or.inl ⟨by rfl, ?_⟩) (by assumption) ?_
  case refine_1 => intro W hSw; go_simp; try rfl
  try simp only [Act.put, List.getElem_toArray, List.getElem_cons_zero, List.getElem_cons_succ, List.setIfInBounds_toArray, List.set_cons_zero, List.set_cons_succ]
  refine wpAnyH_take (i := 11) (v := .pointer (some ⟨g5, j, none⟩)) rfl (by kernel_rfl) (by kernel_rfl) (by kernel_rfl) (fun _ _ _ h => h) (Or.inl ⟨by rfl, ?_⟩) (by assumption) ?_
  case refine_1 => intro W hSw; go_simp; try rfl
  try simp only [Act.put, List.getElem_toArray, List.getElem_cons_zero, List.getElem_cons_succ, List.setIfInBounds_toArray, List.set_cons_zero, List.set_cons_succ]
  refine wpAnyH_take (i := 12) (v := .int .i64 (uj : Int)) rfl (by kernel_rfl) (by kernel_rfl) (by kernel_rfl) (fun _ _ _ h => h) (Or.inl ⟨by rfl, ?_⟩) (by assumption) ?_
  case refine_1 => intro W hSw; have k1 := (HFD.out W hSw).2.2.2.2.2; go_simp; try rfl
  try simp only [Act.put, List.getElem_toArray, List.getElem_cons_zero, List.getElem_cons_succ, List.setIfInBounds_toArray, List.set_cons_zero, List.set_cons_succ]
  refine wpAnyH_ready (rs := [3]) (by kernel_rfl) (by simp) ?_
  refine AllReadyH.cons rfl (fun K hK => ?_) AllReadyH.nil
  go_simp
  refine (early_any N lb lo n lc sb1 sb2 c5 xs i j hi hj wd (HFD.out wd HWD.out).2.1 z1 HP.out.1).mono ?_
  rintro e w1 ⟨rfl, hgw⟩
  have HG1 : Hid (Gw W0 w1) := HWD.out.trans hgw
  clear hgw
  refine hK.out _ _ HG1.out (fun hHeld => ?_)
  clear hK K
  try simp only [Act.put, List.getElem_toArray, List.getElem_cons_zero, List.getElem_cons_succ, List.setIfInBounds_toArray, List.set_cons_zero, List.set_cons_succ]
  refine wpAnyH_ready (rs := [13]) (by kernel_rfl) (by simp) ?_
  refine AllReadyH.cons rfl (fun K hK => ?_) AllReadyH.nil
  go_simp
  refine (late_any N lb lo n lc sb1 sb2 c5 xs ui uj hu1 hu2 w1 (HFD.out w1 HG1.out).2.1 z4 HP.out.2).mono ?_
  rintro e w2 ⟨rfl, hgw⟩
  have HG2 : Hid (Gw W0 w2) := HG1.out.trans hgw
  clear hgw
  refine hK.out _ _ HG2.out (fun hHeld => ?_)
  clear hK K
  try simp only [Act.put, List.getElem_toArray, List.getElem_cons_zero, List.getElem_cons_succ, List.setIfInBounds_toArray, List.set_cons_zero, List.set_cons_succ]
  refine wpAnyH_ready (rs := [14]) (by kernel_rfl) (by simp) ?_
  refine AllReadyH.cons rfl (fun K hK => ?_) AllReadyH.nil
  refine step_run rfl (ibuild2_run (.tmp 10) (.tmp 20) rfl rfl rfl) ?_
  obtain ⟨bs, hbs⟩ : ∃ y, w2.heap.size = y := ⟨_, rfl⟩
  rw [hbs]
  have hms := own_made EI (W := w2) [z1, z4] 2 rfl (by decide) rfl
  rw [hbs] at hms
  obtain ⟨w5, hw5⟩ : ∃ y, w2.alloc (Obj.cells (EI.cs [z1, z4]).toArray 3) = y := ⟨_, rfl⟩
  have HLw5 : Hid (Lst EI w5 (some ⟨bs, 0, none⟩) [z1, z4]) := by show Lst EI _ _ _; rw [← hw5]; exact hms.1.lst.1
  have HG5 : Hid (Gw W0 w5) := by show Gw _ _; rw [← hw5]; exact HG2.out.trans (Gw.new _ _)
  rw [hw5]
  clear hms hw5 hbs
  refine hK.out _ _ HG5.out (fun hHeld => ?_)
  clear hK K
  try simp only [Act.put, List.getElem_toArray, List.getElem_cons_zero, List.getElem_cons_succ, List.setIfInBounds_toArray, List.set_cons_zero, List.set_cons_succ]
  refine wpAnyH_ready (rs := [15]) (by kernel_rfl) (by simp) ?_
  refine AllReadyH.cons rfl (fun K hK => ?_) AllReadyH.nil
  go_simp
  refine (or_any [z1, z4] bs 2 2 rfl w5 HLw5.out).mono ?_
  rintro e we ⟨rfl, hwe⟩
  rw [hwe]
  clear hwe we
  refine hK.out _ _ HG5.out (fun hHeld => ?_)
  clear hK K
  try simp only [Act.put, List.getElem_toArray, List.getElem_cons_zero, List.getElem_cons_succ, List.setIfInBounds_toArray, List.set_cons_zero, List.set_cons_succ]
  rw [HZ2.out]
  refine wpAnyH_take (i := 16) (v := .int .i64 z) rfl (by kernel_rfl) (by kernel_rfl) (by kernel_rfl) (fun _ _ _ h => h) (Or.inl ⟨by rfl, ?_⟩) (by assumption) ?_
  case refine_1 => intro W hSw; go_simp; try rfl
  try simp only [Act.put, List.getElem_toArray, List.getElem_cons_zero, List.getElem_cons_succ, List.setIfInBounds_toArray, List.set_cons_zero, List.set_cons_succ]
  refine wpAnyH_done (by kernel_rfl) ?_ _
  clear hHeld
  have HE : Hid (Gw W0 w5) := HG5.out
  go_wp2_with fail
  go_ret
  exact ⟨rfl, HE.out⟩
end Go.Proofs.Ytkahjibdmhaglaa.Ch
