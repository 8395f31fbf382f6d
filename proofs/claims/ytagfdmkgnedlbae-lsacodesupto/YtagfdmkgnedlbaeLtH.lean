/- The document's LsaDecode: what it answers. -/
import Derived.Test.YtagfdmkgnedlbaeLtHa
import Derived.Test.YtagfdmkgnedlbaeLtF
namespace Go.Proofs.Ytagfdmkgnedlbae.Ls
open Go.ChangeShapes Go.WideShapes Go.ChangeAt Go.RowKit Go.Joins Go.Proofs.Ytagfdmkgnedlbae.PM Go.Proofs.Ytagfdmkgnedlbae.Ask
set_option linter.unusedVariables false

theorem DI.ann {w : World} {sp : Nat} {kind frm area seen : Int} {lv : Value} {W : World} (h : DI w sp kind frm area seen lv W) (va : Option Addr) (cap : Nat) (bs : List Nat) (L : Nat) (hL : bs.length = L) (hl40 : L ≤ 4096) (a : Nat) (h28 : a + 28 ≤ L) (hfit : a + 28 + 8 * num ((bs.drop (a + 1)).take 1) + 7 * num ((bs.drop (a + 2)).take 1) ≤ L) (hx : By W va bs) (x : Lsa) (r' : Rst) (hd : decL (bs.drop a, false) = (x, r')) :
    Calls Try.prog 65 #[.slice va L cap, .int .i64 (a : Int)] W fun e w' => ∃ la lc sa sc, e = .returned (lsaV x la lc sa sc) ∧ DI w sp kind frm area seen lv w' ∧ Below W.heap.size W w' ∧ ItOk (W.heap.size + 2) w' ⟨x, la, lc, sa, sc⟩ ∧ (It.mk x la lc sa sc).bl.Nodup := by
  refine (rat_any va cap bs L hL hl40 a h28 hfit W hx x r' hd).mono ?_
  rintro e w' ⟨la, lc, sa, sc, rfl, h1, h2, h3, h4, h5, h6⟩
  refine ⟨la, lc, sa, sc, rfl, h.next h1, h1, ⟨h2, h3, h5, h6⟩, ?_⟩
  unfold It.bl
  rw [List.nodup_append]
  refine ⟨?_, ?_, ?_⟩
  · cases (It.mk x la lc sa sc).lv.ownBlock <;> simp
  · cases (It.mk x la lc sa sc).sv.ownBlock <;> simp
  · intro a ha b hb e
    subst e
    exact h4 a (Option.mem_toList.1 ha) (Option.mem_toList.1 hb)
set_option maxRecDepth 100000 in
set_option maxHeartbeats 32000000 in
theorem rdecode_any (va : Option Addr) (cap : Nat) (bs : List Nat) (L : Nat) (hL : bs.length = L) (hcap : L ≤ cap) (w : World) (hx : By w va bs) (p : Pk) (er : Int) (hd : decP bs = (p, er)) :
    Calls Try.prog 52 #[.slice va L cap] w (DecPost w p er) := by
  have HX : Hid (By w va bs) := hx
  have HLX : Hid (bs.length = L) := hL
  have hl9 := hx.small
  rw [hL] at hl9
  have HERR : Hid (∀ W e5, Below w.heap.size w W → DecPost w noPk e5 (.returned (.tuple #[.agg #[.int .i64 0, .int .i64 0, .int .i64 0, .int .i64 0, .slice none 0 0], .int .i64 e5])) W) := fun W e5 hb => ⟨none, 0, [], rfl, rfl, DO.nil _ _, hb⟩
  unfold decP frameE at hd
  rw [hL] at hd
  have HNUM : Hid (∀ W, Below w.heap.size w W → ∀ (p n : Nat) (pI nI r : Int), ((p : Nat) : Int) = pI → ((n : Nat) : Int) = nI → n ≤ 7 → p + n ≤ L → ((num ((bs.drop p).take n) : Nat) : Int) = r → Calls Try.prog 64 #[.slice va L cap, .int .i64 pI, .int .i64 nI] W fun e w' => e = .returned (.int .i64 r) ∧ w' = W) := fun W hW p n pI nI r h1 h2 h3 h4 h5 => rnumr_any _ cap bs L HLX.out p n pI nI h1 h2 h3 h4 W (HX.out.bel hW) r h5
  clear hx hL
  go_enter Try.func52, Try.ntmps52
  go_upto_region 2 with fail
  obtain ⟨w0, hw0⟩ : ∃ w0, (w.alloc (Obj.cells #[.int .i64 0, .int .i64 0, .int .i64 0, .int .i64 0, .slice none 0 0] 36)).alloc (Obj.cells #[.int .i64 0, .int .i64 0, .int .i64 0, .int .i64 0, .slice none 0 0] 36) = w0 := ⟨_, rfl⟩
  have HDZ : Hid (DZ w w0) := dz_new hw0
  rw [hw0]
  clear hw0
  obtain ⟨z0, z1, z2, z3, z4⟩ := HDZ.out.zx
  obtain ⟨n0, n1, n2, n3, n4⟩ := HDZ.out.nx
  have fz := HDZ.out.fz
  by_cases h1 : 4096 < L
  · rw [if_pos h1, if_neg (by decide)] at hd
    cases hd
    have h1' : (4096 : Int) < L := by omega
    go_wp2_with fail
    refine bodyPost_ret (v := .tuple #[.agg #[.int .i64 0, .int .i64 0, .int .i64 0, .int .i64 0, .slice none 0 0], .int .i64 6]) (by simp [results, Try.results52, go_sem, z0, z1, z2, z3, z4]) rfl ?_
    exact HERR.out (S5 w0 w.heap.size (.int .i64 0) (.int .i64 0) (.int .i64 0) (.int .i64 0) (.slice none 0 0)) 6 ((s5_blk _ _ _ _ _ _ _).2.2 _ _ (Nat.le_refl _) HDZ.out.bel)
  rw [if_neg h1] at hd
  have h1' : ¬ (4096 : Int) < L := by omega
  by_cases h2 : L < 20
  · rw [if_pos h2, if_neg (by decide)] at hd
    cases hd
    have h2' : (L : Int) < 20 := by omega
    go_wp2_with fail
    refine bodyPost_ret (v := .tuple #[.agg #[.int .i64 0, .int .i64 0, .int .i64 0, .int .i64 0, .slice none 0 0], .int .i64 4]) (by simp [results, Try.results52, go_sem, z0, z1, z2, z3, z4]) rfl ?_
    exact HERR.out (S5 w0 w.heap.size (.int .i64 0) (.int .i64 0) (.int .i64 0) (.int .i64 0) (.slice none 0 0)) 4 ((s5_blk _ _ _ _ _ _ _).2.2 _ _ (Nat.le_refl _) HDZ.out.bel)
  rw [if_neg h2] at hd
  have h2' : ¬ (L : Int) < 20 := by omega
  obtain ⟨v0, hv0⟩ : ∃ v, num (bs.take 2) = v := ⟨_, rfl⟩
  obtain ⟨v1, hv1⟩ : ∃ v, num ((bs.drop 4).take 2) = v := ⟨_, rfl⟩
  rw [hv0, hv1] at hd
  have HV0 : Hid (((num ((bs.drop 0).take 2) : Nat) : Int) = (v0 : Int)) := by rw [List.drop_zero, hv0]; exact rfl
  have HV1 : Hid (((num ((bs.drop 4).take 2) : Nat) : Int) = (v1 : Int)) := by rw [hv1]; exact rfl
  clear hv0 hv1
  go_wp2_with fail
  refine (HNUM.out w0 HDZ.out.bel 0 2 0 2 (v0 : Int) rfl rfl (by decide) (by omega) HV0.out).mono ?_
  rintro e w5 ⟨rfl, hw5⟩
  rw [hw5]
  clear hw5 w5
  by_cases h3 : v0 = 22342
  case neg =>
    rw [if_pos (Or.inl h3), if_neg (by decide)] at hd
    cases hd
    have h3' : ¬ (v0 : Int) = 22342 := by omega
    have h3b : ((v0 : Int) != 22342) = true := by simpa using h3'
    go_wp2_with fail
    refine bodyPost_ret (v := .tuple #[.agg #[.int .i64 0, .int .i64 0, .int .i64 0, .int .i64 0, .slice none 0 0], .int .i64 4]) (by simp [results, Try.results52, go_sem, z0, z1, z2, z3, z4]) rfl ?_
    exact HERR.out (S5 w0 w.heap.size (.int .i64 0) (.int .i64 0) (.int .i64 0) (.int .i64 0) (.slice none 0 0)) 4 ((s5_blk _ _ _ _ _ _ _).2.2 _ _ (Nat.le_refl _) HDZ.out.bel)
  case pos =>
  subst h3
  have HDH : Hid _ := hd
  clear hd
  go_wp2_with fail
  refine (HNUM.out w0 HDZ.out.bel 4 2 4 2 (v1 : Int) rfl rfl (by decide) (by omega) HV1.out).mono ?_
  rintro e w5 ⟨rfl, hw5⟩
  rw [hw5]
  clear hw5 w5
  by_cases h4 : v1 = L
  case neg =>
    have hd := HDH.out
    rw [if_pos (Or.inr h4), if_neg (by decide)] at hd
    cases hd
    have h4' : ¬ (v1 : Int) = L := by omega
    have h4b : ((v1 : Int) != L) = true := by simpa using h4'
    go_wp2_with fail
    refine bodyPost_ret (v := .tuple #[.agg #[.int .i64 0, .int .i64 0, .int .i64 0, .int .i64 0, .slice none 0 0], .int .i64 4]) (by simp [results, Try.results52, go_sem, z0, z1, z2, z3, z4]) rfl ?_
    exact HERR.out (S5 w0 w.heap.size (.int .i64 0) (.int .i64 0) (.int .i64 0) (.int .i64 0) (.slice none 0 0)) 4 ((s5_blk _ _ _ _ _ _ _).2.2 _ _ (Nat.le_refl _) HDZ.out.bel)
  case pos =>
  subst h4
  have hd := HDH.out
  clear HDH
  rw [if_neg (show ¬ (¬ True ∨ ¬ v1 = v1) by simp)] at hd
  obtain ⟨m, hm⟩ : ∃ m, v1 - 4 = m := ⟨_, rfl⟩
  have hm4 : m + 4 = v1 := by omega
  rw [hm] at hd
  obtain ⟨v2, hv2⟩ : ∃ v, num (bs.drop m) = v := ⟨_, rfl⟩
  obtain ⟨cr, hcr⟩ : ∃ v, crc 4294967295 (bs.take m) = v := ⟨_, rfl⟩
  rw [hv2, hcr] at hd
  have HV2 : Hid (((num ((bs.drop m).take 4) : Nat) : Int) = (v2 : Int)) := by rw [List.take_of_length_le (by rw [List.length_drop, HLX.out]; omega), hv2]; exact rfl
  have HCR : Hid (((crc 4294967295 (bs.take m) : Nat) : Int) = (cr : Int)) := by rw [hcr]; exact rfl
  have hcl : cr < 4294967296 := by rw [← hcr]; exact crc_lt _ _ (by decide)
  have HBT : Hid (∀ W, Below w.heap.size w W → By W va (bs.take m)) := fun W hW => (HX.out.bel hW).take _
  have HTL : Hid ((bs.take m).length = m) := by show _ = _; rw [List.length_take, HLX.out]; omega
  clear hv2 hcr
  have hw4 : IntKind.i64.wrap ((v1 : Int) - 4) = (m : Int) := by rw [IntWalk.i64_in _ (by omega)]; omega
  have hm0 : 0 ≤ (m : Int) := by omega
  have hmc : m ≤ cap := by omega
  have hcw : IntKind.i64.wrap (cr : Int) = (cr : Int) := by rw [IntWalk.i64_in _ (by omega)]
  clear z0 z1 z2 z3 z4 n0 n1 n2 n3 n4 fz
  go_wp2_with fail
  refine wp_region_held_drew (S := fun W => Below w.heap.size w W) (by kernel_rfl) (HDZ.out.bel.trans ((drew_bel w0).mono HDZ.out.bel.size)) (fun hHeld => ?_)
  obtain ⟨wD, hwD⟩ : ∃ wD, w0.drew = wD := ⟨_, rfl⟩
  rw [hwD] at hHeld ⊢
  have HDD : Hid (DZ w wD) := by rw [← hwD]; exact HDZ.out.next (drew_bel w0)
  clear hwD HDZ
  refine wpAnyH_take (i := 0) (v := ?_) rfl (by kernel_rfl) (by kernel_rfl) (by kernel_rfl) (fun _ _ _ h => h) (Or.inl ⟨by rfl, ?_⟩) (by assumption) ?_
  case refine_2 => intro W hSw; go_simp; try rfl
  try simp only [Act.put, List.getElem_toArray, List.getElem_cons_zero, List.setIfInBounds_toArray, List.set_cons_zero, List.set_cons_succ]
  refine wpAnyH_take (i := 1) (v := ?_) rfl (by kernel_rfl) (by kernel_rfl) (by kernel_rfl) (fun _ _ _ h => h) (Or.inl ⟨by rfl, ?_⟩) (by assumption) ?_
  case refine_2 => intro W hSw; go_simp; try rfl
  try simp only [Act.put, List.getElem_toArray, List.getElem_cons_zero, List.getElem_cons_succ, List.setIfInBounds_toArray, List.set_cons_zero, List.set_cons_succ]
  refine wpAnyH_take (i := 2) (v := ?_) rfl (by kernel_rfl) (by kernel_rfl) (by kernel_rfl) (fun _ _ _ h => h) (Or.inl ⟨by rfl, ?_⟩) (by assumption) ?_
  case refine_2 => intro W hSw; go_simp; try rfl
  try simp only [Act.put, List.getElem_toArray, List.getElem_cons_zero, List.getElem_cons_succ, List.setIfInBounds_toArray, List.set_cons_zero, List.set_cons_succ]
  refine wpAnyH_take (i := 4) (v := ?_) rfl (by kernel_rfl) (by kernel_rfl) (by kernel_rfl) (fun _ _ _ h => h) (Or.inl ⟨by rfl, ?_⟩) (by assumption) ?_
  case refine_2 => intro W hSw; go_simp; try rfl
  try simp only [Act.put, List.getElem_toArray, List.getElem_cons_zero, List.getElem_cons_succ, List.setIfInBounds_toArray, List.set_cons_zero, List.set_cons_succ]
  refine wpAnyH_take (i := 5) (v := ?_) rfl (by kernel_rfl) (by kernel_rfl) (by kernel_rfl) (fun _ _ _ h => h) (Or.inl ⟨by rfl, ?_⟩) (by assumption) ?_
  case refine_2 => intro W hSw; go_simp; try rfl
  try simp only [Act.put, List.getElem_toArray, List.getElem_cons_zero, List.getElem_cons_succ, List.setIfInBounds_toArray, List.set_cons_zero, List.set_cons_succ]
  refine wpAnyH_take (i := 6) (v := ?_) rfl (by kernel_rfl) (by kernel_rfl) (by kernel_rfl) (fun _ _ _ h => h) (Or.inl ⟨by rfl, ?_⟩) (by assumption) ?_
  case refine_2 => intro W hSw; go_simp; try rfl
  try simp only [Act.put, List.getElem_toArray, List.getElem_cons_zero, List.getElem_cons_succ, List.setIfInBounds_toArray, List.set_cons_zero, List.set_cons_succ]
  refine wpAnyH_take (i := 7) (v := ?_) rfl (by kernel_rfl) (by kernel_rfl) (by kernel_rfl) (fun _ _ _ h => h) (Or.inl ⟨by rfl, ?_⟩) (by assumption) ?_
  case refine_2 => intro W hSw; go_simp; try rfl
  try simp only [Act.put, List.getElem_toArray, List.getElem_cons_zero, List.getElem_cons_succ, List.setIfInBounds_toArray, List.set_cons_zero, List.set_cons_succ]
  refine wpAnyH_ready (rs := [3]) (by kernel_rfl) (by simp) ?_
  refine AllReadyH.cons rfl (fun K hK => ?_) AllReadyH.nil
  go_simp
  refine (HNUM.out _ hHeld m 4 _ 4 (v2 : Int) rfl rfl (by decide) (by omega) HV2.out).mono ?_
  rintro e w5 ⟨rfl, hw5⟩
  rw [hw5]
  clear hw5 w5
  go_wp2_with fail
  refine hK.out _ _ hHeld (fun hHeld => ?_)
  clear hK K
  try simp only [Act.put, List.getElem_toArray, List.getElem_cons_zero, List.getElem_cons_succ, List.setIfInBounds_toArray, List.set_cons_zero, List.set_cons_succ]
  refine wpAnyH_ready (rs := [8]) (by kernel_rfl) (by simp) ?_
  refine AllReadyH.cons rfl (fun K hK => ?_) AllReadyH.nil
  go_simp
  refine (rcheck_any va cap (bs.take m) m HTL.out (by omega) _ (HBT.out _ hHeld) (cr : Int) HCR.out).mono ?_
  rintro e w5 ⟨rfl, hw5⟩
  rw [hw5]
  clear hw5 w5
  go_wp2_with fail
  refine hK.out _ _ hHeld (fun hHeld => ?_)
  clear hK K
  try simp only [Act.put, List.getElem_toArray, List.getElem_cons_zero, List.getElem_cons_succ, List.setIfInBounds_toArray, List.set_cons_zero, List.set_cons_succ]
  refine wpAnyH_take (i := 9) (v := ?_) rfl (by kernel_rfl) (by kernel_rfl) (by kernel_rfl) (fun _ _ _ h => h) (Or.inl ⟨by rfl, ?_⟩) (by assumption) ?_
  case refine_2 => intro W hSw; go_simp; try rfl
  try simp only [Act.put, List.getElem_toArray, List.getElem_cons_zero, List.getElem_cons_succ, List.setIfInBounds_toArray, List.set_cons_zero, List.set_cons_succ]
  refine wpAnyH_take (i := 10) (v := ?_) rfl (by kernel_rfl) (by kernel_rfl) (by kernel_rfl) (fun _ _ _ h => h) (Or.inl ⟨by rfl, ?_⟩) (by assumption) ?_
  case refine_2 => intro W hSw; go_simp; try rfl
  try simp only [Act.put, List.getElem_toArray, List.getElem_cons_zero, List.getElem_cons_succ, List.setIfInBounds_toArray, List.set_cons_zero, List.set_cons_succ]
  refine wpAnyH_done (by kernel_rfl) ?_ _
  clear hHeld hw4
  obtain ⟨z0, z1, z2, z3, z4⟩ := HDD.out.zx
  obtain ⟨n0, n1, n2, n3, n4⟩ := HDD.out.nx
  have fz := HDD.out.fz
  by_cases h5 : v2 = cr
  case neg =>
    rw [if_pos h5, if_neg (by decide)] at hd
    cases hd
    have h5' : ¬ (v2 : Int) = cr := by omega
    have h5b : ((v2 : Int) != cr) = true := by simpa using h5'
    go_wp2_with fail
    refine bodyPost_ret (v := .tuple #[.agg #[.int .i64 0, .int .i64 0, .int .i64 0, .int .i64 0, .slice none 0 0], .int .i64 5]) (by simp [results, Try.results52, go_sem, z0, z1, z2, z3, z4]) rfl ?_
    exact HERR.out (S5 wD w.heap.size (.int .i64 0) (.int .i64 0) (.int .i64 0) (.int .i64 0) (.slice none 0 0)) 5 ((s5_blk _ _ _ _ _ _ _).2.2 _ _ (Nat.le_refl _) HDD.out.bel)
  case pos =>
  subst h5
  clear z0 z1 z2 z3 z4 n0 n1 n2 n3 n4 fz
  rw [if_neg (show ¬ ¬ v2 = v2 by simp), if_pos rfl, decB_at HLX.out (by omega) (by omega)] at hd
  have hW : ∃ kind cnt frm area seen : Nat, ∃ A : List Lsa × Rst, num ((bs.drop 2).take 1) = kind ∧ num ((bs.drop 3).take 1) = cnt ∧ num ((bs.drop 8).take 4) = frm ∧ num ((bs.drop 6).take 2) = area ∧ num ((bs.drop 12).take 4) = seen ∧ decN decL cnt ((bs.take m).drop 16, false) = A ∧ (if isK (kind : Int) = false then (noPk, 13) else if A.2.2 = true ∨ 0 < A.2.1.length then (noPk, 4) else if rangeP (kind : Int) (frm : Int) (area : Int) (seen : Int) A.1 = false then (noPk, 2) else (⟨(kind : Int), (frm : Int), (area : Int), (seen : Int), A.1⟩, 0)) = (p, er) := ⟨_, _, _, _, _, _, rfl, rfl, rfl, rfl, rfl, rfl, hd⟩
  clear hd
  obtain ⟨kind, cnt, frm, area, seen, A, ek, ec, ef, ea, es, hA, hd⟩ := hW
  have HU8 : Hid (∀ d ∈ bs, d < 256) := HX.out.u8
  have hnlt : ∀ o n, o + n ≤ 20 → num ((bs.drop o).take n) < 256 ^ n := fun o n ho => num_lt (fun d hd => HU8.out d (List.mem_of_mem_drop hd)) n (by rw [List.length_drop, HLX.out]; omega)
  have hkl : kind < 256 := by rw [← ek]; exact hnlt 2 1 (by decide)
  have hcl2 : cnt < 256 := by rw [← ec]; exact hnlt 3 1 (by decide)
  have EF : Hid (((num ((bs.drop 8).take 4) : Nat) : Int) = (frm : Int)) := by rw [ef]; exact rfl
  have EA : Hid (((num ((bs.drop 6).take 2) : Nat) : Int) = (area : Int)) := by rw [ea]; exact rfl
  have ES : Hid (((num ((bs.drop 12).take 4) : Nat) : Int) = (seen : Int)) := by rw [es]; exact rfl
  have HA : Hid (decN decL cnt ((bs.take m).drop 16, false) = A) := hA
  have H64 : Hid (∀ x ∈ A.1, ∀ d ∈ x.links, In64 d.2.1) := by
    rw [← hA]
    exact (decN_all (P := fun x : Lsa => ∀ d ∈ x.links, In64 d.2.1) decL_64 cnt ((bs.take m).drop 16, false) (fun d hd => HU8.out d (List.mem_of_mem_take (List.mem_of_mem_drop hd)))).1
  have k2 : bs[2]'(by rw [HLX.out]; omega) = kind := by rw [← num_one (by rw [HLX.out]; omega)]; exact ek
  have k3 : bs[3]'(by rw [HLX.out]; omega) = cnt := by rw [← num_one (by rw [HLX.out]; omega)]; exact ec
  obtain ⟨b, o, hva, hbl, -⟩ := HX.out.cells 0 (by rw [HLX.out]; omega)
  subst hva
  have HCA : Hid (∀ W, Below w.heap.size w W → ∀ i (hi : i < bs.length), W.cell? ⟨b, o + i, none⟩ = some (.int .u8 (bs[i] : Int))) := fun W hW i hi => by
    obtain ⟨b1, o1, e, -, hc⟩ := (HX.out.bel hW).cells i hi
    cases e
    exact hc
  have HC : Hid (∀ W, Below w.heap.size w W → W.cell? ⟨b, o + 2, none⟩ = some (.int .u8 (kind : Int)) ∧ W.cell? ⟨b, o + 3, none⟩ = some (.int .u8 (cnt : Int))) := fun W hW =>
    ⟨by rw [HCA.out W hW 2 (by rw [HLX.out]; omega), k2], by rw [HCA.out W hW 3 (by rw [HLX.out]; omega), k3]⟩
  clear ek ec ef ea es hA hnlt k2 k3
  have hwk : IntKind.i64.wrap (kind : Int) = (kind : Int) := by rw [IntWalk.i64_in _ (by omega)]
  have hwcn : IntKind.i64.wrap (cnt : Int) = (cnt : Int) := by rw [IntWalk.i64_in _ (by omega)]
  have h2L : (2 : Int) < v1 := by omega
  have h3L : (3 : Int) < v1 := by omega
  have HBD : Hid (Below w.heap.size w wD.drew) := HDD.out.bel.trans ((drew_bel wD).mono HDD.out.bel.size)
  go_upto_region 9 with fail
  go_cut [6] from 11 (fun pv wx => pv = .pointer (some ⟨wD.heap.size, 0, none⟩) ∧ wx = wD.drew.alloc (Obj.cells #[.int .i64 (kind : Int), .int .i64 (frm : Int), .int .i64 (area : Int), .int .i64 (seen : Int), .slice none 0 0] 36))
  case first =>
    refine wp_region_held_drew (S := fun W => Below w.heap.size w W) (by kernel_rfl) HBD.out (fun hHeld => ?_)
    refine wpAnyH_take (i := 0) (v := ?_) rfl (by kernel_rfl) (by kernel_rfl) (by kernel_rfl) (fun _ _ _ h => h) (Or.inl ⟨by rfl, ?_⟩) (by assumption) ?_
    case refine_2 => intro W hSw; obtain ⟨j0, j1⟩ := HC.out W hSw; go_simp; try rfl
    try simp only [Act.put, List.getElem_toArray, List.getElem_cons_zero, List.setIfInBounds_toArray, List.set_cons_zero, List.set_cons_succ]
    refine wpAnyH_take (i := 1) (v := ?_) rfl (by kernel_rfl) (by kernel_rfl) (by kernel_rfl) (fun _ _ _ h => h) (Or.inl ⟨by rfl, ?_⟩) (by assumption) ?_
    case refine_2 => intro W hSw; obtain ⟨j0, j1⟩ := HC.out W hSw; go_simp; try rfl
    try simp only [Act.put, List.getElem_toArray, List.getElem_cons_zero, List.getElem_cons_succ, List.setIfInBounds_toArray, List.set_cons_zero, List.set_cons_succ]
    refine wpAnyH_take (i := 2) (v := ?_) rfl (by kernel_rfl) (by kernel_rfl) (by kernel_rfl) (fun _ _ _ h => h) (Or.inl ⟨by rfl, ?_⟩) (by assumption) ?_
    case refine_2 => intro W hSw; obtain ⟨j0, j1⟩ := HC.out W hSw; go_simp; try rfl
    try simp only [Act.put, List.getElem_toArray, List.getElem_cons_zero, List.getElem_cons_succ, List.setIfInBounds_toArray, List.set_cons_zero, List.set_cons_succ]
    refine wpAnyH_take (i := 3) (v := ?_) rfl (by kernel_rfl) (by kernel_rfl) (by kernel_rfl) (fun _ _ _ h => h) (Or.inl ⟨by rfl, ?_⟩) (by assumption) ?_
    case refine_2 => intro W hSw; obtain ⟨j0, j1⟩ := HC.out W hSw; go_simp; try rfl
    try simp only [Act.put, List.getElem_toArray, List.getElem_cons_zero, List.getElem_cons_succ, List.setIfInBounds_toArray, List.set_cons_zero, List.set_cons_succ]
    refine wpAnyH_take (i := 4) (v := ?_) rfl (by kernel_rfl) (by kernel_rfl) (by kernel_rfl) (fun _ _ _ h => h) (Or.inl ⟨by rfl, ?_⟩) (by assumption) ?_
    case refine_2 => intro W hSw; obtain ⟨j0, j1⟩ := HC.out W hSw; go_simp; try rfl
    try simp only [Act.put, List.getElem_toArray, List.getElem_cons_zero, List.getElem_cons_succ, List.setIfInBounds_toArray, List.set_cons_zero, List.set_cons_succ]
    refine wpAnyH_take (i := 6) (v := ?_) rfl (by kernel_rfl) (by kernel_rfl) (by kernel_rfl) (fun _ _ _ h => h) (Or.inl ⟨by rfl, ?_⟩) (by assumption) ?_
    case refine_2 => intro W hSw; obtain ⟨j0, j1⟩ := HC.out W hSw; go_simp; try rfl
    try simp only [Act.put, List.getElem_toArray, List.getElem_cons_zero, List.getElem_cons_succ, List.setIfInBounds_toArray, List.set_cons_zero, List.set_cons_succ]
    refine wpAnyH_take (i := 8) (v := ?_) rfl (by kernel_rfl) (by kernel_rfl) (by kernel_rfl) (fun _ _ _ h => h) (Or.inl ⟨by rfl, ?_⟩) (by assumption) ?_
    case refine_2 => intro W hSw; obtain ⟨j0, j1⟩ := HC.out W hSw; go_simp; try rfl
    try simp only [Act.put, List.getElem_toArray, List.getElem_cons_zero, List.getElem_cons_succ, List.setIfInBounds_toArray, List.set_cons_zero, List.set_cons_succ]
    refine wpAnyH_ready (rs := [5, 11]) (by kernel_rfl) (by simp) ?_
    refine AllReadyH.cons rfl (fun K hK => ?_) (AllReadyH.cons rfl (fun K hK => ?_) AllReadyH.nil)
    · go_simp
      refine (HNUM.out _ hHeld 6 2 _ 2 (area : Int) rfl rfl (by decide) (by omega) EA.out).mono ?_
      rintro e w5 ⟨rfl, hw5⟩
      rw [hw5]
      clear hw5 w5
      go_wp2_with fail
      refine hK.out _ _ hHeld (fun hHeld => ?_)
      clear hK K
      try simp only [Act.put, List.getElem_toArray, List.getElem_cons_zero, List.getElem_cons_succ, List.setIfInBounds_toArray, List.set_cons_zero, List.set_cons_succ]
      refine wpAnyH_ready (rs := [7, 11]) (by kernel_rfl) (by simp) ?_
      refine AllReadyH.cons rfl (fun K hK => ?_) (AllReadyH.cons rfl (fun K hK => ?_) AllReadyH.nil)
      · go_simp
        refine (HNUM.out _ hHeld 8 4 _ 4 (frm : Int) rfl rfl (by decide) (by omega) EF.out).mono ?_
        rintro e w5 ⟨rfl, hw5⟩
        rw [hw5]
        clear hw5 w5
        go_wp2_with fail
        refine hK.out _ _ hHeld (fun hHeld => ?_)
        clear hK K
        try simp only [Act.put, List.getElem_toArray, List.getElem_cons_zero, List.getElem_cons_succ, List.setIfInBounds_toArray, List.set_cons_zero, List.set_cons_succ]
        refine wpAnyH_ready (rs := [9, 11]) (by kernel_rfl) (by simp) ?_
        refine AllReadyH.cons rfl (fun K hK => ?_) (AllReadyH.cons rfl (fun K hK => ?_) AllReadyH.nil)
        · go_simp
          refine (HNUM.out _ hHeld 12 4 _ 4 (seen : Int) rfl rfl (by decide) (by omega) ES.out).mono ?_
          rintro e w5 ⟨rfl, hw5⟩
          rw [hw5]
          clear hw5 w5
          go_wp2_with fail
          refine hK.out _ _ hHeld (fun hHeld => ?_)
          clear hK K
          try simp only [Act.put, List.getElem_toArray, List.getElem_cons_zero, List.getElem_cons_succ, List.setIfInBounds_toArray, List.set_cons_zero, List.set_cons_succ]
          refine wpAnyH_take (i := 10) (v := ?_) rfl (by kernel_rfl) (by kernel_rfl) (by kernel_rfl) (fun _ _ _ h => h) (Or.inl ⟨by rfl, ?_⟩) (by assumption) ?_
          case refine_2 => intro W hSw; go_simp; try rfl
          try simp only [Act.put, List.getElem_toArray, List.getElem_cons_zero, List.getElem_cons_succ, List.setIfInBounds_toArray, List.set_cons_zero, List.set_cons_succ]
          refine wpAnyH_ready (rs := [11]) (by kernel_rfl) (by simp) ?_
          refine AllReadyH.cons rfl (fun K hK => ?_) AllReadyH.nil
          go_simp
          refine hK.out _ _ (hHeld.alloc hHeld.size _) (fun hHeld => ?_)
          clear hK K
          try simp only [Act.put, List.getElem_toArray, List.getElem_cons_zero, List.getElem_cons_succ, List.setIfInBounds_toArray, List.set_cons_zero, List.set_cons_succ]
          refine wpAnyH_ready (rs := [12]) (by kernel_rfl) (by simp) ?_
          refine AllReadyH.cons rfl (fun K hK => ?_) AllReadyH.nil
          go_simp
          refine hK.out _ _ (HBD.out.alloc HBD.out.size _) (fun hHeld => ?_)
          clear hK K
          try simp only [Act.put, List.getElem_toArray, List.getElem_cons_zero, List.getElem_cons_succ, List.setIfInBounds_toArray, List.set_cons_zero, List.set_cons_succ]
          refine wpAnyH_done (by kernel_rfl) ?_ _
          go_wp2_with fail
          go_meet
          exact ⟨rfl, rfl⟩
        · go_simp
          refine hK.out _ _ (hHeld.alloc hHeld.size _) (fun hHeld => ?_)
          clear hK K
          try simp only [Act.put, List.getElem_toArray, List.getElem_cons_zero, List.getElem_cons_succ, List.setIfInBounds_toArray, List.set_cons_zero, List.set_cons_succ]
          refine wpAnyH_ready (rs := [9]) (by kernel_rfl) (by simp) ?_
          refine AllReadyH.cons rfl (fun K hK => ?_) AllReadyH.nil
          go_simp
          refine (HNUM.out _ hHeld 12 4 _ 4 (seen : Int) rfl rfl (by decide) (by omega) ES.out).mono ?_
          rintro e w5 ⟨rfl, hw5⟩
          rw [hw5]
          clear hw5 w5
          go_wp2_with fail
          refine hK.out _ _ hHeld (fun hHeld => ?_)
          clear hK K
          try simp only [Act.put, List.getElem_toArray, List.getElem_cons_zero, List.getElem_cons_succ, List.setIfInBounds_toArray, List.set_cons_zero, List.set_cons_succ]
          refine wpAnyH_take (i := 10) (v := ?_) rfl (by kernel_rfl) (by kernel_rfl) (by kernel_rfl) (fun _ _ _ h => h) (Or.inl ⟨by rfl, ?_⟩) (by assumption) ?_
          case refine_2 => intro W hSw; go_simp; try rfl
          try simp only [Act.put, List.getElem_toArray, List.getElem_cons_zero, List.getElem_cons_succ, List.setIfInBounds_toArray, List.set_cons_zero, List.set_cons_succ]
          refine wpAnyH_ready (rs := [12]) (by kernel_rfl) (by simp) ?_
          refine AllReadyH.cons rfl (fun K hK => ?_) AllReadyH.nil
          go_simp
          refine hK.out _ _ (HBD.out.alloc HBD.out.size _) (fun hHeld => ?_)
          clear hK K
          try simp only [Act.put, List.getElem_toArray, List.getElem_cons_zero, List.getElem_cons_succ, List.setIfInBounds_toArray, List.set_cons_zero, List.set_cons_succ]
          refine wpAnyH_done (by kernel_rfl) ?_ _
          go_wp2_with fail
          go_meet
          exact ⟨rfl, rfl⟩
      · go_simp
        refine hK.out _ _ (hHeld.alloc hHeld.size _) (fun hHeld => ?_)
        clear hK K
        try simp only [Act.put, List.getElem_toArray, List.getElem_cons_zero, List.getElem_cons_succ, List.setIfInBounds_toArray, List.set_cons_zero, List.set_cons_succ]
        refine wpAnyH_ready (rs := [7]) (by kernel_rfl) (by simp) ?_
        refine AllReadyH.cons rfl (fun K hK => ?_) AllReadyH.nil
        go_simp
        refine (HNUM.out _ hHeld 8 4 _ 4 (frm : Int) rfl rfl (by decide) (by omega) EF.out).mono ?_
        rintro e w5 ⟨rfl, hw5⟩
        rw [hw5]
        clear hw5 w5
        go_wp2_with fail
        refine hK.out _ _ hHeld (fun hHeld => ?_)
        clear hK K
        try simp only [Act.put, List.getElem_toArray, List.getElem_cons_zero, List.getElem_cons_succ, List.setIfInBounds_toArray, List.set_cons_zero, List.set_cons_succ]
        refine wpAnyH_ready (rs := [9]) (by kernel_rfl) (by simp) ?_
        refine AllReadyH.cons rfl (fun K hK => ?_) AllReadyH.nil
        go_simp
        refine (HNUM.out _ hHeld 12 4 _ 4 (seen : Int) rfl rfl (by decide) (by omega) ES.out).mono ?_
        rintro e w5 ⟨rfl, hw5⟩
        rw [hw5]
        clear hw5 w5
        go_wp2_with fail
        refine hK.out _ _ hHeld (fun hHeld => ?_)
        clear hK K
        try simp only [Act.put, List.getElem_toArray, List.getElem_cons_zero, List.getElem_cons_succ, List.setIfInBounds_toArray, List.set_cons_zero, List.set_cons_succ]
        refine wpAnyH_take (i := 10) (v := ?_) rfl (by kernel_rfl) (by kernel_rfl) (by kernel_rfl) (fun _ _ _ h => h) (Or.inl ⟨by rfl, ?_⟩) (by assumption) ?_
        case refine_2 => intro W hSw; go_simp; try rfl
        try simp only [Act.put, List.getElem_toArray, List.getElem_cons_zero, List.getElem_cons_succ, List.setIfInBounds_toArray, List.set_cons_zero, List.set_cons_succ]
        refine wpAnyH_ready (rs := [12]) (by kernel_rfl) (by simp) ?_
        refine AllReadyH.cons rfl (fun K hK => ?_) AllReadyH.nil
        go_simp
        refine hK.out _ _ (HBD.out.alloc HBD.out.size _) (fun hHeld => ?_)
        clear hK K
        try simp only [Act.put, List.getElem_toArray, List.getElem_cons_zero, List.getElem_cons_succ, List.setIfInBounds_toArray, List.set_cons_zero, List.set_cons_succ]
        refine wpAnyH_done (by kernel_rfl) ?_ _
        go_wp2_with fail
        go_meet
        exact ⟨rfl, rfl⟩
    · go_simp
      refine hK.out _ _ (hHeld.alloc hHeld.size _) (fun hHeld => ?_)
      clear hK K
      try simp only [Act.put, List.getElem_toArray, List.getElem_cons_zero, List.getElem_cons_succ, List.setIfInBounds_toArray, List.set_cons_zero, List.set_cons_succ]
      refine wpAnyH_ready (rs := [5]) (by kernel_rfl) (by simp) ?_
      refine AllReadyH.cons rfl (fun K hK => ?_) AllReadyH.nil
      go_simp
      refine (HNUM.out _ hHeld 6 2 _ 2 (area : Int) rfl rfl (by decide) (by omega) EA.out).mono ?_
      rintro e w5 ⟨rfl, hw5⟩
      rw [hw5]
      clear hw5 w5
      go_wp2_with fail
      refine hK.out _ _ hHeld (fun hHeld => ?_)
      clear hK K
      try simp only [Act.put, List.getElem_toArray, List.getElem_cons_zero, List.getElem_cons_succ, List.setIfInBounds_toArray, List.set_cons_zero, List.set_cons_succ]
      refine wpAnyH_ready (rs := [7]) (by kernel_rfl) (by simp) ?_
      refine AllReadyH.cons rfl (fun K hK => ?_) AllReadyH.nil
      go_simp
      refine (HNUM.out _ hHeld 8 4 _ 4 (frm : Int) rfl rfl (by decide) (by omega) EF.out).mono ?_
      rintro e w5 ⟨rfl, hw5⟩
      rw [hw5]
      clear hw5 w5
      go_wp2_with fail
      refine hK.out _ _ hHeld (fun hHeld => ?_)
      clear hK K
      try simp only [Act.put, List.getElem_toArray, List.getElem_cons_zero, List.getElem_cons_succ, List.setIfInBounds_toArray, List.set_cons_zero, List.set_cons_succ]
      refine wpAnyH_ready (rs := [9]) (by kernel_rfl) (by simp) ?_
      refine AllReadyH.cons rfl (fun K hK => ?_) AllReadyH.nil
      go_simp
      refine (HNUM.out _ hHeld 12 4 _ 4 (seen : Int) rfl rfl (by decide) (by omega) ES.out).mono ?_
      rintro e w5 ⟨rfl, hw5⟩
      rw [hw5]
      clear hw5 w5
      go_wp2_with fail
      refine hK.out _ _ hHeld (fun hHeld => ?_)
      clear hK K
      try simp only [Act.put, List.getElem_toArray, List.getElem_cons_zero, List.getElem_cons_succ, List.setIfInBounds_toArray, List.set_cons_zero, List.set_cons_succ]
      refine wpAnyH_take (i := 10) (v := ?_) rfl (by kernel_rfl) (by kernel_rfl) (by kernel_rfl) (fun _ _ _ h => h) (Or.inl ⟨by rfl, ?_⟩) (by assumption) ?_
      case refine_2 => intro W hSw; go_simp; try rfl
      try simp only [Act.put, List.getElem_toArray, List.getElem_cons_zero, List.getElem_cons_succ, List.setIfInBounds_toArray, List.set_cons_zero, List.set_cons_succ]
      refine wpAnyH_ready (rs := [12]) (by kernel_rfl) (by simp) ?_
      refine AllReadyH.cons rfl (fun K hK => ?_) AllReadyH.nil
      go_simp
      refine hK.out _ _ (HBD.out.alloc HBD.out.size _) (fun hHeld => ?_)
      clear hK K
      try simp only [Act.put, List.getElem_toArray, List.getElem_cons_zero, List.getElem_cons_succ, List.setIfInBounds_toArray, List.set_cons_zero, List.set_cons_succ]
      refine wpAnyH_done (by kernel_rfl) ?_ _
      go_wp2_with fail
      go_meet
      exact ⟨rfl, rfl⟩
  case rest =>
    obtain ⟨rfl, hwc⟩ := hcut
    obtain ⟨sp, hsp⟩ : ∃ s, wD.heap.size = s := ⟨_, rfl⟩
    have HD1 : Hid (DI w sp (kind : Int) (frm : Int) (area : Int) (seen : Int) (.slice none 0 0) wc) := by
      obtain ⟨a1, a2, a3, a4⟩ := pbox_new hwc.symm
      have hsz : wD.drew.heap.size = sp := hsp
      have hb : Below wD.heap.size wD wc := (drew_bel wD).trans (a3.mono (Nat.le_refl _))
      have h9 := HDD.out.next hb
      have h8 := HDD.out.sz
      rw [hsz] at a1 a2 a4
      exact ⟨h9.bel, a1, a2, h9.zx, h9.fz, h9.nx, by omega, by omega⟩
    rw [hsp]
    clear hwc HBD HDD hsp
    obtain ⟨c0, c1, c2, c3, c4⟩ := HD1.out.bx
    obtain ⟨z0, z1, z2, z3, z4⟩ := HD1.out.zx
    obtain ⟨n0, n1, n2, n3, n4⟩ := HD1.out.nx
    have fz := HD1.out.fz
    by_cases hk : isK (kind : Int) = true
    case neg =>
      rw [if_pos (by simpa using hk)] at hd
      cases hd
      have hk2 : ¬ ((kind : Int) = 1 ∨ (kind : Int) = 2 ∨ (kind : Int) = 3) := by
        unfold isK at hk
        simpa using hk
      by_cases hk1 : (kind : Int) < 1
      · go_wp2_with fail
        refine bodyPost_ret (v := .tuple #[.agg #[.int .i64 0, .int .i64 0, .int .i64 0, .int .i64 0, .slice none 0 0], .int .i64 13]) (by simp [results, Try.results52, go_sem, z0, z1, z2, z3, z4]) rfl ?_
        exact HERR.out (S5 wc w.heap.size (.int .i64 0) (.int .i64 0) (.int .i64 0) (.int .i64 0) (.slice none 0 0)) 13 ((s5_blk _ _ _ _ _ _ _).2.2 _ _ (Nat.le_refl _) HD1.out.bel)
      · have hk3 : (3 : Int) < kind := by omega
        go_wp2_with fail
        refine bodyPost_ret (v := .tuple #[.agg #[.int .i64 0, .int .i64 0, .int .i64 0, .int .i64 0, .slice none 0 0], .int .i64 13]) (by simp [results, Try.results52, go_sem, z0, z1, z2, z3, z4]) rfl ?_
        exact HERR.out (S5 wc w.heap.size (.int .i64 0) (.int .i64 0) (.int .i64 0) (.int .i64 0) (.slice none 0 0)) 13 ((s5_blk _ _ _ _ _ _ _).2.2 _ _ (Nat.le_refl _) HD1.out.bel)
    case pos =>
      rw [if_neg (by simpa using hk)] at hd
      have HD3 : Hid ((if A.2.2 = true ∨ 0 < A.2.1.length then (noPk, 4) else if rangeP (kind : Int) (frm : Int) (area : Int) (seen : Int) A.1 = false then (noPk, 2) else (⟨(kind : Int), (frm : Int), (area : Int), (seen : Int), A.1⟩, 0)) = (p, er)) := hd
      have HK : Hid (isK (kind : Int) = true) := hk
      have hk2 : (kind : Int) = 1 ∨ (kind : Int) = 2 ∨ (kind : Int) = 3 := by
        unfold isK at hk
        simpa using hk
      have hk1 : ¬ (kind : Int) < 1 := by omega
      have hk3 : ¬ (3 : Int) < kind := by omega
      clear hk hd hk2
      have hq4 : IntKind.i64.wrap ((v1 : Int) - 4) = (m : Int) := by rw [IntWalk.i64_in _ (by omega)]; omega
      go_wp2_with fail
      clear c0 c1 c2 c3 c4 z0 z1 z2 z3 z4 n0 n1 n2 n3 n4 fz hk1 hk3
      go_loopw [7, 8] (fun av kv wr => ∃ (k a : Nat) (ys : List It) (uv : Value), k ≤ cnt ∧ kv = .int .i64 (k : Int) ∧ av = .int .i64 (a : Int) ∧ 16 ≤ a ∧ a ≤ m ∧ ys.length = k ∧ DI w sp (kind : Int) (frm : Int) (area : Int) (seen : Int) uv wr ∧ DO (sp + 1) wr uv ys ∧ (ys.map It.x ++ (decN decL (cnt - k) ((bs.take m).drop a, false)).1 = A.1 ∧ (decN decL (cnt - k) ((bs.take m).drop a, false)).2 = A.2)) (fun _ i _ => cnt - (intOf i).toNat)
      case atStart => exact ⟨0, 16, [], .slice none 0 0, by omega, rfl, rfl, by omega, by omega, rfl, HD1.out, DO.nil _ _, by rw [Nat.sub_zero, HA.out]; exact ⟨rfl, rfl⟩⟩
      case round =>
        obtain ⟨k, a, ys, uv, hk, rfl, rfl, ha16, ham, hyl, hpi, hdo, hdec⟩ := hrel
        have HPI : Hid (DI w sp (kind : Int) (frm : Int) (area : Int) (seen : Int) uv wr) := hpi
        have HDO : Hid (DO (sp + 1) wr uv ys) := hdo
        have HYL : Hid (ys.length = k) := hyl
        have HDC : Hid (ys.map It.x ++ (decN decL (cnt - k) ((bs.take m).drop a, false)).1 = A.1 ∧ (decN decL (cnt - k) ((bs.take m).drop a, false)).2 = A.2) := hdec
        clear hyl hpi hdo hdec HD1
        obtain ⟨j2, j3⟩ := HC.out wr HPI.out.bel
        by_cases hlt : k < cnt
        · have hlt' : (k : Int) < cnt := by omega
          obtain ⟨A28, hA28⟩ : ∃ q, a + 28 = q := ⟨_, rfl⟩
          have hw28 : IntKind.i64.wrap ((a : Int) + 28) = (A28 : Int) := by rw [IntWalk.i64_in _ (by omega)]; omega
          by_cases h28 : m < A28
          case pos =>
            have hsh : A.2.2 = true := by rw [← HDC.out.2]; exact decN_out decL_mono (by omega) (decL_out HLX.out (by omega) HU8.out ham (Or.inl (by omega)))
            have hd3 := HD3.out
            rw [if_pos (Or.inl hsh)] at hd3
            cases hd3
            have h28' : (m : Int) < A28 := by omega
            obtain ⟨z0, z1, z2, z3, z4⟩ := HPI.out.zx
            obtain ⟨n0, n1, n2, n3, n4⟩ := HPI.out.nx
            have fz := HPI.out.fz
            go_wp2_with fail
            refine bodyPost_ret (v := .tuple #[.agg #[.int .i64 0, .int .i64 0, .int .i64 0, .int .i64 0, .slice none 0 0], .int .i64 4]) (by simp [results, Try.results52, go_sem, z0, z1, z2, z3, z4]) rfl ?_
            exact HERR.out (S5 wr w.heap.size (.int .i64 0) (.int .i64 0) (.int .i64 0) (.int .i64 0) (.slice none 0 0)) 4 ((s5_blk _ _ _ _ _ _ _).2.2 _ _ (Nat.le_refl _) HPI.out.bel)
          case neg =>
            have h28' : ¬ (m : Int) < A28 := by omega
            go_upto_region 18 with fail
            obtain ⟨l, hl⟩ : ∃ q, num ((bs.drop (a + 1)).take 1) = q := ⟨_, rfl⟩
            obtain ⟨s, hs⟩ : ∃ q, num ((bs.drop (a + 2)).take 1) = q := ⟨_, rfl⟩
            have HLl : Hid (num ((bs.drop (a + 1)).take 1) = l) := hl
            have HSs : Hid (num ((bs.drop (a + 2)).take 1) = s) := hs
            have kl : bs[a + 1]'(by rw [HLX.out]; omega) = l := by rw [← num_one (by rw [HLX.out]; omega)]; exact hl
            have ks : bs[a + 2]'(by rw [HLX.out]; omega) = s := by rw [← num_one (by rw [HLX.out]; omega)]; exact hs
            have hl256 : l < 256 := by rw [← kl]; exact HU8.out _ (List.getElem_mem _)
            have hs256 : s < 256 := by rw [← ks]; exact HU8.out _ (List.getElem_mem _)
            obtain ⟨A1, hA1⟩ : ∃ q, a + 1 = q := ⟨_, rfl⟩
            obtain ⟨A2, hA2⟩ : ∃ q, a + 2 = q := ⟨_, rfl⟩
            have HC2 : Hid (∀ W, Below w.heap.size w W → W.cell? ⟨b, o + A1, none⟩ = some (.int .u8 (l : Int)) ∧ W.cell? ⟨b, o + A2, none⟩ = some (.int .u8 (s : Int))) := fun W hW =>
              ⟨by rw [← hA1, HCA.out W hW (a + 1) (by rw [HLX.out]; omega), kl], by rw [← hA2, HCA.out W hW (a + 2) (by rw [HLX.out]; omega), ks]⟩
            clear hl hs kl ks
            have hq1 : IntKind.i64.wrap ((a : Int) + 1) = (A1 : Int) := by rw [IntWalk.i64_in _ (by omega)]; omega
            have hq2 : IntKind.i64.wrap ((a : Int) + 2) = (A2 : Int) := by rw [IntWalk.i64_in _ (by omega)]; omega
            have hr1 : (0 : Int) ≤ (A1 : Int) := by omega
            have hr1L : (A1 : Int) < v1 := by omega
            have hr2 : (0 : Int) ≤ (A2 : Int) := by omega
            have hr2L : (A2 : Int) < v1 := by omega
            have hwl : IntKind.i64.wrap (l : Int) = (l : Int) := by rw [IntWalk.i64_in _ (by omega)]
            have hws : IntKind.i64.wrap (s : Int) = (s : Int) := by rw [IntWalk.i64_in _ (by omega)]
            refine wp_region_held_drew (S := fun W => Below w.heap.size w W) (by kernel_rfl) (HPI.out.bel.trans ((drew_bel wr).mono HPI.out.bel.size)) (fun hHeld => ?_)
            obtain ⟨wF, hwF⟩ : ∃ wF, wr.drew = wF := ⟨_, rfl⟩
            rw [hwF] at hHeld ⊢
            have HPF : Hid (DI w sp (kind : Int) (frm : Int) (area : Int) (seen : Int) uv wF) := by rw [← hwF]; exact HPI.out.next (drew_bel wr)
            have HDF : Hid (DO (sp + 1) wF uv ys) := by rw [← hwF]; exact HDO.out.bel (drew_bel wr)
            clear hwF HPI HDO j2 j3
            refine wpAnyH_take (i := 0) (v := ?_) rfl (by kernel_rfl) (by kernel_rfl) (by kernel_rfl) (fun _ _ _ h => h) (Or.inl ⟨by rfl, ?_⟩) (by assumption) ?_
            case refine_2 => intro W hSw; obtain ⟨j0, j1⟩ := HC2.out W hSw; go_simp; try rfl
            try simp only [Act.put, List.getElem_toArray, List.getElem_cons_zero, List.setIfInBounds_toArray, List.set_cons_zero, List.set_cons_succ]
            refine wpAnyH_take (i := 1) (v := ?_) rfl (by kernel_rfl) (by kernel_rfl) (by kernel_rfl) (fun _ _ _ h => h) (Or.inl ⟨by rfl, ?_⟩) (by assumption) ?_
            case refine_2 => intro W hSw; obtain ⟨j0, j1⟩ := HC2.out W hSw; go_simp; try rfl
            try simp only [Act.put, List.getElem_toArray, List.getElem_cons_zero, List.getElem_cons_succ, List.setIfInBounds_toArray, List.set_cons_zero, List.set_cons_succ]
            refine wpAnyH_take (i := 2) (v := ?_) rfl (by kernel_rfl) (by kernel_rfl) (by kernel_rfl) (fun _ _ _ h => h) (Or.inl ⟨by rfl, ?_⟩) (by assumption) ?_
            case refine_2 => intro W hSw; obtain ⟨j0, j1⟩ := HC2.out W hSw; go_simp; try rfl
            try simp only [Act.put, List.getElem_toArray, List.getElem_cons_zero, List.getElem_cons_succ, List.setIfInBounds_toArray, List.set_cons_zero, List.set_cons_succ]
            refine wpAnyH_take (i := 3) (v := ?_) rfl (by kernel_rfl) (by kernel_rfl) (by kernel_rfl) (fun _ _ _ h => h) (Or.inl ⟨by rfl, ?_⟩) (by assumption) ?_
            case refine_2 => intro W hSw; obtain ⟨j0, j1⟩ := HC2.out W hSw; go_simp; try rfl
            try simp only [Act.put, List.getElem_toArray, List.getElem_cons_zero, List.getElem_cons_succ, List.setIfInBounds_toArray, List.set_cons_zero, List.set_cons_succ]
            refine wpAnyH_take (i := 4) (v := ?_) rfl (by kernel_rfl) (by kernel_rfl) (by kernel_rfl) (fun _ _ _ h => h) (Or.inl ⟨by rfl, ?_⟩) (by assumption) ?_
            case refine_2 => intro W hSw; obtain ⟨j0, j1⟩ := HC2.out W hSw; go_simp; try rfl
            try simp only [Act.put, List.getElem_toArray, List.getElem_cons_zero, List.getElem_cons_succ, List.setIfInBounds_toArray, List.set_cons_zero, List.set_cons_succ]
            refine wpAnyH_take (i := 5) (v := ?_) rfl (by kernel_rfl) (by kernel_rfl) (by kernel_rfl) (fun _ _ _ h => h) (Or.inl ⟨by rfl, ?_⟩) (by assumption) ?_
            case refine_2 => intro W hSw; obtain ⟨j0, j1⟩ := HC2.out W hSw; go_simp; try rfl
            try simp only [Act.put, List.getElem_toArray, List.getElem_cons_zero, List.getElem_cons_succ, List.setIfInBounds_toArray, List.set_cons_zero, List.set_cons_succ]
            refine wpAnyH_take (i := 6) (v := ?_) rfl (by kernel_rfl) (by kernel_rfl) (by kernel_rfl) (fun _ _ _ h => h) (Or.inl ⟨by rfl, ?_⟩) (by assumption) ?_
            case refine_2 => intro W hSw; obtain ⟨j0, j1⟩ := HC2.out W hSw; go_simp; try rfl
            try simp only [Act.put, List.getElem_toArray, List.getElem_cons_zero, List.getElem_cons_succ, List.setIfInBounds_toArray, List.set_cons_zero, List.set_cons_succ]
            refine wpAnyH_take (i := 7) (v := ?_) rfl (by kernel_rfl) (by kernel_rfl) (by kernel_rfl) (fun _ _ _ h => h) (Or.inl ⟨by rfl, ?_⟩) (by assumption) ?_
            case refine_2 => intro W hSw; obtain ⟨j0, j1⟩ := HC2.out W hSw; go_simp; try rfl
            try simp only [Act.put, List.getElem_toArray, List.getElem_cons_zero, List.getElem_cons_succ, List.setIfInBounds_toArray, List.set_cons_zero, List.set_cons_succ]
            refine wpAnyH_take (i := 8) (v := ?_) rfl (by kernel_rfl) (by kernel_rfl) (by kernel_rfl) (fun _ _ _ h => h) (Or.inl ⟨by rfl, ?_⟩) (by assumption) ?_
            case refine_2 => intro W hSw; obtain ⟨j0, j1⟩ := HC2.out W hSw; go_simp; try rfl
            try simp only [Act.put, List.getElem_toArray, List.getElem_cons_zero, List.getElem_cons_succ, List.setIfInBounds_toArray, List.set_cons_zero, List.set_cons_succ]
            refine wpAnyH_take (i := 9) (v := ?_) rfl (by kernel_rfl) (by kernel_rfl) (by kernel_rfl) (fun _ _ _ h => h) (Or.inl ⟨by rfl, ?_⟩) (by assumption) ?_
            case refine_2 => intro W hSw; obtain ⟨j0, j1⟩ := HC2.out W hSw; go_simp; try rfl
            try simp only [Act.put, List.getElem_toArray, List.getElem_cons_zero, List.getElem_cons_succ, List.setIfInBounds_toArray, List.set_cons_zero, List.set_cons_succ]
            refine wpAnyH_take (i := 10) (v := ?_) rfl (by kernel_rfl) (by kernel_rfl) (by kernel_rfl) (fun _ _ _ h => h) (Or.inl ⟨by rfl, ?_⟩) (by assumption) ?_
            case refine_2 => intro W hSw; obtain ⟨j0, j1⟩ := HC2.out W hSw; go_simp; try rfl
            try simp only [Act.put, List.getElem_toArray, List.getElem_cons_zero, List.getElem_cons_succ, List.setIfInBounds_toArray, List.set_cons_zero, List.set_cons_succ]
            refine wpAnyH_take (i := 11) (v := ?_) rfl (by kernel_rfl) (by kernel_rfl) (by kernel_rfl) (fun _ _ _ h => h) (Or.inl ⟨by rfl, ?_⟩) (by assumption) ?_
            case refine_2 => intro W hSw; obtain ⟨j0, j1⟩ := HC2.out W hSw; go_simp; try rfl
            try simp only [Act.put, List.getElem_toArray, List.getElem_cons_zero, List.getElem_cons_succ, List.setIfInBounds_toArray, List.set_cons_zero, List.set_cons_succ]
            refine wpAnyH_take (i := 12) (v := ?_) rfl (by kernel_rfl) (by kernel_rfl) (by kernel_rfl) (fun _ _ _ h => h) (Or.inl ⟨by rfl, ?_⟩) (by assumption) ?_
            case refine_2 => intro W hSw; obtain ⟨j0, j1⟩ := HC2.out W hSw; go_simp; try rfl
            try simp only [Act.put, List.getElem_toArray, List.getElem_cons_zero, List.getElem_cons_succ, List.setIfInBounds_toArray, List.set_cons_zero, List.set_cons_succ]
            refine wpAnyH_take (i := 13) (v := ?_) rfl (by kernel_rfl) (by kernel_rfl) (by kernel_rfl) (fun _ _ _ h => h) (Or.inl ⟨by rfl, ?_⟩) (by assumption) ?_
            case refine_2 => intro W hSw; obtain ⟨j0, j1⟩ := HC2.out W hSw; go_simp; try rfl
            try simp only [Act.put, List.getElem_toArray, List.getElem_cons_zero, List.getElem_cons_succ, List.setIfInBounds_toArray, List.set_cons_zero, List.set_cons_succ]
            refine wpAnyH_done (by kernel_rfl) ?_ _
            clear hHeld hq1 hq2 hr1 hr2 hr1L hr2L hwl hws hA1 hA2 HC2
            obtain ⟨L8, hL8⟩ : ∃ q, 8 * l = q := ⟨_, rfl⟩
            obtain ⟨S7, hS7⟩ : ∃ q, 7 * s = q := ⟨_, rfl⟩
            obtain ⟨AL, hAL⟩ : ∃ q, A28 + L8 = q := ⟨_, rfl⟩
            obtain ⟨AE, hAE⟩ : ∃ q, AL + S7 = q := ⟨_, rfl⟩
            obtain ⟨X1, hX1⟩ : ∃ q, 28 + L8 = q := ⟨_, rfl⟩
            obtain ⟨X2, hX2⟩ : ∃ q, X1 + S7 = q := ⟨_, rfl⟩
            have hg1 : IntKind.i64.wrap (8 * (l : Int)) = (L8 : Int) := by rw [IntWalk.i64_in _ (by omega)]; omega
            have hg2 : IntKind.i64.wrap (7 * (s : Int)) = (S7 : Int) := by rw [IntWalk.i64_in _ (by omega)]; omega
            have hg3 : IntKind.i64.wrap ((A28 : Int) + L8) = (AL : Int) := by rw [IntWalk.i64_in _ (by omega)]; omega
            have hg4 : IntKind.i64.wrap ((AL : Int) + S7) = (AE : Int) := by rw [IntWalk.i64_in _ (by omega)]; omega
            have hg5 : IntKind.i64.wrap (28 + (L8 : Int)) = (X1 : Int) := by rw [IntWalk.i64_in _ (by omega)]; omega
            have hg6 : IntKind.i64.wrap ((X1 : Int) + S7) = (X2 : Int) := by rw [IntWalk.i64_in _ (by omega)]; omega
            have hg7 : IntKind.i64.wrap ((a : Int) + X2) = (AE : Int) := by rw [IntWalk.i64_in _ (by omega)]; omega
            by_cases hfit : m < AE
            case pos =>
              have hsh : A.2.2 = true := by rw [← HDC.out.2]; exact decN_out decL_mono (by omega) (decL_out HLX.out (by omega) HU8.out ham (Or.inr (by rw [HLl.out, HSs.out]; omega)))
              have hd3 := HD3.out
              rw [if_pos (Or.inl hsh)] at hd3
              cases hd3
              have hfit' : (m : Int) < AE := by omega
              obtain ⟨z0, z1, z2, z3, z4⟩ := HPF.out.zx
              obtain ⟨n0, n1, n2, n3, n4⟩ := HPF.out.nx
              have fz := HPF.out.fz
              go_wp2_with fail
              refine bodyPost_ret (v := .tuple #[.agg #[.int .i64 0, .int .i64 0, .int .i64 0, .int .i64 0, .slice none 0 0], .int .i64 4]) (by simp [results, Try.results52, go_sem, z0, z1, z2, z3, z4]) rfl ?_
              exact HERR.out (S5 wF w.heap.size (.int .i64 0) (.int .i64 0) (.int .i64 0) (.int .i64 0) (.slice none 0 0)) 4 ((s5_blk _ _ _ _ _ _ _).2.2 _ _ (Nat.le_refl _) HPF.out.bel)
            case neg =>
              have hfit' : ¬ (m : Int) < AE := by omega
              have HFIT : Hid (a + 28 + 8 * num ((bs.drop (a + 1)).take 1) + 7 * num ((bs.drop (a + 2)).take 1) ≤ v1) := by show _ ≤ _; rw [HLl.out, HSs.out]; omega
              have hbig : ys.length ≤ 1048576 := by rw [HYL.out]; omega
              obtain ⟨⟨x, rc⟩, hy⟩ : ∃ y, decL (bs.drop a, false) = y := ⟨_, rfl⟩
              have XD : Hid (decL (bs.drop a, false) = (x, rc)) := hy
              have HNX : Hid (ys.map It.x ++ [x] ++ (decN decL (cnt - (k + 1)) ((bs.take m).drop AE, false)).1 = A.1 ∧ (decN decL (cnt - (k + 1)) ((bs.take m).drop AE, false)).2 = A.2) := by
                have h1 := decN_snoc (r := ((bs.take m).drop a, false)) hlt HDC.out
                rw [decL_in HLX.out (by omega) l s HLl.out HSs.out (by omega), hy, show a + 28 + 8 * l + 7 * s = AE by omega] at h1
                exact h1
              have hE16 : 16 ≤ AE := by omega
              have hEm : AE ≤ m := by omega
              clear HDC hy HLl HSs hX1 hX2 hL8 hS7 hAL
              go_upto_region 21 with fail
              refine wp_region_held_drew (S := fun _ => True) (by kernel_rfl) trivial (fun hHeld => ?_)
              obtain ⟨wD, hwD⟩ : ∃ wD, wF.drew = wD := ⟨_, rfl⟩
              have PIwD : Hid (DI w sp (kind : Int) (frm : Int) (area : Int) (seen : Int) uv wD) := by rw [← hwD]; exact HPF.out.next (drew_bel wF)
              have DOwD : Hid (DO (sp + 1) wD uv ys) := by rw [← hwD]; exact HDF.out.bel (drew_bel wF)
              rw [hwD]
              clear hwD
              refine wpAnyH_take (i := 0) (v := ?_) rfl (by kernel_rfl) (by kernel_rfl) (by kernel_rfl) (fun _ _ _ h => h) (Or.inl ⟨by rfl, ?_⟩) (by assumption) ?_
              case refine_2 => intro W hSw; go_simp; try rfl
              try simp only [Act.put, List.getElem_toArray, List.getElem_cons_zero, List.setIfInBounds_toArray, List.set_cons_zero, List.set_cons_succ]
              refine wpAnyH_take (i := 2) (v := ?_) rfl (by kernel_rfl) (by kernel_rfl) (by kernel_rfl) (fun _ _ _ h => h) (Or.inl ⟨by rfl, ?_⟩) (by assumption) ?_
              case refine_2 => intro W hSw; go_simp; try rfl
              try simp only [Act.put, List.getElem_toArray, List.getElem_cons_zero, List.getElem_cons_succ, List.setIfInBounds_toArray, List.set_cons_zero, List.set_cons_succ]
              refine wpAnyH_take (i := 3) (v := ?_) rfl (by kernel_rfl) (by kernel_rfl) (by kernel_rfl) (fun _ _ _ h => h) (Or.inl ⟨by rfl, ?_⟩) (by assumption) ?_
              case refine_2 => intro W hSw; go_simp; try rfl
              try simp only [Act.put, List.getElem_toArray, List.getElem_cons_zero, List.getElem_cons_succ, List.setIfInBounds_toArray, List.set_cons_zero, List.set_cons_succ]
              refine wpAnyH_ready (rs := [1, 4]) (by kernel_rfl) (by simp) ?_
              refine AllReadyH.cons rfl (fun K hK => ?_) (AllReadyH.cons rfl (fun K hK => ?_) AllReadyH.nil)
              · have d4 := PIwD.out.bx.c4
                go_simp
                refine hK.out _ _ trivial (fun hHeld => ?_)
                clear hK K
                try simp only [Act.put, List.getElem_toArray, List.getElem_cons_zero, List.getElem_cons_succ, List.setIfInBounds_toArray, List.set_cons_zero, List.set_cons_succ]
                clear d4
                refine wpAnyH_ready (rs := [4]) (by kernel_rfl) (by simp) ?_
                refine AllReadyH.cons rfl (fun K hK => ?_) AllReadyH.nil
                go_simp
                refine (PIwD.out.ann _ cap bs v1 HLX.out (by omega) a (by omega) HFIT.out (HX.out.bel PIwD.out.bel) x rc XD.out).mono ?_
                rintro e v2x ⟨la, lc, sa, sc, rfl, hb1, hk1, hit, hnd⟩
                have PIv2x : Hid (DI w sp (kind : Int) (frm : Int) (area : Int) (seen : Int) uv v2x) := hb1
                have hspl := PIwD.out.sz
                have hlo := PIwD.out.lo
                have DOv2x : Hid (DO (sp + 1) v2x uv ys) := DOwD.out.bel hk1
                have ITv2x : Hid (ItOk (sp + 1) v2x ⟨x, la, lc, sa, sc⟩) := hit.mono (by omega)
                have HND : Hid ((It.mk x la lc sa sc).bl.Nodup) := hnd
                have HNA : Hid (∀ b ∈ (It.mk x la lc sa sc).bl, ¬ b ∈ blocks ys ∧ ¬ uv.ownBlock = some b) := fun b hb => ⟨fun h2 => by have h3 := (DOwD.out.blt b h2).2; have h4 := (hit.lt b hb).1; omega, fun h2 => by have h3 := (DOwD.out.row.lt b h2).2; have h4 := (hit.lt b hb).1; omega⟩
                clear hb1 hk1 hit hnd hspl hlo
                unfold lsaV
                go_wp2_with fail
                refine hK.out _ _ trivial (fun hHeld => ?_)
                clear hK K
                try simp only [Act.put, List.getElem_toArray, List.getElem_cons_zero, List.getElem_cons_succ, List.setIfInBounds_toArray, List.set_cons_zero, List.set_cons_succ]
                refine wpAnyH_ready (rs := [5]) (by kernel_rfl) (by simp) ?_
                refine AllReadyH.cons rfl (fun K hK => ?_) AllReadyH.nil
                go_simp
                obtain ⟨v3x, hV⟩ : ∃ v3x, v2x.alloc (Obj.cells (It.cells ⟨x, la, lc, sa, sc⟩).toArray 28) = v3x := ⟨_, rfl⟩
                have hbV : Below v2x.heap.size v2x v3x := by rw [← hV]; exact (Below.refl _ v2x).alloc (Nat.le_refl _) _
                have PIv3x : Hid (DI w sp (kind : Int) (frm : Int) (area : Int) (seen : Int) uv v3x) := PIv2x.out.next hbV
                have DOv3x : Hid (DO (sp + 1) v3x uv ys) := DOv2x.out.bel hbV
                have ITv3x : Hid (ItOk (sp + 1) v3x ⟨x, la, lc, sa, sc⟩) := ITv2x.out.blk (fun b hb => hbV.block b (ITv2x.out.lt b hb).2)
                have HV : Hid (v2x.alloc (Obj.cells (It.cells ⟨x, la, lc, sa, sc⟩).toArray 28) = v3x) := hV
                obtain ⟨u, hu⟩ : ∃ u, v2x.heap.size = u := ⟨_, rfl⟩
                have HU : Hid (v2x.heap.size = u) := hu
                rw [show v2x.alloc (Obj.cells #[.int .i64 x.kind, .int .i64 x.area, .int .i64 x.origin, .int .u32 x.pa, .int .i64 x.pn, .int .i64 x.seq, .int .i64 x.age, .slice la x.links.length lc, .slice sa x.stubs.length sc, .int .i64 x.cost, .int .i64 x.tag] 28) = v3x from hV, hu]
                clear hV hbV hu
                refine hK.out _ _ trivial (fun hHeld => ?_)
                clear hK K
                try simp only [Act.put, List.getElem_toArray, List.getElem_cons_zero, List.getElem_cons_succ, List.setIfInBounds_toArray, List.set_cons_zero, List.set_cons_succ]
                refine wpAnyH_ready (rs := [6]) (by kernel_rfl) (by simp) ?_
                refine AllReadyH.cons rfl (fun K hK => ?_) AllReadyH.nil
                refine step_app1A rfl _ _ rfl (sp + 1) uv ys ⟨x, la, lc, sa, sc⟩ hbig (w := v2x) v3x rfl DOv3x.out ITv3x.out HND.out HNA.out (by rw [HU.out]; rfl) (by have := PIv3x.out.sz; omega) HV.out.symm ?_
                intro v' w' ho' hg'
                have PIz : Hid (DI w sp (kind : Int) (frm : Int) (area : Int) (seen : Int) uv w') := PIv3x.out.grown hg'.out (fun g e => (DOv3x.out.row.lt g e).1)
                obtain ⟨va', vc', hv'⟩ := ho'.out.form
                obtain ⟨q, hq⟩ : ∃ q, (ys ++ [It.mk x la lc sa sc]).length = q := ⟨_, rfl⟩
                rw [hq] at hv'
                subst hv'
                clear hq
                have d4 := PIz.out.bx.c4
                have dz := PIz.out.fx 4
                refine hK.out _ _ trivial (fun hHeld => ?_)
                clear hK K
                try simp only [Act.put, List.getElem_toArray, List.getElem_cons_zero, List.getElem_cons_succ, List.setIfInBounds_toArray, List.set_cons_zero, List.set_cons_succ]
                refine wpAnyH_take (i := 7) (v := ?_) rfl (by kernel_rfl) (by kernel_rfl) (by kernel_rfl) (fun _ _ _ h => h) (Or.inl ⟨by rfl, ?_⟩) (by assumption) ?_
                case refine_2 => intro W hSw; go_simp; try rfl
                try simp only [Act.put, List.getElem_toArray, List.getElem_cons_zero, List.getElem_cons_succ, List.setIfInBounds_toArray, List.set_cons_zero, List.set_cons_succ]
                refine wpAnyH_ready (rs := [8]) (by kernel_rfl) (by simp) ?_
                refine AllReadyH.cons rfl (fun K hK => ?_) AllReadyH.nil
                go_simp
                refine hK.out _ _ trivial (fun hHeld => ?_)
                clear hK K
                try simp only [Act.put, List.getElem_toArray, List.getElem_cons_zero, List.getElem_cons_succ, List.setIfInBounds_toArray, List.set_cons_zero, List.set_cons_succ]
                refine wpAnyH_done (by kernel_rfl) ?_ _
                have PIy := PIz.out.set4 (.slice va' q vc')
                have DOy := ho'.out.set (i := 4) (u := .slice va' q vc') (Nat.lt_succ_self sp)
                clear d4 dz
                go_wp2_with fail
                exact ⟨⟨k + 1, AE, ys ++ [It.mk x la lc sa sc], _, by omega, by simp, rfl, by omega, by omega, by rw [List.length_append, HYL.out]; rfl, PIy, DOy, by rw [List.map_append]; exact HNX.out⟩, by simp [intOf]; omega⟩
              · go_simp
                refine (PIwD.out.ann _ cap bs v1 HLX.out (by omega) a (by omega) HFIT.out (HX.out.bel PIwD.out.bel) x rc XD.out).mono ?_
                rintro e v4x ⟨la, lc, sa, sc, rfl, hb1, hk1, hit, hnd⟩
                have PIv4x : Hid (DI w sp (kind : Int) (frm : Int) (area : Int) (seen : Int) uv v4x) := hb1
                have hspl := PIwD.out.sz
                have hlo := PIwD.out.lo
                have DOv4x : Hid (DO (sp + 1) v4x uv ys) := DOwD.out.bel hk1
                have ITv4x : Hid (ItOk (sp + 1) v4x ⟨x, la, lc, sa, sc⟩) := hit.mono (by omega)
                have HND : Hid ((It.mk x la lc sa sc).bl.Nodup) := hnd
                have HNA : Hid (∀ b ∈ (It.mk x la lc sa sc).bl, ¬ b ∈ blocks ys ∧ ¬ uv.ownBlock = some b) := fun b hb => ⟨fun h2 => by have h3 := (DOwD.out.blt b h2).2; have h4 := (hit.lt b hb).1; omega, fun h2 => by have h3 := (DOwD.out.row.lt b h2).2; have h4 := (hit.lt b hb).1; omega⟩
                clear hb1 hk1 hit hnd hspl hlo
                unfold lsaV
                go_wp2_with fail
                refine hK.out _ _ trivial (fun hHeld => ?_)
                clear hK K
                try simp only [Act.put, List.getElem_toArray, List.getElem_cons_zero, List.getElem_cons_succ, List.setIfInBounds_toArray, List.set_cons_zero, List.set_cons_succ]
                refine wpAnyH_ready (rs := [1, 5]) (by kernel_rfl) (by simp) ?_
                refine AllReadyH.cons rfl (fun K hK => ?_) (AllReadyH.cons rfl (fun K hK => ?_) AllReadyH.nil)
                · have d4 := PIv4x.out.bx.c4
                  go_simp
                  refine hK.out _ _ trivial (fun hHeld => ?_)
                  clear hK K
                  try simp only [Act.put, List.getElem_toArray, List.getElem_cons_zero, List.getElem_cons_succ, List.setIfInBounds_toArray, List.set_cons_zero, List.set_cons_succ]
                  clear d4
                  refine wpAnyH_ready (rs := [5]) (by kernel_rfl) (by simp) ?_
                  refine AllReadyH.cons rfl (fun K hK => ?_) AllReadyH.nil
                  go_simp
                  obtain ⟨v6x, hV⟩ : ∃ v6x, v4x.alloc (Obj.cells (It.cells ⟨x, la, lc, sa, sc⟩).toArray 28) = v6x := ⟨_, rfl⟩
                  have hbV : Below v4x.heap.size v4x v6x := by rw [← hV]; exact (Below.refl _ v4x).alloc (Nat.le_refl _) _
                  have PIv6x : Hid (DI w sp (kind : Int) (frm : Int) (area : Int) (seen : Int) uv v6x) := PIv4x.out.next hbV
                  have DOv6x : Hid (DO (sp + 1) v6x uv ys) := DOv4x.out.bel hbV
                  have ITv6x : Hid (ItOk (sp + 1) v6x ⟨x, la, lc, sa, sc⟩) := ITv4x.out.blk (fun b hb => hbV.block b (ITv4x.out.lt b hb).2)
                  have HV : Hid (v4x.alloc (Obj.cells (It.cells ⟨x, la, lc, sa, sc⟩).toArray 28) = v6x) := hV
                  obtain ⟨u, hu⟩ : ∃ u, v4x.heap.size = u := ⟨_, rfl⟩
                  have HU : Hid (v4x.heap.size = u) := hu
                  rw [show v4x.alloc (Obj.cells #[.int .i64 x.kind, .int .i64 x.area, .int .i64 x.origin, .int .u32 x.pa, .int .i64 x.pn, .int .i64 x.seq, .int .i64 x.age, .slice la x.links.length lc, .slice sa x.stubs.length sc, .int .i64 x.cost, .int .i64 x.tag] 28) = v6x from hV, hu]
                  clear hV hbV hu
                  refine hK.out _ _ trivial (fun hHeld => ?_)
                  clear hK K
                  try simp only [Act.put, List.getElem_toArray, List.getElem_cons_zero, List.getElem_cons_succ, List.setIfInBounds_toArray, List.set_cons_zero, List.set_cons_succ]
                  refine wpAnyH_ready (rs := [6]) (by kernel_rfl) (by simp) ?_
                  refine AllReadyH.cons rfl (fun K hK => ?_) AllReadyH.nil
                  refine step_app1A rfl _ _ rfl (sp + 1) uv ys ⟨x, la, lc, sa, sc⟩ hbig (w := v4x) v6x rfl DOv6x.out ITv6x.out HND.out HNA.out (by rw [HU.out]; rfl) (by have := PIv6x.out.sz; omega) HV.out.symm ?_
                  intro v' w' ho' hg'
                  have PIz : Hid (DI w sp (kind : Int) (frm : Int) (area : Int) (seen : Int) uv w') := PIv6x.out.grown hg'.out (fun g e => (DOv6x.out.row.lt g e).1)
                  obtain ⟨va', vc', hv'⟩ := ho'.out.form
                  obtain ⟨q, hq⟩ : ∃ q, (ys ++ [It.mk x la lc sa sc]).length = q := ⟨_, rfl⟩
                  rw [hq] at hv'
                  subst hv'
                  clear hq
                  have d4 := PIz.out.bx.c4
                  have dz := PIz.out.fx 4
                  refine hK.out _ _ trivial (fun hHeld => ?_)
                  clear hK K
                  try simp only [Act.put, List.getElem_toArray, List.getElem_cons_zero, List.getElem_cons_succ, List.setIfInBounds_toArray, List.set_cons_zero, List.set_cons_succ]
                  refine wpAnyH_take (i := 7) (v := ?_) rfl (by kernel_rfl) (by kernel_rfl) (by kernel_rfl) (fun _ _ _ h => h) (Or.inl ⟨by rfl, ?_⟩) (by assumption) ?_
                  case refine_2 => intro W hSw; go_simp; try rfl
                  try simp only [Act.put, List.getElem_toArray, List.getElem_cons_zero, List.getElem_cons_succ, List.setIfInBounds_toArray, List.set_cons_zero, List.set_cons_succ]
                  refine wpAnyH_ready (rs := [8]) (by kernel_rfl) (by simp) ?_
                  refine AllReadyH.cons rfl (fun K hK => ?_) AllReadyH.nil
                  go_simp
                  refine hK.out _ _ trivial (fun hHeld => ?_)
                  clear hK K
                  try simp only [Act.put, List.getElem_toArray, List.getElem_cons_zero, List.getElem_cons_succ, List.setIfInBounds_toArray, List.set_cons_zero, List.set_cons_succ]
                  refine wpAnyH_done (by kernel_rfl) ?_ _
                  have PIy := PIz.out.set4 (.slice va' q vc')
                  have DOy := ho'.out.set (i := 4) (u := .slice va' q vc') (Nat.lt_succ_self sp)
                  clear d4 dz
                  go_wp2_with fail
                  exact ⟨⟨k + 1, AE, ys ++ [It.mk x la lc sa sc], _, by omega, by simp, rfl, by omega, by omega, by rw [List.length_append, HYL.out]; rfl, PIy, DOy, by rw [List.map_append]; exact HNX.out⟩, by simp [intOf]; omega⟩
                · go_simp
                  obtain ⟨v7x, hV⟩ : ∃ v7x, v4x.alloc (Obj.cells (It.cells ⟨x, la, lc, sa, sc⟩).toArray 28) = v7x := ⟨_, rfl⟩
                  have hbV : Below v4x.heap.size v4x v7x := by rw [← hV]; exact (Below.refl _ v4x).alloc (Nat.le_refl _) _
                  have PIv7x : Hid (DI w sp (kind : Int) (frm : Int) (area : Int) (seen : Int) uv v7x) := PIv4x.out.next hbV
                  have DOv7x : Hid (DO (sp + 1) v7x uv ys) := DOv4x.out.bel hbV
                  have ITv7x : Hid (ItOk (sp + 1) v7x ⟨x, la, lc, sa, sc⟩) := ITv4x.out.blk (fun b hb => hbV.block b (ITv4x.out.lt b hb).2)
                  have HV : Hid (v4x.alloc (Obj.cells (It.cells ⟨x, la, lc, sa, sc⟩).toArray 28) = v7x) := hV
                  obtain ⟨u, hu⟩ : ∃ u, v4x.heap.size = u := ⟨_, rfl⟩
                  have HU : Hid (v4x.heap.size = u) := hu
                  rw [show v4x.alloc (Obj.cells #[.int .i64 x.kind, .int .i64 x.area, .int .i64 x.origin, .int .u32 x.pa, .int .i64 x.pn, .int .i64 x.seq, .int .i64 x.age, .slice la x.links.length lc, .slice sa x.stubs.length sc, .int .i64 x.cost, .int .i64 x.tag] 28) = v7x from hV, hu]
                  clear hV hbV hu
                  refine hK.out _ _ trivial (fun hHeld => ?_)
                  clear hK K
                  try simp only [Act.put, List.getElem_toArray, List.getElem_cons_zero, List.getElem_cons_succ, List.setIfInBounds_toArray, List.set_cons_zero, List.set_cons_succ]
                  refine wpAnyH_ready (rs := [1]) (by kernel_rfl) (by simp) ?_
                  refine AllReadyH.cons rfl (fun K hK => ?_) AllReadyH.nil
                  have d4 := PIv7x.out.bx.c4
                  go_simp
                  refine hK.out _ _ trivial (fun hHeld => ?_)
                  clear hK K
                  try simp only [Act.put, List.getElem_toArray, List.getElem_cons_zero, List.getElem_cons_succ, List.setIfInBounds_toArray, List.set_cons_zero, List.set_cons_succ]
                  clear d4
                  refine wpAnyH_ready (rs := [6]) (by kernel_rfl) (by simp) ?_
                  refine AllReadyH.cons rfl (fun K hK => ?_) AllReadyH.nil
                  refine step_app1A rfl _ _ rfl (sp + 1) uv ys ⟨x, la, lc, sa, sc⟩ hbig (w := v4x) v7x rfl DOv7x.out ITv7x.out HND.out HNA.out (by rw [HU.out]; rfl) (by have := PIv7x.out.sz; omega) HV.out.symm ?_
                  intro v' w' ho' hg'
                  have PIz : Hid (DI w sp (kind : Int) (frm : Int) (area : Int) (seen : Int) uv w') := PIv7x.out.grown hg'.out (fun g e => (DOv7x.out.row.lt g e).1)
                  obtain ⟨va', vc', hv'⟩ := ho'.out.form
                  obtain ⟨q, hq⟩ : ∃ q, (ys ++ [It.mk x la lc sa sc]).length = q := ⟨_, rfl⟩
                  rw [hq] at hv'
                  subst hv'
                  clear hq
                  have d4 := PIz.out.bx.c4
                  have dz := PIz.out.fx 4
                  refine hK.out _ _ trivial (fun hHeld => ?_)
                  clear hK K
                  try simp only [Act.put, List.getElem_toArray, List.getElem_cons_zero, List.getElem_cons_succ, List.setIfInBounds_toArray, List.set_cons_zero, List.set_cons_succ]
                  refine wpAnyH_take (i := 7) (v := ?_) rfl (by kernel_rfl) (by kernel_rfl) (by kernel_rfl) (fun _ _ _ h => h) (Or.inl ⟨by rfl, ?_⟩) (by assumption) ?_
                  case refine_2 => intro W hSw; go_simp; try rfl
                  try simp only [Act.put, List.getElem_toArray, List.getElem_cons_zero, List.getElem_cons_succ, List.setIfInBounds_toArray, List.set_cons_zero, List.set_cons_succ]
                  refine wpAnyH_ready (rs := [8]) (by kernel_rfl) (by simp) ?_
                  refine AllReadyH.cons rfl (fun K hK => ?_) AllReadyH.nil
                  go_simp
                  refine hK.out _ _ trivial (fun hHeld => ?_)
                  clear hK K
                  try simp only [Act.put, List.getElem_toArray, List.getElem_cons_zero, List.getElem_cons_succ, List.setIfInBounds_toArray, List.set_cons_zero, List.set_cons_succ]
                  refine wpAnyH_done (by kernel_rfl) ?_ _
                  have PIy := PIz.out.set4 (.slice va' q vc')
                  have DOy := ho'.out.set (i := 4) (u := .slice va' q vc') (Nat.lt_succ_self sp)
                  clear d4 dz
                  go_wp2_with fail
                  exact ⟨⟨k + 1, AE, ys ++ [It.mk x la lc sa sc], _, by omega, by simp, rfl, by omega, by omega, by rw [List.length_append, HYL.out]; rfl, PIy, DOy, by rw [List.map_append]; exact HNX.out⟩, by simp [intOf]; omega⟩
        · obtain rfl : cnt = k := by omega
          have hlt' : ¬ (cnt : Int) < cnt := by omega
          have HE : Hid (ys.map It.x = A.1 ∧ ((bs.take m).drop a, false) = A.2) := by
            have h1 := HDC.out
            rw [Nat.sub_self] at h1
            exact ⟨by have h2 := h1.1; simp [decN] at h2; exact h2, h1.2⟩
          clear HDC
          obtain ⟨hye, hrk⟩ := HE.out
          have hA2 : A.2.2 = false := by rw [← hrk]
          have hA1 : A.2.1.length = m - a := by rw [← hrk]; show ((bs.take m).drop a).length = _; rw [List.length_drop, HTL.out]
          have HYE : Hid (ys.map It.x = A.1) := hye
          obtain ⟨va', vc', huv⟩ := HDO.out.form
          subst huv
          have hyl : ys.length = A.1.length := by rw [← hye, List.length_map]
          obtain ⟨n, hn⟩ : ∃ n, A.1.length = n := ⟨_, rfl⟩
          rw [hn] at hyl
          rw [hyl] at HDO HPI
          have HYN : Hid (ys.length = n) := hyl
          have HN : Hid (A.1.length = n) := hn
          clear hye hrk hyl hn HE HYL
          obtain ⟨z0, z1, z2, z3, z4⟩ := HPI.out.zx
          obtain ⟨n0, n1, n2, n3, n4⟩ := HPI.out.nx
          have fz := HPI.out.fz
          by_cases hae : a = m
          case neg =>
            have hd3 := HD3.out
            rw [if_pos (Or.inr (by omega))] at hd3
            cases hd3
            have hae' : ((a : Int) != m) = true := by
              have : ¬ (a : Int) = m := by omega
              simpa using this
            go_wp2_with fail
            refine bodyPost_ret (v := .tuple #[.agg #[.int .i64 0, .int .i64 0, .int .i64 0, .int .i64 0, .slice none 0 0], .int .i64 4]) (by simp [results, Try.results52, go_sem, z0, z1, z2, z3, z4]) rfl ?_
            exact HERR.out (S5 wr w.heap.size (.int .i64 0) (.int .i64 0) (.int .i64 0) (.int .i64 0) (.slice none 0 0)) 4 ((s5_blk _ _ _ _ _ _ _).2.2 _ _ (Nat.le_refl _) HPI.out.bel)
          case pos =>
            subst hae
            have HD4 : Hid ((if rangeP (kind : Int) (frm : Int) (area : Int) (seen : Int) A.1 = false then (noPk, 2) else (⟨(kind : Int), (frm : Int), (area : Int), (seen : Int), A.1⟩, 0)) = (p, er)) := by
              have h1 := HD3.out
              rw [if_neg (by rw [hA2, hA1]; simp)] at h1
              exact h1
            clear HD3 hA1 hA2
            obtain ⟨c0, c1, c2, c3, c4⟩ := HPI.out.bx
            obtain ⟨rg, hrg⟩ : ∃ r, rangeP (kind : Int) (frm : Int) (area : Int) (seen : Int) A.1 = r := ⟨_, rfl⟩
            rw [hrg] at HD4
            have HAL : Hid (LAll wr va' A.1) := by
              have h1 := HDO.out.all HYN.out
              rw [HYE.out] at h1
              exact h1
            have hrf : refP (kind : Int) (frm : Int) (area : Int) (seen : Int) A.1 = if rg = false then 2 else 0 := by
              unfold refP
              rw [if_neg (by rw [HK.out]; decide), hrg]
            have HRA := rrefuses_any (kind : Int) (frm : Int) (area : Int) (seen : Int) va' vc' A.1 n HN.out wr HAL.out H64.out _ hrf
            unfold pkV at HRA
            clear hrg hrf
            go_wp2_with fail
            refine HRA.mono ?_
            rintro e w6 ⟨rfl, hb6⟩
            have HP6 : Hid (DI w sp (kind : Int) (frm : Int) (area : Int) (seen : Int) (.slice va' n vc') w6) := HPI.out.next hb6
            have HD6 : Hid (DO (sp + 1) w6 (.slice va' n vc') ys) := HDO.out.bel hb6
            clear hb6 HRA HPI HDO z0 z1 z2 z3 z4 n0 n1 n2 n3 n4 fz c0 c1 c2 c3 c4
            obtain ⟨z0, z1, z2, z3, z4⟩ := HP6.out.zx
            obtain ⟨n0, n1, n2, n3, n4⟩ := HP6.out.nx
            have fz := HP6.out.fz
            cases rg with
            | false =>
              have hd3 := HD4.out
              rw [if_pos rfl] at hd3
              cases hd3
              go_wp2_with fail
              refine bodyPost_ret (v := .tuple #[.agg #[.int .i64 0, .int .i64 0, .int .i64 0, .int .i64 0, .slice none 0 0], .int .i64 2]) (by simp [results, Try.results52, go_sem, z0, z1, z2, z3, z4]) rfl ?_
              exact HERR.out (S5 w6 w.heap.size (.int .i64 0) (.int .i64 0) (.int .i64 0) (.int .i64 0) (.slice none 0 0)) 2 ((s5_blk _ _ _ _ _ _ _).2.2 _ _ (Nat.le_refl _) HP6.out.bel)
            | true =>
              have hd3 := HD4.out
              rw [if_neg (by decide)] at hd3
              cases hd3
              obtain ⟨c0, c1, c2, c3, c4⟩ := HP6.out.bx
              have hspp := HP6.out.lo
              have HFIN : Hid (∀ W, (∀ g, ¬ g = w.heap.size → W.heap[g]? = w6.heap[g]?) → Below w.heap.size w W → DecPost w ⟨(kind : Int), (frm : Int), (area : Int), (seen : Int), A.1⟩ 0 (.returned (.tuple #[.agg #[.int .i64 (kind : Int), .int .i64 (frm : Int), .int .i64 (area : Int), .int .i64 (seen : Int), .slice va' n vc'], .int .i64 0])) W) := by
                intro W hW hB
                refine ⟨va', vc', ys, ?_, HYE.out, ?_, hB⟩
                · show _ = Ending.returned (.tuple #[pkV (kind : Int) (frm : Int) (area : Int) (seen : Int) va' A.1.length vc', .int .i64 0])
                  rw [HN.out]; rfl
                · show DO w.heap.size W (.slice va' A.1.length vc') ys
                  rw [HN.out]
                  exact (HD6.out.blk (fun b hb _ => hW b (by omega))).mono (by omega)
              go_wp2_with fail
              refine bodyPost_ret (v := .tuple #[.agg #[.int .i64 (kind : Int), .int .i64 (frm : Int), .int .i64 (area : Int), .int .i64 (seen : Int), .slice va' n vc'], .int .i64 0]) (by simp [results, Try.results52, go_sem, z0, z1, z2, z3, z4]) rfl ?_
              exact HFIN.out (S5 w6 w.heap.size (.int .i64 (kind : Int)) (.int .i64 (frm : Int)) (.int .i64 (area : Int)) (.int .i64 (seen : Int)) (.slice va' n vc')) (s5_blk _ _ _ _ _ _ _).1 ((s5_blk _ _ _ _ _ _ _).2.2 _ _ (Nat.le_refl _) HP6.out.bel)
end Go.Proofs.Ytagfdmkgnedlbae.Ls
