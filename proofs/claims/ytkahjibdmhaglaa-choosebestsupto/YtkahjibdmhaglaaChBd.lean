/- chooseInts of two lists that are alike. -/
import Derived.Test.YtkahjibdmhaglaaChBc
namespace Go.Proofs.Ytkahjibdmhaglaa.Ch
open Go.ChangeShapes Go.WideShapes Go.ChangeAt Go.RowKit Go.Joins Go.Deep Go.Proofs.Ytkahjibdmhaglaa.Ge
set_option linter.unusedVariables false
set_option linter.unusedSimpArgs false

theorem lst_cell {W : World} {a : Option Addr} {xs : List Int} (h : Lst EI W a xs) {i : Nat} (hi : i < xs.length) : ∃ b o, a = some ⟨b, o, none⟩ ∧ W.cell? ⟨b, o + i, none⟩ = some (.int .i64 xs[i]) := by
  obtain ⟨b, o, e, -, hc⟩ := h.cells i hi
  have h5 := hc 0 (by decide)
  have e1 : EI.k = 1 := rfl
  rw [e1, Nat.mul_one] at h5
  exact ⟨b, o, e, h5⟩
set_option maxRecDepth 100000 in
set_option maxHeartbeats 8000000 in
theorem cints_any (la lb : Option Addr) (n ca cb : Nat) (xs : List Int) (hxn : xs.length = n) (w : World) (ha : Lst EI w la xs) (hb : Lst EI w lb xs) : Calls Try.prog 11 #[.slice la n ca, .slice lb n cb] w fun e w' => e = .returned (.bool true) ∧ Below w.heap.size w w' := by
  have HA : Hid (Lst EI w la xs) := ha
  have HB : Hid (Lst EI w lb xs) := hb
  have HN : Hid (xs.length = n) := hxn
  have hsm : n ≤ 9223372036854775807 := by rw [← hxn]; exact ha.small
  clear ha hb hxn
  go_enter Try.func11, Try.ntmps11
  go_wp2_with fail
  go_loopw [13, 5] (fun iv _ wr => (∃ k : Nat, k ≤ n ∧ iv = .int .i64 (k : Int)) ∧ Below w.heap.size w wr) (fun i _ _ => n - (intOf i).toNat)
  case atStart => exact ⟨⟨0, by omega, rfl⟩, Below.refl _ _⟩
  case round =>
    obtain ⟨⟨k, hk, rfl⟩, hb7⟩ := hrel
    obtain ⟨wt, hwt⟩ : ∃ y, wr = y := ⟨_, rfl⟩
    rw [hwt] at hb7 ⊢
    have HB7 : Hid (Below w.heap.size w wt) := hb7
    clear hb7 hwt
    by_cases hkm : k < n
    case pos =>
      have hkk : (k : Int) < (n : Int) := by omega
      have kk0 : (0 : Int) ≤ (k : Int) := by omega
      have hkl : k < xs.length := by rw [HN.out]; exact hkm
      obtain ⟨wd, hwd⟩ : ∃ y, wt.drew = y := ⟨_, rfl⟩
      have HB8 : Hid (Below w.heap.size w wd) := by rw [← hwd]; exact HB7.out.trans ((drew_bel wt).mono HB7.out.size)
      obtain ⟨x, hx⟩ : ∃ y, xs[k] = y := ⟨_, rfl⟩
      obtain ⟨b1, o1, rfl, d1⟩ := lst_cell (HA.out.bel HB8.out) hkl
      obtain ⟨b2, o2, rfl, d2⟩ := lst_cell (HB.out.bel HB8.out) hkl
      rw [hx] at d1 d2
      have HWD : Hid (wt.drew = wd) := hwd
      clear hx hwd hkl
      go_wp2_with fail
      refine wp_region_held_drew (S := fun W => W = wd) (by kernel_rfl) HWD.out (fun hHeld => ?_)
      rw [HWD.out] at hHeld ⊢
      refine wpAnyH_take (i := 0) (v := .slice (some ⟨b1, o1, none⟩) n ca) rfl (by kernel_rfl) (by kernel_rfl) (by kernel_rfl) (fun _ _ _ h => h) (Or.inl ⟨by rfl, ?_⟩) (by assumption) ?_
      case refine_1 => intro W hSw; rw [hSw]; go_simp; try rfl
      try simp only [Act.put, List.getElem_toArray, List.getElem_cons_zero, List.getElem_cons_succ, List.setIfInBounds_toArray, List.set_cons_zero, List.set_cons_succ]
      refine wpAnyH_take (i := 1) (v := .int .i64 (k : Int)) rfl (by kernel_rfl) (by kernel_rfl) (by kernel_rfl) (fun _ _ _ h => h) (Or.inl ⟨by rfl, ?_⟩) (by assumption) ?_
      case refine_1 => intro W hSw; rw [hSw]; go_simp; try rfl
      try simp only [Act.put, List.getElem_toArray, List.getElem_cons_zero, List.getElem_cons_succ, List.setIfInBounds_toArray, List.set_cons_zero, List.set_cons_succ]
      refine wpAnyH_take (i := 2) (v := .pointer (some ⟨b1, o1 + k, none⟩)) rfl (by kernel_rfl) (by kernel_rfl) (by kernel_rfl) (fun _ _ _ h => h) (Or.inl ⟨by rfl, ?_⟩) (by assumption) ?_
      case refine_1 => intro W hSw; rw [hSw]; go_simp; try rfl
      try simp only [Act.put, List.getElem_toArray, List.getElem_cons_zero, List.getElem_cons_succ, List.setIfInBounds_toArray, List.set_cons_zero, List.set_cons_succ]
      refine wpAnyH_take (i := 3) (v := .int .i64 x) rfl (by kernel_rfl) (by kernel_rfl) (by kernel_rfl) (fun _ _ _ h => h) (Or.inl ⟨by rfl, ?_⟩) (by assumption) ?_
      case refine_1 => intro W hSw; rw [hSw]; go_simp; try rfl
      try simp only [Act.put, List.getElem_toArray, List.getElem_cons_zero, List.getElem_cons_succ, List.setIfInBounds_toArray, List.set_cons_zero, List.set_cons_succ]
      refine wpAnyH_take (i := 4) (v := .slice (some ⟨b2, o2, none⟩) n cb) rfl (by kernel_rfl) (by kernel_rfl) (by kernel_rfl) (fun _ _ _ h => h) (Or.inl ⟨by rfl, ?_⟩) (by assumption) ?_
      case refine_1 => intro W hSw; rw [hSw]; go_simp; try rfl
      try simp only [Act.put, List.getElem_toArray, List.getElem_cons_zero, List.getElem_cons_succ, List.setIfInBounds_toArray, List.set_cons_zero, List.set_cons_succ]
      refine wpAnyH_take (i := 5) (v := .int .i64 (k : Int)) rfl (by kernel_rfl) (by kernel_rfl) (by kernel_rfl) (fun _ _ _ h => h) (Or.inl ⟨by rfl, ?_⟩) (by assumption) ?_
      case refine_1 => intro W hSw; rw [hSw]; go_simp; try rfl
      try simp only [Act.put, List.getElem_toArray, List.getElem_cons_zero, List.getElem_cons_succ, List.setIfInBounds_toArray, List.set_cons_zero, List.set_cons_succ]
      refine wpAnyH_take (i := 6) (v := .pointer (some ⟨b2, o2 + k, none⟩)) rfl (by kernel_rfl) (by kernel_rfl) (by kernel_rfl) (fun _ _ _ h => h) (Or.inl ⟨by rfl, ?_⟩) (by assumption) ?_
      case refine_1 => intro W hSw; rw [hSw]; go_simp; try rfl
      try simp only [Act.put, List.getElem_toArray, List.getElem_cons_zero, List.getElem_cons_succ, List.setIfInBounds_toArray, List.set_cons_zero, List.set_cons_succ]
      refine wpAnyH_take (i := 7) (v := .int .i64 x) rfl (by kernel_rfl) (by kernel_rfl) (by kernel_rfl) (fun _ _ _ h => h) (Or.inl ⟨by rfl, ?_⟩) (by assumption) ?_
      case refine_1 => intro W hSw; rw [hSw]; go_simp; try rfl
      try simp only [Act.put, List.getElem_toArray, List.getElem_cons_zero, List.getElem_cons_succ, List.setIfInBounds_toArray, List.set_cons_zero, List.set_cons_succ]
      refine wpAnyH_take (i := 8) (v := .bool false) rfl (by kernel_rfl) (by kernel_rfl) (by kernel_rfl) (fun _ _ _ h => h) (Or.inl ⟨by rfl, ?_⟩) (by assumption) ?_
      case refine_1 => intro W hSw; rw [hSw]; go_simp; try rfl
      try simp only [Act.put, List.getElem_toArray, List.getElem_cons_zero, List.getElem_cons_succ, List.setIfInBounds_toArray, List.set_cons_zero, List.set_cons_succ]
      refine wpAnyH_done (by kernel_rfl) ?_ _
      clear hHeld d1 d2
      go_wp2_with fail
      refine ⟨⟨⟨k + 1, by omega, by simp⟩, HB8.out⟩, ?_⟩
      simp [intOf]
      omega
    have hkk : ¬ (k : Int) < (n : Int) := by omega
    go_wp2_with fail
    go_ret
    exact ⟨rfl, HB7.out⟩
end Go.Proofs.Ytkahjibdmhaglaa.Ch
