/- The damper: what is left of a penalty. -/
import Derived.Test.YtjfiahendnlcjaaDaA
import Derived.Deep.RegionHeld3
namespace Go.Proofs.Ytjfiahendnlcjaa.Da
open Go.ChangeShapes Go.WideShapes Go.ChangeAt Go.RowKit Go.Joins Go.Deep Go.Proofs.Ytjfiahendnlcjaa.Ge
set_option linter.unusedVariables false
set_option linter.unusedSimpArgs false

/-- what is left of a penalty -/
def atP (half v t : Nat) : Nat := v / 2 ^ (t / half) - (v / 2 ^ (t / half) - v / 2 ^ (t / half) / 2) * (t % half) / half
def PnK : Sk := ⟨60, 3, _, Try.underlying60, rfl, by kernel_rfl⟩
def pnL (x : Pn) : List Value := [.int .i64 (x.v : Int), .int .i64 (x.s : Int), .bool x.h]
theorem drew_bel (w : World) : Below w.heap.size w w.drew := ⟨rfl, rfl, rfl, Nat.le_refl _, fun _ _ => rfl⟩
set_option maxRecDepth 100000 in
set_option maxHeartbeats 4000000 in
theorem at_any (x : Pn) (now half : Nat) (w : World) (hv : x.v ≤ 1000000) (hh : 1 ≤ half ∧ half ≤ 10000) (hn : now < 9223372036854775808) (hs : x.s ≤ now) :
    Calls Try.prog 32 #[pnV x, .int .i64 (now : Int), .int .i64 (half : Int)] w fun e w' => e = .returned (.int .i64 (atP half x.v (now - x.s) : Nat)) ∧ Below w.heap.size w w' := by
  obtain ⟨v, s, h⟩ := x
  dsimp only at hv hs ⊢
  obtain ⟨t, ht⟩ : ∃ y, now - s = y := ⟨_, rfl⟩
  have e1 : IntKind.i64.wrap ((now : Int) - (s : Int)) = (t : Int) := by rw [IntWalk.i64_in _ (by omega)]; omega
  have HT : Hid (now - s = t) := ht
  rw [ht]
  have ht2 : t < 9223372036854775808 := by omega
  clear ht hs
  go_enter Try.func32, Try.ntmps32
  go_wp2_with (refine list_sbox PnK rfl _ rfl (cs := pnL ⟨v, s, h⟩) rfl ?_)
  intro w1 hx1 hb1 hz
  have HB1 : Hid (Below w.heap.size w w1) := hb1.out
  obtain ⟨b3, hb3⟩ : ∃ y, w.heap.size = y := ⟨_, rfl⟩
  have hx2 : SB PnK b3 (pnL ⟨v, s, h⟩) w1 := by rw [← hb3]; exact hx1.out
  rw [hb3]
  have c0 : w1.cell? ⟨b3, 0, none⟩ = some (.int .i64 (v : Int)) := hx2.cell 0
  have c1 : w1.cell? ⟨b3, 1, none⟩ = some (.int .i64 (s : Int)) := hx2.cell 1
  clear hx1 hb1 hz hb3 hx2
  -- at
  obtain ⟨q, hq⟩ : ∃ y, t / half = y := ⟨_, rfl⟩
  obtain ⟨L, hL⟩ : ∃ y, v / 2 ^ q = y := ⟨_, rfl⟩
  obtain ⟨r, hr⟩ : ∃ y, t % half = y := ⟨_, rfl⟩
  obtain ⟨L2, hL2⟩ : ∃ y, L / 2 = y := ⟨_, rfl⟩
  have hLv : L ≤ 1000000 := by rw [← hL]; exact Nat.le_trans (Nat.div_le_self _ _) hv
  have hr2 : r < half := by rw [← hr]; exact Nat.mod_lt _ (by omega)
  obtain ⟨M, hM⟩ : ∃ y, L - L2 = y := ⟨_, rfl⟩
  obtain ⟨X, hX⟩ : ∃ y, M * r / half = y := ⟨_, rfl⟩
  have hML : M ≤ L := by omega
  have hmr : M * r ≤ 1000000 * 10000 := Nat.mul_le_mul (by omega) (by omega)
  have hXM : X ≤ M := by
    rw [← hX]
    refine Nat.div_le_of_le_mul ?_
    rw [Nat.mul_comm half M]
    exact Nat.mul_le_mul_left _ (by omega)
  have HR : Hid (atP half v t = L - X) := by show _ = _; unfold atP; rw [hq, hL, hr, hL2, hM, hX]
  have d1 : (t : Int).tdiv (half : Int) = (q : Int) := by rw [← hq]; exact (Int.ofNat_tdiv t half).symm
  have d2 : ((v : Int) / (2 ^ min q 64)) = (L : Int) := by
    by_cases h64 : q ≤ 64
    · rw [Nat.min_eq_left h64, ← hL]
      push_cast
      rfl
    · rw [Nat.min_eq_right (by omega), ← hL]
      have z1 : v / 2 ^ q = 0 := Nat.div_eq_of_lt (Nat.lt_of_lt_of_le (show v < 2 ^ 64 by omega) (Nat.pow_le_pow_right (by decide) (by omega)))
      rw [z1, show ((2 : Int) ^ 64) = 18446744073709551616 from by decide]
      omega
  have e5 : (t : Int).tmod (half : Int) = (r : Int) := by rw [← hr]; exact (Int.ofNat_tmod t half).symm
  have HF : Hid (wrap64 ((L : Int) - wrap64 ((wrap64 (((L : Int) - (L : Int) / 2) * (r : Int))).tdiv (half : Int))) = ((L - X : Nat) : Int)) := by
    have f1 : (L : Int) - (L : Int) / 2 = (M : Int) := by omega
    have f2 : (M : Int) * (r : Int) = ((M * r : Nat) : Int) := by push_cast; rfl
    have f3 : wrap64 ((M * r : Nat) : Int) = ((M * r : Nat) : Int) := IntWalk.wrap64_in _ (by omega)
    have f4 : (((M * r : Nat) : Int)).tdiv (half : Int) = (X : Int) := by rw [← hX]; exact (Int.ofNat_tdiv _ half).symm
    show _ = _
    rw [f1, f2, f3, f4, IntWalk.wrap64_in (X : Int) (by omega), IntWalk.wrap64_in _ (by omega)]
    omega
  have w1q : IntKind.i64.wrap (q : Int) = (q : Int) := IntWalk.i64_in _ (by rw [← hq]; have := Nat.div_le_self t half; omega)
  have w1r : IntKind.i64.wrap (r : Int) = (r : Int) := IntWalk.i64_in _ (by omega)
  have hh0 : ¬ (half : Int) = 0 := by omega
  have hq0 : ¬ (q : Int) < 0 := by omega
  clear hq hL hr hL2 hM hX
  go_wp2_with fail
  refine wp_region_held_drew (S := fun W => W.cell? ⟨b3, 0, none⟩ = some (.int .i64 (v : Int))) (by kernel_rfl) c0 (fun hHeld => ?_)
  refine wpAnyH_take (i := 0) (v := .pointer (some ⟨b3, 0, none⟩)) rfl (by kernel_rfl) (by kernel_rfl) (by kernel_rfl) (fun _ _ _ h => h) (Or.inl ⟨by rfl, ?_⟩) (by assumption) ?_
  case refine_1 => intro W hSw; go_simp; try rfl
  try simp only [Act.put, List.getElem_toArray, List.getElem_cons_zero, List.getElem_cons_succ, List.setIfInBounds_toArray, List.set_cons_zero, List.set_cons_succ]
  refine wpAnyH_take (i := 1) (v := .int .i64 (v : Int)) rfl (by kernel_rfl) (by kernel_rfl) (by kernel_rfl) (fun _ _ _ h => h) (Or.inl ⟨by rfl, ?_⟩) (by assumption) ?_
  case refine_1 => intro W hSw; have k1 := hSw; go_simp; try rfl
  try simp only [Act.put, List.getElem_toArray, List.getElem_cons_zero, List.getElem_cons_succ, List.setIfInBounds_toArray, List.set_cons_zero, List.set_cons_succ]
  refine wpAnyH_take (i := 2) (v := .int .i64 (t : Int)) rfl (by kernel_rfl) (by kernel_rfl) (by kernel_rfl) (fun _ _ _ h => h) (Or.inl ⟨by rfl, ?_⟩) (by assumption) ?_
  case refine_1 => intro W hSw; go_simp; try rfl
  try simp only [Act.put, List.getElem_toArray, List.getElem_cons_zero, List.getElem_cons_succ, List.setIfInBounds_toArray, List.set_cons_zero, List.set_cons_succ]
  refine wpAnyH_take (i := 3) (v := .int .i64 (half : Int)) rfl (by kernel_rfl) (by kernel_rfl) (by kernel_rfl) (fun _ _ _ h => h) (Or.inl ⟨by rfl, ?_⟩) (by assumption) ?_
  case refine_1 => intro W hSw; go_simp; try rfl
  try simp only [Act.put, List.getElem_toArray, List.getElem_cons_zero, List.getElem_cons_succ, List.setIfInBounds_toArray, List.set_cons_zero, List.set_cons_succ]
  refine wpAnyH_take (i := 4) (v := .int .i64 (q : Int)) rfl (by kernel_rfl) (by kernel_rfl) (by kernel_rfl) (fun _ _ _ h => h) (Or.inl ⟨by rfl, ?_⟩) (by assumption) ?_
  case refine_1 => intro W hSw; go_simp; omega
  try simp only [Act.put, List.getElem_toArray, List.getElem_cons_zero, List.getElem_cons_succ, List.setIfInBounds_toArray, List.set_cons_zero, List.set_cons_succ]
  refine wpAnyH_take (i := 5) (v := .int .i64 (L : Int)) rfl (by kernel_rfl) (by kernel_rfl) (by kernel_rfl) (fun _ _ _ h => h) (Or.inl ⟨by rfl, ?_⟩) (by assumption) ?_
  case refine_1 => intro W hSw; go_simp; try rfl
  try simp only [Act.put, List.getElem_toArray, List.getElem_cons_zero, List.getElem_cons_succ, List.setIfInBounds_toArray, List.set_cons_zero, List.set_cons_succ]
  refine wpAnyH_take (i := 6) (v := .int .i64 (L : Int)) rfl (by kernel_rfl) (by kernel_rfl) (by kernel_rfl) (fun _ _ _ h => h) (Or.inl ⟨by rfl, ?_⟩) (by assumption) ?_
  case refine_1 => intro W hSw; go_simp; try rfl
  try simp only [Act.put, List.getElem_toArray, List.getElem_cons_zero, List.getElem_cons_succ, List.setIfInBounds_toArray, List.set_cons_zero, List.set_cons_succ]
  refine wpAnyH_done (by kernel_rfl) ?_ _
  clear hHeld
  have HE : Hid (Below w.heap.size w w1.drew) := HB1.out.trans ((drew_bel w1).mono HB1.out.size)
  go_wp2_with fail
  go_ret
  rw [HR.out, ← HF.out]
  exact ⟨rfl, HE.out⟩
end Go.Proofs.Ytjfiahendnlcjaa.Da
