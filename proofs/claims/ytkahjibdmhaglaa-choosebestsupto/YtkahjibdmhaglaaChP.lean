/- The order of offers: Order. -/
import Derived.Test.YtkahjibdmhaglaaChO
import Derived.Test.YtkahjibdmhaglaaSsH
import Derived.Shelf.SlSortCmp.NoneTotal
import Derived.Sort.OwnSortedInts
namespace Go.Proofs.Ytkahjibdmhaglaa.Ch
open Go.ChangeShapes Go.WideShapes Go.ChangeAt Go.RowKit Go.Joins Go.Deep Go.Lib Go.Proofs.Ytkahjibdmhaglaa.Ge Go.Proofs.Ytkahjibdmhaglaa.Ss
open Go.Sort hiding Below
set_option linter.unusedVariables false
set_option linter.unusedSimpArgs false

set_option maxHeartbeats 4000000 in
theorem stable_none (p : Option Addr) (cap : Nat) (fv : Value) (w : World) : Calls Try.prog 31 #[.slice p 0 cap, fv] w fun e w' => e = .returned (.tuple #[]) ∧ w' = w := by
  have HI := fun w => AnyF.insertionSortCmpFunc_none (P := Try.prog) (ρ := Try.sortI_ren) { Try.sortI with } p cap fv w
  have HS : Calls Try.prog 53 #[.slice p 0 cap, .int .i64 0, fv] w fun e w' => e = .returned (.tuple #[]) ∧ w' = w := by
    have HI2 : ∀ w, Calls Try.prog 58 #[.slice p 0 cap, .int .i64 0, .int .i64 0, fv] w fun e w' => e = .returned (.tuple #[]) ∧ w' = w := HI
    clear HI
    go_enter Try.func53, Try.ntmps53
    go_wp2_with fail
    refine wp_loop_rounds 1 ?_
    rw [rounds_succ]
    go_wp2_with fail
    refine (HI2 w).mono ?_
    rintro e w' ⟨rfl, hw⟩
    rw [hw]
    clear hw w' HI2
    go_wp2_with fail
    refine wp_loop_rounds 1 ?_
    rw [rounds_succ]
    go_wp2_with fail
    go_end0
    exact ⟨rfl, rfl⟩
  clear HI
  go_enter Try.func31, Try.ntmps31
  go_wp2_with fail
  refine HS.mono ?_
  rintro e w' ⟨rfl, hw⟩
  rw [hw]
  clear hw w' HS
  go_wp2_with fail
  go_end0
  exact ⟨rfl, rfl⟩
theorem sort_none (p : Option Addr) (cap : Nat) (fv : Value) (w : World) : Calls Try.prog 23 #[.slice p 0 cap, fv] w fun e w' => e = .returned (.tuple #[]) ∧ w' = w := AnyF.slices_SortFunc_none (P := Try.prog) (ρ := Try.sortI_ren) { Try.sortI with } p cap fv w
/-- places, as what is sorted: any number stands for one that is a place -/
def encN (n : Nat) (x : Nat) : Value := .int .i64 ((x % n : Nat) : Int)
theorem encN_one (n : Nat) : OneCell (encN n) := fun x => rfl
theorem encN_lt {n x : Nat} (h : x < n) : encN n x = .int .i64 (x : Int) := by unfold encN; rw [Nat.mod_eq_of_lt h]
/-- a row of places that can be written -/
structure RowN (g : Nat) (ps : List Nat) (w : World) : Prop where
  lt : g < w.heap.size
  at_ : ∀ i (hi : i < ps.length), w.cell? ⟨g, i, none⟩ = some (.int .i64 (ps[i] : Int)) ∧ w.frozen? ⟨g, i, none⟩ = false
theorem RowN.bel {g : Nat} {ps : List Nat} {w w' : World} (h : RowN g ps w) (hb : Below w.heap.size w w') : RowN g ps w' := ⟨Nat.lt_of_lt_of_le h.lt hb.size, fun i hi => by
  have e := hb.block g h.lt
  have h5 := h.at_ i hi
  unfold World.cell? World.frozen? at h5 ⊢
  rw [e]
  exact h5⟩
theorem RowN.holds {g n : Nat} {ps : List Nat} {w : World} (h : RowN g ps w) (hin : InN ps n) : Holds (encN n) w g 0 ps.toArray := by
  intro j hj
  have hj2 : j < ps.length := by simpa using hj
  have e1 : ps.toArray[j]! = ps[j] := by simp [hj2]
  rw [e1, encN_lt (hin _ (List.getElem_mem _)), Nat.zero_add]
  exact h.at_ j hj2
theorem RowN.of_own {N g m c : Nat} {ps : List Nat} {w : World} (h : OwnL EN N w (.slice (some ⟨g, 0, none⟩) m c) ps) : RowN g ps w := ⟨h.at0.2.2.1, fun i hi => ⟨lst_if h i hi, h.at0.2.1 i⟩⟩
theorem RowN.lst {g : Nat} {ps : List Nat} {w : World} (h : RowN g ps w) (hs : ps.length ≤ 1000000000) : Lst EN w (some ⟨g, 0, none⟩) ps := ⟨by omega, fun i hi => ⟨g, 0, rfl, h.lt, fun j hj => by
  have hj1 : j < 1 := hj
  obtain rfl : j = 0 := by omega
  have e1 : EN.k = 1 := rfl
  rw [e1, Nat.mul_one, Nat.zero_add, Nat.add_zero]
  exact (h.at_ i hi).1⟩⟩
/-- behind a sort -/
theorem RowN.sorted {g n k : Nat} {ps : List Nat} {w : World} {d : Array Nat} {os : Array Obj} (h : RowN g ps w) (hd : d.size = ps.length) (hin : ∀ x ∈ d.toList, x < n) (hps : InN ps n) : RowN g d.toList (sortWorld (encN n) w g 0 k d os) := by
  have h2 := holds_sortWorld (encN n) w g 0 k ps.toArray d os h.lt (h.holds hps) (by simpa using hd)
  refine ⟨?_, fun i hi => ?_⟩
  · unfold sortWorld
    rw [size_grow, size_putRow]
    exact Nat.lt_of_lt_of_le h.lt (Nat.le_add_right _ _)
  · have hi2 : i < d.size := by simpa using hi
    have h3 := h2 i hi2
    have e1 : d[i]! = d.toList[i] := by simp [hi2]
    rw [e1, encN_lt (hin _ (List.getElem_mem _)), Nat.zero_add] at h3
    exact h3
theorem sortW_grown {n k : Nat} {w : World} {g : Nat} {d : Array Nat} {os : Array Obj} : w.grownBy (sortWorld (encN n) w g 0 k d os) (some g) := by
  unfold sortWorld
  refine ⟨rfl, rfl, rfl, by rw [size_grow, size_putRow]; exact Nat.le_add_right _ _, fun i hi hne => ?_⟩
  have : g ≠ i := fun e => hne (by rw [e])
  rw [heap_grow_old _ _ (by rw [size_putRow]; exact hi)]
  simp [putRow, mapBlock, Sort.ahead, Array.getElem?_modify, this]
end Go.Proofs.Ytkahjibdmhaglaa.Ch
