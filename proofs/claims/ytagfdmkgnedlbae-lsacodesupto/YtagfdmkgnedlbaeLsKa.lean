/- Lists of threes and their cells. -/
import Derived.Test.YtagfdmkgnedlbaeLsG
import Derived.OwnWalk
import Derived.Laws.AppendOwnNone
import Derived.Maps.AppendAt
import Derived.Deep.RegionHeld3
import Derived.Deep.CutRange
import Derived.Lib.SmallJoins
namespace Go.Proofs.Ytagfdmkgnedlbae.Ls
open Go.ChangeShapes Go.WideShapes Go.ChangeAt Go.RowKit Go.Joins Go.Proofs.Ytagfdmkgnedlbae.PM Go.Proofs.Ytagfdmkgnedlbae.Ask
set_option linter.unusedVariables false

/-- the cells of a list of threes -/
def tcs (k : IntKind) (xs : List (Int × Int × Int)) : List Value := xs.flatMap fun x => [.int k x.1, .int .i64 x.2.1, .int .i64 x.2.2]
theorem tcs_len (k : IntKind) (xs : List (Int × Int × Int)) : (tcs k xs).length = xs.length * 3 := by
  induction xs with
  | nil => rfl
  | cons x xs ih => unfold tcs at ih ⊢; rw [List.flatMap_cons, List.length_append, ih]; simp; omega
theorem tcs_at (k : IntKind) : ∀ (xs : List (Int × Int × Int)) (i : Nat) (h : i < xs.length), (tcs k xs)[i * 3]? = some (.int k xs[i].1) ∧ (tcs k xs)[i * 3 + 1]? = some (.int .i64 xs[i].2.1) ∧ (tcs k xs)[i * 3 + 2]? = some (.int .i64 xs[i].2.2)
  | x :: xs, 0, _ => by simp [tcs]
  | x :: xs, i + 1, h => by
    have ih := tcs_at k xs i (by simpa using h)
    have e : ∀ j, (tcs k (x :: xs))[i * 3 + 3 + j]? = (tcs k xs)[i * 3 + j]? := fun j => by
      have : tcs k (x :: xs) = [.int k x.1, .int .i64 x.2.1, .int .i64 x.2.2] ++ tcs k xs := rfl
      rw [this, List.getElem?_append_right (by simp; omega)]
      congr 1
      simp; omega
    refine ⟨?_, ?_, ?_⟩
    · rw [show (i + 1) * 3 = i * 3 + 3 + 0 by omega, e 0]; simpa using ih.1
    · rw [show (i + 1) * 3 + 1 = i * 3 + 3 + 1 by omega, e 1]; simpa using ih.2.1
    · rw [show (i + 1) * 3 + 2 = i * 3 + 3 + 2 by omega, e 2]; simpa using ih.2.2
/-- a list of threes that came in: its cells, one by one -/
theorem L3.src {k : IntKind} {w : World} {a : Option Addr} {xs : List (Int × Int × Int)} (h : L3 k w a xs) {ad : Addr} (ha : a = some ad) : ∀ j u, (tcs k xs)[j]? = some u → w.cell? (ad.add j) = some u := by
  intro j u hj
  have hlt : j < xs.length * 3 := by
    have := (List.getElem?_eq_some_iff.1 hj).1
    rw [tcs_len] at this; exact this
  obtain ⟨i, hi0⟩ : ∃ i, j / 3 = i := ⟨_, rfl⟩
  have hi : i < xs.length := by omega
  obtain ⟨b, o, e, -, h0, h1, h2⟩ := h.cells i hi
  obtain ⟨t0, t1, t2⟩ := tcs_at k xs i hi
  rw [ha] at e; cases e
  rw [Addr.add_lit]
  rcases (show j = i * 3 ∨ j = i * 3 + 1 ∨ j = i * 3 + 2 by omega) with hm | hm | hm
  · rw [hm] at hj ⊢; rw [t0] at hj; cases hj; exact h0
  · rw [hm] at hj ⊢; rw [t1] at hj; cases hj; exact h1
  · rw [hm] at hj ⊢; rw [t2] at hj; cases hj; exact h2
theorem tcs_one (k : IntKind) (xs : List (Int × Int × Int)) : ∀ u ∈ tcs k xs, u.oneCell' = true := by
  intro u hu
  simp only [tcs, List.mem_flatMap] at hu
  obtain ⟨x, -, hx⟩ := hu
  simp at hx
  rcases hx with rfl | rfl | rfl <;> rfl
/-- an owned row of threes is a list of threes -/
theorem L3.own {k : IntKind} {w : World} {N n cap : Nat} {e : TypeId} {va : Option Addr} {xs : List (Int × Int × Int)} (h : w.ownsRow N e 3 (.slice va n cap) n (tcs k xs)) (hn : xs.length = n) : L3 k w va xs := by
  subst hn
  rcases h.2 with ⟨h1, h0⟩ | ⟨g, c, cur, hv, hg, hb, hnc, hcm, -⟩
  · refine ⟨by omega, fun i hi => absurd hi (by omega)⟩
  · cases hv
    refine ⟨by unfold maxLen at hcm; omega, fun i hi => ⟨g, 0, rfl, (Array.getElem?_eq_some_iff.1 hb).1, ?_⟩⟩
    have t := tcs_at k xs i hi
    have c := fun j hj => h.cellAt j hj
    refine ⟨?_, ?_, ?_⟩
    · rw [Nat.zero_add, c _ (by omega)]; exact t.1
    · rw [Nat.zero_add, c _ (by omega)]; exact t.2.1
    · rw [Nat.zero_add, c _ (by omega)]; exact t.2.2
theorem infoLk : (Try.prog.info? 54).map (fun i => (i.zero, i.size, i.bytes)) = some (some (.agg #[.int .i64 0, .int .i64 0, .int .i64 0]), 3, 24) := by kernel_rfl
theorem infoSt : (Try.prog.info? 56).map (fun i => (i.zero, i.size, i.bytes)) = some (some (.agg #[.int .u32 0, .int .i64 0, .int .i64 0]), 3, 24) := by kernel_rfl
end Go.Proofs.Ytagfdmkgnedlbae.Ls
