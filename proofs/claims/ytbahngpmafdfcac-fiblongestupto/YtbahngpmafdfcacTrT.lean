/- Lists of prefixes and of items in memory; trieAmong: what it answers. -/
import Derived.Test.YtbahngpmafdfcacTrS
namespace Go.Proofs.Ytbahngpmafdfcac.Tri
open Go.ChangeShapes Go.WideShapes Go.ChangeAt Go.RowKit Go.Shelf Go.Proofs.Ytbahngpmafdfcac.PM Go.Proofs.Ytbahngpmafdfcac.TrM Go.Proofs.Ytbahngpmafdfcac.Ask
set_option linter.unusedVariables false

/-- a list of prefixes lies at a slice -/
structure Arr2 (w : World) (a : Option Addr) (ds : List (Int × Int)) : Prop where
  small : ds.length ≤ 9223372036854775807
  cells : ∀ i (h : i < ds.length), ∃ b o, a = some ⟨b, o, none⟩ ∧ b < w.heap.size ∧ w.cell? ⟨b, o + i * 2, none⟩ = some (.int .u32 ds[i].1) ∧ w.cell? ⟨b, o + i * 2 + 1, none⟩ = some (.int .i64 ds[i].2)
  u32 : ∀ d ∈ ds, In32 d.1
theorem Arr2.bel {w w' : World} {a : Option Addr} {ds : List (Int × Int)} (h : Arr2 w a ds) (hb : Below w.heap.size w w') : Arr2 w' a ds :=
  ⟨h.small, fun i hi => by
    obtain ⟨b, o, e, hlt, h0, h1⟩ := h.cells i hi
    exact ⟨b, o, e, Nat.lt_of_lt_of_le hlt hb.size, cell_bel h0 hb, cell_bel h1 hb⟩, h.u32⟩

theorem among_in {a n : Int} {ds : List (Int × Int)} {k : Nat} (h : k < ds.length) (e : ds[k].1 = a) (e2 : ds[k].2 = n) : decide ((a, n) ∈ ds) = true := by
  have : (a, n) = ds[k] := by rw [← e, ← e2]
  simp [this]
theorem among_next {a n : Int} {ds : List (Int × Int)} {k : Nat} (h : k < ds.length) (hn : (a, n) ∉ ds.take k) (ne : ¬ (ds[k].1 = a ∧ ds[k].2 = n)) : (a, n) ∉ ds.take (k + 1) := by
  rw [List.take_succ_eq_append_getElem h]
  intro hm
  rcases List.mem_append.1 hm with h1 | h1
  · exact hn h1
  · simp at h1; exact ne ⟨by rw [← h1], by rw [← h1]⟩

end Go.Proofs.Ytbahngpmafdfcac.Tri
