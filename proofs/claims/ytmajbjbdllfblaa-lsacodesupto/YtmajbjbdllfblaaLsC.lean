/- Comparing lists: compareStubs and CompareFunc of links and of stubs: what each answers. -/
import Derived.Test.YtmajbjbdllfblaaLsB
namespace Go.Proofs.Ytmajbjbdllfblaa.Ls
open Go.ChangeShapes Go.WideShapes Go.ChangeAt Go.RowKit Go.Proofs.Ytmajbjbdllfblaa.PM Go.Proofs.Ytmajbjbdllfblaa.Ask
set_option linter.unusedVariables false

def In32 (x : Int) : Prop := 0 ≤ x ∧ x < 4294967296
/-- a list of threes lies at a slice -/
structure L3 (k : IntKind) (w : World) (a : Option Addr) (xs : List (Int × Int × Int)) : Prop where
  small : xs.length ≤ 9223372036854775807
  cells : ∀ i (h : i < xs.length), ∃ b o, a = some ⟨b, o, none⟩ ∧ b < w.heap.size ∧ w.cell? ⟨b, o + i * 3, none⟩ = some (.int k xs[i].1) ∧ w.cell? ⟨b, o + i * 3 + 1, none⟩ = some (.int .i64 xs[i].2.1) ∧ w.cell? ⟨b, o + i * 3 + 2, none⟩ = some (.int .i64 xs[i].2.2)
theorem L3.bel {k : IntKind} {w w' : World} {a : Option Addr} {xs : List (Int × Int × Int)} (h : L3 k w a xs) (hb : Below w.heap.size w w') : L3 k w' a xs :=
  ⟨h.small, fun i hi => by
    obtain ⟨b, o, e, hlt, h0, h1, h2⟩ := h.cells i hi
    exact ⟨b, o, e, Nat.lt_of_lt_of_le hlt hb.size, cell_bel h0 hb, cell_bel h1 hb, cell_bel h2 hb⟩⟩
theorem lex_end1 {α : Type} (c : α → α → Int) {x : α} {xs : List α} : lex c (x :: xs) [] = 1 := by rw [lex]

end Go.Proofs.Ytmajbjbdllfblaa.Ls
