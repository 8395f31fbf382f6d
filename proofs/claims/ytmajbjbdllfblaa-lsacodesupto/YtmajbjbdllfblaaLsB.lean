/- Comparing: cmp.Compare, cmp.Or, compareEnds, compareLinks, compareStubs: what each answers. -/
import Derived.Test.YtmajbjbdllfblaaRows
import Derived.Test.YtmajbjbdllfblaaAsk3
import Derived.Test.YtmajbjbdllfblaaLsA
import Derived.WalkKit
import Derived.ProofKit
import Derived.Below
import Derived.RangeFuncOwn
import Derived.StillTailTactics
import Derived.Deep.RegionHeld3
import Derived.Lib.QuietBelow
import Derived.BigQuiet
namespace Go.Proofs.Ytmajbjbdllfblaa.Ls
open Go.ChangeShapes Go.WideShapes Go.ChangeAt Go.RowKit Go.Proofs.Ytmajbjbdllfblaa.PM Go.Proofs.Ytmajbjbdllfblaa.Ask
set_option linter.unusedVariables false

theorem grown_bel {w w' : World} (h : Below w.heap.size w w') (row : Option Nat) : w.grownBy w' row := ⟨h.os, h.tape, h.output, h.size, fun k hk _ => h.block k hk⟩
theorem cell_bel {w w' : World} {a : Addr} {v : Value} (h : w.cell? a = some v) (hb : Below w.heap.size w w') : w'.cell? a = some v := cell_kept h (grown_bel hb none) (fun r e => by cases e)
theorem drew_bel (w : World) : Below w.heap.size w w.drew := ⟨rfl, rfl, rfl, Nat.le_refl _, fun _ _ => rfl⟩

/-- numbers at a slice of the call's own -/
structure Nums (b : Nat) (l : List Int) (w : World) : Prop where
  cells : ∀ i (h : i < l.length), w.cell? ⟨b, i, none⟩ = some (.int .i64 l[i])
theorem Nums.drew {b : Nat} {l : List Int} {w : World} (h : Nums b l w) : Nums b l w.drew := ⟨fun i hi => cell_bel (h.cells i hi) (drew_bel w)⟩
theorem nums2 (w : World) (a b : Int) (T : TypeId) : Nums w.heap.size [a, b] (w.alloc (.cells #[.int .i64 a, .int .i64 b] T)) := ⟨fun i hi => by
  match i, hi with
  | 0, _ => simp
  | 1, _ => simp⟩
theorem nums3 (w : World) (a b c : Int) (T : TypeId) : Nums w.heap.size [a, b, c] (w.alloc (.cells #[.int .i64 a, .int .i64 b, .int .i64 c] T)) := ⟨fun i hi => by
  match i, hi with
  | 0, _ => simp
  | 1, _ => simp
  | 2, _ => simp⟩
theorem nums4 (w : World) (a b c d : Int) (T : TypeId) : Nums w.heap.size [a, b, c, d] (w.alloc (.cells #[.int .i64 a, .int .i64 b, .int .i64 c, .int .i64 d] T)) := ⟨fun i hi => by
  match i, hi with
  | 0, _ => simp
  | 1, _ => simp
  | 2, _ => simp
  | 3, _ => simp⟩
theorem nums6 (w : World) (a b c d e f : Int) (T : TypeId) : Nums w.heap.size [a, b, c, d, e, f] (w.alloc (.cells #[.int .i64 a, .int .i64 b, .int .i64 c, .int .i64 d, .int .i64 e, .int .i64 f] T)) := ⟨fun i hi => by
  match i, hi with
  | 0, _ => simp
  | 1, _ => simp
  | 2, _ => simp
  | 3, _ => simp
  | 4, _ => simp
  | 5, _ => simp⟩
/-- an age at its end -/
def endI (x : Int) : Int := if 120 ≤ x then 1 else 0
/-- two boxes of three numbers -/
structure Box33 (s : Nat) (k : IntKind) (x y : Int × Int × Int) (W : World) : Prop where
  x0 : W.cell? ⟨s, 0, none⟩ = some (.int k x.1)
  x1 : W.cell? ⟨s, 1, none⟩ = some (.int .i64 x.2.1)
  x2 : W.cell? ⟨s, 2, none⟩ = some (.int .i64 x.2.2)
  y0 : W.cell? ⟨s + 1, 0, none⟩ = some (.int k y.1)
  y1 : W.cell? ⟨s + 1, 1, none⟩ = some (.int .i64 y.2.1)
  y2 : W.cell? ⟨s + 1, 2, none⟩ = some (.int .i64 y.2.2)
theorem Box33.bel {s : Nat} {k : IntKind} {x y : Int × Int × Int} {W W' : World} (h : Box33 s k x y W) (hb : Below W.heap.size W W') : Box33 s k x y W' :=
  ⟨cell_bel h.x0 hb, cell_bel h.x1 hb, cell_bel h.x2 hb, cell_bel h.y0 hb, cell_bel h.y1 hb, cell_bel h.y2 hb⟩
theorem ha2 {w : World} (o1 o2 : Obj) (W : World) (hW : W = (w.alloc o1).alloc o2) : W.heap[w.heap.size]? = some o1 ∧ W.heap[w.heap.size + 1]? = some o2 ∧ W.heap.size = w.heap.size + 2 ∧ Below w.heap.size w W := by
  subst hW
  have e1 := World.alloc_heap_new w o1
  have e2 := World.alloc_heap_new (w.alloc o1) o2
  rw [World.size_alloc] at e2
  exact ⟨(Below.heap_alloc (w.alloc o1) o2 _ (Array.getElem?_eq_some_iff.1 e1).1).trans e1, e2, by simp, ((Below.refl _ w).alloc (Nat.le_refl _) _).alloc (by simp) _⟩

end Go.Proofs.Ytmajbjbdllfblaa.Ls
