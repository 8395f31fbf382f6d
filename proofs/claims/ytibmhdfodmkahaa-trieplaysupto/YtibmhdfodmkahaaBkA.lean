/- Lists of items that a call makes. -/
import Derived.Test.YtibmhdfodmkahaaRows
import Derived.Test.YtibmhdfodmkahaaPMath
import Derived.Test.YtibmhdfodmkahaaAsk3
import Derived.Test.YtibmhdfodmkahaaTrW
import Derived.WalkKit
import Derived.ProofKit
import Derived.Below
import Derived.RangeFuncOwn
import Derived.Lib.SmallJoins
namespace Go.Proofs.Ytibmhdfodmkahaa.Bk
open Go.ChangeShapes Go.WideShapes Go.ChangeAt Go.RowKit Go.Proofs.Ytibmhdfodmkahaa.PM Go.Proofs.Ytibmhdfodmkahaa.TrM Go.Proofs.Ytibmhdfodmkahaa.Ask
set_option linter.unusedVariables false

theorem grown_bel {w w' : World} (h : Below w.heap.size w w') (row : Option Nat) : w.grownBy w' row := ⟨h.os, h.tape, h.output, h.size, fun k hk _ => h.block k hk⟩
theorem cell_bel {w w' : World} {a : Addr} {v : Value} (h : w.cell? a = some v) (hb : Below w.heap.size w w') : w'.cell? a = some v := cell_kept h (grown_bel hb none) (fun r e => by cases e)
theorem hkA {V : World} (o : Obj) {k : Nat} {x : Obj} (h : V.heap[k]? = some x) : (V.alloc o).heap[k]? = some x := (Below.heap_alloc V o k (Array.getElem?_eq_some_iff.1 h).1).trans h
theorem drop_at {ps : List (Int × Int × Int)} {k : Nat} (h : k < ps.length) : ps.drop k = ps[k] :: ps.drop (k + 1) := List.drop_eq_getElem_cons h
/-- a list of items lies at a slice -/
structure Arr3 (w : World) (a : Option Addr) (ps : List (Int × Int × Int)) : Prop where
  small : ps.length ≤ 9223372036854775807
  cells : ∀ i (h : i < ps.length), ∃ b o, a = some ⟨b, o, none⟩ ∧ b < w.heap.size ∧ w.cell? ⟨b, o + i * 3, none⟩ = some (.int .u32 ps[i].1) ∧ w.cell? ⟨b, o + i * 3 + 1, none⟩ = some (.int .i64 ps[i].2.1) ∧ w.cell? ⟨b, o + i * 3 + 2, none⟩ = some (.int .i64 ps[i].2.2)
  u32 : ∀ d ∈ ps, In32 d.1
theorem Arr3.bel {w w' : World} {a : Option Addr} {ps : List (Int × Int × Int)} (h : Arr3 w a ps) (hb : Below w.heap.size w w') : Arr3 w' a ps :=
  ⟨h.small, fun i hi => by
    obtain ⟨b, o, e, hlt, h0, h1, h2⟩ := h.cells i hi
    exact ⟨b, o, e, Nat.lt_of_lt_of_le hlt hb.size, cell_bel h0 hb, cell_bel h1 hb, cell_bel h2 hb⟩, h.u32⟩

theorem three (w : World) (a n v : Int) (T : Nat) : Below w.heap.size w (w.alloc (Obj.cells #[.int .u32 a, .int .i64 n, .int .i64 v] T)) ∧ (w.alloc (Obj.cells #[.int .u32 a, .int .i64 n, .int .i64 v] T)).heap.size = w.heap.size + 1 :=
  ⟨(Below.refl _ _).alloc (Nat.le_refl _) _, by simp⟩

def Box3 (w : World) (b : Nat) (a n v : Int) : Prop := w.cell? ⟨b, 0, none⟩ = some (.int .u32 a) ∧ w.cell? ⟨b, 1, none⟩ = some (.int .i64 n) ∧ w.cell? ⟨b, 2, none⟩ = some (.int .i64 v)
theorem Box3.bel {w w1 : World} {b : Nat} {a n v : Int} (h : Box3 w b a n v) (hb : Below w.heap.size w w1) : Box3 w1 b a n v := ⟨cell_bel h.1 hb, cell_bel h.2.1 hb, cell_bel h.2.2 hb⟩
theorem Box3.new (w : World) (a n v : Int) (T : Nat) : Box3 (w.alloc (Obj.cells #[.int .u32 a, .int .i64 n, .int .i64 v] T)) w.heap.size a n v := ⟨by simp, by simp, by simp⟩

theorem infoR : (Try.prog.info? 53).map (fun i => (i.zero, i.size, i.bytes)) = some (some (.agg #[.int .u32 0, .int .i64 0, .int .i64 0]), 3, 24) := by kernel_rfl

def encs (l : List (Int × Int × Int)) : List Value := l.flatMap (fun y => [.int .u32 y.1, .int .i64 y.2.1, .int .i64 y.2.2])
theorem encs_snoc (l : List (Int × Int × Int)) (y : Int × Int × Int) : encs (l ++ [y]) = encs l ++ [.int .u32 y.1, .int .i64 y.2.1, .int .i64 y.2.2] := by simp [encs]
theorem encs_len (l : List (Int × Int × Int)) : (encs l).length = l.length * 3 := by
  induction l with
  | nil => rfl
  | cons y l ih => show ([_, _, _] ++ encs l).length = _; rw [List.length_append, ih]; simp; omega
theorem encs_at : ∀ (l : List (Int × Int × Int)) (i : Nat) (h : i < l.length), (encs l)[i * 3]? = some (.int .u32 l[i].1) ∧ (encs l)[i * 3 + 1]? = some (.int .i64 l[i].2.1) ∧ (encs l)[i * 3 + 2]? = some (.int .i64 l[i].2.2)
  | [], i, h => absurd h (by simp)
  | y :: l, 0, h => ⟨rfl, rfl, rfl⟩
  | y :: l, i + 1, h => by
    have := encs_at l i (by simpa using h)
    have e : encs (y :: l) = .int .u32 y.1 :: .int .i64 y.2.1 :: .int .i64 y.2.2 :: encs l := rfl
    rw [e, show (i + 1) * 3 = i * 3 + 3 by omega]
    simpa using this

/-- a list that the call has made is a list in memory -/
theorem arr_of_own {w : World} {base : Nat} {e : TypeId} {v : Value} {l : List (Int × Int × Int)} (h : w.ownsRow base e 3 v l.length (encs l)) (hu : ∀ d ∈ l, In32 d.1) : ∃ a cap, v = .slice a l.length cap ∧ Arr3 w a l ∧ ∀ b o, a = some ⟨b, o, none⟩ → base ≤ b := by
  have hx := h
  rcases h.2 with ⟨rfl, hn⟩ | ⟨g, cap, cur, rfl, hbg, hg, hnc, hcm, hsz, hcur⟩
  · have e : l = [] := List.length_eq_zero_iff.1 hn
    subst e
    exact ⟨none, 0, rfl, ⟨by simp, fun i hi => absurd hi (by simp), hu⟩, fun b o e => by cases e⟩
  · refine ⟨some ⟨g, 0, none⟩, cap, rfl, ⟨?_, fun i hi => ?_, hu⟩, fun b o e => by cases e; exact hbg⟩
    · unfold maxLen at hcm; omega
    · have hc := encs_at l i hi
      have k : ∀ j, j < l.length * 3 → w.cell? ⟨g, j, none⟩ = (encs l)[j]? := fun j hj => hx.cellAt j hj
      exact ⟨g, 0, rfl, (Array.getElem?_eq_some_iff.1 hg).1, by rw [Nat.zero_add, k _ (by omega), hc.1], by rw [Nat.zero_add, k _ (by omega), hc.2.1], by rw [Nat.zero_add, k _ (by omega), hc.2.2]⟩

/-- the call's own list -/
def RowOf (w : World) (base : Nat) (E : TypeId) (v : Value) (l : List (Int × Int × Int)) : Prop := w.ownsRow base E 3 v l.length (encs l)
theorem RowOf.grown {w w' : World} {base : Nat} {E : TypeId} {v : Value} {l : List (Int × Int × Int)} (h : RowOf w base E v l) (hg : w.grownBy w' none) : RowOf w' base E v l :=
  World.ownsRow.kept h hg (by cases v.ownBlock with | none => exact .inl rfl | some x => exact .inr (by simp))
theorem RowOf.bel {w w' : World} {base : Nat} {E : TypeId} {v : Value} {l : List (Int × Int × Int)} (h : RowOf w base E v l) (hb : Below w.heap.size w w') : RowOf w' base E v l := h.grown (grown_bel hb none)
theorem RowOf.alloc {w : World} {base : Nat} {E : TypeId} {v : Value} {l : List (Int × Int × Int)} (h : RowOf w base E v l) (o : Obj) : RowOf (w.alloc o) base E v l := World.ownsRow.alloc h o
theorem RowOf.nil (w : World) (base : Nat) (E : TypeId) : RowOf w base E (.slice none 0 0) [] := World.ownsRow_nil _ _ _ _

/-- all cells stay but those of v's own block -/
def Spares (v : Value) (w w' : World) : Prop := ∀ a c, w.cell? a = some c → some a.block ≠ v.ownBlock → w'.cell? a = some c
theorem RowOf.new_ne {w : World} {base : Nat} {E : TypeId} {v : Value} {l : List (Int × Int × Int)} (h : RowOf w base E v l) : some w.heap.size ≠ v.ownBlock := fun e => by
  have := (World.ownsRow.lt h _ e.symm).2; omega

/-- one item is appended to a list that the call has made -/
theorem app_one {T E : TypeId} (hT : Try.prog.underlying T = some (.slice E)) (hE : (Try.prog.info? E).map (fun i => (i.zero, i.size, i.bytes)) = some (some (.agg #[.int .u32 0, .int .i64 0, .int .i64 0]), 3, 24))
    {ops : Array Oper} {rest : List Oper} {o : Oper} {a : Act} {Q : Exit → Act → World → Prop} (hgd : o.guard = none) (s x : Operand)
    (ho : o.op = .call { callee := .builtin .append, args := #[s, x], argTypes := #[T, T] }) (base : Nat) (v : Value) (l : List (Int × Int × Int)) (ya yn yv : Int) (w : World) (hs : a.eval s = v) (hown : RowOf w base E v l)
    (tb : TypeId) (H : Nat) (hx : a.eval x = .slice (some ⟨H, 0, none⟩) 1 1) (hH : w.heap.size = H) (hby : (l.length + 1) * 24 ≤ 140737488355328) (hbase : base ≤ w.heap.size)
    (h : ∀ g cap w', RowOf w' base E (.slice (some ⟨g, 0, none⟩) (l.length + 1) cap) (l ++ [(ya, yn, yv)]) → Hid (Below base w w') → Hid (Spares v w w') →
      wpList Try.prog ops Q rest (a.put o.dst (.slice (some ⟨g, 0, none⟩) (l.length + 1) cap)) w') :
    wpList Try.prog ops Q (o :: rest) a (w.alloc (.cells #[.int .u32 ya, .int .i64 yn, .int .i64 yv] tb)) := by
  subst hH
  obtain ⟨i0, hi, hz0, hz1, hz2⟩ := info_parts hE
  refine wpList_append_own _ hgd s x T ho base E i0 _ 3 24 hT hi hz0 hz1 hz2 rfl (by decide) v _ _ hs (World.ownsRow.alloc hown _) ⟨w.heap.size, 0, none⟩ 1 1 [.int .u32 ya, .int .i64 yn, .int .i64 yv] hx rfl (by
      intro j u' hj
      match j, hj with
      | 0, hj => simp at hj; subst hj; simp [Addr.add]
      | 1, hj => simp at hj; subst hj; simp [Addr.add]
      | 2, hj => simp at hj; subst hj; simp [Addr.add]) (by intro u' hu'; simp at hu'; rcases hu' with rfl | rfl | rfl <;> rfl) (by unfold maxLen; omega) hby (by simp; omega) ?_
  intro v' w' hown' hg _
  rcases hown'.2 with ⟨-, hn⟩ | ⟨g, cap, cur, rfl, hbg, hgb, -⟩
  · simp at hn
  · refine h g cap w' (by unfold RowOf; rw [encs_snoc, List.length_append]; exact hown') ?_ ?_
    · refine ⟨hg.os, hg.tape, hg.output, by have := hg.size; simp at this; omega, fun k hk => ?_⟩
      rw [hg.block k (by simp; omega) (fun e => by have := (World.ownsRow.lt hown k e.symm).1; omega)]
      exact Below.heap_alloc _ _ _ (by omega)
    · intro ad c hc hne
      have hlt : ad.block < w.heap.size := by obtain ⟨ob, hob, -⟩ := cells_of_cell hc; exact (Array.getElem?_eq_some_iff.1 hob).1
      exact (World.cell?_of_block ((hg.block ad.block (by simp; omega) hne).trans (Below.heap_alloc _ _ _ hlt))).trans hc
end Go.Proofs.Ytibmhdfodmkahaa.Bk
