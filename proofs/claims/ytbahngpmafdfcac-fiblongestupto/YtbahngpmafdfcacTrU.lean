/- Many puts and drops; what is reckoned behind them. -/
import Derived.Test.YtbahngpmafdfcacTrT
namespace Go.Proofs.Ytbahngpmafdfcac.Tri
open Go.ChangeShapes Go.WideShapes Go.ChangeAt Go.RowKit Go.Shelf Go.Proofs.Ytbahngpmafdfcac.PM Go.Proofs.Ytbahngpmafdfcac.TrM Go.Proofs.Ytbahngpmafdfcac.Ask
set_option linter.unusedVariables false

/-- a list of items lies at a slice -/
structure Arr3 (w : World) (a : Option Addr) (ps : List (Int × Int × Int)) : Prop where
  small : ps.length ≤ 9223372036854775807
  cells : ∀ i (h : i < ps.length), ∃ b o, a = some ⟨b, o, none⟩ ∧ b < w.heap.size ∧ w.cell? ⟨b, o + i * 3, none⟩ = some (.int .u32 ps[i].1) ∧ w.cell? ⟨b, o + i * 3 + 1, none⟩ = some (.int .i64 ps[i].2.1) ∧ w.cell? ⟨b, o + i * 3 + 2, none⟩ = some (.int .i64 ps[i].2.2)
  u32 : ∀ d ∈ ps, In32 d.1
theorem Arr3.bel {w w' : World} {a : Option Addr} {ps : List (Int × Int × Int)} (h : Arr3 w a ps) (hb : Below w.heap.size w w') : Arr3 w' a ps :=
  ⟨h.small, fun i hi => by
    obtain ⟨b, o, e, hlt, h0, h1, h2⟩ := h.cells i hi
    exact ⟨b, o, e, Nat.lt_of_lt_of_le hlt hb.size, cell_bel h0 hb, cell_bel h1 hb, cell_bel h2 hb⟩, h.u32⟩

theorem put1_any (ok : Nat → Prop) (bt : Nat) (t : Tr) (p : Option Addr) (c a n v : Int) (w : World) (hh : Holds ok w bt t p c) (hok : ¬ ok bt) (hnew : ∀ b, w.heap.size ≤ b → ok b) (hw : WF t) (a0 : 0 ≤ a) (a1 : a < 4294967296) :
    Calls Try.prog 20 #[.pointer (some ⟨bt, 0, none⟩), .agg #[.int .u32 a, .int .i64 n], .int .i64 v] w fun e w' => Turned ok bt (put1 t (a, n, v)) w e w' := by
  cases hv : vld a n with
  | false =>
    refine (put_no ok bt t p c a n v w hh a0 a1 hv).mono ?_
    rintro e w' ⟨rfl, hb⟩
    have : put1 t (a, n, v) = t := by unfold put1; rw [if_neg (by simp [hv])]
    rw [this]
    exact ⟨0, false, p, c, rfl, But.of hb, hh.bel hb⟩
  | true =>
    have : put1 t (a, n, v) = ins t a n v := by unfold put1; rw [if_pos hv]
    rw [this]
    exact put_yes ok bt t p c a n v w hh hok hnew hw a0 a1 hv

/-- has one been seen? -/
def sn (found : Bool) (b m : Int) (l : List (Int × Int × Int)) : Bool := found && l.any (fun y => decide (y.1 = b ∧ y.2.1 = m))
theorem sn_nil (found : Bool) (b m : Int) : sn found b m [] = false := by simp [sn]
theorem sn_skip {found : Bool} {b m : Int} {y : Int × Int × Int} {l : List (Int × Int × Int)} (h : found = true → ¬ (y.1 = b ∧ y.2.1 = m)) : sn found b m (y :: l) = sn found b m l := by
  cases found with
  | false => rfl
  | true => simp only [sn, List.any_cons, Bool.true_and]; rw [decide_eq_false (h rfl), Bool.false_or]
theorem sn_hit {b m : Int} {y : Int × Int × Int} {l : List (Int × Int × Int)} (h : y.1 = b ∧ y.2.1 = m) : sn true b m (y :: l) = true := by
  simp only [sn, List.any_cons, Bool.true_and]; rw [decide_eq_true h, Bool.true_or]
theorem sn_no {b m : Int} {l : List (Int × Int × Int)} (h : sn true b m l = false) : ∀ z ∈ l, ¬ (z.1 = b ∧ z.2.1 = m) := by
  intro z hz e
  simp only [sn, Bool.true_and, List.any_eq_false] at h
  exact h z hz (decide_eq_true e)
theorem sn_end {ps : List (Int × Int × Int)} {ds : List (Int × Int)} {x b m u : Int} {found : Bool} (h : Fine ps ds x b m u found) : sn found b m ps = found := by
  cases found with
  | false => rfl
  | true =>
    obtain ⟨y, hy, e⟩ := h.is rfl
    simp only [sn, Bool.true_and, List.any_eq_true]
    exact ⟨y, hy, decide_eq_true e⟩
theorem drop_at {ps : List (Int × Int × Int)} {k : Nat} (h : k < ps.length) : ps.drop k = ps[k] :: ps.drop (k + 1) := List.drop_eq_getElem_cons h
theorem part_at {ps : List (Int × Int × Int)} {k : Nat} (h : k < ps.length) : ps = ps.take k ++ ps[k] :: ps.drop (k + 1) := by rw [← drop_at h, List.take_append_drop]

theorem putAll_snoc {ps : List (Int × Int × Int)} {k : Nat} (h : k < ps.length) : putAll .nil (ps.take (k + 1)) = put1 (putAll .nil (ps.take k)) ps[k] := by
  unfold putAll; rw [List.take_succ_eq_append_getElem h, List.foldl_append]; rfl
theorem dropAll_snoc {t : Tr} {ds : List (Int × Int)} {k : Nat} (h : k < ds.length) : dropAll t (ds.take (k + 1)) = (del (dropAll t (ds.take k)) ds[k].1 ds[k].2).1 := by
  unfold dropAll; rw [List.take_succ_eq_append_getElem h, List.foldl_append]; rfl

theorem three (w : World) (a n v : Int) (T : Nat) : Below w.heap.size w (w.alloc (Obj.cells #[.int .u32 a, .int .i64 n, .int .i64 v] T)) ∧ (w.alloc (Obj.cells #[.int .u32 a, .int .i64 n, .int .i64 v] T)).heap.size = w.heap.size + 1 :=
  ⟨(Below.refl _ _).alloc (Nat.le_refl _) _, by simp⟩

def Box3 (w : World) (b : Nat) (a n v : Int) : Prop := w.cell? ⟨b, 0, none⟩ = some (.int .u32 a) ∧ w.cell? ⟨b, 1, none⟩ = some (.int .i64 n) ∧ w.cell? ⟨b, 2, none⟩ = some (.int .i64 v)
theorem Box3.bel {w w1 : World} {b : Nat} {a n v : Int} (h : Box3 w b a n v) (hb : Below w.heap.size w w1) : Box3 w1 b a n v := ⟨cell_bel h.1 hb, cell_bel h.2.1 hb, cell_bel h.2.2 hb⟩
theorem Box3.new (w : World) (a n v : Int) (T : Nat) : Box3 (w.alloc (Obj.cells #[.int .u32 a, .int .i64 n, .int .i64 v] T)) w.heap.size a n v := ⟨by simp, by simp, by simp⟩
theorem Box.belW {w w1 : World} {b : Nat} {a n : Int} (h : Box w b a n) (hb : Below w.heap.size w w1) : Box w1 b a n := ⟨cell_bel h.1 hb, cell_bel h.2 hb⟩

/-- the loop over what is put: how it stands behind k rounds -/
structure Puts (w : World) (ps : List (Int × Int × Int)) (k : Nat) (wr : World) : Prop where
  bel : Below w.heap.size w wr
  holds : ∃ p c, Holds (fun b => w.heap.size < b) wr w.heap.size (putAll .nil (ps.take k)) p c
theorem Puts.next {w wr wA w' : World} {ps : List (Int × Int × Int)} {k : Nat} {e : Ending} (h : Puts w ps k wr) (hk : k < ps.length) (hb : Below wr.heap.size wr wA) (ht : Turned (fun b => w.heap.size < b) w.heap.size (put1 (putAll .nil (ps.take k)) ps[k]) wA e w') : Puts w ps (k + 1) w' := by
  obtain ⟨old, had, p, c, -, hbut, hh⟩ := ht
  refine ⟨hbut.bel (h.bel.trans (hb.mono h.bel.size)) (Nat.le_trans h.bel.size hb.size), p, c, ?_⟩
  rw [putAll_snoc hk]; exact hh
structure Drops (w : World) (t : Tr) (ds : List (Int × Int)) (k : Nat) (wr : World) : Prop where
  bel : Below w.heap.size w wr
  holds : ∃ p c, Holds (fun b => w.heap.size < b) wr w.heap.size (dropAll t (ds.take k)) p c
theorem Drops.next {w wr wA w' : World} {t : Tr} {ds : List (Int × Int)} {k : Nat} {e : Ending} (h : Drops w t ds k wr) (hk : k < ds.length) (hb : Below wr.heap.size wr wA) (ht : Turned (fun b => w.heap.size < b) w.heap.size (del (dropAll t (ds.take k)) ds[k].1 ds[k].2).1 wA e w') : Drops w t ds (k + 1) w' := by
  obtain ⟨old, had, p, c, -, hbut, hh⟩ := ht
  refine ⟨hbut.bel (h.bel.trans (hb.mono h.bel.size)) (Nat.le_trans h.bel.size hb.size), p, c, ?_⟩
  rw [dropAll_snoc hk]; exact hh

end Go.Proofs.Ytbahngpmafdfcac.Tri
