/- Comparing: cmp.Compare, cmp.Or, compareEnds, compareLinks, compareStubs: what each answers. -/
import Derived.Test.YtagfdmkgnedlbaeRows
import Derived.Test.YtagfdmkgnedlbaeAsk3
import Derived.Test.YtagfdmkgnedlbaeLsA
import Derived.WalkKit
import Derived.ProofKit
import Derived.Below
import Derived.RangeFuncOwn
import Derived.StillTailTactics
import Derived.Deep.RegionHeld3
import Derived.Lib.QuietBelow
import Derived.BigQuiet
namespace Go.Proofs.Ytagfdmkgnedlbae.Ls
open Go.ChangeShapes Go.WideShapes Go.ChangeAt Go.RowKit Go.Proofs.Ytagfdmkgnedlbae.PM Go.Proofs.Ytagfdmkgnedlbae.Ask
set_option linter.unusedVariables false

theorem grown_bel {w w' : World} (h : Below w.heap.size w w') (row : Option Nat) : w.grownBy w' row := ⟨h.os, h.tape, h.output, h.size, fun k hk _ => h.block k hk⟩
theorem cell_bel {w w' : World} {a : Addr} {v : Value} (h : w.cell? a = some v) (hb : Below w.heap.size w w') : w'.cell? a = some v := cell_kept h (grown_bel hb none) (fun r e => by cases e)
theorem drew_bel (w : World) : Below w.heap.size w w.drew := ⟨rfl, rfl, rfl, Nat.le_refl _, fun _ _ => rfl⟩

set_option maxHeartbeats 1000000 in
theorem nan_any (x : Int) (w : World) : Calls Try.prog 62 #[.int .i64 x] w fun e w' => e = .returned (.bool false) ∧ w' = w := by
  go_enter Try.func62, Try.ntmps62
  go_wp2_with fail
  go_ret
  exact ⟨rfl, rfl⟩
set_option maxHeartbeats 1000000 in
theorem cmp_any (x y : Int) (w : World) : Calls Try.prog 33 #[.int .i64 x, .int .i64 y] w fun e w' => e = .returned (.int .i64 (cmp3 x y)) ∧ w' = w := by
  by_cases h1 : x < y
  · have HE : Hid (cmp3 x y = -1) := by show _ = _; unfold cmp3; rw [if_pos h1]
    go_enter Try.func33, Try.ntmps33
    go_wp2_with (first | (go_at_call 62; refine (nan_any _ _).mono ?_; rintro e w1 ⟨rfl, rfl⟩))
    go_ret
    exact ⟨ret_i64 HE.out.symm, rfl⟩
  · by_cases h2 : y < x
    · have HE : Hid (cmp3 x y = 1) := by show _ = _; unfold cmp3; rw [if_neg h1, if_pos h2]
      go_enter Try.func33, Try.ntmps33
      go_wp2_with (first | (go_at_call 62; refine (nan_any _ _).mono ?_; rintro e w1 ⟨rfl, rfl⟩))
      go_ret
      exact ⟨ret_i64 HE.out.symm, rfl⟩
    · have HE : Hid (cmp3 x y = 0) := by show _ = _; unfold cmp3; rw [if_neg h1, if_neg h2]
      go_enter Try.func33, Try.ntmps33
      go_wp2_with (first | (go_at_call 62; refine (nan_any _ _).mono ?_; rintro e w1 ⟨rfl, rfl⟩))
      go_ret
      exact ⟨ret_i64 HE.out.symm, rfl⟩
/-- numbers at a slice of the call's own -/
structure Nums (b : Nat) (l : List Int) (w : World) : Prop where
  cells : ∀ i (h : i < l.length), w.cell? ⟨b, i, none⟩ = some (.int .i64 l[i])
theorem Nums.drew {b : Nat} {l : List Int} {w : World} (h : Nums b l w) : Nums b l w.drew := ⟨fun i hi => cell_bel (h.cells i hi) (drew_bel w)⟩
theorem nums2 (w : World) (a b : Int) (T : TypeId) : Nums w.heap.size [a, b] (w.alloc (.cells #[.int .i64 a, .int .i64 b] T)) := ⟨fun i hi => by
  match i, hi with
  | 0, _ => simp
  | 1, _ => simp⟩
theorem nums3 (w : World) (a b c : Int) (T : TypeId) : Nums w.heap.size [a, b, c] (w.alloc (.cells #[.int .i64 a, .int .i64 b, .int .i64 c] T)) := ⟨fun i hi => by
  match i, hi with
  | 0, _ => simp
  | 1, _ => simp
  | 2, _ => simp⟩
theorem nums4 (w : World) (a b c d : Int) (T : TypeId) : Nums w.heap.size [a, b, c, d] (w.alloc (.cells #[.int .i64 a, .int .i64 b, .int .i64 c, .int .i64 d] T)) := ⟨fun i hi => by
  match i, hi with
  | 0, _ => simp
  | 1, _ => simp
  | 2, _ => simp
  | 3, _ => simp⟩
theorem nums6 (w : World) (a b c d e f : Int) (T : TypeId) : Nums w.heap.size [a, b, c, d, e, f] (w.alloc (.cells #[.int .i64 a, .int .i64 b, .int .i64 c, .int .i64 d, .int .i64 e, .int .i64 f] T)) := ⟨fun i hi => by
  match i, hi with
  | 0, _ => simp
  | 1, _ => simp
  | 2, _ => simp
  | 3, _ => simp
  | 4, _ => simp
  | 5, _ => simp⟩
set_option maxHeartbeats 1000000 in
theorem or_any (b cap : Nat) (l : List Int) (L : Nat) (hL : l.length = L) (h9 : L ≤ 9223372036854775807) (w : World) (h : Nums b l w) (r : Int) (hr : nz l = r) :
    Calls Try.prog 32 #[.slice (some ⟨b, 0, none⟩) L cap] w fun e w' => e = .returned (.int .i64 r) ∧ w' = w := by
  have H : Hid (Nums b l w) := h
  have HL : Hid (l.length = L) := hL
  have HR : Hid (nz l = r) := hr
  clear h hL hr
  go_enter Try.func32, Try.ntmps32
  go_wp2_with fail
  go_loopw [8] (fun iv wr => ∃ k : Nat, k ≤ L ∧ iv = .int .i64 k ∧ nz (l.drop k) = r ∧ wr = w) (fun i _ => L - (intOf i).toNat)
  case atStart => exact ⟨0, by omega, rfl, by rw [List.drop_zero]; exact HR.out, rfl⟩
  case round =>
    obtain ⟨k, hk, rfl, hgk, hwr⟩ := hrel
    subst hwr
    have HG : Hid (nz (l.drop k) = r) := hgk
    clear hgk
    by_cases hlt : k < L
    · have hkd : k < l.length := by rw [HL.out]; exact hlt
      have hc := H.out.cells k hkd
      obtain ⟨y, hy⟩ : ∃ y, l[k] = y := ⟨_, rfl⟩
      rw [hy] at hc
      have HY : Hid (l.drop k = y :: l.drop (k + 1)) := by show _ = _; rw [List.drop_eq_getElem_cons hkd, hy]
      clear hy
      have hkk : (k : Int) < L := by omega
      have kk0 : (0 : Int) ≤ k := by omega
      by_cases e : y = 0
      · subst e
        have HE : Hid (nz (l.drop (k + 1)) = r) := by show _ = _; rw [← HG.out, HY.out, nz_cons, if_pos rfl]
        go_wp2_with fail
        exact ⟨⟨k + 1, by omega, by simp, HE.out, by first | trivial | rfl⟩, by simp [intOf]; omega⟩
      · have HE : Hid (y = r) := by show _ = _; rw [← HG.out, HY.out, nz_cons, if_neg e]
        go_wp2_with fail
        go_ret
        exact ⟨ret_i64 HE.out, rfl⟩
    · obtain rfl : k = L := by omega
      have hdr : l.drop k = [] := List.drop_of_length_le (by rw [HL.out]; exact Nat.le_refl _)
      have HE : Hid (0 = r) := by show _ = _; rw [← HG.out, hdr]; rfl
      clear hdr
      go_wp2_with fail
      go_ret
      exact ⟨ret_i64 HE.out, rfl⟩
/-- an age at its end -/
def endI (x : Int) : Int := if 120 ≤ x then 1 else 0
set_option maxHeartbeats 1000000 in
theorem ends_any (x y : Int) (w : World) : Calls Try.prog 37 #[.int .i64 x, .int .i64 y] w fun e w' => e = .returned (.int .i64 (cmp3 (endI x) (endI y))) ∧ w' = w := by
  by_cases h1 : 120 ≤ x
  · by_cases h2 : 120 ≤ y
    · have HE : Hid (cmp3 (endI x) (endI y) = 0) := by show _ = _; unfold cmp3 endI; rw [if_pos h1, if_pos h2]; decide
      have e1 : decide (120 ≤ x) = true := decide_eq_true h1
      have e2 : decide (120 ≤ y) = true := decide_eq_true h2
      go_enter Try.func37, Try.ntmps37
      go_wp2_with fail
      go_ret
      exact ⟨ret_i64 HE.out.symm, rfl⟩
    · have HE : Hid (cmp3 (endI x) (endI y) = 1) := by show _ = _; unfold cmp3 endI; rw [if_pos h1, if_neg h2]; decide
      have e1 : decide (120 ≤ x) = true := decide_eq_true h1
      have e2 : decide (120 ≤ y) = false := decide_eq_false h2
      go_enter Try.func37, Try.ntmps37
      go_wp2_with fail
      go_ret
      exact ⟨ret_i64 HE.out.symm, rfl⟩
  · by_cases h2 : 120 ≤ y
    · have HE : Hid (cmp3 (endI x) (endI y) = -1) := by show _ = _; unfold cmp3 endI; rw [if_neg h1, if_pos h2]; decide
      have e1 : decide (120 ≤ x) = false := decide_eq_false h1
      have e2 : decide (120 ≤ y) = true := decide_eq_true h2
      go_enter Try.func37, Try.ntmps37
      go_wp2_with fail
      go_ret
      exact ⟨ret_i64 HE.out.symm, rfl⟩
    · have HE : Hid (cmp3 (endI x) (endI y) = 0) := by show _ = _; unfold cmp3 endI; rw [if_neg h1, if_neg h2]; decide
      have e1 : decide (120 ≤ x) = false := decide_eq_false h1
      have e2 : decide (120 ≤ y) = false := decide_eq_false h2
      go_enter Try.func37, Try.ntmps37
      go_wp2_with fail
      go_ret
      exact ⟨ret_i64 HE.out.symm, rfl⟩

/-- two boxes of three numbers -/
structure Box33 (s : Nat) (k : IntKind) (x y : Int × Int × Int) (W : World) : Prop where
  x0 : W.cell? ⟨s, 0, none⟩ = some (.int k x.1)
  x1 : W.cell? ⟨s, 1, none⟩ = some (.int .i64 x.2.1)
  x2 : W.cell? ⟨s, 2, none⟩ = some (.int .i64 x.2.2)
  y0 : W.cell? ⟨s + 1, 0, none⟩ = some (.int k y.1)
  y1 : W.cell? ⟨s + 1, 1, none⟩ = some (.int .i64 y.2.1)
  y2 : W.cell? ⟨s + 1, 2, none⟩ = some (.int .i64 y.2.2)
theorem Box33.bel {s : Nat} {k : IntKind} {x y : Int × Int × Int} {W W' : World} (h : Box33 s k x y W) (hb : Below W.heap.size W W') : Box33 s k x y W' :=
  ⟨cell_bel h.x0 hb, cell_bel h.x1 hb, cell_bel h.x2 hb, cell_bel h.y0 hb, cell_bel h.y1 hb, cell_bel h.y2 hb⟩
theorem ha2 {w : World} (o1 o2 : Obj) (W : World) (hW : W = (w.alloc o1).alloc o2) : W.heap[w.heap.size]? = some o1 ∧ W.heap[w.heap.size + 1]? = some o2 ∧ W.heap.size = w.heap.size + 2 ∧ Below w.heap.size w W := by
  subst hW
  have e1 := World.alloc_heap_new w o1
  have e2 := World.alloc_heap_new (w.alloc o1) o2
  rw [World.size_alloc] at e2
  exact ⟨(Below.heap_alloc (w.alloc o1) o2 _ (Array.getElem?_eq_some_iff.1 e1).1).trans e1, e2, by simp, ((Below.refl _ w).alloc (Nat.le_refl _) _).alloc (by simp) _⟩

set_option maxRecDepth 100000 in
set_option maxHeartbeats 2000000 in
theorem links_any (x y : Int × Int × Int) (w : World) : Calls Try.prog 39 #[.agg #[.int .i64 x.1, .int .i64 x.2.1, .int .i64 x.2.2], .agg #[.int .i64 y.1, .int .i64 y.2.1, .int .i64 y.2.2]] w fun e w' => e = .returned (.int .i64 (lkC x y)) ∧ Below w.heap.size w w' := by
  obtain ⟨xa, xb, xc⟩ := x
  obtain ⟨ya, yb, yc⟩ := y
  obtain ⟨R, hR⟩ : ∃ R, lkC (xa, xb, xc) (ya, yb, yc) = R := ⟨_, rfl⟩
  have HR : Hid (nz [cmp3 xa ya, cmp3 xb yb, cmp3 xc yc] = R) := by show _ = _; rw [← hR]; rfl
  show Calls _ _ #[.agg #[.int .i64 xa, .int .i64 xb, .int .i64 xc], .agg #[.int .i64 ya, .int .i64 yb, .int .i64 yc]] _ _
  rw [hR]
  clear hR
  go_enter Try.func39, Try.ntmps39
  go_wp2_with fail
  obtain ⟨w0, hw0⟩ : ∃ w0, (w.alloc (Obj.cells #[.int .i64 xa, .int .i64 xb, .int .i64 xc] 54)).alloc (Obj.cells #[.int .i64 ya, .int .i64 yb, .int .i64 yc] 54) = w0 := ⟨_, rfl⟩
  obtain ⟨g1, g2, hs0, hb0⟩ := ha2 _ _ w0 hw0.symm
  have HBX : Hid (Box33 w.heap.size .i64 (xa, xb, xc) (ya, yb, yc) w0) := by constructor <;> simp [World.cell?, g1, g2]
  rw [hw0]
  clear hw0 g1 g2 hs0
  obtain ⟨c0, c1, c2, d0, d1, d2⟩ := HBX.out
  dsimp only at c0 c1 c2 d0 d1 d2
  obtain ⟨s, hs⟩ : ∃ s, w.heap.size = s := ⟨_, rfl⟩
  have hsl : s + 1 < w0.heap.size := by
    have := hb0.size
    obtain ⟨o, ho, -⟩ := cells_of_cell d0
    have := (Array.getElem?_eq_some_iff.1 ho).1
    simpa [hs] using this
  have HB0 : Hid (Below w.heap.size w w0) := hb0
  rw [hs] at c0 c1 c2 d0 d1 d2 ⊢
  clear hs hb0 HBX
  go_region_held3 (fun w' => w'.cell? ⟨s, 0, none⟩ = some (.int .i64 xa) ∧ w'.cell? ⟨s, 1, none⟩ = some (.int .i64 xb) ∧ w'.cell? ⟨s, 2, none⟩ = some (.int .i64 xc) ∧ w'.cell? ⟨s + 1, 0, none⟩ = some (.int .i64 ya) ∧ w'.cell? ⟨s + 1, 1, none⟩ = some (.int .i64 yb) ∧ w'.cell? ⟨s + 1, 2, none⟩ = some (.int .i64 yc))
    (first | (simp [go_sem, c0, c1, c2, d0, d1, d2]; done) | (refine ⟨?_, ?_, ?_, ?_, ?_, ?_⟩ <;> assumption) | go_keep)
    (first
      | (go_at_call 33; refine (cmp_any _ _ _).mono ?_; rintro e w5 ⟨rfl, rfl⟩)
      | (go_at_call 32; refine (or_any _ _ [cmp3 xa ya, cmp3 xb yb, cmp3 xc yc] 3 rfl (by decide) _ (nums3 w0 _ _ _ _).drew R HR.out).mono ?_; rintro e w5 ⟨rfl, rfl⟩))
  go_wp2_with fail
  go_ret
  exact ⟨rfl, (HB0.out.alloc HB0.out.size _).drew⟩
end Go.Proofs.Ytagfdmkgnedlbae.Ls
