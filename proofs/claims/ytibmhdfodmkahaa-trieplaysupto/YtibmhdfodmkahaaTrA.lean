/- The trie's nodes in memory; side, toward and hang: what each answers. -/
import Derived.Test.YtibmhdfodmkahaaRows
import Derived.Test.YtibmhdfodmkahaaTrP
import Derived.Test.YtibmhdfodmkahaaShelf
import Derived.WalkKit
import Derived.ProofKit
import Derived.OpenShut
import Derived.WalkLawsBesides
import Derived.Below
import Derived.Deep.QuietTactic
import Derived.BigQuiet
import Derived.Lib.QuietBelow
import Derived.Deep.RegionHeld3
namespace Go.Proofs.Ytibmhdfodmkahaa.Tri
open Go.ChangeShapes Go.WideShapes Go.ChangeAt Go.RowKit Go.Proofs.Ytibmhdfodmkahaa.PM Go.Proofs.Ytibmhdfodmkahaa.TrM
set_option linter.unusedVariables false

/-- a node's six cells at block b -/
def Cells (w : World) (b : Nat) (a n v : Int) (h : Bool) (pl pr : Option Addr) : Prop :=
  w.cell? ⟨b, 0, none⟩ = some (.int .u32 a) ∧ w.cell? ⟨b, 1, none⟩ = some (.int .i64 n) ∧ w.cell? ⟨b, 2, none⟩ = some (.int .i64 v) ∧ w.cell? ⟨b, 3, none⟩ = some (.bool h) ∧ w.cell? ⟨b, 4, none⟩ = some (.pointer pl) ∧ w.cell? ⟨b, 5, none⟩ = some (.pointer pr)

/-- how a trie lies in memory, its blocks all of a kind -/
def Rep (ok : Nat → Prop) (w : World) : Tr → Option Addr → Prop
  | .nil, p => p = none
  | .node a n v h l r, p => (0 ≤ a ∧ a < 4294967296 ∧ 0 ≤ n ∧ n ≤ 32) ∧ ∃ b pl pr, p = some ⟨b, 0, none⟩ ∧ b < w.heap.size ∧ ok b ∧ Cells w b a n v h pl pr ∧ Rep ok w l pl ∧ Rep ok w r pr

/-- nothing old has turned but block B; the streams are as they were -/
structure But (B : Nat) (w w' : World) : Prop where
  os : w'.os = w.os
  tape : w'.tape = w.tape
  output : w'.output = w.output
  size : w.heap.size ≤ w'.heap.size
  block : ∀ k, k < w.heap.size → k ≠ B → w'.heap[k]? = w.heap[k]?

theorem But.of {B : Nat} {w w' : World} (h : Below w.heap.size w w') : But B w w' := ⟨h.os, h.tape, h.output, h.size, fun k hk _ => h.block k hk⟩
theorem But.refl (B : Nat) (w : World) : But B w w := ⟨rfl, rfl, rfl, Nat.le_refl _, fun _ _ _ => rfl⟩
theorem But.trans {B : Nat} {a b c : World} (h : But B a b) (k : But B b c) : But B a c :=
  ⟨k.os.trans h.os, k.tape.trans h.tape, k.output.trans h.output, Nat.le_trans h.size k.size, fun i hi hn => (k.block i (Nat.lt_of_lt_of_le hi h.size) hn).trans (h.block i hi hn)⟩
theorem But.cell {B : Nat} {w w' : World} (h : But B w w') {b : Nat} (o : Nat) (hb : b < w.heap.size) (hn : b ≠ B) : w'.cell? ⟨b, o, none⟩ = w.cell? ⟨b, o, none⟩ := World.cell?_of_block (w := w) (h.block b hb hn)
theorem But.frozen {B : Nat} {w w' : World} (h : But B w w') {b : Nat} (o : Nat) (hb : b < w.heap.size) (hn : b ≠ B) : w'.frozen? ⟨b, o, none⟩ = w.frozen? ⟨b, o, none⟩ := World.frozen?_of_block (w := w) (h.block b hb hn)
theorem But.setCell {B : Nat} {a w : World} (h : But B a w) (o : Nat) (u : Value) : But B a (w.setCell ⟨B, o, none⟩ u) :=
  ⟨h.os, h.tape, h.output, by simpa using h.size, fun k hk hn => by rw [Below.heap_setCell w ⟨B, o, none⟩ u k hn]; exact h.block k hk hn⟩
theorem But.drewN {B : Nat} {a w : World} (h : But B a w) (q : Nat) : But B a (w.drewN q) := ⟨h.os, h.tape, h.output, h.size, h.block⟩

theorem Cells.but {B : Nat} {w w' : World} {b : Nat} {a n v : Int} {h : Bool} {pl pr : Option Addr} (hc : Cells w b a n v h pl pr) (hw : But B w w') (hb : b < w.heap.size) (hn : b ≠ B) : Cells w' b a n v h pl pr := by
  obtain ⟨h0, h1, h2, h3, h4, h5⟩ := hc
  exact ⟨by rw [hw.cell 0 hb hn, h0], by rw [hw.cell 1 hb hn, h1], by rw [hw.cell 2 hb hn, h2], by rw [hw.cell 3 hb hn, h3], by rw [hw.cell 4 hb hn, h4], by rw [hw.cell 5 hb hn, h5]⟩
theorem Rep.but {ok ok' : Nat → Prop} {B : Nat} {w w' : World} {t : Tr} {p : Option Addr} (h : Rep ok w t p) (hw : But B w w') (hk : ∀ b, ok b → ok' b ∧ b ≠ B) : Rep ok' w' t p := by
  induction t generalizing p with
  | nil => exact h
  | node a n v hh l r il ir =>
    obtain ⟨hb, b, pl, pr, e, hlt, hok, hc, hl, hr⟩ := h
    exact ⟨hb, b, pl, pr, e, Nat.lt_of_lt_of_le hlt hw.size, (hk b hok).1, hc.but hw hlt (hk b hok).2, il hl, ir hr⟩
theorem Rep.below {ok ok' : Nat → Prop} {w w' : World} {t : Tr} {p : Option Addr} (h : Rep ok w t p) (hw : Below w.heap.size w w') (hk : ∀ b, ok b → ok' b) : Rep ok' w' t p := by
  induction t generalizing p with
  | nil => exact h
  | node a n v hh l r il ir =>
    obtain ⟨hb, b, pl, pr, e, hlt, hok, hc, hl, hr⟩ := h
    have hw' : But w.heap.size w w' := But.of hw
    exact ⟨hb, b, pl, pr, e, Nat.lt_of_lt_of_le hlt hw.size, hk b hok, hc.but hw' hlt (by omega), il hl, ir hr⟩

theorem ret_i64 {a b : Int} (h : a = b) : Ending.returned (.int .i64 a) = .returned (.int .i64 b) := by rw [h]
theorem ret_ptr {a b : Option Addr} (h : a = b) : Ending.returned (.pointer a) = .returned (.pointer b) := by rw [h]

set_option maxHeartbeats 400000 in
theorem side_any (x n : Int) (h0 : 0 ≤ n) (h1 : n ≤ 32) (hx : 0 ≤ x) (hx2 : x < 4294967296) (w : World) :
    Calls Try.prog 47 #[.int .u32 x, .int .i64 n] w fun e w' => e = .returned (.int .i64 (sdI x n)) ∧ w' = w := by
  go_enter Try.func47, Try.ntmps47
  go_wp2_with fail
  go_ret
  exact ⟨rfl, rfl⟩
theorem side_is (x n s : Int) (hs : sdI x n = s) (h0 : 0 ≤ n) (h1 : n ≤ 32) (hx : 0 ≤ x) (hx2 : x < 4294967296) (w : World) :
    Calls Try.prog 47 #[.int .u32 x, .int .i64 n] w fun e w' => e = .returned (.int .i64 s) ∧ w' = w := by
  rw [← hs]; exact side_any x n h0 h1 hx hx2 w

set_option maxHeartbeats 400000 in
theorem toward_l (b : Nat) (a n v : Int) (h : Bool) (pl pr : Option Addr) (x : Int) (hs : sdI x n = 0) (h0 : 0 ≤ n) (h1 : n ≤ 32) (hx : 0 ≤ x) (hx2 : x < 4294967296) (w : World) (hc : Cells w b a n v h pl pr) :
    Calls Try.prog 42 #[.pointer (some ⟨b, 0, none⟩), .int .u32 x] w fun e w' => e = .returned (.pointer pl) ∧ ∃ q, w' = w.drewN q := by
  obtain ⟨c0, c1, c2, c3, c4, c5⟩ := hc
  have HS : Hid (sdI x n = 0) := hs
  clear hs
  go_enter Try.func42, Try.ntmps42
  go_wp2_with fail
  go_quiet ((go_at_call 47; exact Calls.quiet_of_same (side_is x n 0 HS.out h0 h1 hx hx2 _)))
  go_wp2_with fail
  go_ret
  exact ⟨rfl, nq, rfl⟩

set_option maxHeartbeats 400000 in
theorem toward_r (b : Nat) (a n v : Int) (h : Bool) (pl pr : Option Addr) (x : Int) (hs : sdI x n = 1) (h0 : 0 ≤ n) (h1 : n ≤ 32) (hx : 0 ≤ x) (hx2 : x < 4294967296) (w : World) (hc : Cells w b a n v h pl pr) :
    Calls Try.prog 42 #[.pointer (some ⟨b, 0, none⟩), .int .u32 x] w fun e w' => e = .returned (.pointer pr) ∧ ∃ q, w' = w.drewN q := by
  obtain ⟨c0, c1, c2, c3, c4, c5⟩ := hc
  have HS : Hid (sdI x n = 1) := hs
  clear hs
  go_enter Try.func42, Try.ntmps42
  go_wp2_with fail
  go_quiet ((go_at_call 47; exact Calls.quiet_of_same (side_is x n 1 HS.out h0 h1 hx hx2 _)))
  go_wp2_with fail
  go_ret
  exact ⟨rfl, nq, rfl⟩

set_option maxHeartbeats 1000000 in
theorem hang_l (b : Nat) (a n v : Int) (h : Bool) (pl pr : Option Addr) (c : Nat) (x n2 v2 : Int) (h2 : Bool) (ql qr : Option Addr) (hs : sdI x n = 0) (h0 : 0 ≤ n) (h1 : n ≤ 32) (hx : 0 ≤ x) (hx2 : x < 4294967296) (w : World)
    (hc : Cells w b a n v h pl pr) (hb : b < w.heap.size) (hc2 : Cells w c x n2 v2 h2 ql qr) (hcb : c < w.heap.size) :
    Calls Try.prog 43 #[.pointer (some ⟨b, 0, none⟩), .pointer (some ⟨c, 0, none⟩)] w fun e w' => e = .returned (.pointer (some ⟨w.heap.size, 0, none⟩)) ∧ Below w.heap.size w w' ∧ w.heap.size < w'.heap.size ∧ Cells w' w.heap.size a n v h (some ⟨c, 0, none⟩) pr := by
  obtain ⟨c0, c1, c2, c3, c4, c5⟩ := hc
  obtain ⟨d0, d1, d2, d3, d4, d5⟩ := hc2
  have HS : Hid (sdI x n = 0) := hs
  clear hs
  go_enter Try.func43, Try.ntmps43
  go_wp2_with fail
  go_region_held3 (fun w' => w'.cell? ⟨b, 1, none⟩ = some (.int .i64 n) ∧ w'.cell? ⟨c, 0, none⟩ = some (.int .u32 x)) (first | (simp [go_sem, hb, hcb, c1, d0]; done) | go_keep)
    (first | (go_at_call 47; refine (side_is x n 0 HS.out h0 h1 hx hx2 _).mono ?_; rintro e w1 ⟨rfl, rfl⟩))
  go_wp2_with fail
  go_ret
  exact ⟨rfl, ((Below.refl _ _).alloc (Nat.le_refl _) _).drew, by simp, by refine ⟨?_, ?_, ?_, ?_, ?_, ?_⟩ <;> simp⟩

set_option maxHeartbeats 1000000 in
theorem hang_r (b : Nat) (a n v : Int) (h : Bool) (pl pr : Option Addr) (c : Nat) (x n2 v2 : Int) (h2 : Bool) (ql qr : Option Addr) (hs : sdI x n = 1) (h0 : 0 ≤ n) (h1 : n ≤ 32) (hx : 0 ≤ x) (hx2 : x < 4294967296) (w : World)
    (hc : Cells w b a n v h pl pr) (hb : b < w.heap.size) (hc2 : Cells w c x n2 v2 h2 ql qr) (hcb : c < w.heap.size) :
    Calls Try.prog 43 #[.pointer (some ⟨b, 0, none⟩), .pointer (some ⟨c, 0, none⟩)] w fun e w' => e = .returned (.pointer (some ⟨w.heap.size, 0, none⟩)) ∧ Below w.heap.size w w' ∧ w.heap.size < w'.heap.size ∧ Cells w' w.heap.size a n v h pl (some ⟨c, 0, none⟩) := by
  obtain ⟨c0, c1, c2, c3, c4, c5⟩ := hc
  obtain ⟨d0, d1, d2, d3, d4, d5⟩ := hc2
  have HS : Hid (sdI x n = 1) := hs
  clear hs
  go_enter Try.func43, Try.ntmps43
  go_wp2_with fail
  go_region_held3 (fun w' => w'.cell? ⟨b, 1, none⟩ = some (.int .i64 n) ∧ w'.cell? ⟨c, 0, none⟩ = some (.int .u32 x)) (first | (simp [go_sem, hb, hcb, c1, d0]; done) | go_keep)
    (first | (go_at_call 47; refine (side_is x n 1 HS.out h0 h1 hx hx2 _).mono ?_; rintro e w1 ⟨rfl, rfl⟩))
  go_wp2_with fail
  go_ret
  exact ⟨rfl, ((Below.refl _ _).alloc (Nat.le_refl _) _).drew, by simp, by refine ⟨?_, ?_, ?_, ?_, ?_, ?_⟩ <;> simp⟩


theorem bel_q (w : World) (q : Nat) : Below w.heap.size w (w.drewN q) := ⟨rfl, rfl, rfl, Nat.le_refl _, fun _ _ => rfl⟩
theorem ptr_ne (b : Nat) (o : Nat) : (some (⟨b, o, none⟩ : Addr) : Option Addr) ≠ none := by simp

/-- slim, at a node that has a value or two below it -/
theorem slim_keep (b : Nat) (a n v : Int) (h : Bool) (pl pr : Option Addr) (hk : h = true ∨ (pl ≠ none ∧ pr ≠ none)) (w : World) (hc : Cells w b a n v h pl pr) :
    Calls Try.prog 46 #[.pointer (some ⟨b, 0, none⟩)] w fun e w' => e = .returned (.pointer (some ⟨b, 0, none⟩)) ∧ ∃ q, w' = w.drewN q := by
  obtain ⟨c0, c1, c2, c3, c4, c5⟩ := hc
  rcases hk with rfl | ⟨h1, h2⟩
  · go_enter Try.func46, Try.ntmps46
    go_wp2_with fail
    go_ret
    exact ⟨rfl, 0, rfl⟩
  · obtain ⟨x, rfl⟩ : ∃ x, pl = some x := by cases pl with | none => exact absurd rfl h1 | some x => exact ⟨x, rfl⟩
    obtain ⟨y, rfl⟩ : ∃ y, pr = some y := by cases pr with | none => exact absurd rfl h2 | some y => exact ⟨y, rfl⟩
    clear h1 h2
    cases h
    all_goals
      go_enter Try.func46, Try.ntmps46
      go_wp2_with fail
      go_ret
      exact ⟨rfl, 0, rfl⟩
theorem slim_left (b : Nat) (a n v : Int) (x : Addr) (w : World) (hc : Cells w b a n v false (some x) none) :
    Calls Try.prog 46 #[.pointer (some ⟨b, 0, none⟩)] w fun e w' => e = .returned (.pointer (some x)) ∧ ∃ q, w' = w.drewN q := by
  obtain ⟨c0, c1, c2, c3, c4, c5⟩ := hc
  go_enter Try.func46, Try.ntmps46
  go_wp2_with fail
  go_ret
  exact ⟨rfl, 0, rfl⟩
theorem slim_right (b : Nat) (a n v : Int) (pr : Option Addr) (w : World) (hc : Cells w b a n v false none pr) :
    Calls Try.prog 46 #[.pointer (some ⟨b, 0, none⟩)] w fun e w' => e = .returned (.pointer pr) ∧ ∃ q, w' = w.drewN q := by
  obtain ⟨c0, c1, c2, c3, c4, c5⟩ := hc
  go_enter Try.func46, Try.ntmps46
  go_wp2_with fail
  go_ret
  exact ⟨rfl, 0, rfl⟩
end Go.Proofs.Ytibmhdfodmkahaa.Tri
