/- The trie itself: NewTrie, Put, Drop. -/
import Derived.Test.YtibmhdfodmkahaaTrI
namespace Go.Proofs.Ytibmhdfodmkahaa.Tri
open Go.ChangeShapes Go.WideShapes Go.ChangeAt Go.RowKit Go.Proofs.Ytibmhdfodmkahaa.PM Go.Proofs.Ytibmhdfodmkahaa.TrM Go.Proofs.Ytibmhdfodmkahaa.Ask
set_option linter.unusedVariables false

/-- the trie at block bt holds t -/
structure Holds (ok : Nat → Prop) (w : World) (bt : Nat) (t : Tr) (p : Option Addr) (c : Int) : Prop where
  root : w.cell? ⟨bt, 0, none⟩ = some (.pointer p)
  count : w.cell? ⟨bt, 1, none⟩ = some (.int .i64 c)
  f0 : w.frozen? ⟨bt, 0, none⟩ = false
  f1 : w.frozen? ⟨bt, 1, none⟩ = false
  lt : bt < w.heap.size
  rep : Rep ok w t p

theorem Holds.bel {ok : Nat → Prop} {w w1 : World} {bt : Nat} {t : Tr} {p : Option Addr} {c : Int} (h : Holds ok w bt t p c) (hb : Below w.heap.size w w1) : Holds ok w1 bt t p c := by
  have hw : But w.heap.size w w1 := But.of hb
  have hl := h.lt
  exact ⟨by rw [hw.cell 0 hl (by omega), h.root], by rw [hw.cell 1 hl (by omega), h.count], by rw [hw.frozen 0 hl (by omega), h.f0], by rw [hw.frozen 1 hl (by omega), h.f1], Nat.lt_of_lt_of_le hl hb.size, h.rep.below hb (fun _ h => h)⟩

/-- what a change of the trie leaves behind -/
def Turned (ok : Nat → Prop) (bt : Nat) (t : Tr) (w : World) (e : Ending) (w' : World) : Prop :=
  ∃ old had p c, e = .returned (.tuple #[.int .i64 old, .bool had]) ∧ But bt w w' ∧ Holds ok w' bt t p c

theorem Rep.lt {ok : Nat → Prop} {w : World} {t : Tr} {p : Option Addr} (h : Rep ok w t p) : Rep (fun b => ok b ∧ b < w.heap.size) w t p := by
  induction t generalizing p with
  | nil => exact h
  | node a n v hh l r il ir =>
    obtain ⟨hb, b, pl, pr, e, hlt, hok, hc, hl, hr⟩ := h
    exact ⟨hb, b, pl, pr, e, hlt, ⟨hok, hlt⟩, hc, il hl, ir hr⟩
theorem But.bel {bl : Nat} {w1 W w3 : World} (h : But bl W w3) (hb : Below bl w1 W) (hs : bl ≤ W.heap.size) : Below bl w1 w3 :=
  ⟨h.os.trans hb.os, h.tape.trans hb.tape, h.output.trans hb.output, Nat.le_trans hb.size h.size, fun k hk => (h.block k (by omega) (by omega)).trans (hb.block k hk)⟩

/-- with, at the leaf that Put lays -/
theorem leafed {ok : Nat → Prop} {bt : Nat} {t : Tr} {p : Option Addr} {c a n v : Int} {w : World} (hh : Holds ok w bt t p c) (hw : WF t) (hv : vld a n = true) (a0 : 0 ≤ a) (a1 : a < 4294967296) (hnew : ∀ b, w.heap.size ≤ b → ok b) (k : Nat) :
    Calls Try.prog 31 #[.pointer p, .pointer (some ⟨w.heap.size, 0, none⟩)] ((w.drewN k).alloc (Obj.cells #[.int .u32 a, .int .i64 n, .int .i64 v, .bool true, .pointer none, .pointer none] 71)) fun e w' => ∃ q old had, e = .returned (.tuple #[.pointer (some ⟨q, 0, none⟩), .int .i64 old, .bool had]) ∧ Below w.heap.size w w' ∧ Rep ok w' (ins t a n v) (some ⟨q, 0, none⟩) := by
  obtain ⟨hb, hs, hc⟩ := noded (w.drewN k) a n v true none none 71
  have hs' : _ = w.heap.size + 1 := hs
  have hb' : Below w.heap.size w _ := (bel_q w k).trans hb
  refine (with_any t p _ ok w.heap.size a n v hw hv a0 a1 (hh.rep.lt.below hb' (fun b h => ⟨h.1, by omega⟩)) (fun b h => hnew b (by omega)) (hnew _ (Nat.le_refl _)) (by omega) hc (World.frozen?_alloc_at (w := w.drewN k) _ _ _ _ rfl) (World.frozen?_alloc_at (w := w.drewN k) _ _ _ _ rfl)).mono ?_
  rintro e w' ⟨q, old, had, rfl, hbut, hrep⟩
  exact ⟨q, old, had, rfl, hbut.bel hb' (by omega), hrep⟩

theorem turned_one {ok : Nat → Prop} {bt : Nat} {t t2 : Tr} {p q : Option Addr} {c old : Int} {had : Bool} {w w3 : World} (hok : ¬ ok bt) (hb : Below w.heap.size w w3) (hh : Holds ok w3 bt t p c) (hrep : Rep ok w3 t2 q) :
    Turned ok bt t2 w (.returned (.tuple #[.int .i64 old, .bool had])) (w3.setCell ⟨bt, 0, none⟩ (.pointer q)) := by
  have h1 : But bt w3 (w3.setCell ⟨bt, 0, none⟩ (.pointer q)) := (But.refl _ _).setCell 0 _
  obtain ⟨r0, r1, f0, f1, lt, -⟩ := hh
  refine ⟨old, had, q, c, rfl, (But.of hb).trans h1, ?_, ?_, ?_, ?_, ?_, hrep.but h1 (fun b hb => ⟨hb, fun e => hok (e ▸ hb)⟩)⟩
  · simp [go_sem, r0]
  · simp [go_sem, r1]
  · simp [go_sem, f0]
  · simp [go_sem, f1]
  · simpa using lt
theorem turned_two {ok : Nat → Prop} {bt : Nat} {t t2 : Tr} {p q : Option Addr} {c c2 old : Int} {had : Bool} {w w3 : World} (hok : ¬ ok bt) (hb : Below w.heap.size w w3) (hh : Holds ok w3 bt t p c) (hrep : Rep ok w3 t2 q) :
    Turned ok bt t2 w (.returned (.tuple #[.int .i64 old, .bool had])) ((w3.setCell ⟨bt, 0, none⟩ (.pointer q)).setCell ⟨bt, 1, none⟩ (.int .i64 c2)) := by
  have h1 : But bt w3 ((w3.setCell ⟨bt, 0, none⟩ (.pointer q)).setCell ⟨bt, 1, none⟩ (.int .i64 c2)) := ((But.refl _ _).setCell 0 _).setCell 1 _
  obtain ⟨r0, r1, f0, f1, lt, -⟩ := hh
  refine ⟨old, had, q, c2, rfl, (But.of hb).trans h1, ?_, ?_, ?_, ?_, ?_, hrep.but h1 (fun b hb => ⟨hb, fun e => hok (e ▸ hb)⟩)⟩
  · simp [go_sem, r0]
  · simp [go_sem, r1]
  · simp [go_sem, f0]
  · simp [go_sem, f1]
  · simpa using lt

set_option maxHeartbeats 1000000 in
theorem put_no (ok : Nat → Prop) (bt : Nat) (t : Tr) (p : Option Addr) (c a n v : Int) (w : World) (hh : Holds ok w bt t p c) (a0 : 0 ≤ a) (a1 : a < 4294967296) (hv : vld a n = false) :
    Calls Try.prog 8 #[.pointer (some ⟨bt, 0, none⟩), .agg #[.int .u32 a, .int .i64 n], .int .i64 v] w fun e w' => e = .returned (.tuple #[.int .i64 0, .bool false]) ∧ Below w.heap.size w w' := by
  have HH : Hid (Holds ok w bt t p c) := hh
  have HV : Hid (vld a n = false) := hv
  obtain ⟨hbA, hsA, hbx⟩ := boxed w a n 33
  have HBX : Hid (Box _ _ a n) := hbx
  clear hh hv hbx
  go_enter Try.func8, Try.ntmps8
  go_wp2_with fail
  generalize w.alloc (Obj.cells #[.int .u32 a, .int .i64 n] 33) = wA at *
  refine (valid_no a n HV.out a0 a1 wA).mono ?_
  rintro e w1 ⟨rfl, hb1⟩
  go_wp2_with fail
  go_ret2
  exact ⟨rfl, hbA.trans (hb1.mono hbA.size)⟩

set_option maxHeartbeats 1000000 in
theorem put_yes (ok : Nat → Prop) (bt : Nat) (t : Tr) (p : Option Addr) (c a n v : Int) (w : World) (hh : Holds ok w bt t p c) (hok : ¬ ok bt) (hnew : ∀ b, w.heap.size ≤ b → ok b) (hw : WF t) (a0 : 0 ≤ a) (a1 : a < 4294967296) (hv : vld a n = true) :
    Calls Try.prog 8 #[.pointer (some ⟨bt, 0, none⟩), .agg #[.int .u32 a, .int .i64 n], .int .i64 v] w fun e w' => Turned ok bt (ins t a n v) w e w' := by
  have HH : Hid (Holds ok w bt t p c) := hh
  have HV : Hid (vld a n = true) := hv
  have HW : Hid (WF t) := hw
  obtain ⟨hbA, hsA, hbx⟩ := boxed w a n 33
  have HBX : Hid (Box _ _ a n) := hbx
  have hlt := hh.lt
  clear hh hv hbx hw
  go_enter Try.func8, Try.ntmps8
  go_wp2_with fail
  generalize w.alloc (Obj.cells #[.int .u32 a, .int .i64 n] 33) = wA at *
  refine (valid_yes a n HV.out a0 a1 wA).mono ?_
  rintro e w1 ⟨rfl, hbA1⟩
  have hb1 : Below w.heap.size w w1 := hbA.trans (hbA1.mono hbA.size)
  have HBX1 : Hid (Box w1 w.heap.size a n) := HBX.out.bel hbA1 (by omega)
  have hs1 : w.heap.size < w1.heap.size := by have := hbA1.size; omega
  have HH1 : Hid (Holds ok w1 bt t p c) := HH.out.bel hb1
  clear HH HBX hbA hsA hbA1
  obtain ⟨r0, r1, f0, f1, -, -⟩ := HH1.out
  obtain ⟨x0, x1⟩ := HBX1.out
  go_wp2_with fail
  have hlt1 : bt < w1.heap.size := by omega
  have HWC := leafed HH1.out HW.out HV.out a0 a1 (fun b hb => hnew b (by omega)) (v := v)
  have HWC : Hid (∀ k, _) := HWC
  go_region_with (first | (go_at_call 31; refine (HWC.out 1).mono ?_; rintro e w3 ⟨q, old, had, rfl, hb3, hrep⟩))
  all_goals
    have HH3 : Hid (Holds ok w3 bt t p c) := HH1.out.bel hb3
    have hb03 : Below w.heap.size w w3 := hb1.trans (hb3.mono hb1.size)
    clear HWC r0 r1 f0 f1 x0 x1 HH1 HBX1
    obtain ⟨r0, r1, f0, f1, hlt3, -⟩ := HH3.out
    cases had with
    | false =>
      go_wp2_with fail
      go_ret2
      exact turned_two hok hb03 HH3.out hrep
    | true =>
      go_wp2_with fail
      go_ret2
      exact turned_one hok hb03 HH3.out hrep

end Go.Proofs.Ytibmhdfodmkahaa.Tri
