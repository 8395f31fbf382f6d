/- The trie: Put and Drop with what they answer and how many there are; Len, Fork. -/
import Derived.Test.YtibmhdfodmkahaaTuA
import Derived.Test.YtibmhdfodmkahaaTrK
namespace Go.Proofs.Ytibmhdfodmkahaa.Tu
open Go.ChangeShapes Go.WideShapes Go.ChangeAt Go.RowKit Go.Proofs.Ytibmhdfodmkahaa.PM Go.Proofs.Ytibmhdfodmkahaa.TrM Go.Proofs.Ytibmhdfodmkahaa.Ask Go.Proofs.Ytibmhdfodmkahaa.Tri
set_option linter.unusedVariables false

/-- how many there are behind a change -/
def cnt (c : Int) (had : Bool) (d : Int) : Int := if had = true then c else c + d
/-- what a change of the trie leaves behind, with what it answers -/
def TurnedX (ok : Nat → Prop) (bt : Nat) (t : Tr) (old : Int) (had : Bool) (c : Int) (w : World) (e : Ending) (w' : World) : Prop :=
  ∃ p, e = .returned (.tuple #[.int .i64 old, .bool had]) ∧ But bt w w' ∧ Holds ok w' bt t p c
theorem TurnedX.turned {ok : Nat → Prop} {bt : Nat} {t : Tr} {old : Int} {had : Bool} {c : Int} {w w' : World} {e : Ending} (h : TurnedX ok bt t old had c w e w') : Turned ok bt t w e w' := by
  obtain ⟨p, h1, h2, h3⟩ := h; exact ⟨old, had, p, c, h1, h2, h3⟩
theorem turnedX_one {ok : Nat → Prop} {bt : Nat} {t t2 : Tr} {p q : Option Addr} {c old : Int} {had : Bool} {w w3 : World} (hok : ¬ ok bt) (hb : Below w.heap.size w w3) (hh : Holds ok w3 bt t p c) (hrep : Rep ok w3 t2 q) :
    TurnedX ok bt t2 old had c w (.returned (.tuple #[.int .i64 old, .bool had])) (w3.setCell ⟨bt, 0, none⟩ (.pointer q)) := by
  have h1 : But bt w3 (w3.setCell ⟨bt, 0, none⟩ (.pointer q)) := (But.refl _ _).setCell 0 _
  obtain ⟨r0, r1, f0, f1, lt, -⟩ := hh
  refine ⟨q, rfl, (But.of hb).trans h1, ?_, ?_, ?_, ?_, ?_, hrep.but h1 (fun b hb => ⟨hb, fun e => hok (e ▸ hb)⟩)⟩
  · simp [go_sem, r0]
  · simp [go_sem, r1]
  · simp [go_sem, f0]
  · simp [go_sem, f1]
  · simpa using lt
theorem turnedX_two {ok : Nat → Prop} {bt : Nat} {t t2 : Tr} {p q : Option Addr} {c c2 c3 old : Int} {had : Bool} {w w3 : World} (hok : ¬ ok bt) (hb : Below w.heap.size w w3) (hh : Holds ok w3 bt t p c) (hrep : Rep ok w3 t2 q) (hc : c3 = c2) :
    TurnedX ok bt t2 old had c2 w (.returned (.tuple #[.int .i64 old, .bool had])) ((w3.setCell ⟨bt, 0, none⟩ (.pointer q)).setCell ⟨bt, 1, none⟩ (.int .i64 c3)) := by
  subst hc
  have h1 : But bt w3 ((w3.setCell ⟨bt, 0, none⟩ (.pointer q)).setCell ⟨bt, 1, none⟩ (.int .i64 c3)) := ((But.refl _ _).setCell 0 _).setCell 1 _
  obtain ⟨r0, r1, f0, f1, lt, -⟩ := hh
  refine ⟨q, rfl, (But.of hb).trans h1, ?_, ?_, ?_, ?_, ?_, hrep.but h1 (fun b hb => ⟨hb, fun e => hok (e ▸ hb)⟩)⟩
  · simp [go_sem, r0]
  · simp [go_sem, r1]
  · simp [go_sem, f0]
  · simp [go_sem, f1]
  · simpa using lt
theorem leafedX {ok : Nat → Prop} {bt : Nat} {t : Tr} {p : Option Addr} {c a n v : Int} {w : World} (hh : Holds ok w bt t p c) (hw : WF t) (hv : vld a n = true) (a0 : 0 ≤ a) (a1 : a < 4294967296) (hnew : ∀ b, w.heap.size ≤ b → ok b) (old : Int) (had : Bool) (hold : wold t a n = (old, had)) (k : Nat) :
    Calls Try.prog 31 #[.pointer p, .pointer (some ⟨w.heap.size, 0, none⟩)] ((w.drewN k).alloc (Obj.cells #[.int .u32 a, .int .i64 n, .int .i64 v, .bool true, .pointer none, .pointer none] 71)) fun e w' => ∃ q, e = .returned (.tuple #[.pointer (some ⟨q, 0, none⟩), .int .i64 old, .bool had]) ∧ Below w.heap.size w w' ∧ Rep ok w' (ins t a n v) (some ⟨q, 0, none⟩) := by
  obtain ⟨hb, hs, hc⟩ := noded (w.drewN k) a n v true none none 71
  have hs' : _ = w.heap.size + 1 := hs
  have hb' : Below w.heap.size w _ := (bel_q w k).trans hb
  refine (with_had t p _ ok w.heap.size a n v hw hv a0 a1 (hh.rep.lt.below hb' (fun b h => ⟨h.1, by omega⟩)) (fun b h => hnew b (by omega)) (hnew _ (Nat.le_refl _)) (by omega) hc (World.frozen?_alloc_at (w := w.drewN k) _ _ _ _ rfl) (World.frozen?_alloc_at (w := w.drewN k) _ _ _ _ rfl)).mono ?_
  rintro e w' ⟨q, rfl, hbut, hrep⟩
  rw [hold]
  exact ⟨q, rfl, hbut.bel hb' (by omega), hrep⟩

set_option maxHeartbeats 1000000 in
theorem put_x (ok : Nat → Prop) (bt : Nat) (t : Tr) (p : Option Addr) (c a n v : Int) (w : World) (hh : Holds ok w bt t p c) (hok : ¬ ok bt) (hnew : ∀ b, w.heap.size ≤ b → ok b) (hw : WF t) (a0 : 0 ≤ a) (a1 : a < 4294967296) (hv : vld a n = true) (old : Int) (had : Bool) (hold : wold t a n = (old, had)) (hc0 : 0 ≤ c) (hc1 : c ≤ 4611686018427387904) :
    Calls Try.prog 8 #[.pointer (some ⟨bt, 0, none⟩), .agg #[.int .u32 a, .int .i64 n], .int .i64 v] w fun e w' => TurnedX ok bt (ins t a n v) old had (cnt c had 1) w e w' := by
  have HH : Hid (Holds ok w bt t p c) := hh
  have HV : Hid (vld a n = true) := hv
  have HW : Hid (WF t) := hw
  have HO : Hid (wold t a n = (old, had)) := hold
  have hwr : wrap64 (c + 1) = c + 1 := IntWalk.wrap64_in _ (by omega)
  obtain ⟨hbA, hsA, hbx⟩ := boxed w a n 33
  have HBX : Hid (Box _ _ a n) := hbx
  have hlt := hh.lt
  clear hh hv hbx hw hold
  go_enter Try.func8, Try.ntmps8
  go_wp2_with fail
  generalize w.alloc (Obj.cells #[.int .u32 a, .int .i64 n] 33) = wA at *
  refine (valid_yes a n HV.out a0 a1 wA).mono ?_
  rintro e w1 ⟨rfl, hbA1⟩
  have hb1 : Below w.heap.size w w1 := hbA.trans (hbA1.mono hbA.size)
  have HBX1 : Hid (Box w1 w.heap.size a n) := HBX.out.bel hbA1 (by omega)
  have hs1 : w.heap.size < w1.heap.size := by have := hbA1.size; omega
  have HH1 : Hid (Holds ok w1 bt t p c) := HH.out.bel hb1
  clear HH HBX hbA hsA hbA1
  obtain ⟨r0, r1, f0, f1, -, -⟩ := HH1.out
  obtain ⟨x0, x1⟩ := HBX1.out
  go_wp2_with fail
  have hlt1 : bt < w1.heap.size := by omega
  have HWC := leafedX HH1.out HW.out HV.out a0 a1 (fun b hb => hnew b (by omega)) old had HO.out (v := v)
  have HWC : Hid (∀ k, _) := HWC
  clear HO
  cases had with
  | false =>
    go_region_with (first | (go_at_call 31; refine (HWC.out 1).mono ?_; rintro e w3 ⟨q, rfl, hb3, hrep⟩))
    all_goals
      have HH3 : Hid (Holds ok w3 bt t p c) := HH1.out.bel hb3
      have hb03 : Below w.heap.size w w3 := hb1.trans (hb3.mono hb1.size)
      clear HWC r0 r1 f0 f1 x0 x1 HH1 HBX1
      obtain ⟨r0, r1, f0, f1, hlt3, -⟩ := HH3.out
      go_wp2_with fail
      go_ret2
      exact turnedX_two hok hb03 HH3.out hrep (by unfold cnt; rw [if_neg (by decide)])
  | true =>
    go_region_with (first | (go_at_call 31; refine (HWC.out 1).mono ?_; rintro e w3 ⟨q, rfl, hb3, hrep⟩))
    all_goals
      have HH3 : Hid (Holds ok w3 bt t p c) := HH1.out.bel hb3
      have hb03 : Below w.heap.size w w3 := hb1.trans (hb3.mono hb1.size)
      clear HWC r0 r1 f0 f1 x0 x1 HH1 HBX1
      obtain ⟨r0, r1, f0, f1, hlt3, -⟩ := HH3.out
      go_wp2_with fail
      go_ret2
      exact turnedX_one hok hb03 HH3.out hrep

set_option maxHeartbeats 1000000 in
theorem drop_x (ok : Nat → Prop) (bt : Nat) (t : Tr) (p : Option Addr) (c a n : Int) (w : World) (hh : Holds ok w bt t p c) (hok : ¬ ok bt) (hnew : ∀ b, w.heap.size ≤ b → ok b) (a0 : 0 ≤ a) (a1 : a < 4294967296) (old : Int) (had : Bool) (hold : dold t a n = old) (hhad : (del t a n).2 = had) (hc0 : 0 ≤ c) (hc1 : c ≤ 4611686018427387904) :
    Calls Try.prog 12 #[.pointer (some ⟨bt, 0, none⟩), .agg #[.int .u32 a, .int .i64 n]] w fun e w' => TurnedX ok bt (del t a n).1 old had (cnt c (!had) (-1)) w e w' := by
  have HH : Hid (Holds ok w bt t p c) := hh
  have hlt := hh.lt
  have hwr : wrap64 (c - 1) = c + -1 := by rw [IntWalk.wrap64_in _ (by omega)]; omega
  obtain ⟨hbA, hsA, hbx⟩ := boxed w a n 33
  have HBX : Hid (Box _ _ a n) := hbx
  clear hh hbx
  go_enter Try.func12, Try.ntmps12
  go_wp2_with fail
  generalize w.alloc (Obj.cells #[.int .u32 a, .int .i64 n] 33) = wA at *
  have HHA : Hid (Holds ok wA bt t p c) := HH.out.bel hbA
  have HK : Hid (∀ k, Calls Try.prog 35 #[.pointer p, .agg #[.int .u32 a, .int .i64 n]] (wA.drewN k) fun e w' => ∃ q, e = .returned (.tuple #[.pointer q, .int .i64 old, .bool had]) ∧ Below wA.heap.size wA w' ∧ Rep ok w' (del t a n).1 q) := by
    intro k
    refine (without_had t p (wA.drewN k) ok a n a0 a1 (HHA.out.rep.drew k) (fun b hb => hnew b (Nat.le_trans (by omega) (show wA.heap.size ≤ b from hb)))).mono ?_
    rintro e w' ⟨q, rfl, hb, hq⟩
    exact ⟨q, by rw [hold, hhad], (bel_q wA k).trans hb, hq⟩
  clear hold hhad
  obtain ⟨r0, r1, f0, f1, hltA, -⟩ := HHA.out
  obtain ⟨x0, x1⟩ := HBX.out
  cases had with
  | false =>
    go_region_with (first | (go_at_call 35; refine (HK.out 1).mono ?_; rintro e w3 ⟨q, rfl, hb3, hrep⟩))
    all_goals
      have HH3 : Hid (Holds ok w3 bt t p c) := HHA.out.bel hb3
      have hb03 : Below w.heap.size w w3 := hbA.trans (hb3.mono hbA.size)
      clear HK r0 r1 f0 f1 x0 x1 HHA HBX
      obtain ⟨r0, r1, f0, f1, hlt3, -⟩ := HH3.out
      go_wp2_with fail
      go_ret2
      exact turnedX_one hok hb03 HH3.out hrep
  | true =>
    go_region_with (first | (go_at_call 35; refine (HK.out 1).mono ?_; rintro e w3 ⟨q, rfl, hb3, hrep⟩))
    all_goals
      have HH3 : Hid (Holds ok w3 bt t p c) := HHA.out.bel hb3
      have hb03 : Below w.heap.size w w3 := hbA.trans (hb3.mono hbA.size)
      clear HK r0 r1 f0 f1 x0 x1 HHA HBX
      obtain ⟨r0, r1, f0, f1, hlt3, -⟩ := HH3.out
      go_wp2_with fail
      go_ret2
      exact turnedX_two hok hb03 HH3.out hrep (by unfold cnt; rw [if_neg (by decide)]; omega)

set_option maxHeartbeats 1000000 in
theorem len_any (ok : Nat → Prop) (bt : Nat) (t : Tr) (p : Option Addr) (c : Int) (w : World) (hh : Holds ok w bt t p c) :
    Calls Try.prog 25 #[.pointer (some ⟨bt, 0, none⟩)] w fun e w' => e = .returned (.int .i64 c) ∧ Below w.heap.size w w' := by
  obtain ⟨r0, r1, f0, f1, hlt, -⟩ := hh
  go_enter Try.func25, Try.ntmps25
  go_wp2_with fail
  try go_quiet (fail)
  try go_wp2_with fail
  go_ret
  exact ⟨rfl, by first | exact bel_q _ _ | exact Below.refl _ _⟩

set_option maxHeartbeats 1000000 in
theorem fork_any (ok : Nat → Prop) (bt : Nat) (t : Tr) (p : Option Addr) (c : Int) (w : World) (hh : Holds ok w bt t p c) :
    Calls Try.prog 24 #[.pointer (some ⟨bt, 0, none⟩)] w fun e w' => e = .returned (.pointer (some ⟨w.heap.size, 0, none⟩)) ∧ Below w.heap.size w w' ∧ w'.heap.size = w.heap.size + 1 ∧ Holds ok w' w.heap.size t p c := by
  have hrep := hh.rep
  obtain ⟨r0, r1, f0, f1, hlt, -⟩ := hh
  go_enter Try.func24, Try.ntmps24
  go_wp2_with fail
  go_region
  go_wp2_with fail
  go_ret
  have hb : Below w.heap.size w (w.alloc (Obj.cells #[.pointer p, .int .i64 c] 67)).drew := ((Below.refl _ w).alloc (Nat.le_refl _) _).drew
  exact ⟨rfl, hb, by simp, by simp [go_sem], by simp [go_sem], by simp [go_sem], by simp [go_sem], by simp, hrep.below hb (fun _ h => h)⟩
end Go.Proofs.Ytibmhdfodmkahaa.Tu
