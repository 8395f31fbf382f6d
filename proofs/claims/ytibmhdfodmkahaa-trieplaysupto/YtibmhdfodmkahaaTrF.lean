/- without: what it answers, case by case. -/
import Derived.Test.YtibmhdfodmkahaaTrE
namespace Go.Proofs.Ytibmhdfodmkahaa.Tri
open Go.ChangeShapes Go.WideShapes Go.ChangeAt Go.RowKit Go.Proofs.Ytibmhdfodmkahaa.PM Go.Proofs.Ytibmhdfodmkahaa.TrM Go.Proofs.Ytibmhdfodmkahaa.Ask
set_option linter.unusedVariables false

/-- a prefix's box -/
def Box (w : World) (b : Nat) (a n : Int) : Prop := w.cell? ⟨b, 0, none⟩ = some (.int .u32 a) ∧ w.cell? ⟨b, 1, none⟩ = some (.int .i64 n)
theorem Box.bel {w w1 : World} {b : Nat} {a n : Int} (h : Box w b a n) (hb : Below w.heap.size w w1) (hlt : b < w.heap.size) : Box w1 b a n := by
  have hw : But w.heap.size w w1 := But.of hb
  exact ⟨by rw [hw.cell 0 hlt (by omega), h.1], by rw [hw.cell 1 hlt (by omega), h.2]⟩
theorem boxed (w : World) (a n : Int) (t : Nat) : Below w.heap.size w (w.alloc (Obj.cells #[.int .u32 a, .int .i64 n] t)) ∧ (w.alloc (Obj.cells #[.int .u32 a, .int .i64 n] t)).heap.size = w.heap.size + 1 ∧ Box (w.alloc (Obj.cells #[.int .u32 a, .int .i64 n] t)) w.heap.size a n :=
  ⟨(Below.refl _ _).alloc (Nat.le_refl _) _, by simp, by simp, by simp⟩

theorem bel_drew {k : Nat} {w w' : World} (h : Below k w w') (q : Nat) : Below k w (w'.drewN q) := ⟨h.os, h.tape, h.output, h.size, h.block⟩
theorem Rep.drew {ok : Nat → Prop} {w : World} {t : Tr} {p : Option Addr} (h : Rep ok w t p) (q : Nat) : Rep ok (w.drewN q) t p := h.below (bel_q w q) (fun _ h => h)

theorem noded (w : World) (a n v : Int) (h : Bool) (pl pr : Option Addr) (t : Nat) : Below w.heap.size w (w.alloc (Obj.cells #[.int .u32 a, .int .i64 n, .int .i64 v, .bool h, .pointer pl, .pointer pr] t)) ∧ (w.alloc (Obj.cells #[.int .u32 a, .int .i64 n, .int .i64 v, .bool h, .pointer pl, .pointer pr] t)).heap.size = w.heap.size + 1 ∧ Cells (w.alloc (Obj.cells #[.int .u32 a, .int .i64 n, .int .i64 v, .bool h, .pointer pl, .pointer pr] t)) w.heap.size a n v h pl pr :=
  ⟨(Below.refl _ _).alloc (Nat.le_refl _) _, by simp, by refine ⟨?_, ?_, ?_, ?_, ?_, ?_⟩ <;> simp⟩

/-- slim, at a node that is in memory: the answer is laid ahead of the call -/
theorem slim_any (ok : Nat → Prop) (b : Nat) (a n v : Int) (h : Bool) (pl pr : Option Addr) (l r : Tr) (w : World) (hc : Cells w b a n v h pl pr) (hb : b < w.heap.size) (hok : ok b) (h0 : 0 ≤ a ∧ a < 4294967296 ∧ 0 ≤ n ∧ n ≤ 32) (hl : Rep ok w l pl) (hr : Rep ok w r pr) :
    ∃ q, Rep ok w (slim (.node a n v h l r)) q ∧ ∀ k, Calls Try.prog 46 #[.pointer (some ⟨b, 0, none⟩)] (w.drewN k) fun e w' => e = .returned (.pointer q) ∧ ∃ j, w' = (w.drewN k).drewN j := by
  have hk : ∀ k, Cells (w.drewN k) b a n v h pl pr := fun k => hc.bel (bel_q w k) hb
  have hkeep : (h = true ∨ (isNil l = false ∧ isNil r = false)) → (h = true ∨ (pl ≠ none ∧ pr ≠ none)) → ∃ q, Rep ok w (slim (.node a n v h l r)) q ∧ ∀ k, Calls Try.prog 46 #[.pointer (some ⟨b, 0, none⟩)] (w.drewN k) fun e w' => e = .returned (.pointer q) ∧ ∃ j, w' = (w.drewN k).drewN j := by
    intro hk1 hk2
    refine ⟨_, ?_, fun k => slim_keep b a n v h pl pr hk2 _ (hk k)⟩
    rw [slim_eq, if_pos hk1]
    exact ⟨h0, b, pl, pr, rfl, hb, hok, hc, hl, hr⟩
  cases h with
  | true => exact hkeep (.inl rfl) (.inl rfl)
  | false =>
    cases l with
    | nil =>
      obtain rfl : pl = none := hl
      refine ⟨_, ?_, fun k => slim_right b a n v pr _ (hk k)⟩
      rw [slim_eq, if_neg (by simp [isNil]), if_neg (by simp [isNil])]
      exact hr
    | node x k v' h' l' r' =>
      have hl0 := hl
      obtain ⟨_, b1, _, _, rfl, _⟩ := hl
      cases r with
      | nil =>
        obtain rfl : pr = none := hr
        refine ⟨_, ?_, fun k => slim_left b a n v _ _ (hk k)⟩
        rw [slim_eq, if_neg (by simp [isNil]), if_pos (by rfl)]
        exact hl0
      | node x2 k2 v2 h2 l2 r2 =>
        have hr0 := hr
        obtain ⟨_, b2, _, _, rfl, _⟩ := hr
        exact hkeep (.inr ⟨rfl, rfl⟩) (.inr ⟨ptr_ne _ _, ptr_ne _ _⟩)

theorem without_nil (a n : Int) (w : World) :
    Calls Try.prog 35 #[.pointer none, .agg #[.int .u32 a, .int .i64 n]] w fun e w' => e = .returned (.tuple #[.pointer none, .int .i64 0, .bool false]) ∧ Below w.heap.size w w' := by
  go_enter Try.func35, Try.ntmps35
  go_wp2_with fail
  go_quiet (fail)
  go_wp2_with fail
  go_ret3
  exact ⟨rfl, bel_drew (boxed w a n _).1 _⟩

set_option maxHeartbeats 1000000 in
theorem without_no (b : Nat) (nb nm u : Int) (h : Bool) (pl pr : Option Addr) (a n : Int) (w : World) (hc : Cells w b nb nm u h pl pr)
    (hb : b < w.heap.size) (nb0 : 0 ≤ nb) (nb1 : nb < 4294967296) (a0 : 0 ≤ a) (a1 : a < 4294967296)
    (hcov : cov nb nm a n = false) :
    Calls Try.prog 35 #[.pointer (some ⟨b, 0, none⟩), .agg #[.int .u32 a, .int .i64 n]] w fun e w' => e = .returned (.tuple #[.pointer (some ⟨b, 0, none⟩), .int .i64 0, .bool false]) ∧ Below w.heap.size w w' := by
  have HC : Hid (Cells w b nb nm u h pl pr) := hc
  have HV : Hid (cov nb nm a n = false) := hcov
  obtain ⟨hbA, hsA, hbx⟩ := boxed w a n 33
  have HBX : Hid (Box _ _ a n) := hbx
  clear hcov hc hbx
  go_enter Try.func35, Try.ntmps35
  go_wp2_with fail
  generalize w.alloc (Obj.cells #[.int .u32 a, .int .i64 n] 33) = wA at *
  obtain ⟨c0, c1, c2, c3, c4, c5⟩ := HC.out.bel hbA hb
  obtain ⟨x0, x1⟩ := HBX.out
  have k0 := cell_regrown c0
  have k1 := cell_regrown c1
  have k2 := cell_regrown x0
  have k3 := cell_regrown x1
  refine wp_region_quiet_below (by kernel_rfl) (by kernel_rfl) ?_
  repeat (go_big_quiet_step ((go_at_call 41; exact Calls.regrown_of (covers_is _ _ _ _ false HV.out (by assumption) (by assumption) (by assumption) (by assumption) _))))
  refine wpQuiet_nil ?_
  intro w1 hw'
  have hbA1 : Below wA.heap.size wA w1 := regrown_bel hw'
  have hb1 : Below w.heap.size w w1 := hbA.trans (hbA1.mono hbA.size)
  clear hw' k0 k1 k2 k3 c0 c1 c2 c3 c4 c5 x0 x1
  have HC1 : Hid (Cells w1 b nb nm u h pl pr) := HC.out.bel hb1 hb
  have HBX1 : Hid (Box w1 w.heap.size a n) := HBX.out.bel hbA1 (by omega)
  have hs1 : w.heap.size < w1.heap.size := by have := hbA1.size; omega
  clear HC HBX hbA hsA hbA1
  go_wp2_with fail
  go_ret3
  exact ⟨rfl, hb1⟩

set_option maxHeartbeats 1000000 in
theorem without_bare (b : Nat) (nb nm u : Int) (h : Bool) (pl pr : Option Addr) (a n : Int) (w : World) (hc : Cells w b nb nm u h pl pr)
    (hb : b < w.heap.size) (nb0 : 0 ≤ nb) (nb1 : nb < 4294967296) (a0 : 0 ≤ a) (a1 : a < 4294967296)
    (hcov : cov nb nm a n = true) (he : nb = a ∧ nm = n) (hh : h = false) :
    Calls Try.prog 35 #[.pointer (some ⟨b, 0, none⟩), .agg #[.int .u32 a, .int .i64 n]] w fun e w' => e = .returned (.tuple #[.pointer (some ⟨b, 0, none⟩), .int .i64 0, .bool false]) ∧ Below w.heap.size w w' := by
  obtain ⟨rfl, rfl⟩ := he
  subst hh
  have HC : Hid (Cells w b nb nm u false pl pr) := hc
  have HV : Hid (cov nb nm nb nm = true) := hcov
  obtain ⟨hbA, hsA, hbx⟩ := boxed w nb nm 33
  have HBX : Hid (Box _ _ nb nm) := hbx
  clear hcov hc hbx
  go_enter Try.func35, Try.ntmps35
  go_wp2_with fail
  generalize w.alloc (Obj.cells #[.int .u32 nb, .int .i64 nm] 33) = wA at *
  obtain ⟨c0, c1, c2, c3, c4, c5⟩ := HC.out.bel hbA hb
  obtain ⟨x0, x1⟩ := HBX.out
  have k0 := cell_regrown c0
  have k1 := cell_regrown c1
  have k2 := cell_regrown x0
  have k3 := cell_regrown x1
  refine wp_region_quiet_below (by kernel_rfl) (by kernel_rfl) ?_
  repeat (go_big_quiet_step ((go_at_call 41; exact Calls.regrown_of (covers_is _ _ _ _ true HV.out (by assumption) (by assumption) (by assumption) (by assumption) _))))
  refine wpQuiet_nil ?_
  intro w1 hw'
  have hbA1 : Below wA.heap.size wA w1 := regrown_bel hw'
  have hb1 : Below w.heap.size w w1 := hbA.trans (hbA1.mono hbA.size)
  clear hw' k0 k1 k2 k3 c0 c1 c2 c3 c4 c5 x0 x1
  have HC1 : Hid (Cells w1 b nb nm u false pl pr) := HC.out.bel hb1 hb
  have HBX1 : Hid (Box w1 w.heap.size nb nm) := HBX.out.bel hbA1 (by omega)
  have hs1 : w.heap.size < w1.heap.size := by have := hbA1.size; omega
  clear HC HBX hbA hsA hbA1
  obtain ⟨c0, c1, c2, c3, c4, c5⟩ := HC1.out
  obtain ⟨x0, x1⟩ := HBX1.out
  go_wp2_with fail
  go_quiet (fail)
  go_wp2_with fail
  go_quiet (fail)
  go_wp2_with fail
  go_ret3
  exact ⟨rfl, bel_drew (bel_drew hb1 _) _⟩

set_option maxHeartbeats 1000000 in
theorem without_take (b : Nat) (nb nm u : Int) (h : Bool) (pl pr : Option Addr) (a n : Int) (w : World) (hc : Cells w b nb nm u h pl pr)
    (hb : b < w.heap.size) (nb0 : 0 ≤ nb) (nb1 : nb < 4294967296) (a0 : 0 ≤ a) (a1 : a < 4294967296)
    (hcov : cov nb nm a n = true) (he : nb = a ∧ nm = n) (hh : h = true) (nm0 : 0 ≤ nm) (nm1 : nm ≤ 32) (ok : Nat → Prop) (l r : Tr) (hl : Rep ok w l pl) (hr : Rep ok w r pr) (hnew : ∀ b, w.heap.size ≤ b → ok b) :
    Calls Try.prog 35 #[.pointer (some ⟨b, 0, none⟩), .agg #[.int .u32 a, .int .i64 n]] w fun e w' => ∃ q, e = .returned (.tuple #[.pointer q, .int .i64 u, .bool true]) ∧ Below w.heap.size w w' ∧ Rep ok w' (slim (.node nb nm 0 false l r)) q := by
  obtain ⟨rfl, rfl⟩ := he
  subst hh
  have HC : Hid (Cells w b nb nm u true pl pr) := hc
  have HV : Hid (cov nb nm nb nm = true) := hcov
  obtain ⟨hbA, hsA, hbx⟩ := boxed w nb nm 33
  have HBX : Hid (Box _ _ nb nm) := hbx
  clear hcov hc hbx
  go_enter Try.func35, Try.ntmps35
  go_wp2_with fail
  generalize w.alloc (Obj.cells #[.int .u32 nb, .int .i64 nm] 33) = wA at *
  obtain ⟨c0, c1, c2, c3, c4, c5⟩ := HC.out.bel hbA hb
  obtain ⟨x0, x1⟩ := HBX.out
  have k0 := cell_regrown c0
  have k1 := cell_regrown c1
  have k2 := cell_regrown x0
  have k3 := cell_regrown x1
  refine wp_region_quiet_below (by kernel_rfl) (by kernel_rfl) ?_
  repeat (go_big_quiet_step ((go_at_call 41; exact Calls.regrown_of (covers_is _ _ _ _ true HV.out (by assumption) (by assumption) (by assumption) (by assumption) _))))
  refine wpQuiet_nil ?_
  intro w1 hw'
  have hbA1 : Below wA.heap.size wA w1 := regrown_bel hw'
  have hb1 : Below w.heap.size w w1 := hbA.trans (hbA1.mono hbA.size)
  clear hw' k0 k1 k2 k3 c0 c1 c2 c3 c4 c5 x0 x1
  have HC1 : Hid (Cells w1 b nb nm u true pl pr) := HC.out.bel hb1 hb
  have HBX1 : Hid (Box w1 w.heap.size nb nm) := HBX.out.bel hbA1 (by omega)
  have hs1 : w.heap.size < w1.heap.size := by have := hbA1.size; omega
  clear HC HBX hbA hsA hbA1
  have HL : Hid (Rep ok w1 l pl) := hl.below hb1 (fun _ h => h)
  have HR : Hid (Rep ok w1 r pr) := hr.below hb1 (fun _ h => h)
  clear hl hr
  obtain ⟨c0, c1, c2, c3, c4, c5⟩ := HC1.out
  obtain ⟨x0, x1⟩ := HBX1.out
  go_wp2_with fail
  go_quiet (fail)
  go_wp2_with fail
  go_region_with (fail)
  all_goals
    obtain ⟨hbN, hsN, hcN⟩ := noded (w1.drewN (nq + 1)) nb nm 0 false pl pr 71
    generalize (w1.drewN (nq + 1)).alloc (Obj.cells #[.int .u32 nb, .int .i64 nm, .int .i64 0, .bool false, .pointer pl, .pointer pr] 71) = w2 at *
    replace hsN : w2.heap.size = w1.heap.size + 1 := hsN
    replace hcN : Cells w2 w1.heap.size nb nm 0 false pl pr := hcN
    have hb12 : Below w1.heap.size w1 w2 := (bel_q w1 _).trans hbN
    have hb2 : Below w.heap.size w w2 := hb1.trans (hb12.mono hb1.size)
    have HC2 : Hid (Cells w2 b nb nm u true pl pr) := HC1.out.bel hb12 (by omega)
    obtain ⟨q, hq, hcall⟩ := slim_any ok w1.heap.size nb nm 0 false pl pr l r w2 hcN (by omega) (hnew _ (by omega)) ⟨nb0, nb1, nm0, nm1⟩ (HL.out.below hb12 (fun _ h => h)) (HR.out.below hb12 (fun _ h => h))
    have HQ : Hid (Rep ok w2 _ q) := hq
    have HK : Hid (∀ k, _) := hcall
    clear hq hcall hcN hbN hb12 c0 c1 c2 c3 c4 c5 x0 x1
    obtain ⟨c0, c1, c2, c3, c4, c5⟩ := HC2.out
    go_wp2_with fail
    go_quiet ((go_at_call 46; exact Calls.quiet_of (HK.out _)))
    go_wp2_with fail
    go_ret3
    exact ⟨q, rfl, bel_drew hb2 _, HQ.out.drew _⟩

end Go.Proofs.Ytibmhdfodmkahaa.Tri
