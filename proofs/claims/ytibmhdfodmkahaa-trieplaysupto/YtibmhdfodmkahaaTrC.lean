/- with: what it answers, case by case. -/
import Derived.Test.YtibmhdfodmkahaaTrB
import Derived.Test.YtibmhdfodmkahaaAsk4
namespace Go.Proofs.Ytibmhdfodmkahaa.Tri
open Go.ChangeShapes Go.WideShapes Go.ChangeAt Go.RowKit Go.Proofs.Ytibmhdfodmkahaa.PM Go.Proofs.Ytibmhdfodmkahaa.TrM Go.Proofs.Ytibmhdfodmkahaa.Ask
set_option linter.unusedVariables false

theorem Cells.bel {w w1 : World} {b : Nat} {a n v : Int} {h : Bool} {pl pr : Option Addr} (hc : Cells w b a n v h pl pr) (hb : Below w.heap.size w w1) (hlt : b < w.heap.size) : Cells w1 b a n v h pl pr :=
  hc.but (B := w.heap.size) (But.of hb) hlt (by omega)
theorem covers_is (a n b m : Int) (c : Bool) (hc : cov a n b m = c) (ha : 0 ≤ a) (ha2 : a < 4294967296) (hb : 0 ≤ b) (hb2 : b < 4294967296) (w : World) :
    Calls Try.prog 41 #[.agg #[.int .u32 a, .int .i64 n], .agg #[.int .u32 b, .int .i64 m]] w fun e w' => e = .returned (.bool c) ∧ Below w.heap.size w w' := by
  rw [← hc]; exact covers_any a n b m ha ha2 hb hb2 w
theorem regrown_bel {w w' : World} (h : ∃ p : Regrown, w' = Sort.grow (redrawn w p.d) p.os) : Below w.heap.size w w' := by
  obtain ⟨p, rfl⟩ := h; exact below_regrown _ _ _

theorem with_nil (bl : Nat) (w : World) :
    Calls Try.prog 31 #[.pointer none, .pointer (some ⟨bl, 0, none⟩)] w fun e w' => e = .returned (.tuple #[.pointer (some ⟨bl, 0, none⟩), .int .i64 0, .bool false]) ∧ w' = w := by
  go_enter Try.func31, Try.ntmps31
  go_wp2_with fail
  go_ret3
  exact ⟨rfl, rfl⟩

set_option maxHeartbeats 2000000 in
theorem with_eq (b bl : Nat) (a n u : Int) (h : Bool) (pl pr : Option Addr) (v : Int) (w : World) (hc : Cells w b a n u h pl pr) (hl : Cells w bl a n v true none none)
    (f4 : w.frozen? ⟨bl, 4, none⟩ = false) (f5 : w.frozen? ⟨bl, 5, none⟩ = false) (hb : b < w.heap.size) (hbl : bl < w.heap.size) (hne : ¬ b = bl) :
    Calls Try.prog 31 #[.pointer (some ⟨b, 0, none⟩), .pointer (some ⟨bl, 0, none⟩)] w fun e w' => e = .returned (.tuple #[.pointer (some ⟨bl, 0, none⟩), .int .i64 u, .bool h]) ∧ But bl w w' ∧ Cells w' bl a n v true pl pr := by
  obtain ⟨c0, c1, c2, c3, c4, c5⟩ := hc
  obtain ⟨d0, d1, d2, d3, d4, d5⟩ := hl
  go_enter Try.func31, Try.ntmps31
  go_wp2_with fail
  go_quiet (fail)
  go_wp2_with fail
  go_quiet (fail)
  go_wp2_with fail
  go_ret3
  exact ⟨rfl, ((((But.refl _ _).drewN _).setCell 4 _).setCell 5 _).drewN _, by refine ⟨?_, ?_, ?_, ?_, ?_, ?_⟩ <;> simp [go_sem, d0, d1, d2, d3, d4, d5]⟩

set_option maxHeartbeats 2000000 in
theorem with_down_l (b bl : Nat) (nb nm u : Int) (h : Bool) (pl pr : Option Addr) (a n v : Int) (w : World) (hc : Cells w b nb nm u h pl pr) (hl : Cells w bl a n v true none none)
    (hb : b < w.heap.size) (hbl : bl < w.heap.size) (hbb : b ≠ bl) (hne : (¬ nb = a) ∨ (nb = a ∧ ¬ nm = n)) (nb0 : 0 ≤ nb) (nb1 : nb < 4294967296) (nm0 : 0 ≤ nm) (nm1 : nm ≤ 32) (a0 : 0 ≤ a) (a1 : a < 4294967296) (n0 : 0 ≤ n) (n1 : n ≤ 32)
    (hcov : cov nb nm a n = true) (hs : sdI a nm = 0) (P : Nat → World → Prop) (old : Int) (had : Bool)
    (ih : ∀ w1, Below w.heap.size w w1 → Calls Try.prog 31 #[.pointer pl, .pointer (some ⟨bl, 0, none⟩)] w1 fun e w' => ∃ q, e = .returned (.tuple #[.pointer (some ⟨q, 0, none⟩), .int .i64 old, .bool had]) ∧ But bl w1 w' ∧ q < w'.heap.size ∧ (∃ x k v' h' ql qr, Cells w' q x k v' h' ql qr ∧ sdI x nm = 0 ∧ 0 ≤ x ∧ x < 4294967296) ∧ P q w') :
    Calls Try.prog 31 #[.pointer (some ⟨b, 0, none⟩), .pointer (some ⟨bl, 0, none⟩)] w fun e w' => ∃ q w2, e = .returned (.tuple #[.pointer (some ⟨w2.heap.size, 0, none⟩), .int .i64 old, .bool had]) ∧ But bl w w2 ∧ P q w2 ∧ Below w2.heap.size w2 w' ∧ w2.heap.size < w'.heap.size ∧ Cells w' w2.heap.size nb nm u h (some ⟨q, 0, none⟩) pr := by
  have HC : Hid (Cells w b nb nm u h pl pr) := hc
  have HL : Hid (Cells w bl a n v true none none) := hl
  obtain ⟨c0, c1, c2, c3, c4, c5⟩ := hc
  obtain ⟨d0, d1, d2, d3, d4, d5⟩ := hl
  have k0 := fun q => cell_regrown (w := w.drewN q) (a := ⟨b, 0, none⟩) c0
  have k1 := fun q => cell_regrown (w := w.drewN q) (a := ⟨b, 1, none⟩) c1
  have j0 := fun q => cell_regrown (w := w.drewN q) (a := ⟨bl, 0, none⟩) d0
  have j1 := fun q => cell_regrown (w := w.drewN q) (a := ⟨bl, 1, none⟩) d1
  have HV : Hid (cov nb nm a n = true) := hcov
  have HS : Hid (sdI a nm = 0) := hs
  have IH : Hid (∀ w1, _) := ih
  clear hcov hs ih
  rcases hne with hne | ⟨rfl, hne⟩
  all_goals
    go_enter Try.func31, Try.ntmps31
    go_wp2_with fail
    go_quiet (fail)
    go_wp2_with fail
    refine wp_region_quiet_below (by kernel_rfl) (by kernel_rfl) ?_
    repeat (go_big_quiet_step ((go_at_call 41; exact Calls.regrown_of (covers_is _ _ _ _ true HV.out (by assumption) (by assumption) (by assumption) (by assumption) _))))
    refine wpQuiet_nil ?_
    intro w1 hw'
    have hb1 : Below w.heap.size w w1 := (bel_q w nq).trans (regrown_bel hw')
    clear hw'
    have hs1 := hb1.size
    have HC1 : Hid (Cells w1 b _ nm u h pl pr) := HC.out.bel hb1 hb
    obtain ⟨e0, e1, e2, e3, e4, e5⟩ := HC1.out
    obtain ⟨g0, g1, g2, g3, g4, g5⟩ := HL.out.bel hb1 hbl
    go_wp2_with fail
    refine (toward_l b _ nm u h pl pr _ HS.out nm0 nm1 (by assumption) (by assumption) w1 HC1.out).mono ?_
    rintro e w2 ⟨rfl, q2, rfl⟩
    go_wp2_with fail
    refine (IH.out _ (hb1.trans ((bel_q w1 q2).mono hs1))).mono ?_
    rintro e w3 ⟨q, rfl, hbut, hq, ⟨x, k, v', h', ql, qr, hcq, hsx, hx0, hx1⟩, hP⟩
    have hbut1 : But bl w w3 := (But.of (hb1.trans ((bel_q w1 q2).mono hs1))).trans hbut
    have HC3 : Hid (Cells w3 b _ nm u h pl pr) := HC.out.but hbut1 hb hbb
    have hs3 := hbut1.size
    have HX : Hid (sdI x nm = 0) := hsx
    have HCQ : Hid (Cells w3 q x k v' h' ql qr) := hcq
    clear hsx hcq
    go_wp2_with fail
    refine (hang_l b _ nm u h pl pr q x k v' h' ql qr HX.out nm0 nm1 hx0 hx1 w3 HC3.out (by omega) HCQ.out hq).mono ?_
    rintro e w4 ⟨rfl, hb4, hs4, hc4⟩
    go_wp2_with fail
    go_ret3
    exact ⟨q, w3, rfl, hbut1, hP, hb4, hs4, hc4⟩

set_option maxHeartbeats 2000000 in
theorem with_up_l (b bl : Nat) (nb nm u : Int) (h : Bool) (pl pr : Option Addr) (a n v : Int) (w : World) (hc : Cells w b nb nm u h pl pr) (hl : Cells w bl a n v true none none)
    (hb : b < w.heap.size) (hbl : bl < w.heap.size) (hbb : b ≠ bl) (hne : (¬ nb = a) ∨ (nb = a ∧ ¬ nm = n)) (nb0 : 0 ≤ nb) (nb1 : nb < 4294967296) (nm0 : 0 ≤ nm) (nm1 : nm ≤ 32) (a0 : 0 ≤ a) (a1 : a < 4294967296) (n0 : 0 ≤ n) (n1 : n ≤ 32)
    (hcov : cov nb nm a n = false) (hcov2 : cov a n nb nm = true) (hs : sdI nb n = 0) :
    Calls Try.prog 31 #[.pointer (some ⟨b, 0, none⟩), .pointer (some ⟨bl, 0, none⟩)] w fun e w' => ∃ w2, e = .returned (.tuple #[.pointer (some ⟨w2.heap.size, 0, none⟩), .int .i64 0, .bool false]) ∧ Below w.heap.size w w2 ∧ Below w2.heap.size w2 w' ∧ w2.heap.size < w'.heap.size ∧ Cells w' w2.heap.size a n v true (some ⟨b, 0, none⟩) none := by
  have HC : Hid (Cells w b nb nm u h pl pr) := hc
  have HL : Hid (Cells w bl a n v true none none) := hl
  obtain ⟨c0, c1, c2, c3, c4, c5⟩ := hc
  obtain ⟨d0, d1, d2, d3, d4, d5⟩ := hl
  have k0 := fun q => cell_regrown (w := w.drewN q) (a := ⟨b, 0, none⟩) c0
  have k1 := fun q => cell_regrown (w := w.drewN q) (a := ⟨b, 1, none⟩) c1
  have j0 := fun q => cell_regrown (w := w.drewN q) (a := ⟨bl, 0, none⟩) d0
  have j1 := fun q => cell_regrown (w := w.drewN q) (a := ⟨bl, 1, none⟩) d1
  have HV : Hid (cov nb nm a n = false) := hcov
  have HV2 : Hid (cov a n nb nm = true) := hcov2
  have HS : Hid (sdI nb n = 0) := hs
  clear hcov hcov2 hs
  rcases hne with hne | ⟨rfl, hne⟩
  all_goals
    go_enter Try.func31, Try.ntmps31
    go_wp2_with fail
    go_quiet (fail)
    go_wp2_with fail
    refine wp_region_quiet_below (by kernel_rfl) (by kernel_rfl) ?_
    repeat (go_big_quiet_step ((go_at_call 41; exact Calls.regrown_of (covers_is _ _ _ _ false HV.out (by assumption) (by assumption) (by assumption) (by assumption) _))))
    refine wpQuiet_nil ?_
    intro w1 hw'
    have hb1 : Below w.heap.size w w1 := (bel_q w nq).trans (regrown_bel hw')
    clear hw'
    have hs1 := hb1.size
    obtain ⟨e0, e1, e2, e3, e4, e5⟩ := HC.out.bel hb1 hb
    obtain ⟨g0, g1, g2, g3, g4, g5⟩ := HL.out.bel hb1 hbl
    have m0 := cell_regrown e0
    have m1 := cell_regrown e1
    have m2 := cell_regrown g0
    have m3 := cell_regrown g1
    go_wp2_with fail
    refine wp_region_quiet_below (by kernel_rfl) (by kernel_rfl) ?_
    repeat (go_big_quiet_step ((go_at_call 41; exact Calls.regrown_of (covers_is _ _ _ _ true HV2.out (by assumption) (by assumption) (by assumption) (by assumption) _))))
    refine wpQuiet_nil ?_
    intro w2 hw'
    have hb2 : Below w1.heap.size w1 w2 := regrown_bel hw'
    clear hw'
    have hbw2 : Below w.heap.size w w2 := hb1.trans (hb2.mono hs1)
    have hs2 := hb2.size
    have HC2 := HC.out.bel hbw2 hb
    have HL2 := HL.out.bel hbw2 hbl
    have HC2 : Hid _ := HC2
    have HL2 : Hid _ := HL2
    go_wp2_with fail
    refine (hang_l bl _ n v true none none b _ nm u h pl pr HS.out n0 n1 (by assumption) (by assumption) w2 HL2.out (by omega) HC2.out (by omega)).mono ?_
    rintro e w4 ⟨rfl, hb4, hs4, hc4⟩
    go_wp2_with fail
    go_ret3
    exact ⟨w2, rfl, hbw2, hb4, hs4, hc4⟩

set_option maxHeartbeats 2000000 in
theorem with_down_r (b bl : Nat) (nb nm u : Int) (h : Bool) (pl pr : Option Addr) (a n v : Int) (w : World) (hc : Cells w b nb nm u h pl pr) (hl : Cells w bl a n v true none none)
    (hb : b < w.heap.size) (hbl : bl < w.heap.size) (hbb : b ≠ bl) (hne : (¬ nb = a) ∨ (nb = a ∧ ¬ nm = n)) (nb0 : 0 ≤ nb) (nb1 : nb < 4294967296) (nm0 : 0 ≤ nm) (nm1 : nm ≤ 32) (a0 : 0 ≤ a) (a1 : a < 4294967296) (n0 : 0 ≤ n) (n1 : n ≤ 32)
    (hcov : cov nb nm a n = true) (hs : sdI a nm = 1) (P : Nat → World → Prop) (old : Int) (had : Bool)
    (ih : ∀ w1, Below w.heap.size w w1 → Calls Try.prog 31 #[.pointer pr, .pointer (some ⟨bl, 0, none⟩)] w1 fun e w' => ∃ q, e = .returned (.tuple #[.pointer (some ⟨q, 0, none⟩), .int .i64 old, .bool had]) ∧ But bl w1 w' ∧ q < w'.heap.size ∧ (∃ x k v' h' ql qr, Cells w' q x k v' h' ql qr ∧ sdI x nm = 1 ∧ 0 ≤ x ∧ x < 4294967296) ∧ P q w') :
    Calls Try.prog 31 #[.pointer (some ⟨b, 0, none⟩), .pointer (some ⟨bl, 0, none⟩)] w fun e w' => ∃ q w2, e = .returned (.tuple #[.pointer (some ⟨w2.heap.size, 0, none⟩), .int .i64 old, .bool had]) ∧ But bl w w2 ∧ P q w2 ∧ Below w2.heap.size w2 w' ∧ w2.heap.size < w'.heap.size ∧ Cells w' w2.heap.size nb nm u h pl (some ⟨q, 0, none⟩) := by
  have HC : Hid (Cells w b nb nm u h pl pr) := hc
  have HL : Hid (Cells w bl a n v true none none) := hl
  obtain ⟨c0, c1, c2, c3, c4, c5⟩ := hc
  obtain ⟨d0, d1, d2, d3, d4, d5⟩ := hl
  have k0 := fun q => cell_regrown (w := w.drewN q) (a := ⟨b, 0, none⟩) c0
  have k1 := fun q => cell_regrown (w := w.drewN q) (a := ⟨b, 1, none⟩) c1
  have j0 := fun q => cell_regrown (w := w.drewN q) (a := ⟨bl, 0, none⟩) d0
  have j1 := fun q => cell_regrown (w := w.drewN q) (a := ⟨bl, 1, none⟩) d1
  have HV : Hid (cov nb nm a n = true) := hcov
  have HS : Hid (sdI a nm = 1) := hs
  have IH : Hid (∀ w1, _) := ih
  clear hcov hs ih
  rcases hne with hne | ⟨rfl, hne⟩
  all_goals
    go_enter Try.func31, Try.ntmps31
    go_wp2_with fail
    go_quiet (fail)
    go_wp2_with fail
    refine wp_region_quiet_below (by kernel_rfl) (by kernel_rfl) ?_
    repeat (go_big_quiet_step ((go_at_call 41; exact Calls.regrown_of (covers_is _ _ _ _ true HV.out (by assumption) (by assumption) (by assumption) (by assumption) _))))
    refine wpQuiet_nil ?_
    intro w1 hw'
    have hb1 : Below w.heap.size w w1 := (bel_q w nq).trans (regrown_bel hw')
    clear hw'
    have hs1 := hb1.size
    have HC1 : Hid (Cells w1 b _ nm u h pl pr) := HC.out.bel hb1 hb
    obtain ⟨e0, e1, e2, e3, e4, e5⟩ := HC1.out
    obtain ⟨g0, g1, g2, g3, g4, g5⟩ := HL.out.bel hb1 hbl
    go_wp2_with fail
    refine (toward_r b _ nm u h pl pr _ HS.out nm0 nm1 (by assumption) (by assumption) w1 HC1.out).mono ?_
    rintro e w2 ⟨rfl, q2, rfl⟩
    go_wp2_with fail
    refine (IH.out _ (hb1.trans ((bel_q w1 q2).mono hs1))).mono ?_
    rintro e w3 ⟨q, rfl, hbut, hq, ⟨x, k, v', h', ql, qr, hcq, hsx, hx0, hx1⟩, hP⟩
    have hbut1 : But bl w w3 := (But.of (hb1.trans ((bel_q w1 q2).mono hs1))).trans hbut
    have HC3 : Hid (Cells w3 b _ nm u h pl pr) := HC.out.but hbut1 hb hbb
    have hs3 := hbut1.size
    have HX : Hid (sdI x nm = 1) := hsx
    have HCQ : Hid (Cells w3 q x k v' h' ql qr) := hcq
    clear hsx hcq
    go_wp2_with fail
    refine (hang_r b _ nm u h pl pr q x k v' h' ql qr HX.out nm0 nm1 hx0 hx1 w3 HC3.out (by omega) HCQ.out hq).mono ?_
    rintro e w4 ⟨rfl, hb4, hs4, hc4⟩
    go_wp2_with fail
    go_ret3
    exact ⟨q, w3, rfl, hbut1, hP, hb4, hs4, hc4⟩

set_option maxHeartbeats 2000000 in
theorem with_up_r (b bl : Nat) (nb nm u : Int) (h : Bool) (pl pr : Option Addr) (a n v : Int) (w : World) (hc : Cells w b nb nm u h pl pr) (hl : Cells w bl a n v true none none)
    (hb : b < w.heap.size) (hbl : bl < w.heap.size) (hbb : b ≠ bl) (hne : (¬ nb = a) ∨ (nb = a ∧ ¬ nm = n)) (nb0 : 0 ≤ nb) (nb1 : nb < 4294967296) (nm0 : 0 ≤ nm) (nm1 : nm ≤ 32) (a0 : 0 ≤ a) (a1 : a < 4294967296) (n0 : 0 ≤ n) (n1 : n ≤ 32)
    (hcov : cov nb nm a n = false) (hcov2 : cov a n nb nm = true) (hs : sdI nb n = 1) :
    Calls Try.prog 31 #[.pointer (some ⟨b, 0, none⟩), .pointer (some ⟨bl, 0, none⟩)] w fun e w' => ∃ w2, e = .returned (.tuple #[.pointer (some ⟨w2.heap.size, 0, none⟩), .int .i64 0, .bool false]) ∧ Below w.heap.size w w2 ∧ Below w2.heap.size w2 w' ∧ w2.heap.size < w'.heap.size ∧ Cells w' w2.heap.size a n v true none (some ⟨b, 0, none⟩) := by
  have HC : Hid (Cells w b nb nm u h pl pr) := hc
  have HL : Hid (Cells w bl a n v true none none) := hl
  obtain ⟨c0, c1, c2, c3, c4, c5⟩ := hc
  obtain ⟨d0, d1, d2, d3, d4, d5⟩ := hl
  have k0 := fun q => cell_regrown (w := w.drewN q) (a := ⟨b, 0, none⟩) c0
  have k1 := fun q => cell_regrown (w := w.drewN q) (a := ⟨b, 1, none⟩) c1
  have j0 := fun q => cell_regrown (w := w.drewN q) (a := ⟨bl, 0, none⟩) d0
  have j1 := fun q => cell_regrown (w := w.drewN q) (a := ⟨bl, 1, none⟩) d1
  have HV : Hid (cov nb nm a n = false) := hcov
  have HV2 : Hid (cov a n nb nm = true) := hcov2
  have HS : Hid (sdI nb n = 1) := hs
  clear hcov hcov2 hs
  rcases hne with hne | ⟨rfl, hne⟩
  all_goals
    go_enter Try.func31, Try.ntmps31
    go_wp2_with fail
    go_quiet (fail)
    go_wp2_with fail
    refine wp_region_quiet_below (by kernel_rfl) (by kernel_rfl) ?_
    repeat (go_big_quiet_step ((go_at_call 41; exact Calls.regrown_of (covers_is _ _ _ _ false HV.out (by assumption) (by assumption) (by assumption) (by assumption) _))))
    refine wpQuiet_nil ?_
    intro w1 hw'
    have hb1 : Below w.heap.size w w1 := (bel_q w nq).trans (regrown_bel hw')
    clear hw'
    have hs1 := hb1.size
    obtain ⟨e0, e1, e2, e3, e4, e5⟩ := HC.out.bel hb1 hb
    obtain ⟨g0, g1, g2, g3, g4, g5⟩ := HL.out.bel hb1 hbl
    have m0 := cell_regrown e0
    have m1 := cell_regrown e1
    have m2 := cell_regrown g0
    have m3 := cell_regrown g1
    go_wp2_with fail
    refine wp_region_quiet_below (by kernel_rfl) (by kernel_rfl) ?_
    repeat (go_big_quiet_step ((go_at_call 41; exact Calls.regrown_of (covers_is _ _ _ _ true HV2.out (by assumption) (by assumption) (by assumption) (by assumption) _))))
    refine wpQuiet_nil ?_
    intro w2 hw'
    have hb2 : Below w1.heap.size w1 w2 := regrown_bel hw'
    clear hw'
    have hbw2 : Below w.heap.size w w2 := hb1.trans (hb2.mono hs1)
    have hs2 := hb2.size
    have HC2 := HC.out.bel hbw2 hb
    have HL2 := HL.out.bel hbw2 hbl
    have HC2 : Hid _ := HC2
    have HL2 : Hid _ := HL2
    go_wp2_with fail
    refine (hang_r bl _ n v true none none b _ nm u h pl pr HS.out n0 n1 (by assumption) (by assumption) w2 HL2.out (by omega) HC2.out (by omega)).mono ?_
    rintro e w4 ⟨rfl, hb4, hs4, hc4⟩
    go_wp2_with fail
    go_ret3
    exact ⟨w2, rfl, hbw2, hb4, hs4, hc4⟩

end Go.Proofs.Ytibmhdfodmkahaa.Tri
