/- with, where the ways part. -/
import Derived.Test.YtibmhdfodmkahaaTrC
import Derived.Deep.RegionWith
import Derived.Deep.DrawnRows
namespace Go.Proofs.Ytibmhdfodmkahaa.Tri
open Go.ChangeShapes Go.WideShapes Go.ChangeAt Go.RowKit Go.Proofs.Ytibmhdfodmkahaa.PM Go.Proofs.Ytibmhdfodmkahaa.TrM Go.Proofs.Ytibmhdfodmkahaa.Ask
set_option linter.unusedVariables false
attribute [local go_sem ↓] Go.wp_at_zero Go.wp_at_succ

set_option maxHeartbeats 1000000 in
theorem with_fork_l (b bl : Nat) (nb nm u : Int) (h : Bool) (pl pr : Option Addr) (a n v : Int) (w : World) (hc : Cells w b nb nm u h pl pr) (hl : Cells w bl a n v true none none)
    (hb : b < w.heap.size) (hbl : bl < w.heap.size) (hbb : b ≠ bl) (hne : (¬ nb = a) ∨ (nb = a ∧ ¬ nm = n)) (nb0 : 0 ≤ nb) (nb1 : nb < 4294967296) (nm0 : 0 ≤ nm) (nm1 : nm ≤ 32) (a0 : 0 ≤ a) (a1 : a < 4294967296) (n0 : 0 ≤ n) (n1 : n ≤ 32)
    (hcov : cov nb nm a n = false) (hcov2 : cov a n nb nm = false) (f k : Int) (hf : shA nb a = f) (hk : shN nb a = k) (k0' : 0 ≤ k) (k1' : k ≤ 32) (hs : sdI nb k = 0) (hs2 : sdI a k = 1) :
    Calls Try.prog 31 #[.pointer (some ⟨b, 0, none⟩), .pointer (some ⟨bl, 0, none⟩)] w fun e w' => ∃ w2, e = .returned (.tuple #[.pointer (some ⟨w2.heap.size, 0, none⟩), .int .i64 0, .bool false]) ∧ Below w.heap.size w w2 ∧ Below w2.heap.size w2 w' ∧ w2.heap.size < w'.heap.size ∧ Cells w' w2.heap.size f k 0 false (some ⟨b, 0, none⟩) (some ⟨bl, 0, none⟩) := by
  have HC : Hid (Cells w b nb nm u h pl pr) := hc
  have HL : Hid (Cells w bl a n v true none none) := hl
  obtain ⟨c0, c1, c2, c3, c4, c5⟩ := hc
  obtain ⟨d0, d1, d2, d3, d4, d5⟩ := hl
  have k0 := fun q => cell_regrown (w := w.drewN q) (a := ⟨b, 0, none⟩) c0
  have k1 := fun q => cell_regrown (w := w.drewN q) (a := ⟨b, 1, none⟩) c1
  have j0 := fun q => cell_regrown (w := w.drewN q) (a := ⟨bl, 0, none⟩) d0
  have j1 := fun q => cell_regrown (w := w.drewN q) (a := ⟨bl, 1, none⟩) d1
  have HV : Hid (cov nb nm a n = false) := hcov
  have HV2 : Hid (cov a n nb nm = false) := hcov2
  have HS : Hid (sdI nb k = 0) := hs
  have HS2 : Hid (sdI a k = 1) := hs2
  have HF : Hid (∀ w : World, Calls Try.prog 44 #[.agg #[.int .u32 nb, .int .i64 nm], .agg #[.int .u32 a, .int .i64 n]] w fun e w' => e = .returned (.agg #[.int .u32 f, .int .i64 k]) ∧ Below w.heap.size w w') := by
    intro w
    have := shared_any nb nm a n nb0 nb1 a0 a1 w
    rwa [hf, hk] at this
  clear hcov hcov2 hs hs2 hf hk
  rcases hne with hne | ⟨rfl, hne⟩
  all_goals
    go_enter Try.func31, Try.ntmps31
    go_wp2_with fail
    go_quiet (fail)
    go_wp2_with fail
    refine wp_region_quiet_below (by kernel_rfl) (by kernel_rfl) ?_
    repeat (go_big_quiet_step ((go_at_call 41; exact Calls.regrown_of (covers_is _ _ _ _ false HV.out (by assumption) (by assumption) (by assumption) (by assumption) _))))
    refine wpQuiet_nil ?_
    intro w1 hw'
    have hb1 : Below w.heap.size w w1 := (bel_q w nq).trans (regrown_bel hw')
    clear hw'
    have hs1 := hb1.size
    obtain ⟨e0, e1, e2, e3, e4, e5⟩ := HC.out.bel hb1 hb
    obtain ⟨g0, g1, g2, g3, g4, g5⟩ := HL.out.bel hb1 hbl
    have m0 := cell_regrown e0
    have m1 := cell_regrown e1
    have m2 := cell_regrown g0
    have m3 := cell_regrown g1
    go_wp2_with fail
    refine wp_region_quiet_below (by kernel_rfl) (by kernel_rfl) ?_
    repeat (go_big_quiet_step ((go_at_call 41; exact Calls.regrown_of (covers_is _ _ _ _ false HV2.out (by assumption) (by assumption) (by assumption) (by assumption) _))))
    refine wpQuiet_nil ?_
    intro w2 hw'
    have hb2 : Below w1.heap.size w1 w2 := regrown_bel hw'
    clear hw'
    have hbw2 : Below w.heap.size w w2 := hb1.trans (hb2.mono hs1)
    have hs2 := hb2.size
    have hsw2 : w.heap.size ≤ w2.heap.size := hbw2.size
    obtain ⟨p0, p1, p2, p3, p4, p5⟩ := HC.out.bel hbw2 hb
    obtain ⟨q0, q1, q2, q3, q4, q5⟩ := HL.out.bel hbw2 hbl
    clear m0 m1 m2 m3 e0 e1 e2 e3 e4 e5 g0 g1 g2 g3 g4 g5 k0 k1 j0 j1 c0 c1 c2 c3 c4 c5 d0 d1 d2 d3 d4 d5
    go_wp2_with fail
    go_region_with ((go_at_call 44; refine (HF.out _).mono ?_; rintro e w3 ⟨rfl, hb3⟩))
    all_goals
      have hb3' : Below w2.heap.size w2 w3 := (Below.refl _ _).drew.trans hb3
      clear hb3
      have hs3 := hb3'.size
      have hbw3 : Below w.heap.size w w3 := hbw2.trans (hb3'.mono hsw2)
      have hbW : Below w.heap.size w (w3.alloc (.cells #[.int .u32 f, .int .i64 k, .int .i64 0, .bool false, .pointer none, .pointer none] 71)) := hbw3.alloc (by omega) _
      have HCW : Hid (Cells _ b _ nm u h pl pr) := HC.out.bel hbW hb
      have HLW : Hid (Cells _ bl _ n v true none none) := HL.out.bel hbW hbl
      go_wp2_with fail
      refine (hang_l w3.heap.size f k 0 false none none b _ nm u h pl pr HS.out k0' k1' (by assumption) (by assumption) _ (by refine ⟨?_, ?_, ?_, ?_, ?_, ?_⟩ <;> simp) (by simp) HCW.out (by simp; omega)).mono ?_
      rintro e w4 ⟨rfl, hb4, hs4, hc4⟩
      have hW : (w3.alloc (.cells #[.int .u32 f, .int .i64 k, .int .i64 0, .bool false, .pointer none, .pointer none] 71)).heap.size = w3.heap.size + 1 := by simp
      rw [hW] at hc4 hs4
      clear hW
      have HC4 : Hid (Cells w4 (w3.heap.size + 1) f k 0 false _ _) := hc4
      have HL4 : Hid (Cells _ bl _ n v true none none) := HLW.out.bel hb4 (by simp; omega)
      have hs4' := hb4.size
      simp at hs4'
      clear hc4
      go_wp2_with fail
      refine (hang_r (w3.heap.size + 1) f k 0 false (some ⟨b, 0, none⟩) none bl _ n v true none none HS2.out k0' k1' (by assumption) (by assumption) w4 HC4.out hs4 HL4.out (by omega)).mono ?_
      rintro e w5 ⟨rfl, hb5, hs5, hc5⟩
      go_wp2_with fail
      go_ret3
      exact ⟨w4, rfl, hbW.trans (hb4.mono (by simp; omega)), hb5, hs5, hc5⟩

set_option maxHeartbeats 1000000 in
theorem with_fork_r (b bl : Nat) (nb nm u : Int) (h : Bool) (pl pr : Option Addr) (a n v : Int) (w : World) (hc : Cells w b nb nm u h pl pr) (hl : Cells w bl a n v true none none)
    (hb : b < w.heap.size) (hbl : bl < w.heap.size) (hbb : b ≠ bl) (hne : (¬ nb = a) ∨ (nb = a ∧ ¬ nm = n)) (nb0 : 0 ≤ nb) (nb1 : nb < 4294967296) (nm0 : 0 ≤ nm) (nm1 : nm ≤ 32) (a0 : 0 ≤ a) (a1 : a < 4294967296) (n0 : 0 ≤ n) (n1 : n ≤ 32)
    (hcov : cov nb nm a n = false) (hcov2 : cov a n nb nm = false) (f k : Int) (hf : shA nb a = f) (hk : shN nb a = k) (k0' : 0 ≤ k) (k1' : k ≤ 32) (hs : sdI nb k = 1) (hs2 : sdI a k = 0) :
    Calls Try.prog 31 #[.pointer (some ⟨b, 0, none⟩), .pointer (some ⟨bl, 0, none⟩)] w fun e w' => ∃ w2, e = .returned (.tuple #[.pointer (some ⟨w2.heap.size, 0, none⟩), .int .i64 0, .bool false]) ∧ Below w.heap.size w w2 ∧ Below w2.heap.size w2 w' ∧ w2.heap.size < w'.heap.size ∧ Cells w' w2.heap.size f k 0 false (some ⟨bl, 0, none⟩) (some ⟨b, 0, none⟩) := by
  have HC : Hid (Cells w b nb nm u h pl pr) := hc
  have HL : Hid (Cells w bl a n v true none none) := hl
  obtain ⟨c0, c1, c2, c3, c4, c5⟩ := hc
  obtain ⟨d0, d1, d2, d3, d4, d5⟩ := hl
  have k0 := fun q => cell_regrown (w := w.drewN q) (a := ⟨b, 0, none⟩) c0
  have k1 := fun q => cell_regrown (w := w.drewN q) (a := ⟨b, 1, none⟩) c1
  have j0 := fun q => cell_regrown (w := w.drewN q) (a := ⟨bl, 0, none⟩) d0
  have j1 := fun q => cell_regrown (w := w.drewN q) (a := ⟨bl, 1, none⟩) d1
  have HV : Hid (cov nb nm a n = false) := hcov
  have HV2 : Hid (cov a n nb nm = false) := hcov2
  have HS : Hid (sdI nb k = 1) := hs
  have HS2 : Hid (sdI a k = 0) := hs2
  have HF : Hid (∀ w : World, Calls Try.prog 44 #[.agg #[.int .u32 nb, .int .i64 nm], .agg #[.int .u32 a, .int .i64 n]] w fun e w' => e = .returned (.agg #[.int .u32 f, .int .i64 k]) ∧ Below w.heap.size w w') := by
    intro w
    have := shared_any nb nm a n nb0 nb1 a0 a1 w
    rwa [hf, hk] at this
  clear hcov hcov2 hs hs2 hf hk
  rcases hne with hne | ⟨rfl, hne⟩
  all_goals
    go_enter Try.func31, Try.ntmps31
    go_wp2_with fail
    go_quiet (fail)
    go_wp2_with fail
    refine wp_region_quiet_below (by kernel_rfl) (by kernel_rfl) ?_
    repeat (go_big_quiet_step ((go_at_call 41; exact Calls.regrown_of (covers_is _ _ _ _ false HV.out (by assumption) (by assumption) (by assumption) (by assumption) _))))
    refine wpQuiet_nil ?_
    intro w1 hw'
    have hb1 : Below w.heap.size w w1 := (bel_q w nq).trans (regrown_bel hw')
    clear hw'
    have hs1 := hb1.size
    obtain ⟨e0, e1, e2, e3, e4, e5⟩ := HC.out.bel hb1 hb
    obtain ⟨g0, g1, g2, g3, g4, g5⟩ := HL.out.bel hb1 hbl
    have m0 := cell_regrown e0
    have m1 := cell_regrown e1
    have m2 := cell_regrown g0
    have m3 := cell_regrown g1
    go_wp2_with fail
    refine wp_region_quiet_below (by kernel_rfl) (by kernel_rfl) ?_
    repeat (go_big_quiet_step ((go_at_call 41; exact Calls.regrown_of (covers_is _ _ _ _ false HV2.out (by assumption) (by assumption) (by assumption) (by assumption) _))))
    refine wpQuiet_nil ?_
    intro w2 hw'
    have hb2 : Below w1.heap.size w1 w2 := regrown_bel hw'
    clear hw'
    have hbw2 : Below w.heap.size w w2 := hb1.trans (hb2.mono hs1)
    have hs2 := hb2.size
    have hsw2 : w.heap.size ≤ w2.heap.size := hbw2.size
    obtain ⟨p0, p1, p2, p3, p4, p5⟩ := HC.out.bel hbw2 hb
    obtain ⟨q0, q1, q2, q3, q4, q5⟩ := HL.out.bel hbw2 hbl
    clear m0 m1 m2 m3 e0 e1 e2 e3 e4 e5 g0 g1 g2 g3 g4 g5 k0 k1 j0 j1 c0 c1 c2 c3 c4 c5 d0 d1 d2 d3 d4 d5
    go_wp2_with fail
    go_region_with ((go_at_call 44; refine (HF.out _).mono ?_; rintro e w3 ⟨rfl, hb3⟩))
    all_goals
      have hb3' : Below w2.heap.size w2 w3 := (Below.refl _ _).drew.trans hb3
      clear hb3
      have hs3 := hb3'.size
      have hbw3 : Below w.heap.size w w3 := hbw2.trans (hb3'.mono hsw2)
      have hbW : Below w.heap.size w (w3.alloc (.cells #[.int .u32 f, .int .i64 k, .int .i64 0, .bool false, .pointer none, .pointer none] 71)) := hbw3.alloc (by omega) _
      have HCW : Hid (Cells _ b _ nm u h pl pr) := HC.out.bel hbW hb
      have HLW : Hid (Cells _ bl _ n v true none none) := HL.out.bel hbW hbl
      go_wp2_with fail
      refine (hang_r w3.heap.size f k 0 false none none b _ nm u h pl pr HS.out k0' k1' (by assumption) (by assumption) _ (by refine ⟨?_, ?_, ?_, ?_, ?_, ?_⟩ <;> simp) (by simp) HCW.out (by simp; omega)).mono ?_
      rintro e w4 ⟨rfl, hb4, hs4, hc4⟩
      have hW : (w3.alloc (.cells #[.int .u32 f, .int .i64 k, .int .i64 0, .bool false, .pointer none, .pointer none] 71)).heap.size = w3.heap.size + 1 := by simp
      rw [hW] at hc4 hs4
      clear hW
      have HC4 : Hid (Cells w4 (w3.heap.size + 1) f k 0 false _ _) := hc4
      have HL4 : Hid (Cells _ bl _ n v true none none) := HLW.out.bel hb4 (by simp; omega)
      have hs4' := hb4.size
      simp at hs4'
      clear hc4
      go_wp2_with fail
      refine (hang_l (w3.heap.size + 1) f k 0 false none (some ⟨b, 0, none⟩) bl _ n v true none none HS2.out k0' k1' (by assumption) (by assumption) w4 HC4.out hs4 HL4.out (by omega)).mono ?_
      rintro e w5 ⟨rfl, hb5, hs5, hc5⟩
      go_wp2_with fail
      go_ret3
      exact ⟨w4, rfl, hbW.trans (hb4.mono (by simp; omega)), hb5, hs5, hc5⟩

end Go.Proofs.Ytibmhdfodmkahaa.Tri
