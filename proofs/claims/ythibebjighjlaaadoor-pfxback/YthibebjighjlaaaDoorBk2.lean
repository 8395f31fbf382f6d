/- PfxBack: its walk, at every address and prefix. -/
import Derived.Test.YthibebjighjlaaaDoorBk1
namespace Go.Proofs.YthibebjighjlaaaDoor.Bk
open Go.ChangeShapes Go.WideShapes Go.ChangeAt Go.RowKit Go.Shelf Go.Proofs.YthibebjighjlaaaDoor.PM Go.Proofs.YthibebjighjlaaaDoor.Ask Go.Proofs.YthibebjighjlaaaDoor.TM Go.Proofs.YthibebjighjlaaaDoor.Rd Go.Proofs.YthibebjighjlaaaDoor.Pr
set_option linter.unusedVariables false

theorem pa_back (x : Nat) (hx : x < 4294967296) (w : World) :
    Calls Tryd.prog 10 #[.string (sa x)] w fun e w' => e = .returned (.tuple #[.int .u32 x, .int .i64 0]) ∧ Below w.heap.size w w' := by
  have := parseAddr_any (adr x) w (by have := adr_len x hx; unfold maxLen; omega)
  rw [paC_adr x hx] at this
  exact this
theorem pp_back (a n : Nat) (ha : a < 4294967296) (hn : n ≤ 32) (hv : vld a n = true) (w : World) :
    Calls Tryd.prog 11 #[.string (sp a n)] w fun e w' => e = .returned (.tuple #[.agg #[.int .u32 a, .int .i64 n], .int .i64 0]) ∧ Below w.heap.size w w' := by
  have hl : (adr a ++ 47 :: Lib.decDigits n).length ≤ maxLen := by
    have := adr_len a ha; have := dec_len n (by omega); unfold maxLen; simp only [List.length_append, List.length_cons]; omega
  have := parse_any _ w hl
  rw [prC_sp a n ha hn hv, ← sp_bs] at this
  exact this
theorem pp_nil (w : World) :
    Calls Tryd.prog 11 #[.string ⟨#[]⟩] w fun e w' => e = .returned (.tuple #[.agg #[.int .u32 0, .int .i64 0], .int .i64 1]) ∧ Below w.heap.size w w' := by
  have := parse_any [] w (by simp)
  rw [prC_nil] at this
  exact this

set_option maxHeartbeats 2000000 in
theorem back_yes (x : Nat) (hx : x < 4294967296) (a n : Nat) (ha : a < 4294967296) (hn : n ≤ 32) (hv : vld a n = true) (w : World) (hT : Pow w.heap.size w) :
    Calls Tryd.prog 4 #[.int .u32 x, .agg #[.int .u32 a, .int .i64 n]] w fun e w' => e = .returned (.bool true) ∧ Below w.heap.size w w' := by
  have HT : Hid (Pow w.heap.size w) := hT
  have HV : Hid (vld a n = true) := hv
  clear hT hv
  go_enter Tryd.func4, Tryd.ntmps4
  go_wp2_with fail
  refine (pa_bel x _ rfl hx _ (HT.out _ (bel1d _ _))).mono ?_
  rintro e w1 ⟨rfl, hb1⟩
  have HB1 : Hid (Below w.heap.size w w1) := (bel1d _ _).trans (hb1.mono (by simp))
  have c0 := hb1.cell (p := ⟨w.heap.size, 0, none⟩) (by simp)
  have c1 := hb1.cell (p := ⟨w.heap.size, 1, none⟩) (by simp)
  have hz1 : w.heap.size < w1.heap.size := by have := hb1.size; simp at this; omega
  simp at c0 c1
  clear hb1
  go_wp2_with fail
  refine (pa_back x hx _).mono ?_
  rintro e w2 ⟨rfl, hb2⟩
  have HB2 : Hid (Below w.heap.size w w2) := HB1.out.trans (hb2.mono (by omega))
  have d0 := hb2.cell (p := ⟨w.heap.size, 0, none⟩) hz1
  have d1 := hb2.cell (p := ⟨w.heap.size, 1, none⟩) hz1
  have hz2 : w.heap.size < w2.heap.size := by have := hb2.size; omega
  rw [c0] at d0
  rw [c1] at d1
  clear hb2 c0 c1
  go_wp2_with fail
  refine (print_yes a n ha hn HV.out _ (fun w' hb => HT.out w' (HB2.out.trans (hb.mono (by omega))))).mono ?_
  rintro e w3 ⟨rfl, hb3⟩
  have HB3 : Hid (Below w.heap.size w w3) := HB2.out.trans (hb3.mono (by omega))
  have e0 := hb3.cell (p := ⟨w.heap.size, 0, none⟩) hz2
  have e1 := hb3.cell (p := ⟨w.heap.size, 1, none⟩) hz2
  have hz3 : w.heap.size < w3.heap.size := by have := hb3.size; omega
  rw [d0] at e0
  rw [d1] at e1
  clear hb3 d0 d1
  go_wp2_with fail
  refine (pp_back a n ha hn HV.out _).mono ?_
  rintro e w4 ⟨rfl, hb4⟩
  have HB4 : Hid (Below w.heap.size w w4) := HB3.out.trans (hb4.mono (by omega))
  have g0 := hb4.cell (p := ⟨w.heap.size, 0, none⟩) hz3
  have g1 := hb4.cell (p := ⟨w.heap.size, 1, none⟩) hz3
  have hz4 : w.heap.size < w4.heap.size := by have := hb4.size; omega
  rw [e0] at g0
  rw [e1] at g1
  clear hb4 e0 e1
  go_wp2_with fail
  refine (valid_yes a n HV.out (by omega) (by omega) _).mono ?_
  rintro e w5 ⟨rfl, hb5⟩
  have hs5 := hb5.size
  simp at hs5
  have i0 := hb5.cell (p := ⟨w.heap.size, 0, none⟩) (by simp; omega)
  have i1 := hb5.cell (p := ⟨w.heap.size, 1, none⟩) (by simp; omega)
  have i2 := hb5.cell (p := ⟨w4.heap.size, 0, none⟩) (by simp)
  have i3 := hb5.cell (p := ⟨w4.heap.size, 1, none⟩) (by simp)
  rw [World.cell?_alloc_past _ _ _ hz4] at i0 i1
  rw [g0] at i0
  rw [g1] at i1
  simp at i2 i3
  clear g0 g1
  go_wp2_with fail
  go_ret
  exact ⟨rfl, (HB4.out.alloc (by omega) _).trans (hb5.mono (by simp; omega))⟩

set_option maxHeartbeats 2000000 in
theorem back_no (x : Nat) (hx : x < 4294967296) (a n : Int) (ha : 0 ≤ a) (ha2 : a < 4294967296) (hv : vld a n = false) (w : World) (hT : Pow w.heap.size w) :
    Calls Tryd.prog 4 #[.int .u32 x, .agg #[.int .u32 a, .int .i64 n]] w fun e w' => e = .returned (.bool true) ∧ Below w.heap.size w w' := by
  have HT : Hid (Pow w.heap.size w) := hT
  have HV : Hid (vld a n = false) := hv
  clear hT hv
  go_enter Tryd.func4, Tryd.ntmps4
  go_wp2_with fail
  refine (pa_bel x _ rfl hx _ (HT.out _ (bel1d _ _))).mono ?_
  rintro e w1 ⟨rfl, hb1⟩
  have HB1 : Hid (Below w.heap.size w w1) := (bel1d _ _).trans (hb1.mono (by simp))
  have c0 := hb1.cell (p := ⟨w.heap.size, 0, none⟩) (by simp)
  have c1 := hb1.cell (p := ⟨w.heap.size, 1, none⟩) (by simp)
  have hz1 : w.heap.size < w1.heap.size := by have := hb1.size; simp at this; omega
  simp at c0 c1
  clear hb1
  go_wp2_with fail
  refine (pa_back x hx _).mono ?_
  rintro e w2 ⟨rfl, hb2⟩
  have HB2 : Hid (Below w.heap.size w w2) := HB1.out.trans (hb2.mono (by omega))
  have d0 := hb2.cell (p := ⟨w.heap.size, 0, none⟩) hz1
  have d1 := hb2.cell (p := ⟨w.heap.size, 1, none⟩) hz1
  have hz2 : w.heap.size < w2.heap.size := by have := hb2.size; omega
  rw [c0] at d0
  rw [c1] at d1
  clear hb2 c0 c1
  go_wp2_with fail
  refine (print_no a n ha ha2 HV.out _).mono ?_
  rintro e w3 ⟨rfl, hb3⟩
  have HB3 : Hid (Below w.heap.size w w3) := HB2.out.trans (hb3.mono (by omega))
  have e0 := hb3.cell (p := ⟨w.heap.size, 0, none⟩) hz2
  have e1 := hb3.cell (p := ⟨w.heap.size, 1, none⟩) hz2
  have hz3 : w.heap.size < w3.heap.size := by have := hb3.size; omega
  rw [d0] at e0
  rw [d1] at e1
  clear hb3 d0 d1
  go_wp2_with fail
  refine (pp_nil _).mono ?_
  rintro e w4 ⟨rfl, hb4⟩
  have HB4 : Hid (Below w.heap.size w w4) := HB3.out.trans (hb4.mono (by omega))
  have g0 := hb4.cell (p := ⟨w.heap.size, 0, none⟩) hz3
  have g1 := hb4.cell (p := ⟨w.heap.size, 1, none⟩) hz3
  have hz4 : w.heap.size < w4.heap.size := by have := hb4.size; omega
  rw [e0] at g0
  rw [e1] at g1
  clear hb4 e0 e1
  go_wp2_with fail
  refine (valid_no a n HV.out ha ha2 _).mono ?_
  rintro e w5 ⟨rfl, hb5⟩
  have hs5 := hb5.size
  simp at hs5
  go_wp2_with fail
  go_ret
  exact ⟨rfl, (HB4.out.alloc (by omega) _).trans (hb5.mono (by simp; omega))⟩

theorem back_any (x : Nat) (hx : x < 4294967296) (a n : Int) (ha : 0 ≤ a) (ha2 : a < 4294967296) (w : World) (hT : Pow w.heap.size w) :
    Calls Tryd.prog 4 #[.int .u32 x, .agg #[.int .u32 a, .int .i64 n]] w fun e w' => e = .returned (.bool true) ∧ Below w.heap.size w w' := by
  by_cases hv : vld a n = true
  · have h := (vld_iff a n).1 hv
    obtain ⟨a', rfl⟩ := Int.eq_ofNat_of_zero_le ha
    obtain ⟨n', rfl⟩ := Int.eq_ofNat_of_zero_le h.1
    exact back_yes x hx a' n' (by omega) (by omega) hv w hT
  · exact back_no x hx a n ha ha2 (by simpa using hv) w hT
end Go.Proofs.YthibebjighjlaaaDoor.Bk
